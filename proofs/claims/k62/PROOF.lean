import PyProof.Rows.All
import Wide.All
import OpenK.AllK
import Wide.FinOn
import Lean
import PyProof.EqAt
import PyProof.EqKinds
import PyProof.TupleCall
import PyProof.EqLayable
import PyProof.SumAny
import PyProof.ListRange
import PyProof.WalksEnum
import PyProof.ZipIter
import PyProof.EnumMake
import PyProof.ConsumeS
import PyProof.SeqI3
import PyProof.MaxThree
import PyProof.Rows.TupAdd
import KE.KIsAll
import KE.KTryMore
import OpenK.KOwn
import PyProof.CollectWalk
import PyProof.DictRoadsH
import PyProof.DictWalks
import PyProof.ExcArgs
import PyProof.ExcBaseAll.ValueError
import PyProof.ExcClass3
import PyProof.FactsAll.dict
import PyProof.FactsAll.set
import PyProof.FactsLen
import PyProof.InstSpecial
import PyProof.MeetsDict
import PyProof.MinMaxWalk
import PyProof.NeKinds
import PyProof.NsDelKeeps
import PyProof.Rows.CatchBare
import PyProof.Rows.SetFrom
import PyProof.Rows.SortWalk
import PyProof.Rows.TupDisplay
import PyProof.RulesAs
import PyProof.SetRoads
import PyProof.StationsW
import PyProof.WalkLemmas
import PyProof.WalksMore
import PySem.Challenge.RW_chargeyard_k62_turns_made
noncomputable section
set_option Elab.async false
set_option linter.all false
set_option maxRecDepth 100000
set_option maxHeartbeats 4000000
set_option compiler.extract_closed false
set_option genSizeOf false
noncomputable section
section
open PySem PySem.Spec PyProof.Rows
def Qa {b:Sort _}{a:b}{q:Prop}:a=a\/q:=Or.inl rfl
abbrev Qb:=Value->Shared->Prop
abbrev Qc:=List (Addr×Obj)
abbrev Qd:=List PyData
abbrev Qe:=List Value
abbrev Qf:=Option Value
abbrev Qg:=List Addr
abbrev Qh:=List Str
abbrev Zaa:Qh:=["yard","guests"]
abbrev Zab:Qh:=["_law_script","_law_yard_here","_law_hand","_law_rows","_law_k","_law_guest_here","_law_wants","_law_told","_law_turn","_law_gifts","_law_number"]
abbrev Zac:Qh:=["self","start","end","room"]
abbrev Zad:Qh:=["net","yard","number","guest"]
abbrev Zae:Qh:=["yard","guests","some"]
abbrev Zaf:Qh:=["yard","guests","some","turn"]
abbrev Zag:Qh:=["self","number"]
abbrev Zah:Qh:=["_law_yard_here","_law_rows","_law_now","_law_numbers","_law_bits","_law_picked"]
abbrev Zai:Qh:=["_law_yard_here","_law_rows","_law_picked","_law_turn"]
abbrev Zaj:Qh:=["_law_feed_here","_law_yard_here","_law_now","_law_first","_law_last","_law_line","_law_scale","_law_want"]
abbrev Zak:Qh:=["_law_gifts","_law_yard_here","_law_rows","_law_turn"]
abbrev Zal:Qh:=["_law_yard_here","_law_rows","_law_picked","_law_now"]
abbrev Zam:Qh:=["self"]
abbrev Zan:Qh:=["_law_hand","_law_rows","_law_wants","_law_now"]
abbrev Zao:Qh:=["_law_feed_here","_law_yard_here","_law_now"]
abbrev Zap:Qh:=["self","start","end"]
abbrev Zaq:Qh:=["_law_hand","_law_guest_here","_law_told","e","_law_marks"]
abbrev Zar:Qh:=["_law_yard_here","_law_rows","_law_picked","_law_now","_law_total","_law_turn"]
abbrev Zas:Qh:=["_law_yard_here","_law_rows","_law_now"]
abbrev Zat:Qh:=["guest","turn"]
abbrev Zau:Qh:=["thing","least","end"]
abbrev Zav:Qh:=["_law_feed_here","_law_many"]
abbrev Zaw:Qh:=["yard","line","turn"]
abbrev Zax:Qh:=["yard","guests","some","turn","reaching","number","guest","line"]
abbrev Zay:Qh:=["guest"]
abbrev Zaz:Qh:=["_law_hand","_law_guest_here"]
abbrev ZaA:Qh:=["_law_hand","_law_rows","_law_wants","_law_now","_law_k"]
abbrev ZaB:Qh:=["_law_script","_law_k"]
abbrev ZaC:Qh:=["_law_k","_law_marks","e"]
abbrev ZaD:Qh:=["yard"]
abbrev ZaE:Qh:=["line","turn"]
abbrev ZaF:Qh:=["number","guest","net","yard"]
abbrev ZaG:Qh:=["self","edges","end"]
abbrev ZaH:Qh:=["_law_k","_law_rows"]
abbrev ZaI:Qh:=["_law_above","_law_bounds"]
abbrev ZaJ:Qh:=["thing","length"]
abbrev ZaK:Qh:=["yard","line"]
abbrev ZaL:Qh:=["net","yard","turn"]
abbrev ZaM:Qh:=["self","some"]
abbrev ZaN:Qh:=["self","yard"]
abbrev ZaO:Qh:=["self","turn"]
abbrev ZaP:Qh:=["thing","least"]
abbrev ZaQ:Qh:=["self","start"]
abbrev ZaR:Qh:=["yard","thing"]
abbrev ZaS:Qh:=["guest","want"]
abbrev ZaT:Qh:=["self","guest"]
abbrev ZaU:Qh:=["_law_feed_here"]
abbrev ZaV:Qh:=["number"]
abbrev Qi:=List Expr
abbrev Qj:=Option Addr
abbrev Qk:=List Nat
abbrev Ql:=List Int
abbrev Qm:=Nat->Bool
abbrev Qn:=Nat->Int
def Xa:=@if_neg
def Xb:=@List.mem_cons_self
def Xc:=@wpAny_bind
def Xd:=@if_pos
def Xe:=@List.mem_cons_of_mem
def Xf:=@List.getElem?_eq_some_iff
def Xg:=@List.mem_cons
def Xh:=@List.mem_singleton
def Xi:=@Heap.get?_push_of_some
def Xj:=@List.getElem?_set_self
def Xk:=@Heap.lt_size
def Xl:=@List.length_map
def Xm:=@absurd
def Xn:=@List.getElem?_map
def Xo:=@List.getElem?_set_ne
def Xp:=@Int.toNat_natCast
def Xq:=@wpAny_pure
def Xr:=@Nat.lt_of_lt_of_le
def Xs:=@List.length_append
def Xt:=@List.nodup_cons
def Xu:=@Nat.ne_of_lt
def Xv:=@Nat.le_refl
def Xw:=@Bool.false_ne_true
def Xx:=@List.map_cons
def Xy:=@List.mem_append
def Xz:=@List.find?_cons
def XB:=@List.map_append
def XD:=@List.size_toArray
def XF:=@Heap.get?_push_size
def XG:=@List.append_nil
def XH:=@decide_eq_false
def XI:=@List.mem_range
def XJ:=@decide_eq_true
def XL:=@List.getElem?_eq_getElem
def XM:=@List.lookup_cons
def XN:=@List.getElem?_append_left
def XO:=@List.mem_map
def XQ:=@Nat.zero_le
def XS:=@List.length_cons
def XT:=@List.not_mem_nil
def XU:=@Heap.get?_update_other
def XV:=@List.mem_append_right
def XW:=@of_decide_eq_true
def XX:=@List.map_congr_left
def X0:=@List.getElem_mem
def X4:=@Nat.le_trans
def X5:=@congrArg
def X6:=@Bool.false_eq_true
def X7:=@List.map_map
def X8:=@Heap.get?_update_self
def X9:=@List.getElem?_append_right
def Y7:=@List.range_succ
def Yh:=@Nat.ne_of_gt
def WD:=@Int.toNat_of_nonneg
def Yv:=@Nat.lt_irrefl
def YJ:=@Option.map_some
def Yp:=@Int.zero_add
def Wa:=@List.mem_flatMap
def WC:=@List.length_range
def JB:=@List.getElem?_eq_none
def WB:=@Bool.and_eq_true
def WA:=@List.take_length
def WZ:=@List.nodup_append
def JA:=@List.replicate_succ
def YI:=@Nat.le_of_lt
def WY:=@Nat.lt_succ_self
def YH:=@Int.add_zero
def Uj:=@List.mem_append_left
def W9:=@Heap.size_push
def W8:=@List.take_succ
def UW:=@List.getElem?_cons_succ
def J9:=@Option.isSome_map
def Ui:=@List.flatMap_append
def J8:=@List.cons_append
def J7:=@List.filter_cons
def Uh:=@List.filter_append
def Ug:=@of_decide_eq_false
def Wb:=@Int.le_refl
def JE:=@List.mem_filter
def Gb:=@List.mem_iff_getElem
def Ul:=@List.flatten_cons
def JD:=@List.nodup_nil
def Ga:=@List.append_assoc
def UZ:=@Nat.lt_succ_of_lt
def MC:=@List.getElem?_replicate
def Uk:=@Bool.not_true
def JC:=@wpAny_field
def MB:=@List.pairwise_flatMap
def MA:=@List.length_pos_iff
def Bc:=@List.sum_append
def Nh:=@List.getElem?_eq_none_iff
def Ng:=@List.drop_eq_getElem_cons
def UY:=@List.map_nil
def M9:=@Nat.lt_of_le_of_lt
def M8:=@List.flatMap_cons
def M7:=@Heap.get?_push_at
def UX:=@Int.mul_sub
def Bb:=@List.sum_cons
end
namespace L2
open PySem PySem.Spec PyProof.Rows
abbrev Key:=Sum Int Str
noncomputable def Jn:Key->Value->Bool
 |.inl k,v=>Value.isInt k v
 |.inr x,v=>Value.isStrOf x v
noncomputable def Lf (w:World):Key->Int
 |.inl k=>hashInt k
 |.inr x=>hashStr w x
theorem W4:∀{k:Key} {v:Value},Jn k v=true->(∃i t,k=Sum.inl i/\v=Value.int i t)\/(∃x t,k=Sum.inr x/\v=Value.str x t)
 |.inl i,v,h=>by
   obtain⟨t,e⟩:=Value.isInt_shape (k:=i) (v:=v) h;exact .inl ⟨i,t,rfl,e⟩
 |.inr x,v,h=>by
   obtain⟨t,e⟩:=Value.isStrOf_shape (x:=x) (v:=v) h;exact .inr ⟨x,t,rfl,e⟩
def EH (i:Int)(t:Tok):Jn (.inl i) (.int i t)=true:=by simp[Jn,Value.isInt]
def Ip (x:Str)(t:Tok):Jn (.inr x) (.str x t)=true:=by simp[Jn,Value.isStrOf]
def Fs (a b:Int):decide ((Sum.inl a:Key)=Sum.inl b)=(a==b):=by
 by_cases e:a=b
 .subst e;simp
 .have h:¬(Sum.inl a:Key)=Sum.inl b:=fun q=>e (Sum.inl.inj q)
  rw[XH h];exact(beq_eq_false_iff_ne.mpr e).symm
def LL (a b:Str):decide ((Sum.inr a:Key)=Sum.inr b)=decide (a=b):=by
 by_cases e:a=b
 .subst e;simp
 .have h:¬(Sum.inr a:Key)=Sum.inr b:=fun q=>e (Sum.inr.inj q)
  rw[XH h,XH e]
def L6 (a:Int)(b:Str):decide ((Sum.inl a:Key)=Sum.inr b)=false:=XH (by rintro⟨⟩)
def Lp (a:Str)(b:Int):decide ((Sum.inr a:Key)=Sum.inl b)=false:=XH (by rintro⟨⟩)
noncomputable def ZF (prog:Program)(w:World):PySem.KeyKind prog w Key where
 is:=Jn
 hash:=Lf w
 inj:=fun v a b l f=>by
  rcases W4 l with ⟨i,t,rfl,rfl⟩|⟨x,t,rfl,rfl⟩
  .rcases W4 f with ⟨j,u,rfl,e⟩|⟨y,u,rfl,e⟩
   .injection e with c _;rw[c]
   .exact nomatch e
  .rcases W4 f with ⟨j,u,rfl,e⟩|⟨y,u,rfl,e⟩
   .exact nomatch e
   .injection e with c _;rw[c]
 byValue:=fun k v h=>by
  rcases W4 h with ⟨i,t,rfl,rfl⟩|⟨x,t,rfl,rfl⟩<;>rfl
 pyHash:=fun d h=>by
  rcases W4 d with ⟨i,t,rfl,rfl⟩|⟨x,t,rfl,rfl⟩
  .exact wpAny_pyHash_int h
  .exact wpAny_pyHash_str h
 eqBool:=fun g d h=>by
  rcases W4 g with ⟨i,t,rfl,rfl⟩|⟨x,t,rfl,rfl⟩
  .rcases W4 d with ⟨j,u,rfl,rfl⟩|⟨y,u,rfl,rfl⟩
   .rw[Fs]at h;exact wpAny_eqBool_int h
   .rw[L6]at h;exact SeqAt.EqAt.int_str i t y u _ _ _ _ h
  .rcases W4 d with ⟨j,u,rfl,rfl⟩|⟨y,u,rfl,rfl⟩
   .rw[Lp]at h;exact SeqAt.EqAt.str_int x t j u _ _ _ _ h
   .rw[LL]at h;exact wpAny_eqBool_str h
 «strs» := fun k x t v h=>by
  rcases W4 h with ⟨i,u,rfl,e⟩|⟨y,u,rfl,e⟩
  .exact nomatch e
  .injection e with c _
   subst c;cases v<;>rfl
def OW (prog:Program)(w:World)(i:Int)(t:Tok):(ZF prog w).is (.inl i) (.int i t)=true:=EH i t
def OC (prog:Program)(w:World)(x:Str)(t:Tok):(ZF prog w).is (.inr x) (.str x t)=true:=Ip x t
inductive V where
 |non|bl (b:Bool)|int (i:Int)|str (x:Str)|byt (b:Array UInt8)|flt (b:UInt64)|ref (a:Addr)|ty (n:String)
 deriving DecidableEq
def QK:V->Value->Prop
 |.non,u=>u=Value.none
 |.bl b,u=>u=Value.bool b
 |.int i,u=>∃t,u=Value.int i t
 |.str x,u=>∃t,u=Value.str x t
 |.byt b,u=>∃t,u=Value.bytes b t
 |.flt b,u=>∃t,u=Value.float b t
 |.ref a,u=>u=Value.ref a
 |.ty n,u=>u=Value.type n
abbrev QS:List V->Qe->Prop:=Paired QK
def QS.length  (r:QS xs us):xs.length=us.length:=Paired.length r
theorem QS.get:∀{xs:List V} {us:Qe} {i:Nat} {x:V},QS xs us->xs[i]?=some x->∃u,us[i]?=some u/\QK x u
 |_,_,_,_,.nil,e=>by simp at e
 |_,_,0,_,.cons r _,e=>by simp at e;subst e;exact⟨_,rfl,r⟩
 |_,_,i+1,x,.cons _ t,e=>by
   obtain⟨u,b,a⟩:=QS.get (i:=i) (x:=x) t (by simpa using e)
   exact⟨u,by simpa using b,a⟩
theorem QS.set {x:V}{u:Value}(r:QK x u):∀{xs:List V} {us:Qe} (i:Nat),QS xs us->QS (xs.set i x) (us.set i u)
 |_,_,_,.nil=>.nil
 |_,_,0,.cons _ t=>.cons r t
 |_,_,i+1,.cons q t=>.cons q (QS.set r i t)
theorem QS.append:∀{xs ys:List V} {us ws:Qe},QS xs us->QS ys ws->QS (xs++ys) (us++ws)
 |_,_,_,_,.nil,s=>s
 |_,_,_,_,.cons r t,s=>.cons r (QS.append t s)
def ZM:Option V->Qf->Prop
 |some v,some u=>QK v u
 |none,none=>True
 |_,_=>False
def KV {a:Type}:List (a×V)->List (a×Value)->Prop:=Paired fun(p:a×V) (q:a×Value)=>p.1=q.1/\QK p.2 q.2
noncomputable def kV:Key->V
 |.inl i=>.int i
 |.inr x=>.str x
inductive HO where
 |lst (xs:List V)
 |tup (xs:List V)
 |dK (kvs:List (Key×V))|dT (kvs:List (List Key×V))
 |set (S:Int->Bool) (n:Nat)
 |ins (C dx:Addr) (fs:List (Str×V))
 |own (x:Addr)
 |xd (fs:List (Str×V))
 |met (f x:Addr)
 |rng (lo hi:Int)
 |frz (o:Obj) (u:HO)
 |tbl (ps:Array Value)
 |ext (φ:Heap->Prop)
abbrev Hp:=Addr->Option HO
noncomputable def upd (H:Hp)(a:Addr)(o:HO):Hp:=fun b=>if b=a then some o else H b
def QC  : upd H a o a=some o:=by unfold upd;rw[Xd rfl]
def Qt  (h:b≠a):upd H a o b=H b:=by unfold upd;rw[Xa h]
def NV {H:Hp}{a b:Addr}{o u:HO}(h:H a=some o)(h':H b=some u)(d:o≠u):a≠b:=by
 intro e;subst e;rw[h]at h';exact d (Option.some.inj h')
def Zw {H:Hp}{a b:Addr}{o:HO}(h:H a=some o)(h':H b=none):a≠b:=by
 intro e;subst e;rw[h]at h';cases h'
def Jb:1<=1000:=by decide
def Je:2<=1000:=by decide
section
variable (P:Program)(w:World)
def Z4 (H:Hp)(h:Heap)(a:Addr):HO->Prop
 |.lst d=>d.length<=sizeLine/\∃(c:Qe) (n:Nat),QS d c/\h.get? a=some { cls:=.type "list",data:=.seq c.toArray n }
 |.tup d=>d.length<=sizeLine/\∃c:Qe,QS d c/\IsTup h a c.toArray
 |.dK b=>b.length<=sizeLine/\(a==sysModules)=false/\∃k,KV b k/\h.DictOf (ZF P w) a k
 |.dT b=>b.length<=sizeLine/\(a==sysModules)=false/\∃d:List (List Key×Addr×Value),
  Paired (fun(p:List Key×V) (q:List Key×Addr×Value)=>p.1=q.1/\H q.2.1=some (.tup<|p.1.map kV)/\QK p.2 q.2.2) b d /\
  ∃o r A,h.get? a=some o/\o.ExactDict/\o.data=.dict r A/\r.toList=d.map (entryOfKey<|tupleKind<|ZF P w)/\(d.map (·.1)).Nodup
 |.set S n=>h.SetOf (intKind P w) a S n
 |.ins C i g=>H i=some (.own a)/\g.length<=1000/\i≠a/\h.get? a=some (W.instObj C i) /\
  ∃e,h.Ns1 i e/\(∀f,ZM (g.lookup f)<|e f)/\PySem.Within e (g.map (·.1))
 |.own _=>∃o,h.get? a=some o
 |.xd g=>∃e,h.Ns1 a e/\∀f,ZM (g.lookup f) (e f)
 |.rng y z=>∃t u v,h.get? a=some { cls:=.type "range",data:=.fields #[.int y t,.int z u,.int 1 v] }
 |.frz o u=>h.get? a=some o/\Z4 H h a u
 |.tbl s=>h.get? a=some { cls:=.none,data:=.fields s }
 |.met f x=>h.get? a=some (W.methodObj (.ref f)<|.ref x)
 |.ext j=>j h/\(∃o,h.get? a=some o)/\∀m l:Heap,j m->(∀o,m.get? a=some o->l.get? a=some o)->j l
def HOk (H:Hp)(h:Heap):Prop := ∀a o,H a=some o->Z4 P w H h a o
end
section
variable {P:Program}{w:World}{H H':Hp}{h h':Heap}{a:Addr}{o:HO}
def Z4.lt (x:Z4 P w H h a o):a<h.objs.size:=by
 cases o with
 |lst c=>obtain⟨_,_,_,_,e⟩:=x;exact Xk e
 |tup c=>obtain⟨_,_,_,p⟩:=x;exact p.lt
 |dK b=>obtain⟨_,_,_,_,o,_,_,e,_⟩:=x;exact Xk e
 |dT b=>obtain⟨_,_,_,_,o,_,_,e,_⟩:=x;exact Xk e
 |set S n=>obtain⟨o,_,_,_,e,_⟩:=x;exact Xk e
 |ins C m d=>obtain⟨_,_,_,e,_⟩:=x;exact Xk e
 |own y=>obtain⟨_,e⟩:=x;exact Xk e
 |xd d=>obtain⟨_,⟨_,_,_,e,_⟩,_⟩:=x;exact Xk e
 |rng k l=>obtain⟨_,_,_,e⟩:=x;exact Xk e
 |frz j u=>obtain⟨e,_⟩:=x;exact Xk e
 |tbl i=>exact Xk (show h.get? a=some _ from x)
 |met f y=>exact Xk (show h.get? a=some _ from x)
 |ext g=>obtain⟨_,⟨_,e⟩,_⟩:=x;exact Xk e
theorem Paired.mapP {d c:Type}{F G:d->c->Prop}:∀{g:List d} {e:List c},Paired F g e->(∀a b,F a b->G a b)->Paired G g e
 |_,_,.nil,_=>.nil
 |_,_,.cons r t,f=>.cons (f _ _ r) (Paired.mapP t f)
def Z4.stay (x:Z4 P w H h a o)(k:∀b u,(b=a\/H b=some (.own a))->h.get? b=some u->h'.get? b=some u)
 (J:∀b,H b=some (.own a)->H' b=some (.own a)) (I:∀b xs,H b=some (.tup xs)->H' b=some (.tup xs)):Z4 P w H' h' a o:=by
 induction o with
 |lst xs=>obtain⟨z,l,n,r,e⟩:=x;exact⟨z,l,n,r,k _ _ (.inl rfl) e⟩
 |tup xs=>obtain⟨z,l,r,g,e,c⟩:=x;exact⟨z,l,r,g,k _ _ (.inl rfl) e,c⟩
 |dK A=>obtain⟨z,y,E,r,g,i,j,e,c⟩:=x;exact⟨z,y,E,r,g,i,j,k _ _ (.inl rfl) e,c⟩
 |dT A =>
   obtain⟨z,y,xs,r,g,i,j,e,c⟩:=x
   exact⟨z,y,xs,Paired.mapP r fun p q z=>⟨z.1,I _ _ z.2.1,z.2.2⟩,g,i,j,k _ _ (.inl rfl) e,c⟩
 |set S n=>obtain⟨g,i,j,t,e,c⟩:=x;exact⟨g,i,j,t,k _ _ (.inl rfl) e,c⟩
 |ins C R L =>
   obtain⟨d,z,F,e,s,⟨m,i,j,M,c⟩,r⟩:=x
   exact⟨J _ d,z,F,k _ _ (.inl rfl) e,s,⟨m,i,j,k _ _ (.inr d) M,c⟩,r⟩
 |own y=>obtain⟨g,e⟩:=x;exact⟨g,k _ _ (.inl rfl) e⟩
 |xd L=>obtain⟨s,⟨m,i,j,e,c⟩,r⟩:=x;exact⟨s,⟨m,i,j,k _ _ (.inl rfl) e,c⟩,r⟩
 |rng O Q=>obtain⟨t,u,v,e⟩:=x;exact⟨t,u,v,k _ _ (.inl rfl) e⟩
 |frz g u G=>obtain⟨e,q⟩:=x;exact⟨k _ _ (.inl rfl) e,G q⟩
 |tbl D =>
   have e:h.get? a=some { cls:=.none,data:=.fields D }:=x;show h'.get? a=some { cls:=.none,data:=.fields D };exact k a _ (.inl rfl) e
 |met f y =>
   have e:h.get? a=some (W.methodObj (.ref f)<|.ref y):=x;show h'.get? a=some (W.methodObj (.ref f)<|.ref y);exact k a _ (.inl rfl) e
 |ext N=>obtain⟨p,⟨o,e⟩,B⟩:=x;exact⟨B _ _ p fun o q=>k _ _ (.inl rfl) q,⟨o,k _ _ (.inl rfl) e⟩,B⟩
def HOk.lt (x:HOk P w H h)(e:H a=some o):a<h.objs.size:=(x a o e).lt
def HOk.fresh (x:HOk P w H h)(e:h.objs.size<=a):H a=none:=by
 cases q:H a with
 |none=>rfl
 |some u=>exact Xm (Xr (x.lt q) e) (Yv _)
def HOk.kept (x:HOk P w H h)(k:∀b u,h.get? b=some u->h'.get? b=some u):HOk P w H h':=fun a o e =>
 (x a o e).stay (fun b u _ q=>k b u q) (fun _ q=>q) fun _ _ q=>q
def HOk.laid (x:HOk P w H h)(k:∀b u,h.get? b=some u->h'.get? b=some u)(i:h.objs.size<=a)(d:Z4 P w (upd H a o) h' a o):HOk P w (upd H a o) h':=fun b u e=>by
 have f:=x.fresh i
 by_cases g:b=a
 .subst g;rw[QC]at e;cases e;exact d
 .rw[Qt g]at e
  exact(x b u e).stay (fun c v _ q=>k c v q) (fun c q=>by rw[Qt<|Zw q f];exact q) fun c j q=>by rw[Qt<|Zw q f];exact q
end
def Rd (H:Hp)(a:Addr)(u:HO):Prop:=H a=some u\/∃o,H a=some (.frz o u)
def Rd.of  (h:H a=some u):Rd H a u:=.inl h
def Rd.ok    (r:Rd H a u)(x:HOk P w H h):Z4 P w H h a u:=by
 rcases r with r|⟨o,r⟩
 .exact x a u r
 .obtain⟨_,q⟩:=x a _ r
  exact q
def Mut:Option HO->Prop
 |some (.lst _)=>True
 |some (.dK _)=>True
 |some (.dT _)=>True
 |some (.set _ _)=>True
 |some (.ins _ _ _)=>True
 |some (.ext _)=>True
 |_=>False
section
variable {P:Program}{w:World}{H:Hp}{h h':Heap}{x e:Addr}{o':HO}
def HOk.write (s:HOk P w H h)(i:Mut (H x))(p:e=x\/H e=some (.own x))(k:∀b u,b≠e->h.get? b=some u->h'.get? b=some u)(n:∃u,h'.get? e=some u)
 (m:Z4 P w (upd H x o') h' x o'):HOk P w (upd H x o') h':=fun b u q=>by
 have d:∀c y,H c=some (.own y)->c≠x:=fun c y r z=>by subst z;rw[r]at i;exact i
 have f:∀c g,H c=some (.tup g)->c≠x:=fun c g r z=>by subst z;rw[r]at i;exact i
 by_cases l:b=x
 .subst l;rw[QC]at q;cases q;exact m
 .rw[Qt l]at q
  by_cases a:b=e
  .have o:H b=some (.own x):=by
    rcases p with z|z
    .exact Xm (a.trans z) l
    .rw[a];exact z
   rw[q]at o;cases o;obtain⟨v,t⟩:=n
   exact⟨v,by rw[a];exact t⟩
  .refine(s b u q).stay (fun c v j r=>k c v ?_ r) (fun c r=>by rw[Qt<|d c b r];exact r) fun c g r=>by rw[Qt<|f c g r];exact r
   rcases j with rfl|j
   .exact a
   .rintro rfl
    rcases p with z|z
    .exact d c b j z
    .rw[j]at z;cases z;exact l rfl
end
structure Un (fs ex:Qg)(H H':Hp)(h h':Heap):Prop where
 keep:∀b o,h.get? b=some o->H b=none->b∉fs->b∉ex->h'.get? b=some o
 slot:∀b o,h.get? b=some o->H b=none->b∈fs->b∉ex->∃sl,h'.get? b=some { o with slots:=sl }
 free:∀b o,h.get? b=some o->H b=none->b∉ex->H' b=none
 there:∀b o,h.get? b=some o->b∉ex->∃o',h'.get? b=some o'
 tups:∀b xs,H b=some (.tup xs)->H' b=some (.tup xs)
 frzs:∀b o u,H b=some (.frz o u)->H' b=some (.frz o u)
 tupo:∀b xs o,H b=some (.tup xs)->h.get? b=some o->b∉ex->h'.get? b=some o
 tbls:∀b ps,H b=some (.tbl ps)->∃more,H' b=some (.tbl<|ps++more)
section
variable {fs ex:Qg}{H H1:Hp}{h h1 h':Heap}{a x e:Addr}{o:HO}
def Un.any (u:Un fs ex H H1 h h1)  (q:h.get? b=some ob)(n:H b=none)(c:b∉ex):∃f,h1.get? b=some { ob with slots:=f }:=by
 by_cases d:b∈fs
 .exact u.slot b ob q n d c
 .exact⟨ob.slots,u.keep b ob q n d c⟩
def Un.kept (k:∀b u,h.get? b=some u->h'.get? b=some u):Un fs ex H H h h' :=
 ⟨fun b c q _ _ _=>k b c q,fun b c q _ _ _=>⟨c.slots,k b c q⟩,fun _ _ _ n _=>n,fun b c q _=>⟨c,k b c q⟩,fun _ _ q=>q,fun _ _ _ q=>q,fun b _ c _ e _=>k b c e,fun _ d q=>⟨#[],by rw[q];simp⟩⟩
def Un.refl:Un fs ex H H h h:=Un.kept fun _ _ q=>q
theorem Un.laid (k:∀b u,h.get? b=some u->h'.get? b=some u)(f:h.objs.size<=a)(hn:H a=none):Un fs ex H (upd H a o) h h' where
 keep:=fun b u q _ _ _=>k b u q
 slot:=fun b u q _ _ _=>⟨u.slots,k b u q⟩
 free:=fun b u q n _=>by rw[Qt<|Xu<|Xr (Xk q) f];exact n
 there:=fun b u q _=>⟨u,k b u q⟩
 tups:=fun b c q=>by rw[Qt<|Zw q hn];exact q
 frzs:=fun b u c q=>by rw[Qt<|Zw q hn];exact q
 tupo:=fun b _ d _ e _=>k b d e
 tbls:=fun b g q=>⟨#[],by rw[Qt<|Zw q hn,q];simp⟩
def Un.write (d:Mut (H x))(l:e=x\/H e=some (.own x))(k:∀b u,b≠e->h.get? b=some u->h'.get? b=some u)(g:∃u,h'.get? e=some u):Un fs ex H (upd H x o) h h':=by
 have j:∀b,H b=none->b≠x:=fun b n z=>by subst z;rw[n]at d;exact d
 have m:∀b,H b=none->b≠e:=fun b n z=>by
  subst z;rcases l with r|r
  .exact j b n r
  .rw[n]at r;cases r
 have f:∀b u,H b=some u->¬Mut (some u)->b≠x:=fun b u q p z=>by subst z;rw[q]at d;exact p d
 refine⟨fun b u q n _ _=>k b u (m b n) q,fun b u q n _ _=>⟨u.slots,k b u (m b n) q⟩,fun b u q n _=>by rw[Qt<|j b n];exact n,fun b u q _=>?_,
  fun b i q=>by rw[Qt<|f b _ q fun z=>z];exact q,fun b u i q=>by rw[Qt<|f b _ q fun z=>z];exact q,fun b i u q s _=>k b u (fun z=>by
   rcases l with r|r
   .exact f b _ q (fun y=>y) (z.trans r)
   .rw[<- z,q]at r;cases r) s,fun b t q=>⟨#[],by rw[Qt<|f b _ q fun z=>z,q];simp⟩⟩
 by_cases c:b=e
 .subst c;exact g
 .exact⟨u,k b u c q⟩
end
noncomputable def trk (h:Heap)(H:Hp):Qg:=(List.range h.objs.size).filter fun a=>(H a).isSome
noncomputable def WF (h:Heap)(H:Hp):Heap:=W.hideAll h (trk h H)
def IQ (h:Heap)(H:Hp):(WF h H).objs.size=h.objs.size:=W.hideAll_size _ _
def A7   (e:h.get? b=some o)(n:H b=none):(WF h H).get? b=some o :=
 W.hideAll_get _ e fun a=>by
  have q:(H b).isSome=true:=(JE.mp a).2;rw[n]at q;simp at q
def FK   (e:(WF h H).get? b=some o):h.get? b=some o/\H b=none:=by
 have a:h.get? b=some o:=W.of_hideAll (trk h H) e;refine⟨a,?_⟩
 cases q:H b with
 |none=>rfl
 |some x =>
   have c:b∈trk h H:=JE.mpr ⟨XI.mpr<|Xk a,by simp[q]⟩;have z:(WF h H).get? b=none:=W.hideAll_none (trk h H) c;rw[z]at e;cases e
structure Mod (K:W.Frag)(mg:Str->Qf)(base:Heap):Prop where
 kin:K.In base
 glob:base.Ns mainGlobals mg
 blt:∃mb,base.Ns builtinsNs mb/\∀x:Str,x ≠ "__name__" -> mb x=bootBuiltins x
 nolimit:base.NoLimit
structure Cx where
 prog:Program
 w:World
 K:W.Frag
 mg:Str->Qf
 base:Heap
 A:Around
 N:Qh
 s₀:Shared
 H₀:Hp
 env:Env
 outer:List Env
 stack:List Env
 ex:Qg
 fn:Str->Bool
 calm:Bool
 pn:Qc
 xe:Qb
noncomputable def frs (l:List Env):Qg:=l.filterMap (·.frame)
noncomputable abbrev Cx.fs (X:Cx):Qg:=frs X.outer
def Vis (sc:Scope)(x:Str):Prop:=sc.names.lookup x=some .local\/sc.names.lookup x=some .cell\/sc.names.lookup x=some .free
def Loc (sc:Scope)(x:Str):Prop:=sc.names.lookup x=some .local\/sc.names.lookup x=some .cell
def Lh (env:Env)(h:Heap)(m:Str->Qf)(x:Str)(u:Value):Prop :=
 (env.kindOf x=some .local/\m x=some u)\/((env.kindOf x=some .cell\/env.kindOf x=some .free)/\∃c,env.cells.lookup x=some c/\h.IsCell c (some u))
structure Cx.Ok (X:Cx):Prop where
 mod:Mod X.K X.mg X.base
 kind:X.env.scope.kind=.function
 glob:X.env.globals=mainGlobals
 blt:X.env.builtins=builtinsNs
 above:X.s₀.heap.objs.size<=X.env.locals
 inj:∀x y c,X.env.cells.lookup x=some c->X.env.cells.lookup y=some c->x=y
 has:∀x,(X.env.kindOf x=some .cell\/X.env.kindOf x=some .free)->∃c,X.env.cells.lookup x=some c
 cab:∀x c,X.fn x=true->X.env.cells.lookup x=some c->X.s₀.heap.objs.size<=c
 hd:X.calm=true->X.A.handled=none
 frames:X.A.frames=some X.stack
 stk:X.stack=X.outer\/(X.stack=X.env::X.outer/\X.env.frame=some X.env.locals)
 exf:∀b∈X.ex,b≠X.env.locals/\∀x c,X.env.cells.lookup x=some c->c≠b
 bs:∀b o,X.base.get? b=some o->X.s₀.heap.get? b=some o/\(X.H₀ b=none\/∃xs,X.H₀ b=some (.tup xs))
 bsz:X.base.objs.size<=X.s₀.heap.objs.size
 noex:∀b o,X.base.get? b=some o->b∉X.ex
 exfs:∀b∈X.ex,b∉X.fs
 funs:X.s₀.heap.FunFrames X.base X.outer
 frf:∀b∈X.fs,X.H₀ b=none
structure Qr (X:Cx)(XaV:Qc)(σ:List (Option V))(H:Hp)(s:Shared):Prop where
 ok:X.Ok
 os:s.os=X.s₀.os
 bare:AllBare s.gens
 base:Un X.fs X.ex X.H₀ H X.s₀.heap s.heap
 loc:∃m,s.heap.Ns X.env.locals m/\∀(i:Nat) (x:Str) (v:V),X.N[i]?=some x->σ[i]?=some (some v)->Vis X.env.scope x->∃u,QK v u/\Lh X.env s.heap m x u
 cell:∀x c,X.env.cells.lookup x=some c->∃v,s.heap.IsCell c v
 free:H X.env.locals=none
 freeC:∀x c,X.env.cells.lookup x=some c->H c=none
 pin:∀p∈X.pn++XaV,s.heap.get? p.1=some p.2/\H p.1=none/\p.1≠X.env.locals/\p.1∉X.fs/\∀v,p.2.data≠.cell v
 hok:HOk X.prog X.w H s.heap
 len:σ.length=X.N.length
section
variable {X:Cx}{XaV:Qc}{σ:List (Option V)}{H H':Hp}{s:Shared}{h':Heap}
def Cx.Ok.nofr (a:X.Ok)  (e:X.base.get? b=some o):b∉X.fs:=fun c=>by
 have:=(a.funs.mem c).1
 rw[e]at this;cases this
def Qr.bs (I:Qr X XaV σ H s):∀b o,X.base.get? b=some o->s.heap.get? b=some o/\(H b=none\/∃xs,H b=some (.tup xs)):=fun b o e=>by
 obtain⟨c,a⟩:=I.ok.bs b o e
 rcases a with a|⟨xs,a⟩
 .exact⟨I.base.keep b o c a (I.ok.nofr e)<|I.ok.noex b o e,.inl<|I.base.free b o c a<|I.ok.noex b o e⟩
 .exact⟨I.base.tupo b xs o a c<|I.ok.noex b o e,.inr ⟨xs,I.base.tups b xs a⟩⟩
def Qr.bk (I:Qr X XaV σ H s):∀b o,X.base.get? b=some o->s.heap.get? b=some o:=fun b o e=>(I.bs b o e).1
def Qr.mod (I:Qr X XaV σ H s):Mod X.K X.mg X.base:=I.ok.mod
def Qr.kIn (I:Qr X XaV σ H s):X.K.In s.heap:=I.ok.mod.kin.keeps I.bk
def Qr.lt (I:Qr X XaV σ H s):X.env.locals<s.heap.objs.size:=let ⟨_,hn,_⟩:=I.loc;hn.lt
def Qr.sz (I:Qr X XaV σ H s):X.s₀.heap.objs.size<=s.heap.objs.size:=X4 I.ok.above (YI I.lt)
def Qr.nofs (I:Qr X XaV σ H s){a:Addr}(h:s.heap.objs.size<=a):a∉X.fs:=fun c=>by
 obtain⟨_,o,b,_⟩:=I.ok.funs.mem c;exact Xm (Xr (Xk b)<|X4 I.sz h) (Yv _)
def Qr.cne (I:Qr X XaV σ H s):∀x c,X.env.cells.lookup x=some c->c≠X.env.locals:=fun x c e z=>by
 obtain⟨v,o,d,f⟩:=I.cell x c e;obtain⟨m,⟨g,h,i,a,b,_⟩,_⟩:=I.loc;rw[z,a]at d;cases d;rw[b]at f;cases f
def Qr.funs (I:Qr X XaV σ H s):s.heap.FunFrames X.base X.outer:=by
 have f:∀(l:List Env),(∀b∈frs l,b∈X.fs)->X.s₀.heap.FunFrames X.base l->s.heap.FunFrames X.base l:=by
  intro l;induction l with
  |nil=>intro _ _;trivial
  |cons q r h =>
    intro g m;obtain⟨n,⟨L,o,a,k,j,p⟩,i⟩:=m;have d:L∈X.fs:=g L (by unfold frs;rw[List.filterMap_cons,a];exact Xb);obtain⟨t,e⟩:=I.base.slot L o j (I.ok.frf L d) d fun z=>I.ok.exfs L z d
    exact⟨n,⟨L,_,a,k,e,p⟩,h (fun b c=>g b<|by unfold frs;rw[List.filterMap_cons,a];exact Xe _ c) i⟩
 exact f X.outer (fun _ c=>c) I.ok.funs
def Qr.stack (I:Qr X XaV σ H s):s.heap.FunFrames X.base X.stack:=by
 rcases I.ok.stk with e|⟨e,b⟩
 .rw[e];exact I.funs
 .rw[e]
  obtain⟨m,a,_⟩:=I.loc;refine .cons (by rw[I.ok.kind];decide) b a ?_ I.funs;exact Heap.get?_none_of_le (X4 I.ok.bsz I.ok.above)
def Qr.stkSub (I:Qr X XaV σ H s):∀b∈frs X.stack,b∈X.env.locals::X.fs:=fun b a=>by
 rcases I.ok.stk with e|⟨e,c⟩
 .rw[e]at a;exact Xe _ a
 .rw[e]at a
  unfold frs at a;rw[List.filterMap_cons,c]at a;exact a
def Qr.stkFree (I:Qr X XaV σ H s):∀b∈frs X.stack,H b=none:=fun b a=>by
 rcases Xg.mp (I.stkSub b a) with e|a
 .rw[e];exact I.free
 .obtain⟨_,o,c,_⟩:=I.ok.funs.mem a
  exact I.base.free b o c (I.ok.frf b a) fun z=>I.ok.exfs b z a
def Qr.step {t':Nat}{ch:Qg}(I:Qr X XaV σ H s)
 (t:∀b∈ch,(b∈X.ex\/X.s₀.heap.objs.size<=b)/\b≠X.env.locals/\(∀x c,X.env.cells.lookup x=some c->c≠b)/\∀p∈X.pn++XaV,p.1≠b)
 (j:∀b o,b≠X.env.locals->b∉X.fs->b∉ch->s.heap.get? b=some o->H b=none->h'.get? b=some o)
 (A:∀b o,b≠X.env.locals->b∈X.fs->b∉ch->s.heap.get? b=some o->H b=none->∃Q,h'.get? b=some { o with slots:=Q }) (f:∀b o,b∉ch->s.heap.get? b=some o->H b=none->H' b=none)
 (B:∀b o,b∉ch->s.heap.get? b=some o->∃J,h'.get? b=some J)
 (E:∀b xs,H b=some (.tup xs)->H' b=some (.tup xs)) (N:∀b o u,H b=some (.frz o u)->H' b=some (.frz o u)) (G:∀b ps,H b=some (.tbl ps)->∃M,H' b=some (.tbl<|ps++M))
 (ns:∀m,s.heap.Ns X.env.locals m->h'.Ns X.env.locals m) (R:HOk X.prog X.w H' h') (hg:AllBare g') (F:∀b xs o,b∉ch->H b=some (.tup xs)->s.heap.get? b=some o->h'.get? b=some o) :
 Qr X XaV σ H' { s with heap:=h',gens:=g',drawn:=d',toks:=t' }:=by
 have L:∀b o,X.s₀.heap.get? b=some o->b≠X.env.locals:=fun b o e=>Xu (Xr (Xk e) I.ok.above)
 have g:∀b o,X.s₀.heap.get? b=some o->b∉X.ex->b∉ch:=fun b o e a C=>by
  rcases(t b C).1 with z|z
  .exact a z
  .exact Xm (Xr (Xk e) z) (Yv _)
 have w:∀x c,X.env.cells.lookup x=some c->∀v,s.heap.IsCell c v->h'.IsCell c v:=fun x c e v ⟨o,D,S⟩=>by
  have h:c∉ch:=fun z=>(t c z).2.2.1 x c e rfl
  by_cases Y:c∈X.fs
  .obtain⟨Q,q⟩:=A c o (I.cne x c e) Y h D (I.freeC x c e)
   exact⟨_,q,S⟩
  .exact⟨o,j c o (I.cne x c e) Y h D<|I.freeC x c e,S⟩
 refine⟨I.ok,I.os,hg,⟨fun b o e n C a=>?_,fun b o e n C a=>?_,fun b o e n a=>?_,fun b o e a=>?_,fun b xs e=>E b xs<|I.base.tups b xs e,fun b o xs e=>N b o xs<|I.base.frzs b o xs e,fun b xs o q e a=>F b xs o (g b o e a) (I.base.tups b xs q)<|I.base.tupo b xs o q e a,fun b ps e=>?_⟩,?_,fun x c e=>?_,?_,fun x c e=>?_,fun p W=>?_,R,I.len⟩
 .exact j b o (L b o e) C (g b o e a) (I.base.keep b o e n C a) (I.base.free b o e n a)
 .obtain⟨Q,y⟩:=I.base.slot b o e n C a
  obtain⟨P,O⟩:=A b _ (L b o e) C (g b o e a) y (I.base.free b o e n a)
  exact⟨P,O⟩
 .obtain⟨J,y⟩:=I.base.there b o e a
  exact f b J (g b o e a) y (I.base.free b o e n a)
 .obtain⟨J,y⟩:=I.base.there b o e a
  exact B b J (g b o e a) y
 .obtain⟨m1,y⟩:=I.base.tbls b ps e
  obtain⟨Z,O⟩:=G b _ y
  exact⟨m1++Z,by rw[O,Array.append_assoc]⟩
 .obtain⟨m,hn,hl⟩:=I.loc
  refine⟨m,ns m hn,fun i x v y O e3=>?_⟩;obtain⟨u,r,l⟩:=hl i x v y O e3;refine⟨u,r,?_⟩
  rcases l with l|⟨k,c,e,z⟩
  .exact .inl l
  .exact .inr ⟨k,c,e,w x c e _ z⟩
 .obtain⟨v,z⟩:=I.cell x c e
  exact⟨v,w x c e v z⟩
 .obtain⟨m,⟨o,_,_,D,_⟩,_⟩:=I.loc
  exact f _ o (fun z=>(t _ z).2.1 rfl) D I.free
 .obtain⟨v,o,D,S⟩:=I.cell x c e
  exact f c o (fun z=>(t c z).2.2.1 x c e rfl) D (I.freeC x c e)
 .obtain⟨e,n,U,T,d⟩:=I.pin p W
  have h:p.1∉ch:=fun z=>(t p.1 z).2.2.2 p W rfl
  exact⟨j p.1 p.2 U T h e n,f p.1 p.2 h e n,U,T,d⟩
def Qr.un (I:Qr X XaV σ H s)(u:Un X.fs [] H H' s.heap h')(c:HOk X.prog X.w H' h'):Qr X XaV σ H' { s with heap:=h',toks:=t' }:=by
 obtain⟨m,⟨o,w,x,h,r⟩,_⟩:=id I.loc;obtain⟨p,l⟩:=u.any h I.free (by simp)
 exact I.step (g':=s.gens) (d':=s.drawn) (ch:=[]) (by rintro _ ⟨⟩) (fun b o _ d _ e n=>u.keep b o e n d<|by simp) (fun b o _ d _ e n=>u.slot b o e n d<|by simp) (fun b o _ e n=>u.free b o e n<|by simp) (fun b o _ e=>u.there b o e<|by simp) u.tups u.frzs u.tbls (fun v k=>by
  obtain⟨t,f,g,a,j⟩:=k;rw[h]at a;cases a;exact⟨_,f,g,l,j⟩) c I.bare (fun b i o _ q e=>u.tupo b i o q e<|by simp)
def Qr.call   (I:Qr X XaV σ H s)(u:Un (frs X.stack) ch H H' s.heap h')(g:HOk X.prog X.w H' h')(w:AllBare g')
 (f:∀b∈ch,(b∈X.ex\/X.s₀.heap.objs.size<=b)/\b≠X.env.locals/\(∀x c,X.env.cells.lookup x=some c->c≠b)/\∀p∈X.pn++XaV,p.1≠b) :
 Qr X XaV σ H' { s with heap:=h',gens:=g',drawn:=d',toks:=t' }:=by
 obtain⟨m,⟨o,D,E,k,r⟩,_⟩:=id I.loc;obtain⟨A,h⟩:=u.any k I.free fun z=>(f _ z).2.1 rfl
 exact I.step (ch:=ch) f (fun b o h y a e n=>u.keep b o e n (fun z=>(Xg.mp<|I.stkSub b z).elim h y) a) (fun b o _ _ a e n=>u.any e n a) (fun b o a e n=>u.free b o e n a) (fun b o a e=>u.there b o e a) u.tups u.frzs u.tbls (fun C v=>by
  obtain⟨B,i,j,d,t⟩:=v;rw[k]at d;cases d;exact⟨_,i,j,h,t⟩) g w (fun b l o a q e=>u.tupo b l o q e a)
def Qr.turned  (I:Qr X XaV σ H s)(k:∀b o,b≠it->s.heap.get? b=some o->h'.get? b=some o)(hn:H it=none)(f:it≠X.env.locals)
 (t:it∈X.ex\/X.s₀.heap.objs.size<=it) (l:∀x c,X.env.cells.lookup x=some c->c≠it) (j:∀p∈X.pn++XaV,p.1≠it):Qr X XaV σ H { s with heap:=h',toks:=t' }:=by
 have d:∀b u,H b=some u->b≠it:=fun b u e z=>by rw[z,hn]at e;cases e
 refine I.step (g':=s.gens) (d':=s.drawn) (ch:=[it]) (fun b i=>?_) (fun b o _ _ a e _=>k b o (fun z=>a<|by simp[z]) e) (fun b o _ _ a e _=>⟨o.slots,k b o (fun z=>a<|by simp[z]) e⟩) (fun _ _ _ _ n=>n)
  (fun b o a e=>⟨o,k b o (fun z=>a<|by simp[z]) e⟩) (fun _ _ e=>e) (fun _ _ _ e=>e) (fun b A e=>⟨#[],by rw[e];simp⟩) (fun m h=>?_) (fun b u e=>?_) I.bare (fun b _ o a _ e=>k b o (fun z=>a<|by simp[z]) e)
 .have e:b=it:=by simpa using i
  subst e;exact⟨t,f,l,j⟩
 .obtain⟨o,w,y,g,r⟩:=h
  exact⟨o,w,y,k _ o (Ne.symm f) g,r⟩
 .refine(I.hok b u e).stay (fun c v a q=>k c v ?_ q) (fun _ q=>q) fun _ _ q=>q
  rcases a with z|z
  .rw[z];exact d b u e
  .exact d c _ z
def Qr.tok (I:Qr X XaV σ H s)(t:Nat):Qr X XaV σ H { s with toks:=t }:=I.un (h':=s.heap) (t':=t) Un.refl I.hok
def Qr.kept (I:Qr X XaV σ H s)(k:∀b u,s.heap.get? b=some u->h'.get? b=some u):Qr X XaV σ H { s with heap:=h',toks:=t' }:=I.un (Un.kept k) (I.hok.kept k)
def Qr.laid {a:Addr}{o:HO}{t':Nat}(I:Qr X XaV σ H s)(k:∀b u,s.heap.get? b=some u->h'.get? b=some u)(d:s.heap.objs.size<=a)(c:Z4 X.prog X.w (upd H a o) h' a o) :
 Qr X XaV σ (upd H a o) { s with heap:=h',toks:=t' }:=I.un (Un.laid k d<|I.hok.fresh d) (I.hok.laid k d c)
def Qr.write  (I:Qr X XaV σ H s)(d:Mut (H x))(f:e=x\/H e=some (.own x))(k:∀b u,b≠e->s.heap.get? b=some u->h'.get? b=some u)(a:∃u,h'.get? e=some u)
 (c:Z4 X.prog X.w (upd H x o) h' x o):Qr X XaV σ (upd H x o) { s with heap:=h',toks:=t' }:=I.un (Un.write d f k a) (I.hok.write d f k a c)
def Qr.weak (I:Qr X XaV σ H s)(a:σ'.length=σ.length)(w:∀(i:Nat) v,σ'[i]?=some (some v)->σ[i]?=some (some v)):Qr X XaV σ' H s :=
 ⟨I.ok,I.os,I.bare,I.base,let ⟨m,hn,hl'⟩:=I.loc;⟨m,hn,fun i x v d c b=>hl' i x v d (w i v c) b⟩,I.cell,I.free,I.freeC,I.pin,I.hok,a.trans I.len⟩
def Qr.pins_of (I:Qr X XaV σ H s)(h:∀p∈pins',s.heap.get? p.1=some p.2/\H p.1=none/\p.1≠X.env.locals/\p.1∉X.fs/\∀v,p.2.data≠.cell v):Qr X pins' σ H s :=
 ⟨I.ok,I.os,I.bare,I.base,I.loc,I.cell,I.free,I.freeC,fun p a=>(Xy.mp a).elim (fun z=>I.pin p<|Uj _ z) (h p),I.hok,I.len⟩
def Mc {N:Qh}(c:N.Nodup){i j:Nat}(a:N[i]?=some x)(b:N[j]?=some x):i=j:=by
 obtain⟨g,e⟩:=Xf.mp a;obtain⟨f,d⟩:=Xf.mp b
 exact(List.getElem_inj c).mp (e.trans d.symm)
def P9     (I:Qr X XaV σ H s)(hN:X.N.Nodup)(R:X.N[i]?=some x)(l:Loc X.env.scope x)(r:QK v u)
 (h:∀s',Qr X XaV (σ.set i<|some v) H s'->(∃a,Heap.SameBut a s.heap s'.heap/\(a=X.env.locals\/X.env.cells.lookup x=some a))->Q () s') (hf:X.fn x=true\/X.env.scope.names.lookup x=some .local:=by first|exact .inl rfl|exact .inr rfl|assumption):wpAny M A (storeName X.env x u) Q E s:=by
 obtain⟨m,hn,hl⟩:=id I.loc;have S:(X.env.scope.kind==.class||(X.env.scope.kind==.module&&X.env.locals != X.env.globals))=false:=by rw[I.ok.kind];rfl
 have G:i<σ.length:=by rw[I.len];exact(Xf.mp R).1
 have N:=I.cne
 have g:∀{a:Addr} {h':Heap},(∃o,s.heap.get? a=some o/\H a=none)->Heap.SameBut a s.heap h'->HOk X.prog X.w H h':=fun{a h'} ha f b ob e=>by
  obtain⟨_,_,B⟩:=ha;refine(I.hok b ob e).stay (fun c W w q=>(f.2 c ?_).trans q) (fun _ q=>q) fun _ _ q=>q
  rintro rfl
  rcases w with rfl|w
  .rw[B]at e;cases e
  .rw[B]at w;cases w
 rcases l with F|F
 .refine wpAny_storeName_local F hn (fun h' hn' f=>?_) S
  obtain⟨oL,_,_,hoL,_⟩:=id hn;refine h _ ⟨I.ok,I.os,I.bare,⟨fun b o e n L l=>?_,fun b o e n L l=>?_,I.base.free,fun b o e l=>?_,I.base.tups,I.base.frzs,fun b xs o q e l=>(f.2 b<|Xu<|Xr (Xk e) I.ok.above).trans (I.base.tupo b xs o q e l),I.base.tbls⟩,⟨_,hn',fun j y v' t D e3=>?_⟩,fun y c e=>?_,I.free,I.freeC,fun p hp=>?_,g ⟨oL,hoL,I.free⟩ f,by simpa using I.len⟩ ⟨_,f,.inl rfl⟩
  .exact(f.2 b<|Xu<|Xr (Xk e) I.ok.above).trans (I.base.keep b o e n L l)
  .obtain⟨sl,t⟩:=I.base.slot b o e n L l
   exact⟨sl,(f.2 b<|Xu<|Xr (Xk e) I.ok.above).trans t⟩
  .obtain⟨o',t⟩:=I.base.there b o e l
   exact⟨o',(f.2 b<|Xu<|Xr (Xk e) I.ok.above).trans t⟩
  .by_cases J:j=i
   .subst J
    rw[R]at t;cases t;rw[Xj G]at D;cases D
    exact⟨u,r,.inl ⟨F,by simp⟩⟩
   .rw[Xo<|Ne.symm J]at D
    obtain⟨u',r',q⟩:=hl j y v' t D e3;refine⟨u',r',?_⟩
    rcases q with ⟨k,e⟩|⟨k,c,e,z⟩
    .refine .inl ⟨k,?_⟩
     have:y≠x:=fun e=>J (Mc hN t<|e▸R)
     simp[this,e]
    .exact .inr ⟨k,c,e,z.sameBut f<|N y c e⟩
  .obtain⟨W,z⟩:=I.cell y c e
   exact⟨W,z.sameBut f<|N y c e⟩
  .obtain⟨e,n,Y,nf,d⟩:=I.pin p hp
   exact⟨(f.2 p.1 Y).trans e,n,Y,nf,d⟩
 .have C:X.fn x=true:=by
   rcases hf with z|z
   .exact z
   .rw[z]at F;cases F
  obtain⟨c,w⟩:=I.ok.has x (.inl F);obtain⟨W,z⟩:=I.cell x c w;refine wpAny_storeName_cell I.ok.kind F w z (fun h' U f=>?_);obtain⟨oc,P,O⟩:=id z;refine h { s with heap:=h' } ⟨I.ok,I.os,I.bare,⟨fun b o e n L l=>?_,fun b o e n L l=>?_,I.base.free,fun b o e l=>?_,I.base.tups,I.base.frzs,fun b xs o q e l=>(f.2 b<|Xu<|Xr (Xk e)<|I.ok.cab x c C w).trans (I.base.tupo b xs o q e l),I.base.tbls⟩,⟨m,hn.sameBut f<|Ne.symm<|N x c w,fun j y v' t D e3=>?_⟩,fun y Z e=>?_,I.free,I.freeC,fun p hp=>?_,g ⟨oc,P,I.freeC x c w⟩ f,by simpa using I.len⟩ ⟨c,f,.inr w⟩
  .exact(f.2 b<|Xu<|Xr (Xk e)<|I.ok.cab x c C w).trans (I.base.keep b o e n L l)
  .obtain⟨sl,t⟩:=I.base.slot b o e n L l
   exact⟨sl,(f.2 b<|Xu<|Xr (Xk e)<|I.ok.cab x c C w).trans t⟩
  .obtain⟨o',t⟩:=I.base.there b o e l
   exact⟨o',(f.2 b<|Xu<|Xr (Xk e)<|I.ok.cab x c C w).trans t⟩
  .by_cases J:j=i
   .subst J
    rw[R]at t;cases t;rw[Xj G]at D;cases D
    exact⟨u,r,.inr ⟨.inl F,c,w,U⟩⟩
   .rw[Xo<|Ne.symm J]at D
    obtain⟨u',r',q⟩:=hl j y v' t D e3;refine⟨u',r',?_⟩
    rcases q with q|⟨k,Z,e,z'⟩
    .exact .inl q
    .refine .inr ⟨k,Z,e,z'.sameBut f ?_⟩
     rintro rfl
     exact J (Mc hN t<|I.ok.inj _ _ _ e w▸R)
  .by_cases T:Z=c
   .subst T;exact⟨_,U⟩
   .obtain⟨w2,z2⟩:=I.cell y Z e
    exact⟨w2,z2.sameBut f T⟩
  .obtain⟨e,n,Y,nf,d⟩:=I.pin p hp
   refine⟨(f.2 p.1 ?_).trans e,n,Y,nf,d⟩;intro q;rw[q,P]at e;have q':oc=p.2:=Option.some.inj e;exact d W (by rw[<- q'];exact O)
def BI     (I:Qr X XaV σ H s)(e:X.N.Nodup)(c:X.N[i]?=some x)(b:Loc X.env.scope x)(r:QK v u)
 (h:∀a,Qr X XaV (σ.set i<|some v) H a->Q () a) (d:X.fn x=true\/X.env.scope.names.lookup x=some .local:=by first|exact .inl rfl|exact .inr rfl|assumption):wpAny M A (storeName X.env x u) Q E s :=
 P9 I e c b r (fun a f _=>h a f) d
def Qr.call'  (I:Qr X XaV σ H s)(g:s'.os=s.os)(u:Un (frs X.stack) ch H H' s.heap s'.heap)(a:HOk X.prog X.w H' s'.heap)(h:AllBare s'.gens)
 (d:∀b∈ch,(b∈X.ex\/X.s₀.heap.objs.size<=b)/\b≠X.env.locals/\(∀x c,X.env.cells.lookup x=some c->c≠b)/\∀p∈X.pn++XaV,p.1≠b):Qr X XaV σ H' s':=by
 obtain⟨h',g',d',t',f⟩:=s';have e:f=s.os:=g;subst e;exact I.call (g':=g') (t':=t') (d':=d') u a h d
end
abbrev XK:=Value->Qj->Hp->Prop
abbrev St:=List (Option V)
abbrev VK:=V->Hp->Prop
abbrev TE:=St->Hp->VK->Prop
abbrev TT:=St->Hp->(Bool->Hp->Prop)->Prop
abbrev TA:=St->Hp->(List V->Hp->Prop)->Prop
structure Ends where
 nx:St->Hp->Prop
 rt:VK
 bk:St->Hp->Prop:=fun _ _=>False
 ct:St->Hp->Prop:=fun _ _=>False
abbrev TS:=Ends->St->Hp->Prop
def EP (X:Cx)(a:Qc)(c:St)(Q:VK)(u:Value)(d:Shared):Prop := ∃v b,Qr X a c b d/\QK v u/\Q v b
def TP (X:Cx)(a:Qc)(d:St)(Q:Bool->Hp->Prop)(b:Bool)(e:Shared):Prop := ∃c,Qr X a d c e/\Q b c
def AP (X:Cx)(a:Qc)(d:St)(Q:List V->Hp->Prop)(us:Qe)(e:Shared):Prop := ∃b c,Qr X a d c e/\QS b us/\Q b c
def SP (X:Cx)(c:Qc)(D:Ends)(f:Flow)(d:Shared):Prop :=
 match f with
 |.next=>∃a b,Qr X c a b d/\D.nx a b
 |.brk=>∃a b,Qr X c a b d/\D.bk a b
 |.cont=>∃a b,Qr X c a b d/\D.ct a b
 |.ret u=>∃v a b,Qr X c a b d/\QK v u/\D.rt v b
def PE (X:Cx)(e:Expr)(t:TE):Prop :=
 ∀(a:Qc) (s:Shared) (b:St) (H:Hp) (Q:VK),Qr X a b H s->t b H Q->wpAny (model X.prog X.w) X.A (eval e X.env) (EP X a b Q) X.xe s
def PT (X:Cx)(e:Expr)(t:TT):Prop :=
 ∀(a:Qc) (s:Shared) (b:St) (H:Hp) (Q:Bool->Hp->Prop),Qr X a b H s->t b H Q->wpAny (model X.prog X.w) X.A (isTrue e X.env<|eval e X.env) (TP X a b Q) X.xe s
def PW (X:Cx)(e:Expr)(t:TT):Prop :=
 ∀(a:Sem Value) (b:Qc) (s:Shared) (c:St) (H:Hp) (Q:Bool->Hp->Prop),Qr X b c H s->t c H Q->wpAny (model X.prog X.w) X.A (isTrue e X.env a) (TP X b c Q) X.xe s
def PW.pt  (h:PW X e t):PT X e t:=h _
def PA (X:Cx)(es:Qi)(t:TA):Prop :=
 ∀(c:Pos) (a:Qc) (s:Shared) (b:St) (H:Hp) (Q:List V->Hp->Prop),Qr X a b H s->t b H Q->wpAny (model X.prog X.w) X.A (spliced<|backTo c<|starEach es X.env) (AP X a b Q) X.xe s
def PS (X:Cx)(st:Stmt)(t:TS):Prop :=
 ∀(a:Qc) (s:Shared) (b:St) (H:Hp) (D:Ends),Qr X a b H s->t D b H->wpAny (model X.prog X.w) X.A (exec st X.env) (SP X a D) X.xe s
def PSs (X:Cx)(st:List Stmt)(t:TS):Prop :=
 ∀(a:Qc) (s:Shared) (b:St) (H:Hp) (D:Ends),Qr X a b H s->t D b H->wpAny (model X.prog X.w) X.A (execs st X.env) (SP X a D) X.xe s
def Q9 {b:Type}{t:Sem b}{Q c:b->Shared->Prop}{M:Model}{A:Around}{E:Qb}{s:Shared}(h:wpAny M A t Q E s)(d:∀a s,Q a s->c a s):wpAny M A t c E s:=wpAny_mono h d fun _ _ x=>x
section
variable {X:Cx}
def Q8 (i:Nat):TE:=fun a H Q=>∃v,a[i]?=some (some v)/\Q v H
def tC (v:V):TE:=fun _ H Q=>Q v H
def RE {i:Nat} {x:Str} {f:Pos} (y:X.N[i]?=some x) (p:Vis X.env.scope x) (g:(x==("__debug__" : Str))=false:=by decide) (j:(x==("__classdict__" : Str))=false:=by decide):PE X (.Name x f) (Q8 i):=by
 intro k s o H Q I h;obtain⟨v,e,h⟩:=h;obtain⟨m,q,w⟩:=I.loc;obtain⟨u,r,l⟩:=w i x v y e p;have d:EP X k o Q u s:=⟨v,H,I,r,h⟩
 rcases l with ⟨b,t⟩|⟨b,c,n,a⟩
 .exact wpAny_Name (wpAny_loadName_local I.ok.kind b q t d) g
 .rcases b with b|b
  .exact wpAny_Name (wpAny_loadName_cell I.ok.kind b n a d) g
  .exact wpAny_Name (wpAny_loadName_free I.ok.kind b n a d j) g
def Qw {i j pos}:PE X (.Constant (.int i) j pos) (tC<|.int i):=fun _ _ _ H _ I h=>wpAny_Constant_int ⟨.int i,H,I.tok _,⟨_,rfl⟩,h⟩
def Vn {b j pos}:PE X (.Constant (.bool b) j pos) (tC<|.bl b):=fun _ _ _ H _ I h=>Constant_bool ⟨.bl b,H,I,rfl,h⟩
def B1 {j pos}:PE X (.Constant .none j pos) (tC .non):=fun _ _ _ H _ I h=>Constant_none ⟨.non,H,I,rfl,h⟩
def Yc {x j pos}:PE X (.Constant (.str x) j pos) (tC<|.str x):=fun _ _ _ H _ I h=>Calls.Constant_str ⟨.str x,H,I.tok _,⟨_,rfl⟩,h⟩
def Gl (X:Cx)(x:Str):Prop:=X.env.kindOf x=some .globalImplicit
def Jw {E:Qb}{b:Qc}{s:Shared}{c:St}{H:Hp}{x:Str}{u:Value}{a:Pos}{Q:Qb}(I:Qr X b c H s)(e:Gl X x)(d:X.mg x=some u)(h:Q u s)
 (f:(x==("__debug__" : Str))=false:=by decide):wpAny (model X.prog X.w) X.A (eval (.Name x a) X.env) Q E s :=
 Calls.Name_function_global I.ok.kind e (Calls.loadGlobal_global (by rw[I.ok.glob];exact I.mod.glob.keeps I.bk) d h) f
def Jr {E:Qb}{b:Qc}{s:Shared}{c:St}{H:Hp}{x:Str}{u:Value}{a:Pos}{Q:Qb}(I:Qr X b c H s)(f:Gl X x)(e:X.mg x=none)(d:bootBuiltins x=some u)(h:Q u s)
 (hn:x ≠ "__name__" := by decide) (g:(x==("__debug__" : Str))=false:=by decide):wpAny (model X.prog X.w) X.A (eval (.Name x a) X.env) Q E s:=by
 obtain⟨k,j,i⟩:=I.mod.blt;exact Calls.Name_function_global I.ok.kind f (Calls.loadGlobal_builtin (by rw[I.ok.glob];exact I.mod.glob.keeps I.bk) e (by rw[I.ok.blt];exact j.keeps I.bk) ((i x hn).trans d) h) g
def YF   (b:Gl X x) (a:X.mg x=some u) (r:QK v u) (c:(x==("__debug__" : Str))=false:=by decide):PE X (.Name x pos) (tC v) :=
 fun _ _ _ H _ I h=>Jw I b a ⟨v,H,I,r,h⟩ c
def YW {x:Str} {v:V} {u:Value} {a:Pos} (d:Gl X x) (c:X.mg x=none) (b:bootBuiltins x=some u) (r:QK v u) (hn:x ≠ "__name__" := by decide) (e:(x==("__debug__" : Str))=false:=by decide):PE X (.Name x a) (tC v) :=
 fun _ _ _ H _ I h=>Jr I d c b ⟨v,H,I,r,h⟩ hn e
variable {a b:Expr}{ta tb:TE}{pos:Pos}
def PC (X:Cx)(op:CmpOp)(a b:Expr)(t:TE):Prop :=
 ∀(c:Qc) (s:Shared) (d:St) (H:Hp) (Q:VK),Qr X c d H s->t d H Q ->
  wpAny (model X.prog X.w) X.A (eval a X.env) (fun v f=>wpAny (model X.prog X.w) X.A (eval b X.env) (fun u e=>wpAny (model X.prog X.w) X.A (compareOp op v u) (EP X c d Q) X.xe e) X.xe f) X.xe s
def CW (b:Expr)(h:op≠.In)(c:op≠.NotIn):behindInMarks op b=false:=by
 have e:(op==CmpOp.In)=false:=by cases op<;>first|rfl|exact Xm rfl h
 have d:(op==CmpOp.NotIn)=false:=by cases op<;>first|rfl|exact Xm rfl c
 cases b<;>simp[behindInMarks,e,d]
def NP (ta:TE):TE:=fun c H Q=>ta c H fun x d=>Q (.bl<|!decide (x=.non)) d
def QK.none_iff  (r:QK x v):(v==Value.none)=decide (x=.non):=by
 cases x with
 |non=>cases r;rfl
 |bl _=>cases r;rfl
 |int _=>obtain⟨t,rfl⟩:=r;rfl
 |str _=>obtain⟨t,rfl⟩:=r;rfl
 |byt _=>obtain⟨t,rfl⟩:=r;rfl
 |flt _=>obtain⟨t,rfl⟩:=r;rfl
 |ref _=>cases r;rfl
 |ty _=>cases r;rfl
def FQ {j pos'}(g:PE X a ta):PC X .IsNot a (.Constant .none j pos') (NP ta):=by
 intro c s d H Q I h;refine Q9 (g c s d H _ I h) ?_;rintro v l ⟨x,k,i,e,f⟩;exact Constant_none (isnot_none_gen ⟨.bl _,k,i,by rw[e.none_iff];rfl,f⟩)
def tB (t:TE):TT:=fun d H Q=>t d H fun x e=>∃c,x=.bl c/\Q c e
def U7  (h:PC X op a b t)(e:behindInMarks op b=false:=by first|exact CW _ (by decide) (by decide)|rfl):PT X (.Compare a [op] [b] pos) (tB t):=by
 intro f s g H Q I k;refine wpAny_isTrue_Compare1 (Q9 (h f s g H _ I k) fun v r e=>Q9 e fun u p l=>Q9 l ?_) e;rintro c o ⟨x,n,m,i,j⟩;obtain⟨d,rfl,q⟩:=j
 cases i
 exact wpAny_truthy_bool ⟨n,m,q⟩
def Vl  (h:PE X e t)(l:∀c,isTrue e X.env c=(do let v <- c;standAt e.pos;holding [v] (truthy v)):=by intro _;rfl):PT X e (tB t):=by
 intro f s g H Q I k;refine isTrue_plain (Q9 (h f s g H _ I k) ?_) (l _);rintro v o ⟨x,n,m,i,j⟩;obtain⟨d,rfl,q⟩:=j
 cases i
 exact wpAny_truthy_bool ⟨n,m,q⟩
variable {tA tB':TT}{rest:Qi}
def Nr (t u:TT):TT:=fun d H Q=>t d H fun c e=>if c=true then u d e Q else Q false e
def tOr (t u:TT):TT:=fun d H Q=>t d H fun c e=>if c=true then Q true e else u d e Q
def No (t:TT):TT:=fun d H Q=>t d H fun c e=>Q (!c) e
def UB (g:PT X a tA):PW X (.BoolOp .And [a] pos) tA:=by
 intro i d s f H Q I h;refine isTrue_and (Q9 (g d s f H Q I h) fun c j e=>?_)
 cases c with
 |true=>exact isTrue_and_nil e
 |false=>exact e
def U5 (g:PT X a tA):PW X (.BoolOp .Or [a] pos) tA:=by
 intro i d s f H Q I h;refine isTrue_or (Q9 (g d s f H Q I h) fun c j e=>?_)
 cases c with
 |false=>exact isTrue_or_nil e
 |true=>exact e
def U4 (m:PT X a tA)(l:PW X (.BoolOp .And (b::rest) pos) tB'):PW X (.BoolOp .And (a::b::rest) pos) (Nr tA tB'):=by
 intro j d s e H Q I h;refine isTrue_and (Q9 (m d s e H _ I h) ?_);rintro c k ⟨i,g,f⟩
 cases c with
 |true=>exact l j d k e i Q g f
 |false=>exact⟨i,g,f⟩
def Wh (m:PT X a tA)(l:PW X (.BoolOp .Or (b::rest) pos) tB'):PW X (.BoolOp .Or (a::b::rest) pos) (tOr tA tB'):=by
 intro j d s e H Q I h;refine isTrue_or (Q9 (m d s e H _ I h) ?_);rintro c k ⟨i,g,f⟩
 cases c with
 |true=>exact⟨i,g,f⟩
 |false=>exact l j d k e i Q g f
def VU (f:PT X a tA):PT X (.UnaryOp .Not a pos) (No tA):=by
 intro d s e H Q I h;exact isTrue_not (f d s e H (fun c g=>Q (!c) g) I h)
def NS (ta tb:TE):TE:=fun d H Q=>ta d H fun x e=>∃c,x=.bl c/\if c=true then tb d e Q else Q (.bl false) e
def Re (ta:TE):TE:=fun d H Q=>ta d H fun x e=>∃c,x=.bl c/\Q (.bl<|!c) e
def Gz {op}(h:PE X a t):PE X (.BoolOp op [a] pos) t:=fun c s d H Q I e=>BoolOp_one (h c s d H Q I e)
def G8 (m:PE X a ta)(l:PE X (.BoolOp .And (b::rest) pos) tb):PE X (.BoolOp .And (a::b::rest) pos) (NS ta tb):=by
 intro d s f H Q I h;refine BoolOp_and (Q9 (m d s f H _ I h) ?_);rintro v j ⟨x,i,g,k,e⟩;obtain⟨c,rfl,e⟩:=e
 cases k
 refine wpAny_truthy_bool ?_
 cases c with
 |true=>exact l d j f i Q g e
 |false=>exact⟨.bl false,i,g,rfl,e⟩
def Fh (i:PE X a ta):PE X (.UnaryOp .Not a pos) (Re ta):=by
 intro e s f H Q I h;refine UnaryOp_ (Q9 (i e s f H _ I h) ?_);rintro v l ⟨x,k,j,g,d⟩;obtain⟨c,rfl,d⟩:=d
 cases g
 exact not_of (wpAny_truthy_bool ⟨.bl<|!c,k,j,rfl,d⟩)
end
def SqL (K:W.Frag)(H:Hp)(a:Addr)(xs:List V):Prop :=
 Rd H a (.lst xs) \/
  ∃(o:Obj) (b:Array Value) (n:Nat),K.lookup a=some o/\o.cls=.type "list" /\ o.dict=none/\o.data=.seq b n/\b.size<=sizeLine/\QS xs b.toList
def SqT (K:W.Frag)(H:Hp)(a:Addr)(xs:List V):Prop :=
 Rd H a (.tup xs) \/
  ∃(o:Obj) (b:Array Value) (n:Nat),K.lookup a=some o/\o.cls=.type "tuple" /\ o.data=.seq b n/\b.size<=sizeLine/\QS xs b.toList
noncomputable def Le:Value->Option V
 |.none=>some .non
 |.bool b=>some (.bl b)
 |.int i _=>some (.int i)
 |.str x _=>some (.str x)
 |.bytes b _=>some (.byt b)
 |.float b _=>some (.flt b)
 |.ref a=>some (.ref a)
 |.type n=>some (.ty n)
 |_=>none
def QK.abs  (r:QK x u):Le u=some x:=by
 cases x with
 |non=>cases r;rfl
 |bl _=>cases r;rfl
 |int _=>obtain⟨t,rfl⟩:=r;rfl
 |str _=>obtain⟨t,rfl⟩:=r;rfl
 |byt _=>obtain⟨t,rfl⟩:=r;rfl
 |flt _=>obtain⟨t,rfl⟩:=r;rfl
 |ref _=>cases r;rfl
 |ty _=>cases r;rfl
def QK.inj  (r:QK x u)(q:QK y u):x=y:=Option.some.inj (r.abs.symm.trans q.abs)
theorem QS.inj:∀{xs ys:List V} {us:Qe},QS xs us->QS ys us->xs=ys
 |_,_,_,.nil,.nil=>rfl
 |_,_,_,.cons r t,.cons b a=>by rw[r.inj b,QS.inj t a]
section
variable {X:Cx}{XaV:Qc}{σ:St}{H:Hp}{s:Shared}{a:Addr}{xs ys:List V}
def SqL.of {K:W.Frag}(h:H a=some (.lst xs)):SqL K H a xs:=.inl (.inl h)
def SqT.of {K:W.Frag}(h:H a=some (.tup xs)):SqT K H a xs:=.inl (.inl h)
def Qr.list (I:Qr X XaV σ H s)(h:SqL X.K H a xs):∃b:Qe,QS xs b/\PlainL s.heap a b.toArray/\xs.length<=sizeLine:=by
 rcases h with h|⟨o,b,n,d,g,f,c,i,r⟩
 .obtain⟨z,b,n,r,e⟩:=h.ok I.hok
  exact⟨b,r,⟨_,n,e,rfl,rfl,rfl⟩,z⟩
 .refine⟨b.toList,r,⟨o,n,I.kIn a o d,g,f,by simpa using c⟩,?_⟩
  have e:=r.length;simp only[Array.length_toList]at e;omega
def Qr.tuple (I:Qr X XaV σ H s)(h:SqT X.K H a xs):∃b:Qe,QS xs b/\IsTup s.heap a b.toArray/\xs.length<=sizeLine:=by
 rcases h with h|⟨o,b,n,d,f,c,g,r⟩
 .obtain⟨z,b,r,p⟩:=h.ok I.hok
  exact⟨b,r,p,z⟩
 .refine⟨b.toList,r,⟨o,I.kIn a o d,f,n,by simpa using c⟩,?_⟩
  have e:=r.length;simp only[Array.length_toList]at e;omega
def Qr.list_inj (I:Qr X XaV σ H s)(h:SqL X.K H a xs)(h':SqL X.K H a ys):xs=ys:=by
 obtain⟨c,r,⟨o,n,e,_,_,d⟩,_⟩:=I.list h;obtain⟨b,i,⟨k,l,f,_,_,g⟩,_⟩:=I.list h';rw[e]at f;cases f;rw[d]at g;injection g with j _
 have:c=b:=by simpa using X5 Array.toList j
 subst this;exact r.inj i
def Qr.tuple_inj (I:Qr X XaV σ H s)(h:SqT X.K H a xs)(h':SqT X.K H a ys):xs=ys:=by
 obtain⟨c,r,⟨o,e,_,n,d⟩,_⟩:=I.tuple h;obtain⟨b,i,⟨k,f,_,l,g⟩,_⟩:=I.tuple h';rw[e]at f;cases f;rw[d]at g;injection g with j _
 have:c=b:=by simpa using X5 Array.toList j
 subst this;exact r.inj i
end
noncomputable abbrev Cx.wish (X:Cx)(E:Qb):Cx:={ X with xe:=E }
noncomputable abbrev Cx.nox (X:Cx):Cx:=X.wish fun _ _=>False
def Cx.Ok.wish {X:Cx}(a:X.Ok)(E:Qb):(X.wish E).Ok :=
 ⟨a.mod,a.kind,a.glob,a.blt,a.above,a.inj,a.has,a.cab,a.hd,a.frames,a.stk,a.exf,a.bs,a.bsz,a.noex,a.exfs,a.funs,a.frf⟩
def Cx.Ok.unwish {X:Cx}(a:(X.wish E).Ok):X.Ok :=
 ⟨a.mod,a.kind,a.glob,a.blt,a.above,a.inj,a.has,a.cab,a.hd,a.frames,a.stk,a.exf,a.bs,a.bsz,a.noex,a.exfs,a.funs,a.frf⟩
section
variable {X:Cx}{XaV:Qc}{σ:St}{H:Hp}{s:Shared}{E:Qb}
def Qr.wish (I:Qr X XaV σ H s)(E:Qb):Qr (X.wish E) XaV σ H s:=⟨I.ok.wish E,I.os,I.bare,I.base,I.loc,I.cell,I.free,I.freeC,I.pin,I.hok,I.len⟩
def Qr.unwish (I:Qr (X.wish E) XaV σ H s):Qr X XaV σ H s:=⟨I.ok.unwish,I.os,I.bare,I.base,I.loc,I.cell,I.free,I.freeC,I.pin,I.hok,I.len⟩
def SP.unwish  (h:SP (X.wish E) XaV D f s'):SP X XaV D f s':=by
 cases f with
 |next=>obtain⟨a,b,I,q⟩:=h;exact⟨a,b,I.unwish,q⟩
 |brk=>obtain⟨a,b,I,q⟩:=h;exact⟨a,b,I.unwish,q⟩
 |cont=>obtain⟨a,b,I,q⟩:=h;exact⟨a,b,I.unwish,q⟩
 |ret u=>obtain⟨v,a,b,I,r,q⟩:=h;exact⟨v,a,b,I.unwish,r,q⟩
def PSs.nox {st:List Stmt}{t:TS}(h:PSs X.nox st t):PSs X st t:=fun XaV s σ H D I a =>
 wpAny_mono (h XaV s σ H D (I.wish _) a) (fun _ _ q=>q.unwish) fun _ _ z=>False.elim z
end
section
variable {X:Cx}{st:Stmt}{rest:List Stmt}{t u:TS}{e:Expr}{te:TE}{pos:Pos}
def NF:TS:=fun D a H=>D.nx a H
def WH (t u:TS):TS:=fun D a H=>t { D with nx:=u D } a H
def Zr:PSs X [] NF:=fun _ _ a H _ I h=>wpAny_execs_nil ⟨a,H,I,h⟩
def Q3 (i:PS X st t)(g:PSs X rest u):PSs X (st::rest) (WH t u):=by
 intro a s c H D I h;refine wpAny_execs_cons (Q9 (i a s c H { D with nx:=u D } I h) fun f d q=>?_)
 cases f with
 |next =>
   obtain⟨b,k,j,q⟩:=q;exact g a d b k D j q
 |ret v=>exact q
 |brk=>exact q
 |cont=>exact q
def Q4 (c:PS X st t):PSs X [st] t:=by
 intro a s b H D I h;refine wpAny_execs_cons (Q9 (c a s b H D I h) fun f d q=>?_)
 cases f with
 |next=>exact wpAny_execs_nil q
 |ret v=>exact q
 |brk=>exact q
 |cont=>exact q
def Qr.quiet {a:Qc}{b:St}{H:Hp}{s:Shared}(I:Qr X a b H s):interactive X.env=false:=by simp[interactive,I.ok.kind]
def Vt (te:TE):TS:=fun D a H=>te a H fun _ b=>D.nx a b
def Z2 (f:PE X e te)(d:swapsWith e none pos.line X.env=pure false:=by rfl):PS X (.Expr e pos) (Vt te):=by
 intro a s b H D I h;refine wpAny_Expr_any (Q9 (f a s b H _ I h) ?_) I.quiet d;rintro v j ⟨x,i,g,k,c⟩;exact⟨b,i,g,c⟩
def Y9 (te:TE):TS:=fun D a H=>te a H D.rt
def QN (f:PE X e te):PS X (.Return (some e) pos) (Y9 te):=by
 intro a s b H D I h;refine wpAny_Return_some (Q9 (f a s b H _ I h) ?_);rintro v j ⟨x,i,g,c,d⟩;exact⟨x,b,i,g,c,d⟩
def Gc (c:TT)(t u:TS):TS:=fun D a H=>c a H fun b d=>if b=true then t D a d else u D a d
def Zq  (m:PT X c tc)(o:PSs X a t)(n:PSs X b u):PS X (.If c a b pos) (Gc tc t u):=by
 intro f s g H D I h;refine wpAny_If (Q9 (m f s g H _ I h) ?_);rintro d i ⟨l,k,j⟩
 cases d with
 |true=>exact o f i g l D k j
 |false=>exact n f i g l D k j
def LW:TS:=fun _ _ _=>False
def Hn:PS X st LW:=fun _ _ _ _ _ _ h=>h.elim
end
abbrev TG:=V->St->Hp->(St->Hp->Prop)->Prop
abbrev TGs:=List V->St->Hp->(St->Hp->Prop)->Prop
def PG (X:Cx)(a:Expr)(t:TG):Prop :=
 ∀(c:Qc) (s:Shared) (d:St) (H:Hp) (v:V) (u:Value) (Q:St->Hp->Prop),Qr X c d H s->QK v u->t v d H Q ->
  wpAny (model X.prog X.w) X.A (assign a X.env u) (fun _ f=>∃b e,Qr X c b e f/\Q b e) X.xe s
def PGs (X:Cx)(ts:Qi)(t:TGs):Prop :=
 ∀(b:Qc) (s:Shared) (c:St) (H:Hp) (d:List V) (e:Qe) (Q:St->Hp->Prop),Qr X b c H s->QS d e->t d c H Q ->
  wpAny (model X.prog X.w) X.A (assignInOrder ((assignEach ts X.env).map (·.2)) e) (fun _ g=>∃a f,Qr X b a f g/\Q a f) X.xe s
abbrev MI:=V->V->V->Hp->(Hp->Prop)->Prop
def MF (X:Cx)(t:MI):Prop :=
 ∀(a:Qc) (s:Shared) (b:St) (H:Hp) (o i v:V) (c d u:Value) (Q:Hp->Prop),Qr X a b H s->QK o c->QK i d->QK v u->t o i v H Q ->
  wpAny (model X.prog X.w) X.A (setItem c d u) (fun _ f=>∃e,Qr X a b e f/\Q e) X.xe s
abbrev TIp:=V->V->Hp->VK->Prop
def PIp (X:Cx)(op:Operator)(t:TIp):Prop :=
 ∀(a:Qc) (s:Shared) (b:St) (H:Hp) (x y:V) (v u:Value) (Q:VK),Qr X a b H s->QK x v->QK y u->t x y H Q ->
  wpAny (model X.prog X.w) X.A (inplaceOp op v u) (EP X a b Q) X.xe s
section
variable {X:Cx}{pos:Pos}
def Vc (i:Nat):TG:=fun v a H Q=>Q (a.set i<|some v) H
def QX  (d:X.N.Nodup)(b:X.N[i]?=some x)(a:Loc X.env.scope x)(c:X.fn x=true\/X.env.scope.names.lookup x=some .local:=by first|exact .inl rfl|exact .inr rfl|assumption):PG X (.Name x pos) (Vc i):=by
 intro e s g H v u Q I r h;exact wpAny_assign_Name (BI I d b a r (fun j f=>⟨_,H,f,h⟩) c)
def MT:TGs:=fun b a H Q=>b=[]/\Q a H
def Dj (t:TG)(u:TGs):TGs:=fun c b H Q=>∃v r,c=v::r/\t v b H fun a d=>u r a d Q
def Wu:PGs X [] MT:=by
 intro b s a H c d Q I r h;obtain⟨e,h⟩:=h;subst e;cases r;exact assignInOrder_nil ⟨a,H,I,h⟩
def ZQ   (k:PG X e t)(j:PGs X es u)
 (i:(assignEach (e::es) X.env).map (·.2)=assign e X.env::(assignEach es X.env).map (·.2):=by rfl):PGs X (e::es) (Dj t u):=by
 intro a s c H o q Q I r h;obtain⟨v,p,l,h⟩:=h;subst l;cases r with
 |cons r f =>
   rw[i];refine assignInOrder_cons (Q9 (k a s c H _ _ _ I r h) ?_);rintro _ d ⟨b,n,m,g⟩;exact j a d b n _ _ Q m f g
def MM (K:W.Frag)(n:Nat)(t:TGs):TG:=fun v c H Q=>∃a b,v=.ref a/\SqT K H a b/\b.length=n/\t b c H Q
def Js {es:Qi}{k:Nat}{t:TGs}{n:Nat}(x:X.calm=true)(h:PGs X es t)
 (hn:(assignEach es X.env).length=n:=by rfl) (f:(assignEach es X.env).findIdx? (·.1)=none:=by rfl):PG X (.Tuple es k pos) (MM X.K n t):=by
 intro c s g H v u Q I r d;obtain⟨a,j,z,q,w,d⟩:=d;subst z;cases r;obtain⟨l,i,p,B⟩:=I.tuple q;refine assign_Tuple_tuple (I.ok.hd x) p (by simp[hn,<- w,i.length]) f fun y m=>?_;have A:Qr X c g H { s with heap:=y }:=I.kept (t':=s.toks) fun b o e=>m b o (Xu<|Xk e) e;exact h c _ g H j _ Q A (by simpa using i) d
def Bm (b c:TE)(t:MI):TG:=fun v a H Q=>b a H fun o f=>c a f fun i e=>t o i v e fun d=>Q a d
def WN  (p:PE X o to)(q:PE X i ti)(n:MF X t)
 (w:∀v,assign (.Subscript o i pos) X.env v=(do
  let b <- holding [v] (eval o X.env)
  let c <- holding [v,b] (eval i X.env)
  standAt pos
  holding [v,b,c] (setItem b c v)
  release [v,b,c] []):=by intro _;rfl):PG X (.Subscript o i pos) (Bm to ti t):=by
 intro a s d H v u Q I r h;rw[w];refine Xc (wpAny_holding<|Q9 (p a s d H _ I h) ?_);rintro b f ⟨x,E,B,j,m⟩;refine Xc (wpAny_holding<|Q9 (q a f d E _ B m) ?_);rintro c e ⟨y,D,A,g,l⟩;refine Xc (wpAny_standAt<|Xc<|wpAny_holding<|Q9 (n a e d D x y v b c u _ A j g r l) ?_);rintro _ F ⟨C,z,k⟩;exact wpAny_release ⟨d,C,z,k⟩
def Vb (b:TE)(g:TG):TS:=fun D a H=>b a H fun x c=>g x a c D.nx
def Y1  (k:PE X e te)(j:PG X tg g)(i:swapsWithSole [tg] e pos.line X.env=pure false:=by rfl)(hw:swappedStores [tg] e X.env=pure none:=by rfl)
 (l:(assignEach [tg] X.env).map (·.2)=[assign tg X.env]:=by rfl):PS X (.Assign [tg] e pos) (Vb te g):=by
 intro a s b H D I h;refine wpAny_Assign_stores (Q9 (k a s b H _ I h) ?_) i hw;rintro v c ⟨x,n,m,d,f⟩;rw[l];exact Q9 (j a c b n x v _ m d f) fun _ o q=>q
def QW   (m:X.N.Nodup)(j:X.N[i]?=some x)(f:Loc X.env.scope x)(l:PE X e te)(g:swapsWith e (some<|.Name x pos') pos.line X.env=pure false:=by rfl)(k:X.fn x=true\/X.env.scope.names.lookup x=some .local:=by first|exact .inl rfl|exact .inr rfl|assumption) :
 PS X (.Assign [.Name x pos'] e pos) (Vb te<|Vc i):=by
 intro a s b H D I h;refine wpAny_Assign_Name (Q9 (l a s b H _ I h) ?_) g;rintro v r ⟨y,p,o,c,d⟩;exact BI o m j f c (fun q n=>⟨_,p,n,d⟩) k
def Bt (e f g:TE)(b:V->V->Hp->VK->Prop)(d:TIp)(a:MI):TS:=fun D c H=>e c H fun o n=>f c n fun i m=>b o i m fun x l=>g c l fun y k=>d x y k fun z j=>a o i z j fun h=>D.nx c h
def Nm (X:Cx)(t:V->V->Hp->VK->Prop):Prop :=
 ∀(a:Qc) (s:Shared) (b:St) (H:Hp) (o i:V) (c d:Value) (Q:VK),Qr X a b H s->QK o c->QK i d->t o i H Q ->
  wpAny (model X.prog X.w) X.A (getItem c d) (EP X a b Q) X.xe s
noncomputable def UC    (N:PE X o to)(O:PE X i ti)(P:Nm X tget)(Q:PE X e te)(M:PIp X op tip)(L:MF X tset)
 (R:∀d f a,augStore i d f a=(do holding [a,d,f] (setItem d f a);release [a,d,f] [];pure .next):=by intros;rfl):PS X (.AugAssign (.Subscript o i tpos) op e pos) (Bt to ti te tget tip tset):=by
 intro b s c H D I h;refine wpAny_AugAssign_SubscriptAny (Q9 (N b s c H _ I h) ?_) R;rintro d x ⟨k,H1,Z,m,J⟩;refine Q9 (O b x c H1 _ Z J) ?_;rintro f w ⟨j,H2,Y,l,G⟩;refine Q9 (P b w c H2 k j d f _ Y m l G) ?_;rintro g u ⟨q,H3,W,A,F⟩;refine Q9 (Q b u c H3 _ W F) ?_;rintro v t ⟨p,H4,U,z,E⟩;refine Q9 (M b t c H4 q p g v _ U A z E) ?_;rintro a r ⟨n,H5,T,y,C⟩;refine Q9 (L b r c H5 k j n d f a _ T m l y C) ?_;rintro _ s6 ⟨H6,S,B⟩;exact⟨c,H6,S,B⟩
def ipI (f:Int->Int->Int):TIp:=fun x y H Q=>∃i j,x=.int i/\y=.int j/\Q (.int<|f i j) H
def G4:PIp X .Add (ipI fun i j=>i+j):=by
 intro e s f H x y v u Q I b a h;obtain⟨i,j,d,c,q⟩:=h;subst d;subst c;obtain⟨t,rfl⟩:=b;obtain⟨g,rfl⟩:=a;exact iadd_int ⟨.int _,H,I.tok _,⟨_,rfl⟩,q⟩
def Fg:PIp X .Sub (ipI fun i j=>i-j):=by
 intro e s f H x y v u Q I b a h;obtain⟨i,j,d,c,q⟩:=h;subst d;subst c;obtain⟨t,rfl⟩:=b;obtain⟨g,rfl⟩:=a;exact isub_int ⟨.int _,H,I.tok _,⟨_,rfl⟩,q⟩
end
section
variable {X:Cx}{pos:Pos}
def RH (c:TT)(h:TS):TS:=fun D a H=>∃W:Nat->St->Hp->Prop,(∃m,W m a H)/\∀m a H,W m a H ->
 c a H fun b f=>if b=true then ∃N:St->Hp->Prop,(∀d g,N d g->∃e,e<m/\W e d g)/\h { D with nx:=N,ct:=N,bk:=D.nx } a f else D.nx a f
def Hj   (t:PassesOwn (model X.prog X.w) X.A X.env X.xe)(L:PT X c tc)(M:PSs X body tb):PS X (.While c body [] pos) (RH tc tb):=by
 intro e s A H D I h;obtain⟨W,⟨J,C⟩,i⟩:=h;refine wpAny_While (codeAny_whileLoop (fun n G=>∃g z,Qr X e g z G/\W n g z) ?_ J ⟨A,H,I,C⟩)
 rintro n F ⟨d,y,O,B⟩
 refine wpAny_passesOwn t (Q9 (L e F d y _ O<|i n d y B) ?_);rintro b E ⟨x,w,l⟩
 cases b with
 |true =>
   obtain⟨N,u,l⟩:=l;rw[Xd rfl];refine wpAny_passesOwn t (Q9 (M e E d x _ w l) fun f P k=>?_)
   cases f with
   |next =>
     obtain⟨a,j,r,o⟩:=k;obtain⟨p,q,m⟩:=u a j o
     exact⟨p,q,a,j,r,m⟩
   |cont =>
     obtain⟨a,j,r,o⟩:=k;obtain⟨p,q,m⟩:=u a j o
     exact⟨p,q,a,j,r,m⟩
   |brk=>exact k
   |ret v=>exact k
 |false =>
   rw[Xa Xw];exact wpAny_execs_nil ⟨d,x,w,l⟩
end
structure It where
 go:Nat->Hp->Prop
 yld:Nat->Hp->V->Hp->Prop
 stop:Nat->Hp->Prop
def Yw (X:Cx)(a:Qc)(H:Hp)(b:Addr):Prop :=
 H b=none/\b≠X.env.locals/\b∉X.fs/\(b∈X.ex\/X.s₀.heap.objs.size<=b)/\(∀x c,X.env.cells.lookup x=some c->c≠b)/\∀p∈X.pn++a,p.1≠b
def Qr.fpOk {X:Cx}{d:Qc}{g:St}{H f:Hp}{s:Shared}{b:Addr}(I:Qr X d g H s)(a:s.heap.objs.size<=b)(hn:f b=none):Yw X d f b:=by
 refine⟨hn,Yh<|Xr I.lt a,I.nofs a,.inr<|X4 I.sz a,fun x c e z=>?_,fun p h z=>?_⟩
 .obtain⟨v,q⟩:=I.cell x c e
  exact Xm (Xr q.lt<|by rw[z];exact a) (Yv _)
 .exact Xm (Xr (Xk (I.pin p h).1)<|by rw[z];exact a) (Yv _)
structure Turn (P:Program)(w:World)(K:W.Frag)(tg:Expr)(J:It)(fp:Qg)(it:Addr)(tn:Nat->Heap->Prop):Prop where
 mem:it∈fp
 obj:∀i h,tn i h->∀b∈fp,∃o,h.get? b=some o/\∀v,o.data≠.cell v
 keep:∀i h h',tn i h->(∀b∈fp,∀o,h.get? b=some o->h'.get? b=some o)->tn i h'
 item:∀(X:Cx),X.prog=P->X.w=w->X.K=K->X.calm=true->∀(i:Nat) (XaV:Qc) (s:Shared) (σ:St) (H:Hp) (E:Qb),Qr X XaV σ H s->(∀b∈fp,Yw X XaV H b)->tn i s.heap->J.go i H ->
  wpAny (model P w) X.A (pyNext<|.ref it) (fun r s1=>∃u,r=some u /\
   wpAny (model P w) X.A (letOwnedTupleGo tg (.ref it) u) (fun _ s2=>∃x H',Qr X XaV σ H' s2/\QK x u/\J.yld i H x H'/\tn (i+1) s2.heap/\∀b∈fp,H' b=none) E s1) E s
 done:∀(X:Cx),X.prog=P->X.w=w->X.K=K->X.calm=true->∀(i:Nat) (XaV:Qc) (s:Shared) (σ:St) (H:Hp) (E:Qb),Qr X XaV σ H s->(∀b∈fp,Yw X XaV H b)->tn i s.heap->J.stop i H ->
  wpAny (model P w) X.A (pyNext<|.ref it) (fun r s1=>r=none/\Qr X XaV σ H s1) E s
 self:∀(A:Around) (i:Nat) (s:Shared) (Q:Qb) (E:Qb),tn i s.heap->Q (.ref it) s->wpAny (model P w) A (pyIter<|.ref it) Q E s
abbrev TI:=St->Hp->(It->Hp->Prop)->Prop
def PIE (X:Cx)(a:Qc)(i:St)(j:Expr)(R:It->Hp->Prop)(c:Value)(f:Shared):Prop :=
 ∃(g:Addr) (h:Qg) (e:Nat->Heap->Prop) (J:It) (d:Hp),c=.ref g/\Qr X a i d f/\Turn X.prog X.w X.K j J h g e/\e 0 f.heap/\(∀b∈h,Yw X a d b)/\R J d
def PI (X:Cx)(c iter:Expr)(wi:TI):Prop :=
 ∀(a:Qc) (s:Shared) (b:St) (H:Hp) (R:It->Hp->Prop),Qr X a b H s->wi b H R ->
  wpAny (model X.prog X.w) X.A (eval iter X.env) (fun v d=>wpAny (model X.prog X.w) X.A (pyIter v) (PIE X a b c R) X.xe d) X.xe s
def Uy      (b:s.heap.get? it=some o)(d:o.cls=.type n)(c:o.data=.fields vs)
 (hn:["enumerate","zip","dict_itemiterator","dict_reverseitemiterator","odict_iterator","itertools.zip_longest","itertools.pairwise"].contains n=false) (a:Q () s):wpAny M A (letOwnedTupleGo tg (.ref it) u) Q E s:=by
 unfold letOwnedTupleGo;cases tg<;>first
  |exact Xq a
  | (cases u<;>first
   |exact Xq a
   | (refine Xc (wpAny_load b ?_)
      rw[d,c];show wpAny M A (if (["enumerate","zip","dict_itemiterator","dict_reverseitemiterator","odict_iterator","itertools.zip_longest","itertools.pairwise"].contains n&&vs[0]?==some (rawInt _))=true then _ else _) Q E s;rw[Xa<|by intro h;rw[hn,Bool.false_and]at h;cases h];exact Xq a))
def Itl (K:W.Frag)(a:Addr):It :=
 ⟨fun i H=>∃b x,SqL K H a b/\b[i]?=some x,fun i H x c=>c=H/\∀b,SqL K H a b->b[i]?=some x,fun i H=>∃b,SqL K H a b/\b.length<=i⟩
noncomputable def Itt (K:W.Frag)(a:Addr):It :=
 ⟨fun i H=>∃b x,SqT K H a b/\b[i]?=some x,fun i H x c=>c=H/\∀b,SqT K H a b->b[i]?=some x,fun i H=>∃b,SqT K H a b/\b.length<=i⟩
def Itr (lo:Int)(n:Nat):It:=⟨fun i _=>i<n,fun i H x a=>a=H/\x=.int (lo+i),fun i _=>n<=i⟩
theorem Ii {P:Program}{w:World}{K:W.Frag}{Q:Expr}(a it:Addr):Turn P w K Q (Itl K a) [it] it (fun i h=>h.IsListIter it a i) where
 mem:=by simp
 obj:=fun i h f b g=>by
  have e:b=it:=by simpa using g
  subst e;obtain⟨o,e,c,d⟩:=f
  exact⟨o,e,fun v z=>by rw[d]at z;cases z⟩
 keep:=fun i h n f k=>f.at fun o e=>k it (by simp) o e
 item:=by
  intro X B y C N i l s M H E I m f A;subst B y C;obtain⟨O,x,hq,t⟩:=A;obtain⟨r,q,p,hz⟩:=I.list hq;obtain⟨u,U,S⟩:=q.get t;obtain⟨L,J,Y,G,F,D⟩:=m it (by simp);refine wpAny_pyNext_list_item f p.isList (x:=u) (by simpa using U) fun n j R=>?_;have I1:Qr X l M H { s with heap:=n }:=I.turned (t':=s.toks) (fun b o g e=>(R.2 b g).trans e) L J G F D;obtain⟨o,e,c,d⟩:=id j
  exact⟨u,rfl,Uy (s:={ s with heap:=n }) e c d (by decide) ⟨x,H,I1,S,⟨rfl,fun ys T=>by rw[I.list_inj T hq];exact t⟩,j,fun b g=>(m b g).1⟩⟩
 done:=by
  intro X B y C N i l s M H E I m f A;subst B y C;obtain⟨O,hq,t⟩:=A;obtain⟨r,q,p,hz⟩:=I.list hq;obtain⟨L,J,Y,G,F,D⟩:=m it (by simp);have hl:=q.length;exact wpAny_pyNext_list_end (I.ok.hd N) f p.isList (by simp;omega) fun n Z=>⟨rfl,I.turned (t':=s.toks) (fun b o g e=>Z b o g e) L J G F D⟩
 self:=fun _ _ _ _ _ f h=>wpAny_pyIter_listiter f h
theorem Oj {P:Program}{w:World}{K:W.Frag}{Q:Expr}(a it:Addr):Turn P w K Q (Itt K a) [it] it (fun i h=>h.IsTupleIter it a i) where
 mem:=by simp
 obj:=fun i h f b j=>by
  have e:b=it:=by simpa using j
  subst e;obtain⟨o,e,c,d⟩:=f
  exact⟨o,e,fun v z=>by rw[d]at z;cases z⟩
 keep:=fun i h q f k=>f.at fun o e=>k it (by simp) o e
 item:=by
  intro X B y C N i m s M H E I n f A;subst B y C;obtain⟨O,x,hq,t⟩:=A;obtain⟨g,r,p,hz⟩:=I.tuple hq;obtain⟨u,U,S⟩:=r.get t;obtain⟨L,J,Y,G,F,D⟩:=n it (by simp);refine wpAny_pyNext_tuple_item f (show s.heap.IsTuple a g.toArray from p) (x:=u) (by simpa using U) fun q l R=>?_;have I1:Qr X m M H { s with heap:=q }:=I.turned (t':=s.toks) (fun b o j e=>(R.2 b j).trans e) L J G F D;obtain⟨o,e,c,d⟩:=id l
  exact⟨u,rfl,Uy (s:={ s with heap:=q }) e c d (by decide) ⟨x,H,I1,S,⟨rfl,fun ys T=>by rw[I.tuple_inj T hq];exact t⟩,l,fun b j=>(n b j).1⟩⟩
 done:=by
  intro X B y C N i m s M H E I n f A;subst B y C;obtain⟨O,hq,t⟩:=A;obtain⟨g,r,p,hz⟩:=I.tuple hq;obtain⟨L,J,Y,G,F,D⟩:=n it (by simp);have hl:=r.length;exact wpAny_pyNext_tuple_end (I.ok.hd N) f (show s.heap.IsTuple a g.toArray from p) (by simp;omega) fun q Z=>⟨rfl,I.turned (t':=s.toks) (fun b o j e=>Z b o j e) L J G F D⟩
 self:=fun _ _ _ _ _ f h=>wpAny_pyIter_tupleiter f h
theorem IA {P:Program}{w:World}{K:W.Frag}{F:Expr}(it:Addr)(lo:Int)(n:Nat):Turn P w K F (Itr lo n) [it] it (fun i h=>IsRangeIter h it (lo+(i:Nat)*1) ((n:Int)-(i:Nat)) 1) where
 mem:=by simp
 obj:=fun i h a b c=>by
  have e:b=it:=by simpa using c
  subst e;exact⟨_,a,fun v z=>by
   have D:Data.fields _=Data.cell v:=z
   cases D⟩
 keep:=fun i h j a k=>k it (by simp) _ a
 item:=by
  intro X q l r p i f s C H E I g a m;subst q l r;obtain⟨B,A,L,y,x,u⟩:=g it (by simp);have W:=Walks.range (prog:=X.prog) (w:=X.w) (I.ok.hd p) it lo 1 n;refine W.item i s _ _ m a fun v j tk J d G=>?_;obtain⟨t,rfl⟩:=J;have N:Qr X f C H { s with heap:=j,toks:=tk }:=I.turned (fun b o c e=>G b o (by simpa using c) e) B A y x u;refine⟨_,rfl,Uy (s:={ s with heap:=j,toks:=tk }) (n := "range_iterator") d rfl rfl (by decide) ⟨.int<|lo+i,H,N,⟨t,?_⟩,⟨rfl,rfl⟩,d,fun b c=>(g b c).1⟩⟩;rw[Int.mul_one]
 done:=by
  intro X q l r p i f s C H E I g a m;subst q l r;obtain⟨B,A,L,y,x,u⟩:=g it (by simp);exact wpAny_pyNext_range_end (I.ok.hd p) a (by have:n<=i:=m;omega) fun j M=>⟨rfl,I.turned (t':=s.toks) (fun b o c e=>M b o c e) B A y x u⟩
 self:=fun _ _ _ _ _ a h=>wpAny_pyIter_rangeiter a h
section
variable {X:Cx}{tg:Expr}
def Db (K:W.Frag)(e:TE):TI:=fun c H R=>e c H fun x b=>∃a,x=.ref a/\(∃d,SqL K b a d)/\R (Itl K a) b
def N4 (K:W.Frag)(e:TE):TI:=fun c H R=>e c H fun x b=>∃a,x=.ref a/\(∃d,SqT K b a d)/\R (Itt K a) b
def Wz  (n:PE X l tl):PI X tg l (Db X.K tl):=by
 intro f s g H R I h;refine Q9 (n f s g H _ I h) ?_;rintro v c ⟨x,t,d,i,j⟩;obtain⟨a,e,⟨u,m⟩,q⟩:=j;subst e;cases i;obtain⟨k,w,p,y⟩:=d.list m;refine wpAny_pyIter_list p.isList ?_;refine⟨c.heap.objs.size,[c.heap.objs.size],_,_,t,rfl,d.kept (t':=c.toks) fun b o e=>Xi _ e,Ii a _,⟨_,XF _ rfl,rfl,rfl⟩,fun b r=>?_,q⟩;have e:b=c.heap.objs.size:=by simpa using r
 subst e;exact d.fpOk (Xv _) (d.hok.fresh<|Xv _)
def Fu  (n:PE X l tl):PI X tg l (N4 X.K tl):=by
 intro g s i H R I h;refine Q9 (n g s i H _ I h) ?_;rintro v c ⟨x,t,d,j,k⟩;obtain⟨a,e,⟨u,m⟩,q⟩:=k;subst e;cases j;obtain⟨f,w,p,y⟩:=d.tuple m;refine wpAny_pyIter_tuple (show c.heap.IsTuple a f.toArray from p) ?_;refine⟨c.heap.objs.size,[c.heap.objs.size],_,_,t,rfl,d.kept (t':=c.toks) fun b o e=>Xi _ e,Oj a _,⟨_,XF _ rfl,rfl,rfl⟩,fun b r=>?_,q⟩;have e:b=c.heap.objs.size:=by simpa using r
 subst e;exact d.fpOk (Xv _) (d.hok.fresh<|Xv _)
def Pd {c:Qc}{d:St}{H:Hp}{s:Shared}{R:It->Hp->Prop}{E:Qb}{lo a:Int}{t u v:Tok}{f:Nat}(I:Qr X c d H s)(h1 : -(2^62)<=lo)(j:lo<2^62)(h3 : -(2^62)<=a)(i:a<2^62)
 (q:R (Itr lo (a-lo).toNat) H):wpAny (model X.prog X.w) X.A (pyIter<|.ref s.heap.objs.size) (PIE X c d tg R) E { s with heap:=s.heap.push { cls:=.type "range",data:=.fields #[.int lo t,.int a u,.int 1 v] },toks:=f }:=by
 refine wpAny_pyIter_range (IsRange.new ..) (small_one h1 j h3 i) ?_;have g:Qr X c d H { s with heap:=s.heap.push { cls:=.type "range",data:=.fields #[.int lo t,.int a u,.int 1 v] },toks:=f }:=I.kept fun b o e=>Xi _ e
 refine⟨(s.heap.push { cls:=.type "range",data:=.fields #[.int lo t,.int a u,.int 1 v] }).objs.size,[(s.heap.push { cls:=.type "range",data:=.fields #[.int lo t,.int a u,.int 1 v] }).objs.size],_,_,H,rfl,
  g.kept (t':=f) fun b o e=>Xi _ e,IA _ lo (a-lo).toNat,?_,fun b h=>?_,q⟩
 .have l:lo+((0:Nat):Int)*1=lo:=by simp
  have k:(((a-lo).toNat:Nat):Int)-((0:Nat):Int)=Builtin.Range.rangeSize lo a 1:=by rw[rangeSize_one];split<;>omega
  show IsRangeIter _ _ (lo+((0:Nat):Int)*1) ((((a-lo).toNat:Nat):Int)-((0:Nat):Int)) 1;rw[l,k];exact XF _ rfl
 .have e:b=(s.heap.push { cls:=.type "range",data:=.fields #[.int lo t,.int a u,.int 1 v] }).objs.size:=by simpa using h
  subst e;exact g.fpOk (Xv _) (g.hok.fresh<|Xv _)
def Gp (c:TA):TI:=fun a H R=>c a H fun b d=>∃j:Int,b=[.int j] /\ -(2^62)<=j/\j<2^62/\R (Itr 0 j.toNat) d
def NA (c:TA):TI:=fun a H R=>c a H fun b d=>∃i j:Int,b=[.int i,.int j]/\(-(2^62)<=i/\i<2^62 /\ -(2^62)<=j/\j<2^62)/\R (Itr i (j-i).toNat) d
def VW  (m:Gl X "range") (l:X.mg "range"=none) (n:PA X [a] ta) (k:starEach [a] X.env=[(false,eval a X.env)]:=by rfl):PI X tg (.Call (.Name "range" p) [a] [] pos) (Gp ta):=by
 intro c s d H R I h;refine Call_ (Jr I m l boot_range<|PyProof.Rows.callWith_type1 (Q9 (n pos c s d H _ I h) ?_) k rfl);rintro v w ⟨u,x,o,g,b⟩;obtain⟨j,e,b,i,q⟩:=b;subst e;cases g with
 |cons r f =>
   cases f
   obtain⟨t,rfl⟩:=r;exact call_range_1 (Pd o (by omega) (by omega) b i<|by simpa using q)
def Pz {a b:Expr} {l:TA} {p c:Pos} (z:Gl X "range") (y:X.mg "range"=none) (A:PA X [a,b] l) (x:starEach [a,b] X.env=[(false,eval a X.env),(false,eval b X.env)]:=by rfl) (d:starEach [b] X.env=[(false,eval b X.env)]:=by rfl) :
 PI X tg (.Call (.Name "range" p) [a,b] [] c) (NA l):=by
 intro k s m H R I h;refine Call_ (Jr I z y boot_range<|PyProof.Rows.callWith_type1 (Q9 (A c k s m H _ I h) ?_) (by rw[x,d])<|by rw[d];rfl);rintro D F ⟨C,G,B,n,g⟩;obtain⟨i,j,e,⟨g,w,v,u⟩,q⟩:=g;subst e;cases n with
 |cons r f =>
   cases f with
   |cons o f =>
     cases f
     obtain⟨t,rfl⟩:=r;obtain⟨E,rfl⟩:=o;exact call_range_2 (Pd B g w v u q)
def Ut (wi:TI)(g:TG)(f:TS):TS:=fun D a H=>wi a H fun J j=>∃W:Nat->Nat->St->Hp->Prop,(∃m,W 0 m a j)/\∀i m a H,W i m a H ->
 (J.stop i H/\D.nx a H)\/(J.go i H/\∃N:St->Hp->Prop,(∀b c,N b c->∃e,e<m/\W (i+1) e b c)/\∀x c,J.yld i H x c->g x a c fun d h=>f { D with nx:=N,ct:=N,bk:=D.nx } d h)
noncomputable def G0 (a:Qg)(h:Heap):Qc:=a.filterMap fun b=>(h.get? b).map fun o=>(b,o)
def Mm   (a:b∈fp)(e:h.get? b=some o):(b,o)∈G0 fp h:=List.mem_filterMap.mpr ⟨b,a,by rw[e];rfl⟩
def Il  {p:Addr×Obj}(a:p∈G0 fp h):p.1∈fp/\h.get? p.1=some p.2:=by
 obtain⟨b,c,e⟩:=List.mem_filterMap.mp a
 cases q:h.get? b with
 |none=>rw[q]at e;cases e
 |some o =>
   rw[q]at e;have d:(b,o)=p:=Option.some.inj e;subst d;exact⟨c,q⟩
def Qr.pinned {a:Qc}{f:St}{H:Hp}{s:Shared}{c:Qg}(I:Qr X a f H s)(k:∀b∈c,Yw X a H b)(j:∀b∈c,∃o,s.heap.get? b=some o/\∀v,o.data≠.cell v):Qr X (a++G0 c s.heap) f H s :=
 I.pins_of fun p i=>(Xy.mp i).elim (fun z=>I.pin p<|XV _ z) fun z=>by
  obtain⟨g,e⟩:=Il z;obtain⟨n,m,l,_⟩:=k p.1 g;obtain⟨o,h,d⟩:=j p.1 g;rw[e]at h;cases h;exact⟨e,n,m,l,d⟩
def Qr.unpinned {a pl:Qc}{b:St}{H:Hp}{s:Shared}(I:Qr X (a++pl) b H s):Qr X a b H s:=I.pins_of fun p c=>I.pin p (XV _<|Uj _ c)
def ZX    (G:PassesOwn (model X.prog X.w) X.A X.env X.xe)(hc:X.calm=true)(hi:PI X tg iter wi)(hg:PG X tg g)(p:PSs X body tb)
 (hs:∀x,foldedSetIterable iter X.env x=pure x:=by intro _;rfl):PS X (.For tg iter body [] pos) (Ut wi g tb):=by
 intro c s Z H D I h;refine wpAny_For (Q9 (hi c s Z H _ I h) fun v s1 h1=>Q9 h1 fun itv s2 h2=>?_) hs;obtain⟨it,M,tn,J,H2,e,I2,T,Q,f2,W,⟨m0,w0⟩,B⟩:=h2;subst e;have l:∀{y:Hp},(∀b∈M,y b=none)->∀b∈M,Yw X c y b:=fun hn b p=>⟨hn b p,(f2 b p).2⟩;refine codeAny_forLoop_any (fun n s'=>∃i k y,Qr X c k y s'/\tn i s'.heap/\(∀b∈M,y b=none)/\W i n k y) ?_ m0 ⟨0,Z,H2,I2,Q,fun b p=>(f2 b p).1,w0⟩
 rintro n s3 ⟨i,j,O,I3,E,L,w3⟩
 rcases B i n j O w3 with ⟨C,qn⟩|⟨go,N,hN,step⟩
 .refine wpAny_passesOwn G (Q9 (T.done X rfl rfl rfl hc i c s3 j O X.xe I3 (l L) E C) ?_);rintro r s4 ⟨S,I4⟩
  subst S;exact wpAny_execs_nil ⟨j,O,I4,qn⟩
 .refine wpAny_passesOwn G (Q9 (T.item X rfl rfl rfl hc i c s3 j O X.xe I3 (l L) E go) ?_);rintro r s4 ⟨u,S,h4⟩
  subst S;refine wpAny_passesOwn G (Q9 h4 ?_);rintro _ s5 ⟨x,H5,I5,r5,y5,A,U⟩;have Y:=I5.pinned (l U) (T.obj _ _ A);refine wpAny_passesOwn G (Q9 (hg _ s5 j H5 x u _ Y r5<|step x H5 y5) ?_);rintro _ s6 ⟨P,H6,I6,q6⟩;refine wpAny_passesOwn G (Q9 (p _ s6 P H6 _ I6 q6) fun f R z=>?_)
  have q:∀{a:St} {w:Hp},Qr X (c++G0 M s5.heap) a w R->N a w->∃m,m<n/\∃i k y,Qr X c k y R/\tn i R.heap/\(∀b∈M,y b=none)/\W i m k y:=fun{a w} t F=>by
   obtain⟨m',hm,w7⟩:=hN a w F;refine⟨m',hm,i+1,a,w,t.unpinned,T.keep _ _ _ A fun b p o e=>(t.pin (b,o)<|XV _<|XV _<|Mm p e).1,fun b p=>?_,w7⟩;obtain⟨o,e,d⟩:=T.obj _ _ A b p
   exact(t.pin (b,o)<|XV _<|XV _<|Mm p e).2.1
  cases f with
  |next=>obtain⟨a,w,t,F⟩:=z;exact q t F
  |cont=>obtain⟨a,w,t,F⟩:=z;exact q t F
  |brk=>obtain⟨a,w,t,z⟩:=z;exact⟨a,w,t.unpinned,z⟩
  |ret v=>obtain⟨x7,a,w,t,r7,z⟩:=z;exact⟨x7,a,w,t.unpinned,r7,z⟩
end
abbrev R2:=V->V->Hp->VK->Prop
def OpR (X:Cx)(f:Value->Value->Sem Value)(r:R2):Prop :=
 ∀(a:Qc) (s:Shared) (b:St) (H:Hp) (x y:V) (v u:Value) (Q:VK),Qr X a b H s->QK x v->QK y u->r x y H Q ->
  wpAny (model X.prog X.w) X.A (f v u) (EP X a b Q) X.xe s
def UnR (X:Cx)(f:Value->Sem Value)(r:V->Hp->VK->Prop):Prop :=
 ∀(a:Qc) (s:Shared) (b:St) (H:Hp) (x:V) (v:Value) (Q:VK),Qr X a b H s->QK x v->r x H Q ->
  wpAny (model X.prog X.w) X.A (f v) (EP X a b Q) X.xe s
def Z7 (X:Cx)(f:Value)(r:List V->Hp->VK->Prop):Prop :=
 ∀(a:Qc) (s:Shared) (b:St) (H:Hp) (c:List V) (d:Qe) (Q:VK),Qr X a b H s->QS c d->r c H Q ->
  wpAny (model X.prog X.w) X.A (call f d) (EP X a b Q) X.xe s
def Li (X:Cx)(r:V->Hp->(Bool->Hp->Prop)->Prop):Prop :=
 ∀(a:Qc) (s:Shared) (b:St) (H:Hp) (x:V) (v:Value) (Q:Bool->Hp->Prop),Qr X a b H s->QK x v->r x H Q ->
  wpAny (model X.prog X.w) X.A (truthy v) (TP X a b Q) X.xe s
def tOp (r:R2)(c b:TE):TE:=fun a H Q=>c a H fun x e=>b a e fun y d=>r x y d Q
def tUn (r:V->Hp->VK->Prop)(b:TE):TE:=fun a H Q=>b a H fun x c=>r x c Q
def rI (C:Int->Int->Prop)(g:Int->Int->V):R2:=fun x y H Q=>∃i j,x=.int i/\y=.int j/\C i j/\Q (g i j) H
def rI0 (g:Int->Int->V):R2:=fun x y H Q=>∃i j,x=.int i/\y=.int j/\Q (g i j) H
def rU (g:Int->V):V->Hp->VK->Prop:=fun x H Q=>∃i,x=.int i/\Q (g i) H
section
variable {X:Cx}{a b:Expr}{ta tb:TE}{pos:Pos}
def MG (q:PE X a ta)(p:PE X b tb){c:Qc}{s:Shared}{d:St}{H:Hp}{R:V->V->Hp->Prop}(I:Qr X c d H s)
 (h:ta d H fun x i=>tb d i fun y e=>R x y e) {Q:Qb} {f:Value->Value->Sem Value}
 (o:∀v u g x y e,Qr X c d e g->QK x v->QK y u->R x y e->wpAny (model X.prog X.w) X.A (f v u) Q X.xe g) :
 wpAny (model X.prog X.w) X.A (eval a X.env) (fun v t=>wpAny (model X.prog X.w) X.A (eval b X.env) (fun u r=>wpAny (model X.prog X.w) X.A (f v u) Q X.xe r) X.xe t) X.xe s:=by
 refine Q9 (q c s d H _ I h) ?_;rintro v j ⟨x,i,z,l,n⟩;refine Q9 (p c j d i _ z n) ?_;rintro u g ⟨y,e,w,k,m⟩;exact o v u g x y e w l k m
def QU  (i:OpR X (binaryOp op) r)(k:PE X a ta)(j:PE X b tb):PE X (.BinOp a op b pos) (tOp r ta tb):=by
 intro c s d H Q I h;exact wpAny_BinOp (MG k j I h fun v u e x y m l g f q=>i c e d m x y v u Q l g f q)
def Go  (i:UnR X (unaryOp op) r)(j:PE X a ta):PE X (.UnaryOp op a pos) (tUn r ta):=by
 intro c s d H Q I h;refine UnaryOp_ (Q9 (j c s d H _ I h) ?_);rintro v e ⟨x,l,k,f,g⟩;exact i c e d l x v Q k f g
def opI {f:Value->Value->Sem Value}{C:Int->Int->Prop}{g:Int->Int->Int}
 (c:∀(i j:Int) (t u:Tok) (s:Shared) (Q:Qb) (E:Qb),C i j->Q (.int (g i j) s.toks) { s with toks:=s.toks+1 }->wpAny (model X.prog X.w) X.A (f (.int i t)<|.int j u) Q E s) :
 OpR X f (rI C fun i j=>.int<|g i j):=by
 intro m s n H x y v u Q I k e h;obtain⟨i,j,rfl,rfl,l,q⟩:=h;obtain⟨t,rfl⟩:=k;obtain⟨d,rfl⟩:=e;exact c i j t d s _ _ l ⟨.int<|g i j,H,I.tok _,⟨_,rfl⟩,q⟩
def ML {f:Value->Value->Sem Value}{g:Int->Int->Int}
 (c:∀(i j:Int) (t u:Tok) (s:Shared) (Q:Qb) (E:Qb),Q (.int (g i j) s.toks) { s with toks:=s.toks+1 }->wpAny (model X.prog X.w) X.A (f (.int i t)<|.int j u) Q E s) :
 OpR X f (rI0 fun i j=>.int<|g i j):=by
 intro l s m H x y v u Q I k e h;obtain⟨i,j,rfl,rfl,q⟩:=h;obtain⟨t,rfl⟩:=k;obtain⟨d,rfl⟩:=e;exact c i j t d s _ _ ⟨.int<|g i j,H,I.tok _,⟨_,rfl⟩,q⟩
def MW {f:Value->Value->Sem Value}{g:Int->Int->Bool}
 (c:∀(i j:Int) (t u:Tok) (s:Shared) (Q:Qb) (E:Qb),Q (.bool<|g i j) s->wpAny (model X.prog X.w) X.A (f (.int i t)<|.int j u) Q E s) :
 OpR X f (rI0 fun i j=>.bl<|g i j):=by
 intro l s m H x y v u Q I k e h;obtain⟨i,j,rfl,rfl,q⟩:=h;obtain⟨t,rfl⟩:=k;obtain⟨d,rfl⟩:=e;exact c i j t d s _ _ ⟨.bl<|g i j,H,I,rfl,q⟩
def Nz (i j:Int):Prop:=0<=j/\j<=1000000/\i.natAbs<2^64
def Jc (i j:Int):Prop:=(-(2^64)<i/\i<2^64)\/(-(2^64)<j/\j<2^64)
def Jc.ok (h:Jc i j):IntMulOk i j:=by
 rcases h with ⟨d,c⟩|⟨d,c⟩
 .exact .of_left (intBits_le_64 d c)
 .exact .of_right (intBits_le_64 d c)
def ID (k:Nat):(0:Int)<=2^k:=by
 rw[two_pow_cast];exact Int.natCast_nonneg _
def Vx:OpR X (binaryOp .Add) (rI0 fun i j=>.int<|i+j):=ML fun _ _ _ _ _ _ _ q=>add_int q
def Ym:OpR X (binaryOp .Sub) (rI0 fun i j=>.int<|i-j):=ML fun _ _ _ _ _ _ _ q=>sub_int q
def U2:OpR X (binaryOp .Mult) (rI Jc fun i j=>.int<|i*j):=opI fun _ _ _ _ _ _ _ c q=>mul_int q c.ok
def Jq:OpR X (binaryOp .Mod) (rI (fun _ j=>0<j) fun i j=>.int<|i%j):=opI fun i j _ _ _ _ _ c q=>by
 have d:(0:Int)<j:=c;exact mod_int' (by omega) (by rw[Int.fmod_eq_emod_of_nonneg i<|by omega];exact q)
def DI:OpR X (binaryOp .Pow) (rI Nz fun i j=>.int<|i^j.toNat):=opI fun _ _ _ _ _ _ _ c q=>pow_int_small c.1 c.2.1 c.2.2 q
def LP:OpR X (binaryOp .RShift) (rI (fun _ j=>0<=j) fun i j=>.int<|i/2^j.toNat):=opI fun i j _ _ _ _ _ c q =>
 rshift_int c (by rw[Int.fdiv_eq_ediv_of_nonneg i<|ID _];exact q)
def DC:OpR X (binaryOp .BitXor) (rI0 fun i j=>.int<|Builtin.bitXor i j):=ML fun _ _ _ _ _ _ _ q=>xor_int q
def unI {f:Value->Sem Value}{g:Int->Int}
 (c:∀(i:Int) (t:Tok) (s:Shared) (Q:Qb) (E:Qb),Q (.int (g i) s.toks) { s with toks:=s.toks+1 }->wpAny (model X.prog X.w) X.A (f<|.int i t) Q E s) :
 UnR X f (rU fun i=>.int<|g i):=by
 intro e s j H x v Q I d h;obtain⟨i,rfl,q⟩:=h;obtain⟨t,rfl⟩:=d;exact c i t s _ _ ⟨.int<|g i,H,I.tok _,⟨_,rfl⟩,q⟩
def G3:UnR X (unaryOp .USub) (rU fun i=>.int (-i)):=unI fun _ _ _ _ _ q=>neg_int q
end
noncomputable def N9:V->V->Bool
 |.non,.non=>true|.non,.int _=>true|.int _,.non=>true|.non,.bl _=>true|.bl _,.non=>true|.non,.str _=>true|.str _,.non=>true
 |.int _,.int _=>true|.bl _,.bl _=>true|.str _,.str _=>true|.byt _,.byt _=>true
 |.int _,.str _=>true|.str _,.int _=>true|.bl _,.str _=>true|.str _,.bl _=>true
 |_,_=>false
def rEq:R2:=fun x y H Q=>N9 x y=true/\Q (.bl<|decide (x=y)) H
def rNe:R2:=fun x y H Q=>N9 x y=true/\Q (.bl<|!decide (x=y)) H
def RP:decide (V.int i=V.int j)=(i==j):=by
 rw[Bool.eq_iff_iff];simp
def R3:decide (V.bl i=V.bl j)=(i==j):=by
 rw[Bool.eq_iff_iff];simp
def Se:decide (V.str i=V.str j)=(i==j):=by
 rw[Bool.eq_iff_iff];simp
def Sz:decide (V.byt i=V.byt j)=(i.toList==j.toList):=by
 rw[Bool.eq_iff_iff];cases i
 cases j
 simp
section
variable {X:Cx}{a b c:Expr}{ta tb tc:TE}{pos:Pos}
def ZD {d:Qc}{f:St}{H:Hp}{s:Shared}{Q:VK}{k k':Bool}(I:Qr X d f H s)(q:Q (.bl k) H)(e:k=k'):EP X d f Q (.bool k') s:=by
 subst e;exact⟨.bl k,H,I,rfl,q⟩
def Br:OpR X (compareOp .Eq) rEq:=by
 intro k s l H x y v u Q I g d h;obtain⟨f,q⟩:=h
 cases x with
 |non =>
   cases g
   cases y with
   |non=>cases d;exact PySem.EqNone.eq_none_none (ZD I q<|by simp)
   |bl j=>cases d;exact PySem.EqNone.eq_none_bool (ZD I q<|by simp)
   |int j=>obtain⟨e,rfl⟩:=d;exact PySem.EqNone.eq_none_int (ZD I q<|by simp)
   |str j=>obtain⟨e,rfl⟩:=d;exact PySem.EqNone.eq_none_str (ZD I q<|by simp)
   |_=>exact Xm (show false=true from f) Xw
 |bl i =>
   cases g
   cases y with
   |non=>cases d;exact PySem.EqNone.eq_bool_none (ZD I q<|by simp)
   |bl j=>cases d;exact eq_bool (ZD I q R3)
   |str j=>obtain⟨e,rfl⟩:=d;exact PySem.EqMixed.eq_bool_str (ZD I q<|by simp)
   |_=>exact Xm (show false=true from f) Xw
 |int i =>
   obtain⟨t,rfl⟩:=g
   cases y with
   |non=>cases d;exact PySem.EqNone.eq_int_none (ZD I q<|by simp)
   |int j=>obtain⟨e,rfl⟩:=d;exact eq_int (ZD I q RP)
   |str j=>obtain⟨e,rfl⟩:=d;exact PySem.EqMixed.eq_int_str (ZD I q<|by simp)
   |_=>exact Xm (show false=true from f) Xw
 |str i =>
   obtain⟨t,rfl⟩:=g
   cases y with
   |non=>cases d;exact PySem.EqNone.eq_str_none (ZD I q<|by simp)
   |bl j=>cases d;exact PySem.EqMixed.eq_str_bool (ZD I q<|by simp)
   |int j=>obtain⟨e,rfl⟩:=d;exact PySem.EqMixed.eq_str_int (ZD I q<|by simp)
   |str j=>obtain⟨e,rfl⟩:=d;exact eq_str (ZD I q Se)
   |_=>exact Xm (show false=true from f) Xw
 |byt i =>
   obtain⟨t,rfl⟩:=g
   cases y with
   |byt j=>obtain⟨e,rfl⟩:=d;exact W.eq_bytes (ZD I q Sz)
   |_=>exact Xm (show false=true from f) Xw
 |_=>cases y<;>exact Xm (show false=true from f) Xw
def Bs:OpR X (compareOp .NotEq) rNe:=by
 intro k s l H x y v u Q I g d h;obtain⟨f,q⟩:=h
 cases x with
 |non =>
   cases g
   cases y with
   |non=>cases d;exact PySem.EqNone.ne_none_none (ZD I q<|by simp)
   |bl j=>cases d;exact PySem.EqNone.ne_none_bool (ZD I q<|by simp)
   |int j=>obtain⟨e,rfl⟩:=d;exact PySem.EqNone.ne_none_int (ZD I q<|by simp)
   |str j=>obtain⟨e,rfl⟩:=d;exact PySem.EqNone.ne_none_str (ZD I q<|by simp)
   |_=>exact Xm (show false=true from f) Xw
 |bl i =>
   cases g
   cases y with
   |non=>cases d;exact PySem.EqNone.ne_bool_none (ZD I q<|by simp)
   |bl j=>cases d;exact ne_bool (ZD I q<|X5 not R3)
   |str j=>obtain⟨e,rfl⟩:=d;exact PySem.EqMixed.ne_bool_str (ZD I q<|by simp)
   |_=>exact Xm (show false=true from f) Xw
 |int i =>
   obtain⟨t,rfl⟩:=g
   cases y with
   |non=>cases d;exact PySem.EqNone.ne_int_none (ZD I q<|by simp)
   |int j=>obtain⟨e,rfl⟩:=d;exact ne_int (ZD I q<|X5 not RP)
   |str j=>obtain⟨e,rfl⟩:=d;exact PySem.EqMixed.ne_int_str (ZD I q<|by simp)
   |_=>exact Xm (show false=true from f) Xw
 |str i =>
   obtain⟨t,rfl⟩:=g
   cases y with
   |non=>cases d;exact PySem.EqNone.ne_str_none (ZD I q<|by simp)
   |bl j=>cases d;exact PySem.EqMixed.ne_str_bool (ZD I q<|by simp)
   |int j=>obtain⟨e,rfl⟩:=d;exact PySem.EqMixed.ne_str_int (ZD I q<|by simp)
   |str j=>obtain⟨e,rfl⟩:=d;exact ne_str (ZD I q<|X5 not Se)
   |_=>exact Xm (show false=true from f) Xw
 |byt i =>
   obtain⟨t,rfl⟩:=g
   cases y with
   |byt j=>obtain⟨e,rfl⟩:=d;exact W.ne_bytes (ZD I q<|X5 not Sz)
   |_=>exact Xm (show false=true from f) Xw
 |_=>cases y<;>exact Xm (show false=true from f) Xw
def Wj:OpR X (compareOp .Lt) (rI0 fun i j=>.bl<|decide (i<j)):=MW fun _ _ _ _ _ _ _ q=>lt_int q
def Jm:OpR X (compareOp .LtE) (rI0 fun i j=>.bl<|decide (i<=j)):=MW fun _ _ _ _ _ _ _ q=>le_int q
def VJ:OpR X (compareOp .Gt) (rI0 fun i j=>.bl<|decide (j<i)):=MW fun _ _ _ _ _ _ _ q=>gt_int q
def Zx (b:Expr)(h:op≠.In:=by decide)(d:op≠.NotIn:=by decide):behindInMarks op b=false:=by
 have f:(op==CmpOp.In)=false:=by cases op<;>first|rfl|exact Xm rfl h
 have e:(op==CmpOp.NotIn)=false:=by cases op<;>first|rfl|exact Xm rfl d
 cases b<;>simp[behindInMarks,f,e]
def DP  (j:OpR X (compareOp op) r)(m:PE X a ta)(l:PE X b tb)(k:behindInMarks op b=false):PE X (.Compare a [op] [b] pos) (tOp r ta tb):=by
 intro d s e H Q I h;exact wpAny_Compare1 (MG m l I h fun v u f x y o n i g q=>j d f e o x y v u Q n i g q) k
def Gj (t:TE):TT:=fun d H Q=>t d H fun x e=>∃k,x=.bl k/\Q k e
def Z5  (q:OpR X (compareOp op) r)(A:PE X a ta)(w:PE X b tb)(t:behindInMarks op b=false):PT X (.Compare a [op] [b] pos) (Gj<|tOp r ta tb):=by
 intro d s f H Q I h;refine wpAny_isTrue_Compare1 (Q9 (A d s f H _ I h) fun v i ⟨x,G,D,m,p⟩=>Q9 (w d i f G _ D p) fun u g ⟨y,F,C,l,o⟩ =>
  Q9 (q d g f F x y v u _ C m l o) fun c J ⟨z,E,B,j,k,e,n⟩=>?_) t
 subst e;cases j;exact wpAny_truthy_bool ⟨E,B,n⟩
def DB (r g:R2)(ta tb tc:TE):TE:=fun d H Q=>ta d H fun x j=>tb d j fun y i=>r x y i fun z e=>∃k,z=.bl k /\
 (if k=true then tc d e fun f h=>g y f h Q else Q (.bl false) e)
def SR  (J:OpR X (compareOp op) r)(i:OpR X (compareOp op') r')(O:PE X a ta)(N:PE X b tb)(M:PE X c tc)
 (L:lastMarks [op,op'] [b,c]=false:=by with_unfolding_all rfl):PE X (.Compare a [op,op'] [b,c] pos) (DB r r' ta tb tc):=by
 intro f s g H Q I h;refine Compare_chain (Q9 (O f s g H _ I h) fun v A ⟨x,W,S,D,G⟩=>chain_link (Q9 (N f A g W _ S G) fun u w ⟨y,U,R,j,F⟩ =>
  Q9 (J f w g U x y v u _ R D j F) fun d t ⟨z,n,m,C,k,e,l⟩=>?_)) L
 subst e;cases C;refine wpAny_truthy_bool ?_
 cases k with
 |false=>exact ite_ff ⟨.bl false,n,m,rfl,l⟩
 |true=>exact ite_tt (chain_last<|Q9 (M f t g n _ m l)<|by rintro p q ⟨o,T,P,B,E⟩;exact i f q g T y o u p Q P j B E)
noncomputable def Ma  (N:OpR X (compareOp op) r)(i:OpR X (compareOp op') r')(S:PE X a ta)(R:PE X b tb)(P:PE X c tc)
 (O:lastMarks [op,op'] [b,c]=false:=by with_unfolding_all rfl):PT X (.Compare a [op,op'] [b,c] pos) (Gj<|DB r r' ta tb tc):=by
 intro f s g H Q I h;refine isTrue_chain (Q9 (S f s g H _ I h) fun v A ⟨x,H1,I1,E,L⟩=>test_link (Q9 (R f A g H1 _ I1 L) fun u w ⟨y,H2,Z,j,J⟩ =>
  Q9 (N f w g H2 x y v u _ Z E j J) fun d t ⟨z,n,m,D,k,e,l⟩=>?_)) O
 subst e;cases D;refine wpAny_truthy_bool ?_
 cases k with
 |false =>
   obtain⟨k',U,M⟩:=l
   cases U
   exact ite_ff ⟨n,m,M⟩
 |true =>
   refine ite_tt (test_last<|Q9 (P f t g n _ m l) ?_);rintro p q ⟨o,H4,Y,C,G⟩;refine Q9 (i f q g H4 y o u p _ Y j C G) ?_;rintro d' s5 ⟨z2,H5,W,B,k2,T,F⟩;subst T;cases B;exact wpAny_truthy_bool ⟨H5,W,F⟩
def MR (K:W.Frag)(x:V)(H:Hp)(k:Bool):Prop :=
 match x with
 |.non=>k=false
 |.bl b=>k=b
 |.int i=>k=(i != 0)
 |.str y=>y.length<=sizeLine/\k=((y.length:Int) != 0)
 |.byt y=>y.size<=sizeLine/\k=((y.size:Int) != 0)
 |.ref p=>(∃d,SqL K H p d/\k = !d.isEmpty)\/(∃d,SqT K H p d/\k = !d.isEmpty)\/∃e,H p=some (.dK e)/\k = !e.isEmpty
 |_=>False
def Os {d:Type}{kvs:List (d×V)}{vs:List (d×Value)}(r:KV kvs vs):(!vs.isEmpty) = !kvs.isEmpty:=by
 cases r<;>rfl
def Tm  (r:QS xs its):(!its.toArray.isEmpty) = !xs.isEmpty:=by
 cases r<;>simp
def JV:(sizeLine:Nat)<2^63:=by rw[sizeLine_eq];decide
def Fi:Li X (fun x H Q=>∃k,MR X.K x H k/\Q k H):=by
 intro C s D H x v Q I l h;obtain⟨k,e,q⟩:=h;have F:=JV;have E:sizeLine=16777216:=sizeLine_eq
 cases x with
 |non =>
   cases l
   have d:k=false:=e;subst d;exact truthy_none ⟨H,I,q⟩
 |bl b =>
   cases l
   have d:k=b:=e;subst d;exact wpAny_truthy_bool ⟨H,I,q⟩
 |int i =>
   obtain⟨t,rfl⟩:=l;have d:k=(i != 0):=e;subst d;exact PySem.P.truthy_int ⟨H,I,q⟩
 |str y =>
   obtain⟨t,rfl⟩:=l;obtain⟨A,d⟩:y.length<=sizeLine/\k=((y.length:Int) != 0):=e;subst d;exact PySem.P.truthy_str (by omega) ⟨H,I.tok _,q⟩
 |byt y =>
   obtain⟨t,rfl⟩:=l;obtain⟨A,d⟩:y.size<=sizeLine/\k=((y.size:Int) != 0):=e;subst d;exact W.truthy_bytes (by omega) ⟨H,I.tok _,q⟩
 |ref p =>
   cases l
   have d:(∃j,SqL X.K H p j/\k = !j.isEmpty)\/(∃j,SqT X.K H p j/\k = !j.isEmpty)\/∃f,H p=some (.dK f)/\k = !f.isEmpty:=e
   rcases d with ⟨j,n,d⟩|⟨j,n,d⟩|⟨f,n,d⟩
   .subst d
    obtain⟨w,r,u,z⟩:=I.list n;have g:=r.length;exact wpAny_truthy_list u.isList (by simp only[XD];omega) ⟨H,I.tok _,by rw[Tm r];exact q⟩
   .subst d
    obtain⟨w,r,u,z⟩:=I.tuple n;have g:=r.length;exact truthy_tuple u (by simp only[XD];omega) ⟨H,I.tok _,by rw[Tm r];exact q⟩
   .subst d
    obtain⟨z,B,o,r,m⟩:f.length<=sizeLine/\(p==sysModules)=false/\∃o,KV f o/\s.heap.DictOf (ZF X.prog X.w) p o:=I.hok p _ n;have g:f.length=o.length:=Paired.length r;exact wpAny_truthy_dict B m (by omega) ⟨H,I.tok _,by rw[Os r];exact q⟩
 |_=>exact(show False from e).elim
def A5 (n:PE X a ta)(m:∀d,isTrue a X.env d=(do let v <- d;standAt a.pos;holding [v] (truthy v))) :
 PT X a (fun f H Q=>ta f H fun x g=>∃k,MR X.K x g k/\Q k g):=by
 intro e s f H Q I h;refine isTrue_plain (Q9 (n e s f H _ I h) ?_) (m _);rintro v i ⟨x,p,o,j,l⟩;exact Fi e i f p x v Q o j l
def YD  (r:QS [x] us):∃u,us=[u]/\QK x u:=by
 cases r with
 |cons e d=>cases d;exact⟨_,rfl,e⟩
def Gk  (r:QS [x,y] us):∃u d,us=[u,d]/\QK x u/\QK y d:=by
 cases r with
 |cons h g =>
   cases g with
   |cons f e=>cases e;exact⟨_,_,rfl,h,f⟩
def Ic (e:X.calm=true):Z7 X (.builtin "max") (fun xs H Q=>∃i j,xs=[.int i,.int j]/\Q (.int (if j > i then j else i)) H):=by
 intro f s g H xs m Q I r h;obtain⟨i,j,rfl,q⟩:=h;obtain⟨u,l,rfl,⟨t,rfl⟩,⟨o,rfl⟩⟩:=Gk r;refine max_two_ints (I.ok.hd e) fun p n k=>⟨_,H,I.kept k,?_,q⟩
 by_cases d:j > i
 .rw[Xd d,Xd d];exact⟨_,rfl⟩
 .rw[Xa d,Xa d];exact⟨_,rfl⟩
def Is (e:X.calm=true):Z7 X (.builtin "min") (fun xs H Q=>∃i j,xs=[.int i,.int j]/\Q (.int (if j<i then j else i)) H):=by
 intro f s g H xs m Q I r h;obtain⟨i,j,rfl,q⟩:=h;obtain⟨u,l,rfl,⟨t,rfl⟩,⟨o,rfl⟩⟩:=Gk r;refine min_two_ints (I.ok.hd e) fun p n k=>⟨_,H,I.kept k,?_,q⟩
 by_cases d:j<i
 .rw[Xd d,Xd d];exact⟨_,rfl⟩
 .rw[Xa d,Xa d];exact⟨_,rfl⟩
def IW:Z7 X (.type "int") (fun xs H Q=>(∃i,xs=[.int i]/\Q (.int i) H)\/∃k,xs=[.bl k]/\Q (.int (if k then 1 else 0)) H):=by
 intro e s f H xs g Q I r h;rcases h with ⟨i,rfl,q⟩|⟨k,rfl,q⟩
 .obtain⟨u,rfl,t,rfl⟩:=YD r
  exact call_int_int ⟨.int i,H,I,⟨_,rfl⟩,q⟩
 .obtain⟨u,rfl,d⟩:=YD r
  cases d
  exact call_int_bool ⟨.int (if k then 1 else 0),H,I.tok _,⟨_,rfl⟩,q⟩
end
structure ObjM (h:Heap)(x dx C:Addr)(mA:Str->Qf):Prop where
 obj:h.get? x=some (W.instObj C dx)
 ns:h.Ns1 dx mA
 ne:dx≠x
def PU {h:Heap}  (n:h.Ns1 dx mA):∃od,h.get? dx=some od/\∀name,W.lookIn name od=some (mA name):=by
 obtain⟨o,c,l,f,j,i,_,g⟩:=n;refine⟨o,f,fun name=>?_⟩;have e:=g name;unfold nsFind findBy at e;rw[<- Array.find?_toList]at e;unfold W.lookIn;rw[j];dsimp only;split
 .rename_i y q
  rw[q]at e;exact X5 some e
 .rename_i q
  rw[q]at e;have a:c.toList.any (·.refKey)=false:=by
   rw[List.any_eq_false];intro y d;obtain⟨z,t,b⟩:=i y (Array.mem_toList_iff.mp d)
   simp[DictEntry.refKey,b]
  have k:¬c.toList.any (·.refKey)=true:=by rw[a];exact Xw
  rw[Xa k];exact X5 some e
def ObjM.look  (I:ObjM h x dx C mA):∃od,W.InstAt h x (W.instObj C dx) C (some od)/\∀name,W.lookIn name od=some (mA name) :=
 let ⟨od,ho,hl⟩:=PU I.ns
 ⟨od,⟨I.obj,rfl,rfl,ho⟩,hl⟩
section
variable {prog:Program}{w:World}{A:Around}{E:Qb}{s:Shared}{K:W.Frag}{x dx C f:Addr}{mA:Str->Qf}{name:Str}{v:Value}
def Cc  (X:K.In s.heap)(I:ObjM s.heap x dx C mA)(e:W.plainGet K C name=true)(d:W.hasDictIn K C=true)
 (g:W.findIn K (.ref C) name=some none) (b:mA name=some v) (a:W.handedIn v=true) (h:Q v { s with toks:=s.toks+1 }) :
 wpAny (model prog w) A (getAttr (.ref x) name expr) Q E s:=by
 obtain⟨i,J,c⟩:=I.look;exact W.get_value X J (W.plainGet_of e).1 (W.findObj_own d g rfl (by rw[c,b])) a h
def Eh  (X:K.In s.heap)(I:ObjM s.heap x dx C mA)(a:W.plainGet K C name=true)
 (g:W.findIn K (.ref C) name=some (some<|.ref f)) (d:W.isFn K (.ref f)=true) (c:mA name=none) (h:Q (.ref f,[.ref x]) s) :
 wpAny (model prog w) A (getMethod (.ref x) name pl) Q E s:=by
 obtain⟨b,J,e⟩:=I.look;exact W.method_fn X J (W.plainGet_of a).1 (W.plainGet_of a).2 g (beq_iff_eq.mp d) (by show(W.lookIn name b).map (·.isSome)=some false;rw[e,c];rfl) h
def Fc  (X:K.In s.heap)(I:ObjM s.heap x dx C mA)
 (m:W.findIn K (.ref C) "__setattr__"=some (some<|.builtin "object.__setattr__")) (n:W.plainOver K C=true) (l:W.takerIn K C name=some none) (o:W.hasDictIn K C=true)
 (hw:PySem.Within mA ns) (hsz:ns.length<=sizeLine)
 (h:∀h',ObjM h' x dx C (fun y=>if y=name then some v else mA y)->Heap.SameBut dx s.heap h'->Q () { s with heap:=h',toks:=s.toks+2 }) :
 wpAny (model prog w) A (setAttr (.ref x) name v) Q E s:=by
 obtain⟨u,J,B⟩:=I.look;refine W.set_plain X J m (W.osa_open (s:={ s with toks:=s.toks+1 }) (r:=none) X J n l fun b=>?_);obtain⟨D,p,i⟩:=W.any_some o;have k:s.heap.get? x=some ⟨.ref C,some dx,.plain,#[]⟩:=I.obj;refine Xc (Xq<|Xc<|Xc<|wpAny_loadPart k<|Xc<|W.Looks.here (s:={ s with toks:=s.toks+1 }) (W.looks_clsIn X p) ?_);rw[i];refine Xq (a:=some dx) (Xc<|Xq<|Xc ?_);refine wpAny_nsSet1 (s:={ s with toks:=s.toks+1 }) I.ns fun h' d c=>?_;obtain⟨z,q,t,e,g,j⟩:=d.count (PySem.Within.cons name v hw);refine Xc (wpAny_lookBehind e (by rw[g];exact pastItsLine_dict<|X4 j<|by rw[XS];omega) ?_);exact Xq (h _ ⟨(c.2 _<|Ne.symm I.ne).trans I.obj,d,I.ne⟩ c)
def AN  (X:K.In s.heap)(b:W.makesIn K C=true)
 (c:W.findIn K (.ref C) "__init__"=some (some<|.ref f)) (e:W.typeIn K (.ref f)=some (.type "function"))
 (h:codeAny (model prog w) (A.under<|.builtin "type.__call__" ⟨.ref C::vs,kw⟩) (.call (.ref f) ⟨.ref (s.heap.objs.size+1)::vs,kw⟩) (W.InitBack (s.heap.objs.size+1) R)
  { s with heap:=(s.heap.push W.emptyDict).push (W.instObj C s.heap.objs.size) }) :
 codeAny (model prog w) A (.call (.ref C) ⟨vs,kw⟩) R s:=by
 obtain⟨j,g,d,t,i⟩:=s;exact W.make_core (W.makes_of X b) (W.looks_findIn X c) (fun a=>W.bind_fn X a e) (.inl rfl) h
end
noncomputable def VF (f:Str)(v:V):List (Str×V)->List (Str×V)
 |[]=>[(f,v)]
 |(g,x)::r=>if g=f then (g,v)::r else (g,x)::VF f v r
theorem To (f g:Str)(v:V):∀c:List (Str×V),(VF f v c).lookup g=if g=f then some v else c.lookup g
 |[]=>by
   show List.lookup g [(f,v)]=_
   by_cases h:g=f
   .have a:(g==f)=true:=beq_iff_eq.mpr h
    simp only[List.lookup,a,Xd h]
   .have a:(g==f)=false:=beq_eq_false_iff_ne.mpr h
    simp only[List.lookup,a,Xa h]
 |(k,x)::r=>by
   have d:=To f g v r;rw[show VF f v ((k,x)::r)=(if k=f then (k,v)::r else (k,x)::VF f v r) from rfl];by_cases b:k=f
   .rw[Xd b]
    by_cases h:g=k
    .have a:(g==k)=true:=beq_iff_eq.mpr h
     simp only[List.lookup,a,Xd<|h.trans b]
    .have a:(g==k)=false:=beq_eq_false_iff_ne.mpr h
     simp only[List.lookup,a,Xa fun e:g=f=>h<|e.trans b.symm]
   .rw[Xa b]
    by_cases h:g=k
    .have a:(g==k)=true:=beq_iff_eq.mpr h
     simp only[List.lookup,a,Xa fun e:g=f=>b<|h.symm.trans e]
    .have a:(g==k)=false:=beq_eq_false_iff_ne.mpr h
     simp only[List.lookup,a];exact d
theorem HA (f:Str)(v:V):∀b:List (Str×V),f∈(VF f v b).map (·.1)/\∀g,g∈b.map (·.1)->g∈(VF f v b).map (·.1)
 |[]=>⟨by simp[VF],fun g h=>by simp at h⟩
 |(k,x)::r=>by
   obtain⟨d,c⟩:=HA f v r;rw[show VF f v ((k,x)::r)=(if k=f then (k,v)::r else (k,x)::VF f v r) from rfl];by_cases a:k=f
   .rw[Xd a]
    subst a;exact⟨by simp,fun g h=>by simpa using h⟩
   .rw[Xa a]
    refine⟨?_,fun g h=>?_⟩
    .rw[Xx]
     exact Xe _ d
    .rw[Xx]at h ⊢
     rcases Xg.mp h with e|e
     .exact Xg.mpr (.inl e)
     .exact Xe _ (c g e)
theorem Tv (f:Str)(v:V):∀b:List (Str×V),(VF f v b).length<=b.length+1
 |[]=>by simp[VF]
 |(k,x)::r=>by
   have c:=Tv f v r;rw[show VF f v ((k,x)::r)=(if k=f then (k,v)::r else (k,x)::VF f v r) from rfl];by_cases a:k=f
   .rw[Xd a,XS,XS];omega
   .rw[Xa a,XS,XS];omega
def ZM.some_of  (r:ZM (some v) o):∃u,o=some u/\QK v u:=by
 cases o with
 |none=>exact(show False from r).elim
 |some u=>exact⟨u,rfl,r⟩
def ZM.none_of (r:ZM none o):o=none:=by
 cases o with
 |none=>rfl
 |some u=>exact(show False from r).elim
def Py  (r:QK v u):W.handedIn u=true:=by
 cases v with
 |non=>cases (show u=Value.none from r);rfl
 |bl b=>cases (show u=Value.bool b from r);rfl
 |int i=>obtain⟨t,e⟩:=(show ∃t,u=Value.int i t from r);cases e;rfl
 |str x=>obtain⟨t,e⟩:=(show ∃t,u=Value.str x t from r);cases e;rfl
 |byt b=>obtain⟨t,e⟩:=(show ∃t,u=Value.bytes b t from r);cases e;rfl
 |flt b=>obtain⟨t,e⟩:=(show ∃t,u=Value.float b t from r);cases e;rfl
 |ref a=>cases (show u=Value.ref a from r);rfl
 |ty n=>cases (show u=Value.type n from r);rfl
section
variable {P:Program}{w:World}{H:Hp}{h:Heap}{a C dx:Addr}{fs:List (Str×V)}
def Hc (c:HOk P w H h)(e:H a=some (.ins C dx fs)):∃b,ObjM h a dx C b/\(∀f,ZM (fs.lookup f)<|b f)/\PySem.Within b (fs.map (·.1))/\fs.length<=1000/\H dx=some (.own a):=by
 obtain⟨d,z,i,g,b,n,r,q⟩:=(show Z4 P w H h a (.ins C dx fs) from c a _ e)
 exact⟨b,⟨g,n,i⟩,r,q,z,d⟩
end
structure Cls (K:W.Frag)(C:Addr):Prop where
 pg:W.plainGet K C Str.empty=true
 hd:W.hasDictIn K C=true
 po:W.plainOver K C=true
 sa:W.findIn K (.ref C) "__setattr__"=some (some<|.builtin "object.__setattr__")
def Cls.get {K:W.Frag}{C:Addr}(c:Cls K C)(f:Str):W.plainGet K C f=true:=c.pg
def VB (K:W.Frag)(C:Addr)(f:Str):Prop:=W.findIn K (.ref C) f=some none
def VB.taker {K:W.Frag}{C:Addr}{f:Str}(n:VB K C f):W.takerIn K C f=some none:=by
 unfold W.takerIn;rw[show W.findIn K (.ref C) f=some none from n];rfl
structure Meth (K:W.Frag)(C:Addr)(m:Str)(f:Addr):Prop where
 at_:W.findIn K (.ref C) m=some (some<|.ref f)
 fn:W.isFn K (.ref f)=true
 kp:W.keepIn K (.ref f)=true
section
variable {X:Cx}{XaV:Qc}{σ:St}{H:Hp}{s:Shared}{a C dx:Addr}{fs:List (Str×V)}{f:Str}{v:V}{A:Around}{E:Qb}
def Tf  (I:Qr X XaV σ H s)(e:H a=some (.ins C dx fs))(c:Cls X.K C)(n:VB X.K C f)(l:fs.lookup f=some v)
 (h:∀u d,Qr X XaV σ H d->QK v u->Q u d):wpAny (model X.prog X.w) A (getAttr (.ref a) f b) Q E s:=by
 obtain⟨i,O,r,_,_,_⟩:=Hc I.hok e;obtain⟨u,j,g⟩:=ZM.some_of (v:=v) (o:=i f) (by rw[<- l];exact r f);exact Cc I.kIn O (c.get f) c.hd n j (Py g) (h u _ (I.tok _) g)
def Te   (I:Qr X XaV σ H s)(e:H a=some (.ins C dx fs))(c:Cls X.K C)(k:Meth X.K C m g)(l:fs.lookup m=none)
 (h:Q (.ref g,[.ref a]) s):wpAny (model X.prog X.w) A (getMethod (.ref a) m pl) Q E s:=by
 obtain⟨b,O,r,_,_,_⟩:=Hc I.hok e;have d:b m=none:=ZM.none_of (by rw[<- l];exact r m);exact Eh I.kIn O (c.get m) k.at_ k.fn d h
def Tl  (I:Qr X XaV σ H s)(e:H a=some (.ins C dx fs))(c:Cls X.K C)(n:VB X.K C f)(G:fs.length<1000)(p:QK y u)
 (h:∀j,Qr X XaV σ (upd H a<|.ins C dx<|VF f y fs) j->Q () j):wpAny (model X.prog X.w) A (setAttr (.ref a) f u) Q E s:=by
 obtain⟨k,O,r,i,_,l⟩:=Hc I.hok e;have t:(fs.map (·.1)).length<=sizeLine:=by rw[Xl,sizeLine_eq];omega
 refine Fc I.kIn O c.sa c.po n.taker c.hd i t fun F d m=>h _ ?_;have B:∃o,F.get? dx=some o:=let ⟨o,_,_,e',_⟩:=d.ns;⟨o,e'⟩;refine I.write (x:=a) (e:=dx) (by rw[e];exact True.intro) (.inr l) (fun b q D z=>(m.2 b D).trans z) B ?_;refine⟨by rw[Qt O.ne];exact l,?_,O.ne,d.obj,_,d.ns,fun g=>?_,fun g w=>?_⟩
 .have:=Tv f y fs;omega
 .show ZM ((VF f y fs).lookup g) (if g=f then some u else k g)
  rw[To];by_cases q:g=f
  .rw[Xd q,Xd q];exact p
  .rw[Xa q,Xa q];exact r g
 .by_cases q:g=f
  .rw[q];exact(HA f y fs).1
  .refine(HA f y fs).2 g (i g fun z=>w ?_)
   show(if g=f then some u else k g)=none
   rw[Xa q];exact z
def Qr.made (I:Qr X XaV σ H s):Qr X XaV σ (upd (upd H s.heap.objs.size<|.own<|s.heap.objs.size+1) (s.heap.objs.size+1)<|.ins C s.heap.objs.size [])
 { s with heap:=(s.heap.push W.emptyDict).push (W.instObj C s.heap.objs.size) }:=by
 have d:(s.heap.push W.emptyDict).get? s.heap.objs.size=some W.emptyDict:=XF s.heap rfl
 have j:((s.heap.push W.emptyDict).push (W.instObj C s.heap.objs.size)).get? (s.heap.objs.size+1)=some (W.instObj C s.heap.objs.size):=by
  have:=XF (s.heap.push W.emptyDict) (o:=W.instObj C s.heap.objs.size) rfl
  rwa [W9]at this
 have i:(s.heap.push W.emptyDict).Ns s.heap.objs.size (fun _=>none):=⟨W.emptyDict,#[],_,d,rfl,(fun e h=>Xm h<|by simp),fun _=>rfl⟩;have k:=I.laid (a:=s.heap.objs.size) (o:=.own (s.heap.objs.size+1)) (h':=s.heap.push W.emptyDict) (t':=s.toks) (fun b u q=>Xi _ q) (Xv _) ⟨_,d⟩;refine k.laid (a:=s.heap.objs.size+1) (o:=.ins C s.heap.objs.size []) (t':=s.toks) (fun b u q=>Xi _ q) (Nat.le_of_eq<|W9 _ _) ?_;have c:s.heap.objs.size≠s.heap.objs.size+1:=Xu (WY _);refine⟨by rw[Qt c,QC],XQ _,c,j,fun _=>none,(Heap.Ns1.of_empty i).at fun o q=>Xi _ q,fun _=>True.intro,fun y g=>Xm rfl g⟩
def Sa     (b:attributeBase e f env (eval e env)=eval e env)
 (h:wpAny (model prog w) A (eval e env) (fun o c=>wpAny (model prog w) A (getAttr o f true) Q E c) E s):wpAny (model prog w) A (eval (.Attribute e f pos) env) Q E s :=
 Attribute_any_ h (by rw[arm_eval_Attribute,b])
end
def Va (K:W.Frag)(e:TE)(f:Str):TE:=fun d H Q=>e d H fun x c=>∃a C g b v,x=.ref a/\c a=some (.ins C g b)/\Cls K C/\VB K C f/\b.lookup f=some v/\Q v c
def Lg (K:W.Frag)(h g:TE)(f:Str):TS:=fun D b H=>g b H fun y i=>h b i fun x e=>∃a C d c,x=.ref a/\e a=some (.ins C d c)/\Cls K C/\VB K C f/\c.length<1000 /\
 D.nx b (upd e a<|.ins C d<|VF f y c)
def Nx (X:Cx)(op:Operator)(c:V->V->Hp->VK->Prop):Prop :=
 ∀(a:Qc) (s:Shared) (b:St) (H:Hp) (x y:V) (u v:Value) (Q:VK),Qr X a b H s->QK x u->QK y v->c x y H Q->wpAny (model X.prog X.w) X.A (inplaceOp op u v) (EP X a b Q) X.xe s
def Sn (K:W.Frag)(j i:TE)(k:V->V->Hp->VK->Prop)(f:Str):TS:=fun D d H=>j d H fun x h=>∃a C l e v,x=.ref a/\h a=some (.ins C l e)/\Cls K C/\VB K C f/\e.lookup f=some v /\
 i d h fun y m=>k v y m fun z g=>∃c b,g a=some (.ins C c b)/\b.length<1000/\D.nx d (upd g a<|.ins C c<|VF f z b)
section
variable {X:Cx}{o e value:Expr}{f:Str}{pos pos' tpos:Pos}{ta tv:TE}
def Zf (j:PE X e ta)(k:attributeBase e f X.env (eval e X.env)=eval e X.env):PE X (.Attribute e f pos) (Va X.K ta f):=by
 intro b s d H Q I h;refine Sa k (Q9 (j b s d H _ I h) ?_);rintro u A ⟨x,w,t,g,a,C,D,B,v,m,p,c,n,l,q⟩;subst m;obtain rfl:u=Value.ref a:=g;exact Tf t p c n l fun y z r i=>⟨v,w,r,i,q⟩
def Wo (t:PE X o ta)(p:PE X value tv)(r:swapsWith value (some<|.Attribute o f pos') pos.line X.env=pure false):PS X (.Assign [.Attribute o f pos'] value pos) (Lg X.K ta tv f):=by
 intro b s d H D I h;refine plainObj_wpAny_Assign_Attribute (Q9 (p b s d H _ I h) ?_) r;rintro u g ⟨y,E,B,i,q⟩;refine Q9 (t b g d E _ B q) ?_;rintro m G ⟨x,M,A,j,a,C,L,J,v,w,c,n,l,k⟩;subst v;obtain rfl:m=Value.ref a:=j;exact Tl A w c n l i fun F z=>⟨d,_,z,k⟩
def Pt  (J:PE X o ta)(G:PE X value tv)(g:Nx X op rd):PS X (.AugAssign (.Attribute o f tpos) op value pos) (Sn X.K ta tv rd f):=by
 intro b s d H D I h;refine wpAny_AugAssign_AttributeAny (Q9 (J b s d H _ I h) ?_);rintro E s1 ⟨x,W,T,t,a,C,dx,fs,v,M,N,c,n,l,q⟩;subst M;obtain rfl:E=Value.ref a:=t;refine Tf T N c n l fun u m S w=>Q9 (G b m d W _ S q) ?_;rintro j k ⟨y,U,R,r,B⟩;refine Q9 (g b k d U v y u j _ R w r B) ?_;rintro Y s4 ⟨z,H3,Q,p,O,L,i,F,A⟩;exact Tl Q i c n F p fun Z P=>⟨d,_,P,A⟩
def Nv:V->V->Hp->VK->Prop:=fun x y H Q=>∃i j,x=.int i/\y=.int j/\Q (.int<|i+j) H
def R4:Nx X .Add Nv:=by
 rintro d s g H x y u v Q I c b ⟨i,j,rfl,rfl,q⟩
 obtain⟨t,rfl⟩:=(show ∃t,u=Value.int i t from c);obtain⟨a,rfl⟩:=(show ∃a,v=Value.int j a from b);exact PyProof.Rows.iadd_int ⟨.int<|i+j,H,I.tok _,⟨_,rfl⟩,q⟩
end
structure Room (k:Nat)(A:Around):Prop where
 hd:A.handled=none
 dp:A.depth+3*k+5<recursionLimit
 un:A.units+16*k+200<cLine
def Room.mono  (r:Room k A)(h:j<=k):Room j A:=⟨r.hd,by have:=r.dp;omega,by have:=r.un;omega⟩
def Room.deeper {A:Around}(r:Room (k+1) A)(env:Env):Room k (A.deeper env) :=
 ⟨r.hd,by have:=r.dp;show A.depth+1+3*k+5<_;omega,by have:=r.un;show A.units+3+16*k+200<_;omega⟩
def Op {A:Around}  : (A.under<|.builtin "type.__call__" ⟨.ref C::us,kw⟩).depth=A.depth+1:=by
 first|rfl|simp[Around.under,Code.weight,Code.isCreation,Code.isGuard,Code.isCaller,Code.frames,Code.isFrame,guardIds]
def Iu {A:Around}  : (A.under<|.builtin "type.__call__" ⟨.ref C::us,kw⟩).units=A.units+1:=by
 first|rfl|simp[Around.under,Code.cUnits,Code.frames,Code.isFrame]
def Room.make {A:Around} (r:Room (k+1) A) (C:Addr) (us:Qe) (a:List (Str×Value)):Room k (A.under<|.builtin "type.__call__" ⟨.ref C::us,a⟩) :=
 ⟨r.hd,by have:=r.dp;rw[Op];omega,by have:=r.un;rw[Iu];omega⟩
def Room.depth  (r:Room k A):A.depth<recursionLimit:=by have:=r.dp;omega
def Room.units  (r:Room k A):A.units+64<cLine:=by have:=r.un;omega
def QQ:TA:=fun _ H Q=>Q [] H
def QI (d:TE)(c:TA):TA:=fun a H Q=>d a H fun x f=>c a f fun b e=>Q (x::b) e
section
variable {X:Cx}{e:Expr}{es:Qi}{te:TE}{t:TA}{pos:Pos}
def Qs:PA X [] QQ:=fun _ _ _ _ H Q I h=>Calls.spliced_nil ⟨[],H,I,.nil,h⟩
def Qo (m:PE X e te)(l:PA X es t)(k:starEach (e::es) X.env=(false,eval e X.env)::starEach es X.env:=by rfl):PA X (e::es) (QI te t):=by
 intro pos a s b H Q I h;rw[k];show wpAny _ _ (spliced ((false,eval e X.env)::backTo pos (starEach es X.env))) _ _ s;refine Calls.spliced_cons (Q9 (m a s b H _ I h) ?_);rintro u d ⟨x,q,o,g,j⟩;refine Q9 (l pos a d b q _ o j) ?_;rintro r v ⟨c,p,n,f,i⟩;exact⟨x::c,p,n,.cons g f,i⟩
def Ur (t:TA):TE:=fun c H Q=>t c H fun a b=>a.length<=sizeLine/\∀p,b p=none->Q (.ref p) (upd b p<|.tup a)
def JF (t:TA):TE:=fun c H Q=>t c H fun a b=>a.length<=sizeLine/\∀p,b p=none->Q (.ref p) (upd b p<|.lst a)
def Wl {x1}(h:PA X es t):PE X (.Tuple es x1 pos) (Ur t):=by
 intro c s g H Q I k;refine wpAny_Tuple_spliced (Q9 (h pos c s g H _ I k) ?_);rintro j a ⟨i,f,d,r,z,q⟩;refine⟨by rw[<- r.length];exact z,?_⟩;have l:f a.heap.objs.size=none:=d.hok.fresh (Xv _);refine⟨.ref a.heap.objs.size,upd f a.heap.objs.size<|.tup i,d.laid (t':=a.toks) (fun b u e=>Xi _ e) (Xv _) ?_,rfl,q _ l⟩
 exact⟨z,j,r,⟨_,XF _ rfl,rfl,_,rfl⟩⟩
def ZC (h:PA X es t):PE X (.List es pos) (JF t):=by
 intro c s g H Q I k;refine wpAny_List_spliced (Q9 (h pos c s g H _ I k) ?_);rintro j a ⟨i,f,d,r,z,q⟩;refine⟨by rw[<- r.length];exact z,?_⟩;have l:f a.heap.objs.size=none:=d.hok.fresh (Xv _);refine⟨.ref a.heap.objs.size,upd f a.heap.objs.size<|.lst i,d.laid (t':=a.toks) (fun b u e=>Xi _ e) (Xv _) ?_,rfl,q _ l⟩
 exact⟨z,j,0,r,XF _ rfl⟩
end
abbrev Sp:=List V->Hp->VK->XK->Prop
abbrev CXT:=List Env->Hp->Shared->XK->Qb
structure Env0 (P:Program)(w:World)(K:W.Frag)(mg:Str->Qf)(base:Heap)(A:Around)(outer:List Env)(s:Shared)(H:Hp):Prop where
 frames:A.frames=some outer
 mod:Mod K mg base
 bs:∀b o,base.get? b=some o->s.heap.get? b=some o/\(H b=none\/∃xs,H b=some (.tup xs))
 bsz:base.objs.size<=s.heap.objs.size
 funs:s.heap.FunFrames base outer
 frf:∀b∈frs outer,H b=none
 hok:HOk P w H s.heap
 bare:AllBare s.gens
def CE (a:List Env)(P:Program)(w:World)(H:Hp)(s:Shared)(Q:VK)(u:Value)(b:Shared):Prop :=
 ∃v c,b.os=s.os/\AllBare b.gens/\Un (frs a) [] H c s.heap b.heap/\HOk P w c b.heap/\QK v u/\Q v c
def CR (c:CXT)(a:List Env)(P:Program)(w:World)(H:Hp)(s:Shared)(Q:VK)(E:XK)(r:Result)(b:Shared):Prop :=
 match r with
 |.ok (.ret u)=>CE a P w H s Q u b
 |.ok _=>False
 |.error e=>c a H s E e b
structure FnOk (P:Program)(w:World)(K:W.Frag)(mg:Str->Qf)(base:Heap)(CX:CXT)(k:Nat)(f:Addr)(fd:FuncData)(ps:Qh)(sp:Sp):Prop where
 len:∀vs H Q E,sp vs H Q E->vs.length=ps.length
 run:∀(A:Around) (outer:List Env) (s:Shared) (H:Hp) (args:Args) (us:Qe) (vs:List V) (Q:VK) (E:XK),Room k A->Env0 P w K mg base A outer s H->BindsTo s fd args (ps.zip us)->QS vs us->sp vs H Q E ->
  codeAny (model P w) A (.call (.ref f) args) (CR CX outer P w H s Q E) s
def Env0.make {P:Program}{w:World}{K:W.Frag}{b:Str->Qf}{base:Heap}{A:Around}{a:List Env}{s:Shared}{H:Hp}(e:Env0 P w K b base A a s H)(C:Addr)(us:Qe)(c:List (Str×Value)) :
 Env0 P w K b base (A.under<|.builtin "type.__call__" ⟨.ref C::us,c⟩) a s H:=⟨by first|exact e.frames|(simpa [Around.under,Code.envs,Code.isFrame,pushEnvs] using e.frames),e.mod,e.bs,e.bsz,e.funs,e.frf,e.hok,e.bare⟩
section
variable {X:Cx}{XaV:Qc}{σ:St}{H:Hp}{s s':Shared}
def Qr.env0 (I:Qr X XaV σ H s):Env0 X.prog X.w X.K X.mg X.base X.A X.stack s H :=
 ⟨I.ok.frames,I.ok.mod,I.bs,X4 I.ok.bsz I.sz,I.stack,I.stkFree,I.hok,I.bare⟩
def Qr.after  (I:Qr X XaV σ H s)(h:CE X.stack X.prog X.w H s Q u s'):EP X XaV σ Q u s':=by
 obtain⟨v,k,i,a,f,e,r,q⟩:=h;obtain⟨j,g,d,t,c⟩:=s';obtain rfl:c=s.os:=i
 exact⟨v,k,I.call (h':=j) (g':=g) (d':=d) (t':=t) (ch:=[]) f e a (fun b z=>Xm z<|by simp),r,q⟩
end
def Yk (d:Sp)(a:List V)(E:XK)(t:TA):TE:=fun b H Q=>t b H fun c e=>d (c++a) e Q E
def Vs (C:Addr)(m:Str)(h:Sp)(b:List V)(E:XK)(g:TE)(t:TA):TE:=fun c H Q=>g c H fun x e=>∃a i d,x=.ref a/\e a=some (.ins C i d)/\d.lookup m=none /\
 t c e fun f j=>h (x::(f++b)) j Q E
def Uu (C:Addr)(f:Sp)(b:List V)(E:XK)(t:TA):TE:=fun d H Q=>t d H fun e c=>∀x a,c x=none->c a=none->a≠x ->
 f (.ref x::(e++b)) (upd (upd c a<|.own x) x<|.ins C a []) (fun v g=>v=.non/\Q (.ref x) g) E
def Vu (K:W.Frag)(b:FuncData)(ps:Qh)(ds:Qe):Prop :=
 ∀(s:Shared) (a:Qe),K.In s.heap->(a++ds).length=ps.length->BindsTo s b ⟨a,[]⟩ (ps.zip<|a++ds)
def Vu.all {K:W.Frag}{b:FuncData}{ps:Qh}(h:∀us:Qe,us.length=ps.length->bindArgs b ⟨us,[]⟩=pure (ps.zip us)):Vu K b ps []:=fun s us _ a=>by
 rw[XG]at a ⊢;exact .of_eq (h us a)
def Yf (d:CXT)(X:Cx)(E:XK):Prop := ∀(a:Qc) (c:St) (H:Hp) (s:Shared) (e:Value) (b:Shared),Qr X a c H s->d X.stack H s E e b->X.xe e b
section
variable {X:Cx}{CX:CXT}{k:Nat}{f C:Addr}{fd:FuncData}{ps:Qh}{sp:Sp}{dvs:List V}{ds:Qe}{E:XK}{x m:Str}{p pos apos:Pos}{e o:Expr}{es:Qi}{ta:TE}{t:TA}
def D4 {a:Qc}{c:St}{H:Hp}{s:Shared}{Q:VK}{us:Qe}{vs:List V}(F:FnOk X.prog X.w X.K X.mg X.base CX k f fd ps sp)(j:Room k X.A)(q:Vu X.K fd ps ds)(n:QS dvs ds)(i:Yf CX X E)
 (I:Qr X a c H s) (r:QS vs us) (h:sp (vs++dvs) H Q E):wpAny (model X.prog X.w) X.A (call (.ref f) us) (EP X a c Q) X.xe s:=by
 have d:QS (vs++dvs) (us++ds):=r.append n;have l:(us++ds).length=ps.length:=by rw[<- d.length];exact F.len _ _ _ _ h
 refine wpAny_call (codeAny_mono (F.run X.A X.stack s H ⟨us,[]⟩ (us++ds) (vs++dvs) Q E j I.env0 (q s us I.kIn l) d h) fun r g b=>?_)
 cases r with
 |error e=>exact i a c H s e g I b
 |ok v =>
   cases v with
   |ret u=>exact I.after b
   |next=>exact False.elim b
   |brk=>exact False.elim b
   |cont=>exact False.elim b
def RM (F:FnOk X.prog X.w X.K X.mg X.base CX k f fd ps sp)(j:Room k X.A)(u:Gl X x)(l:X.mg x=some (.ref f))(n:W.keepIn X.K (.ref f)=true)(y:Vu X.K fd ps ds)(w:QS dvs ds)(i:Yf CX X E)
 (z:PA X (e::es) t) (b:(x==("__debug__" : Str))=false:=by decide) (v:starEach (e::es) X.env=(false,eval e X.env)::starEach es X.env:=by rfl) (a:(backTo pos<|starEach es X.env).any (·.1)=false:=by rfl) :
 PE X (.Call (.Name x p) (e::es) [] pos) (Yk sp dvs E t):=by
 intro c s g H Q I h;refine wpAny_Call_Name_kw (Jw I u l ?_ b);refine W.callWith_K (h₀:=X.base) I.ok.mod.kin n (Q9 (z pos c s g H _ I h) ?_) v a;rintro B D ⟨A,G,d,r,q⟩;refine⟨d.kIn,?_⟩;exact D4 F j y w i d r q
def Hd {pl:Sem Bool}(J:PE X o ta)(c:Cls X.K C)(n:Meth X.K C m f)(F:FnOk X.prog X.w X.K X.mg X.base CX k f fd ps sp)(G:Room k X.A)(M:Vu X.K fd ps ds)(L:QS dvs ds)(B:Yf CX X E)(N:PA X (e::es) t)
 (d:starEach (e::es) X.env=(false,eval e X.env)::starEach es X.env:=by rfl) (g:(backTo pos<|starEach es X.env).any (·.1)=false:=by rfl)
 (D:eval (.Call (.Attribute o m apos) (e::es) [] pos) X.env=(do
  let j <- eval o X.env
  standAt apos.atName
  let (f,first) <- holding [j] (getMethod j m pl)
  callWith pos f first (backTo pos<|starEach (e::es) X.env)<|backToKw pos<|keywordEach [] X.env):=by rfl) :
 PE X (.Call (.Attribute o m apos) (e::es) [] pos) (Vs C m sp dvs E ta t):=by
 intro b s i H Q I h;refine W.methodCall_KW (pl:=pl) (Q9 (J b s i H _ I h) ?_) D;rintro u y ⟨x,R,w,z,a,U,T,O,P,l,q⟩;subst O;obtain rfl:u=Value.ref a:=z;refine Te w P c n l ?_;refine W.callWith_K (first:=[.ref a]) (h₀:=X.base) I.ok.mod.kin n.kp (Q9 (N pos b y i R _ w q) ?_) d g;rintro us S ⟨vs,Y,v,r,A⟩;refine⟨v.kIn,?_⟩;exact D4 (us:=.ref a::us) (vs:=.ref a::vs) F G M L B v (.cons rfl r) A
def SK {pl:Sem Bool}(y:PE X o ta)(c:Cls X.K C)(i:Meth X.K C m f)(F:FnOk X.prog X.w X.K X.mg X.base CX k f fd ps sp)(w:Room k X.A)(A:Vu X.K fd ps ds)(z:QS dvs ds)(r:Yf CX X E)
 (v:eval (.Call (.Attribute o m apos) [] [] pos) X.env=(do
  let g <- eval o X.env
  standAt apos.atName
  let (f,first) <- holding [g] (getMethod g m pl)
  callWith pos f first (backTo pos<|starEach [] X.env)<|backToKw pos<|keywordEach [] X.env):=by rfl) :
 PE X (.Call (.Attribute o m apos) [] [] pos) (Vs C m sp dvs E ta QQ):=by
 intro b s j H Q I h;refine W.methodCall_KW (pl:=pl) (Q9 (y b s j H _ I h) ?_) v;rintro u G ⟨x,M,d,n,a,L,J,B,D,l,q⟩;subst B;obtain rfl:u=Value.ref a:=n;refine Te d D c i l ?_;exact W.callWith_K0 (first:=[.ref a]) d.kIn i.kp (D4 (us:=[.ref a]) (vs:=[.ref a]) F w A z r d (.cons rfl .nil) q)
structure Mk (K:W.Frag)(C f:Addr):Prop where
 makes:W.makesIn K C=true
 init:W.findIn K (.ref C) "__init__"=some (some<|.ref f)
 fn:W.isFn K (.ref f)=true
 kp:W.keepIn K (.ref C)=true
def Ph {b:Qc}{g:St}{H:Hp}{s:Shared}{Q:VK}{us:Qe}{vs:List V}(M:Mk X.K C f)(F:FnOk X.prog X.w X.K X.mg X.base CX k f fd ps sp)(y:Room (k+1) X.A)(B:Vu X.K fd ps ds)(A:QS dvs ds)
 (w:Yf CX X E) (I:Qr X b g H s) (r:QS vs us)
 (h:∀x c,H x=none->H c=none->c≠x->sp (.ref x::(vs++dvs)) (upd (upd H c<|.own x) x<|.ins C c []) (fun v L=>v=.non/\Q (.ref x) L) E) :
 wpAny (model X.prog X.w) X.A (call (.ref C) us) (EP X b g Q) X.xe s:=by
 have j:=h (s.heap.objs.size+1) s.heap.objs.size (I.hok.fresh<|Nat.le_succ _) (I.hok.fresh<|Xv _) (Xu<|WY _);have d:=Qr.made (C:=C) I;have i:QS (V.ref (s.heap.objs.size+1)::(vs++dvs)) (Value.ref (s.heap.objs.size+1)::(us++ds)):=.cons rfl (r.append A)
 have z:(Value.ref (s.heap.objs.size+1)::us++ds).length=ps.length:=by
  have e:=i.length;rw[F.len _ _ _ _ j]at e;exact e.symm
 refine wpAny_call (AN (f:=f) I.kIn M.makes M.init (beq_iff_eq.mp M.fn) (codeAny_mono (F.run _ X.stack _ _ ⟨Value.ref (s.heap.objs.size+1)::us,[]⟩ (Value.ref (s.heap.objs.size+1)::(us++ds)) _ _ E (y.make C us [])
  (d.env0.make C us []) (B _ (Value.ref (s.heap.objs.size+1)::us) d.kIn z) i j) fun r l a=>?_))
 cases r with
 |error e=>exact w b g _ _ e l d a
 |ok D =>
   cases D with
   |ret u =>
     obtain⟨v,N,J,n,G,q⟩:=d.after a;subst G;exact⟨n,⟨V.ref<|s.heap.objs.size+1,N,J,rfl,q⟩⟩
   |next=>exact False.elim a
   |brk=>exact False.elim a
   |cont=>exact False.elim a
def FH (M:Mk X.K C f)(F:FnOk X.prog X.w X.K X.mg X.base CX k f fd ps sp)(j:Room (k+1) X.A)(n:Gl X x)(l:X.mg x=some (.ref C))(w:Vu X.K fd ps ds)(v:QS dvs ds)(i:Yf CX X E)
 (y:PA X (e::es) t) (b:(x==("__debug__" : Str))=false:=by decide) (u:starEach (e::es) X.env=(false,eval e X.env)::starEach es X.env:=by rfl) (a:(backTo pos<|starEach es X.env).any (·.1)=false:=by rfl) :
 PE X (.Call (.Name x p) (e::es) [] pos) (Uu C sp dvs E t):=by
 intro c s g H Q I h;refine wpAny_Call_Name_kw (Jw I n l ?_ b);refine W.callWith_K (h₀:=X.base) I.ok.mod.kin M.kp (Q9 (y pos c s g H _ I h) ?_) u a;rintro A B ⟨z,D,d,r,q⟩;refine⟨d.kIn,?_⟩;exact Ph M F j w v i d r q
def Em (M:Mk X.K C f)(F:FnOk X.prog X.w X.K X.mg X.base CX k f fd ps sp)(c:Room (k+1) X.A)(g:Gl X x)(d:X.mg x=some (.ref C))(j:Vu X.K fd ps ds)(i:QS dvs ds)(b:Yf CX X E)
 (a:(x==("__debug__" : Str))=false:=by decide):PE X (.Call (.Name x p) [] [] pos) (Uu C sp dvs E QQ):=by
 intro l s n H Q I h;refine wpAny_Call_Name_kw (Jw I g d ?_ a);exact W.callWith_K0 I.kIn M.kp (Ph (us:=[]) M F c j i b I .nil h)
end
structure Qp (N P:Qh)(sc:Scope):Prop where
 kind:sc.kind=.function
 co:sc.isCoroutine=false
 gen:sc.isGenerator=false
 nd:N.Nodup
 pre:N.take P.length=P
 par:∀x∈P,sc.names.lookup x=some .local\/sc.names.lookup x=some .cell
 nofree:∀y∈sc.names,y.2≠.free
theorem P5 {b:Str->Option NameKind}{x:Str}:∀{a:List (Str×Value)} {m:Str->Qf},(∀v,(x,v)∉a)->bindL b a m x=m x
 |[],_,_=>rfl
 |(n,v)::r,m,h=>by
   unfold bindL;rw[P5 fun w c=>h w<|Xe _ c]
   split
   .have:x≠n:=by rintro rfl;exact h v Xb
    simp[this]
   .rfl
theorem Pp {b:Str->Option NameKind}{x:Str}:∀{a:List (Str×Value)} {m:Str->Qf},(∀v,(x,v)∉a)->bindC b a m x=m x
 |[],_,_=>rfl
 |(n,v)::r,m,h=>by
   unfold bindC;rw[Pp fun w c=>h w<|Xe _ c]
   split
   .rfl
   .have:x≠n:=by rintro rfl;exact h v Xb
    simp[this]
theorem PQ {a:Str->Option NameKind}{x:Str}{v:Value}:∀{P:Qh} {vs:Qe} {i:Nat} {m:Str->Qf},P.Nodup->P[i]?=some x->vs[i]?=some v->a x=some .local ->
 bindL a (P.zip vs) m x=some v
 |[],_,_,_,_,h,_,_=>by simp at h
 |_::_,[],_,_,_,_,h,_=>by simp at h
 |p::P,w::vs,0,m,d,c,b,e=>by
   simp at c b;subst c;subst b
   show bindL a ((p,w)::P.zip vs) m p=_;unfold bindL;rw[P5 fun v f=>(Xt.mp d).1 (List.of_mem_zip f).1,Xd e]
   simp
 |p::P,w::vs,i+1,m,d,c,b,e=>by
   show bindL a ((p,w)::P.zip vs) m x=_;unfold bindL;exact PQ (i:=i) (Xt.mp d).2 (by simpa using c) (by simpa using b) e
theorem PN {a:Str->Option NameKind}{x:Str}{v:Value}:∀{P:Qh} {vs:Qe} {i:Nat} {m:Str->Qf},P.Nodup->P[i]?=some x->vs[i]?=some v->a x≠some .local ->
 bindC a (P.zip vs) m x=some v
 |[],_,_,_,_,h,_,_=>by simp at h
 |_::_,[],_,_,_,_,h,_=>by simp at h
 |p::P,w::vs,0,m,d,c,b,e=>by
   simp at c b;subst c;subst b
   show bindC a ((p,w)::P.zip vs) m p=_;unfold bindC;rw[Pp fun v f=>(Xt.mp d).1 (List.of_mem_zip f).1,Xa e]
   simp
 |p::P,w::vs,i+1,m,d,c,b,e=>by
   show bindC a ((p,w)::P.zip vs) m x=_;unfold bindC;exact PN (i:=i) (Xt.mp d).2 (by simpa using c) (by simpa using b) e
noncomputable def start (N:Qh)(vs:List V):St:=vs.map some++List.replicate (N.length-vs.length) none
noncomputable def Vz (d:CXT)(P:Program)(w:World)(K:W.Frag)(mg:Str->Qf)(base:Heap)(N:Qh)(a:Str)(scope:Scope)(f:Addr)(c:Value)(A:Around)(outer:List Env)(s:Shared)(H:Hp)(E:XK):Cx where
 prog:=P
 w:=w
 K:=K
 mg:=mg
 base:=base
 A:=A.deeper (envOfC a scope s.heap.objs.size f c)
 N:=N
 s₀:=s
 H₀:=H
 env:=envOfC a scope s.heap.objs.size f c
 outer:=outer
 stack:=envOfC a scope s.heap.objs.size f c::outer
 ex:=[]
 calm:=true
 fn:=fun _=>true
 pn:=[]
 xe:=fun e g=>wpAny (model P w) (A.deeper<|envOfC a scope s.heap.objs.size f c) (leaving (envOfC a scope s.heap.objs.size f c) e) (fun _ b=>d outer H s E e b) (fun h b=>d outer H s E h b) g
def Pf {sc:Scope}  (h:sc.names.lookup x=some .cell):∃c,(cellsFrom n sc.names []).lookup x=some c:=by
 have q:=W.cellsFrom_some sc.names n [] (.inl h);exact Option.isSome_iff_exists.mp q
def EZ {L:CXT}{P:Program}{w:World}{K:W.Frag}{F:Str->Qf}{base:Heap}{N ps:Qh}{g:Str}{scope:Scope}{f:Addr}{D:Value}{A:Around}{d:List Env}{s G:Shared}{H:Hp}{E:XK}{us:Qe}{vs:List V}
 (S:Qp N ps scope) (Q:A.handled=none) (e0:Env0 P w K F base A d s H) (U:vs.length=ps.length) (r:QS vs us)
 (x:InCallC s s.heap.objs.size (bindL (envOfC g scope s.heap.objs.size f D).kindOf (ps.zip us) fun _=>none) (cellsFrom (s.heap.objs.size+1) scope.names []) (bindC (envOfC g scope s.heap.objs.size f D).kindOf (ps.zip us) fun _=>none) G) :
 Qr (Vz L P w K F base N g scope f D A d s H E) [] (start N vs) H G:=by
 have O:ps.length<=N.length:=by have:=X5 List.length S.pre;rw[List.length_take]at this;omega
 obtain⟨C,T,rfl,J⟩:=x.done;have l:∀b:Addr,b∉(Vz L P w K F base N g scope f D A d s H E).ex:=fun b z=>Xm (show b∈([]:Qg) from z) (by simp)
 refine⟨⟨e0.mod,S.kind,rfl,rfl,Xv _,fun y z c C j=>?_,fun y m=>?_,fun y c _ h=>?_,fun _=>Q,Around.frames_deeper e0.frames,.inr ⟨rfl,rfl⟩,fun b z=>Xm z<|l b,e0.bs,e0.bsz,fun b _ _=>l b,fun b z=>Xm z<|l b,e0.funs,e0.frf⟩,
  rfl,e0.bare,Un.kept J,⟨_,x.toInCall.ns,fun i y v C j X=>?_⟩,fun y c h=>⟨_,x.cell y c h⟩,e0.hok.fresh<|Xv _,fun y c h=>?_,fun p t=>Xm (show p∈([]:Qc) from t)<|by simp,e0.hok.kept J,?_⟩
 .exact name_of_addr x.apart (PySem.mem_of_lookup C) (PySem.mem_of_lookup j)
 .have m:scope.names.lookup y=some .cell\/scope.names.lookup y=some .free:=m
  rcases m with m|m
  .exact Pf m
  .exact Xm rfl (S.nofree _<|PySem.mem_of_lookup m)
 .exact YI (x.above y c<|PySem.mem_of_lookup h)
 .have B:i<vs.length:=by
   unfold start at j;by_cases B:i<vs.length
   .exact B
   .rw[X9<|by simpa using B]at j
    rw[MC]at j;split at j<;>cases j
  have R:vs[i]?=some v:=by
   unfold start at j;rw[XN<|by simpa using B,Xn]at j;cases e:vs[i]? with
   |none=>rw[e]at j;cases j
   |some a=>rw[e]at j;cases j;rfl
  obtain⟨u,I,M⟩:=r.get R
  have t:ps[i]?=some y:=by
   rw[<- S.pre,List.getElem?_take_of_lt<|by omega];exact C
  have o:ps.Nodup:=by rw[<- S.pre];exact S.nd.sublist (List.take_sublist _ _)
  refine⟨u,M,?_⟩
  rcases S.par y (List.mem_of_getElem? t) with k|k
  .exact .inl ⟨k,PQ o t I k⟩
  .obtain⟨c,e⟩:=Pf (n:=s.heap.objs.size+1) k
   refine .inr ⟨.inl k,c,e,?_⟩;have q:=x.cell y c e;rw[PN o t I<|by show scope.names.lookup y≠_;rw[k];decide]at q;exact q
 .exact e0.hok.fresh (YI<|x.above y c<|PySem.mem_of_lookup h)
 .unfold start
  show _=N.length;rw[Xs,Xl,List.length_replicate];omega
def Rf {G:CXT}{P:Program}{w:World}{K:W.Frag}{F:Str->Qf}{base:Heap}{k:Nat}{f:Addr}{name c:Str}{g:Arguments}{h:List Stmt}{scope:Scope}{dV kV D pm d ct oc:Value}{an od:Qj}
 {R:Array (Qf)} {N ps:Qh} {L:Sp} (lk:K.lookup f=some ⟨oc,od,.func<|W.fnOf name c g h scope dV kV D pm an d ct,R⟩) (X:W.codeIn K d c=true) (S:Qp N ps scope)
 (p:∀vs H Q E,L vs H Q E->vs.length=ps.length)
 (Y:∀(A:Around) (a:List Env) (s:Shared) (H:Hp) (vs:List V) (Q:VK) (E:XK),Room k (A.deeper<|envOfC c scope s.heap.objs.size f d)->L vs H Q E ->
  ∃t,PSs (Vz G P w K F base N c scope f d A a s H E) h t/\t { nx:=fun _ j=>Q .non j,rt:=Q } (start N vs) H) :
 FnOk P w K F base G (k+1) f (W.fnOf name c g h scope dV kV D pm an d ct) ps L:=by
 refine⟨p,fun A a s H args us vs Q E U C hb r z=>?_⟩;have hl:=p _ _ _ _ z;have KX:K.In s.heap:=C.mod.kin.keeps fun b o e=>(C.bs b o e).1;have T:s.heap.NoLimit:=C.mod.nolimit.keeps fun b o e=>(C.bs b o e).1
 have l:∀y∈ps.zip us,scope.names.lookup y.1=some .local\/(scope.names.lookup y.1=some .cell/\((cellsFrom (s.heap.objs.size+1) scope.names []).lookup y.1).isSome=true):=fun⟨n,v⟩ hy=>by
  rcases S.par n (List.of_mem_zip hy).1 with q|q
  .exact .inl q
  .exact .inr ⟨q,W.cellsFrom_some _ _ _<|.inl q⟩
 refine codeAny_call_function U.depth (KX _ _ lk) rfl S.co S.gen rfl (W.codeRec_of KX X) (hb _ _ _ _ ?_);refine wpAny_newFunctionEnv_cells S.kind l fun env he Z x=>?_;subst he;refine⟨T.keeps x.toInCall.keep,codeAny_func ?_⟩;obtain⟨t,ht,hq⟩:=Y A a s H vs Q E (U.deeper _) z;have I:Qr (Vz G P w K F base N c scope f d A a s H E) [] (start N vs) H Z:=EZ S U.hd C hl r x;refine wpAny_mono (ht [] Z (start N vs) H _ I hq) (fun fl M m=>?_) fun e M m=>m
 have B:∀{i:St} {j:Hp} {v:V} {u:Value},Qr (Vz G P w K F base N c scope f d A a s H E) [] i j M->QK v u->Q v j->CE a P w H s Q u M :=
  fun{i j v u} J O q=>⟨v,j,J.os,J.bare,J.base,J.hok,O,q⟩
 cases fl with
 |ret u =>
   obtain⟨v,i,j,J,O,q⟩:=m;exact B J O q
 |next =>
   obtain⟨i,j,J,q⟩:=m;exact B (v:=V.non) (u:=Value.none) J rfl q
 |brk =>
   obtain⟨_,_,_,q⟩:=m;exact False.elim q
 |cont =>
   obtain⟨_,_,_,q⟩:=m;exact False.elim q
section
variable {X:Cx}{x:Str}{p pos:Pos}{e:Expr}{es:Qi}{t:TA}{id T:String}{r:List V->Hp->VK->Prop}
def tCB (r:List V->Hp->VK->Prop)(t:TA):TE:=fun a H Q=>t a H fun b c=>r b c Q
noncomputable def Zo (q:Z7 X (.builtin id) r) (n:Gl X x) (m:X.mg x=none) (l:bootBuiltins x=some (.builtin id)) (u:PA X (e::es) t) (hn:x ≠ "__name__" := by decide) (c:(x==("__debug__" : Str))=false:=by decide)
 (o:starEach (e::es) X.env=(false,eval e X.env)::starEach es X.env:=by rfl) (b:(backTo pos<|starEach es X.env).any (·.1)=false:=by rfl):PE X (.Call (.Name x p) (e::es) [] pos) (tCB r t):=by
 intro a s d H Q I h;refine wpAny_Call_Name_kw (Jr I n m l ?_ hn c);refine PyProof.Rows.callWith_builtin1 (Q9 (u pos a s d H _ I h) ?_) o b;rintro g i ⟨f,w,v,j,k⟩;exact q a i d w f g Q v j k
noncomputable def WS (q:Z7 X (.type T) r) (n:Gl X x) (m:X.mg x=none) (l:bootBuiltins x=some (.type T)) (u:PA X (e::es) t) (hn:x ≠ "__name__" := by decide) (c:(x==("__debug__" : Str))=false:=by decide)
 (o:starEach (e::es) X.env=(false,eval e X.env)::starEach es X.env:=by rfl) (b:(backTo pos<|starEach es X.env).any (·.1)=false:=by rfl):PE X (.Call (.Name x p) (e::es) [] pos) (tCB r t):=by
 intro a s d H Q I h;refine wpAny_Call_Name_kw (Jr I n m l ?_ hn c);refine PyProof.Rows.callWith_type1 (Q9 (u pos a s d H _ I h) ?_) o b;rintro g i ⟨f,w,v,j,k⟩;exact q a i d w f g Q v j k
end
end L2
namespace HT
open PySem PyProof.Rows
section
def sIx (n d:Nat):Option Int->Nat
 |none=>d
 |some v=>if v<0 then (v+(n:Int)).toNat else min v.toNat n
end
end HT
namespace L2
open PySem PySem.Spec PyProof.Rows
def Mp:∀{us:Qe},QS (ns.map V.int) us->IntsAre us ns:=by
 induction ns with
 |nil=>intro us r;rw[UY]at r;cases r;exact .nil
 |cons n ns c =>
   intro us r;rw[Xx]at r;cases r with
   |cons b a =>
     obtain⟨t,e⟩:=b;subst e;exact .cons n t (c a)
noncomputable def ixN (n:Nat)(i:Int):Option Nat:=if 0<=i then (if i<n then some i.toNat else none) else if -(n:Int)<=i then some (i+n).toNat else none
noncomputable def atI {a:Type}(xs:List a)(i:Int):Option a:=(ixN xs.length i).bind fun j=>xs[j]?
def Sw  (h:ixN n i=some j):seqIndex? i n=some j/\j<n /\ -(n:Int)<=i/\i<n:=by
 unfold ixN at h;by_cases b:0<=i
 .rw[Xd b]at h
  by_cases a:i<n
  .rw[Xd a]at h
   have e:i.toNat=j:=Option.some.inj h
   exact⟨by rw[seqIndex_of b a,e],by omega,by omega,a⟩
  .rw[Xa a]at h;cases h
 .rw[Xa b]at h
  by_cases a : -(n:Int)<=i
  .rw[Xd a]at h
   have e:(i+n).toNat=j:=Option.some.inj h
   exact⟨by rw[seqIndex_neg (by omega) a,e],by omega,a,by omega⟩
  .rw[Xa a]at h;cases h
def DU {a:Type}{xs:List a}{i:Int}{v:a}(h:atI xs i=some v):∃j,seqIndex? i xs.length=some j/\xs[j]?=some v/\j<xs.length /\ -(xs.length:Int)<=i/\i<xs.length:=by
 unfold atI at h;cases e:ixN xs.length i with
 |none=>rw[e]at h;cases h
 |some j =>
   rw[e]at h;obtain⟨f,d,c,b⟩:=Sw e
   exact⟨j,f,h,d,c,b⟩
def V1 {a:Type}{xs:List a}{j:Nat}{v:a}(h:xs[j]?=some v):atI xs (j:Int)=some v:=by
 have b:j<xs.length:=(Xf.mp h).1
 have e:ixN xs.length (j:Int)=some j:=by
  unfold ixN;rw[Xd<|by omega,Xd<|by omega];simp
 unfold atI;rw[e];exact h
def FR (b:Expr):Prop := ∀o i,subscripted b false o i=operate [o,i] (getItem o i)
def IxR (X:Cx)(r:R2):Prop :=
 ∀(b a:Expr) (c:Qc) (s:Shared) (d:St) (H:Hp) (x y:V) (v u:Value) (Q:VK),Qr X c d H s->QK x v->QK y u->r x y H Q ->
  subscripted a false v u=operate [v,u] (getItem v u)->wpAny (model X.prog X.w) X.A (subscriptTail b a v u) (EP X c d Q) X.xe s
def MtR (X:Cx)(e:String)(r:V->List V->Hp->VK->Prop):Prop :=
 ∀(a:Qc) (s:Shared) (b:St) (H:Hp) (x:V) (c:List V) (v:Value) (d:Qe) (Q:VK),Qr X a b H s->QK x v->QS c d->r x c H Q ->
  wpAny (model X.prog X.w) X.A (call (.builtin e) (v::d)) (EP X a b Q) X.xe s
section
variable {X:Cx}{a b:Expr}{ta tb:TE}{pos:Pos}
def IxR.or (h:IxR X r)(h':IxR X r'):IxR X (fun x y H Q=>r x y H Q\/r' x y H Q):=by
 intro c d e s f H x y v u Q I i g q j;rcases q with q|q
 .exact h c d e s f H x y v u Q I i g q j
 .exact h' c d e s f H x y v u Q I i g q j
def QD (j:IxR X r)(l:PE X a ta)(k:PE X b tb)(i:FR b:=by exact fun _ _=>rfl):PE X (.Subscript a b pos) (tOp r ta tb):=by
 intro c s d H Q I h;exact Subscript_ (MG l k I h fun v u e x y n m g f q=>j a b c e d n x y v u Q m g f q<|i _ _)
def N5 (K:W.Frag):R2:=fun x y H Q=>∃p c i v,x=.ref p/\y=.int i/\SqL K H p c/\atI c i=some v/\Q v H
def Ny (K:W.Frag):R2:=fun x y H Q=>∃p c i v,x=.ref p/\y=.int i/\SqT K H p c/\atI c i=some v/\Q v H
def Nw:R2:=fun x y H Q=>∃z i c,x=.str z/\y=.int i/\z.length<=sizeLine/\atI z.cps.toList i=some c/\Q (.str ⟨#[c]⟩) H
def C0:IxR X (N5 X.K):=by
 intro f g d s o H x y v u Q I F E h A;obtain⟨p,P,i,z,rfl,rfl,G,L,q⟩:=h
 cases F
 obtain⟨t,rfl⟩:=E;obtain⟨m,r,l,R⟩:=I.list G;obtain⟨j,e,O,T,N,M⟩:=DU L;obtain⟨w,C,k⟩:=r.get O;have J:=r.length;have S:=JV;have c:EP X d o Q w s:=⟨z,H,I,k,q⟩
 by_cases B:0<=i
 .have n:i.toNat=j:=by
   rw[seqIndex_of B M]at e;exact Option.some.inj e
  exact item_listR l.isList B (by omega) (by rw[n];simpa using C) c A
 .have n:(i+(m.toArray.size:Int)).toNat=j:=by
   rw[seqIndex_neg (by omega) N]at e;rw[XD,<- J];exact Option.some.inj e
  exact subscriptTail_builtinR (x:=w) l.isList.typeIs slot_list_getitem.lookup
   (wpAny_getItem_list_neg (Q:=fun r D=>r=w/\EP X d o Q r D) l.isList (by omega) (by rw[XD]<;>omega) (by omega) (by rw[n];simpa using C) ⟨rfl,c⟩) A
def Lr:IxR X (Ny X.K):=by
 intro d e c s k H x y v u Q I o n h B;obtain⟨p,L,i,z,rfl,rfl,C,E,q⟩:=h
 cases o
 obtain⟨t,rfl⟩:=n;obtain⟨A,r,l,M⟩:=I.tuple C;obtain⟨j,G,F,R,P,O⟩:=DU E;obtain⟨w,J,f⟩:=r.get F;have D:=r.length;have N:=JV;have g:EP X c k Q w s:=⟨z,H,I,f,q⟩
 exact subscriptTail_builtinR (x:=w) l.typeIs slot_tuple_getitem.lookup
  (getItem_tuple (j:=j) (Q:=fun r m=>r=w/\EP X c k Q r m) l (by omega) (by omega) (by rw[XD,<- D];exact G) (by simpa using J) ⟨rfl,g⟩) B
def LO:IxR X Nw:=by
 intro d e B s C H x y v u Q I k g h l;obtain⟨z,i,c,rfl,rfl,E,n,q⟩:=h;obtain⟨t,rfl⟩:=k;obtain⟨D,rfl⟩:=g;obtain⟨j,f,r,G,p,o⟩:=DU n;have m:z.cps.toList.length=z.length:=by simp[Str.length]
 rw[m]at f p o;have F:=JV
 exact tail_any (typeIs_str s z t) slot_str_getitem.lookup (getItem_str (c:=c) (by
  have A:decide (i < -(2^63:Int))=false:=XH (by omega);have w:decide (i>=2^63)=false:=XH (by omega);rw[A,w,Bool.or_false]) (by rw[f];simpa using r) ⟨.str ⟨#[c]⟩,H,I.tok _,⟨_,rfl⟩,q⟩) l
def rIx (K:W.Frag):R2:=fun x y H Q=>N5 K x y H Q\/Ny K x y H Q\/Nw x y H Q
def QE:IxR X (rIx X.K):=C0.or (Lr.or LO)
def IH (c:Qe) (n j:Nat) (u:Value):Obj.mapSeq (·.setIfInBounds j u) { cls:=.type "list",data:=.seq c.toArray n }={ cls:=.type "list",data:=.seq (c.set j u).toArray n }:=by
 simp[Obj.mapSeq]
def Qr.lst {d:Qc}{f:St}{H:Hp}{s:Shared}{p:Addr}{xs:List V}(I:Qr X d f H s)(h:H p=some (.lst xs)) :
 ∃(c:Qe) (n:Nat),QS xs c/\s.heap.get? p=some { cls:=.type "list",data:=.seq c.toArray n }/\xs.length<=sizeLine:=by
 obtain⟨z,c,n,r,e⟩:=I.hok p _ h
 exact⟨c,n,r,e,z⟩
def Qr.lstUpd {d:Qc}{i:St}{H:Hp}{s:Shared}{p:Addr}{xs ys:List V}{c its':Qe}{n g:Nat}{f:Obj->Obj}(I:Qr X d i H s)(h:H p=some (.lst xs))
 (k:s.heap.get? p=some { cls:=.type "list",data:=.seq c.toArray n }) (j:f { cls:=.type "list",data:=.seq c.toArray n }={ cls:=.type "list",data:=.seq its'.toArray g }) (r:QS ys its') (hz:ys.length<=sizeLine) (t:Nat) :
 Qr X d i (upd H p<|.lst ys) { s with heap:=s.heap.update p f,toks:=t }:=by
 have e:(s.heap.update p f).get? p=some { cls:=.type "list",data:=.seq its'.toArray g }:=by
  rw[X8 f k<|by rw[j]<;>rfl,j]
 refine I.write (x:=p) (e:=p) (by rw[h];trivial) (.inl rfl) (fun b u l q=>(XU _ _<|Ne.symm l).trans q) ⟨_,e⟩ ?_
 exact⟨hz,its',g,r,e⟩
def JO:V->V->V->Hp->(Hp->Prop)->Prop:=fun o i v H Q=>∃p c k j,o=.ref p/\i=.int k/\H p=some (.lst c)/\ixN c.length k=some j/\Q (upd H p<|.lst<|c.set j v)
def Yn:MF X JO:=by
 intro l s A H o i v J L u Q I D E C h;obtain⟨p,B,k,j,rfl,rfl,m,G,q⟩:=h
 cases D
 obtain⟨t,rfl⟩:=E;obtain⟨c,n,r,e,F⟩:=I.lst m;obtain⟨d,N,x,w⟩:=Sw G;have f:=r.length;have M:=JV
 have z:Qr X l A (upd H p<|.lst<|B.set j v) { s with heap:=s.heap.update p (Obj.mapSeq (·.setIfInBounds j u)) } :=
  I.lstUpd m e (IH c n j u) (r.set C j) (by rw[List.length_set];exact F) s.toks
 by_cases y:0<=k
 .have g:k.toNat=j:=by
   rw[seqIndex_of y w]at d;exact Option.some.inj d
  exact W.ki_setAt e y (by omega) (by rw[XD,<- f];exact w) (by rw[g];exact⟨_,z,q⟩)
 .have g:(k+(c.toArray.size:Int)).toNat=j:=by
   rw[seqIndex_neg (by omega) x]at d;rw[XD,<- f];exact Option.some.inj d
  exact W.ki_setBack e (by omega) (by rw[XD,<- f];exact x) (by omega) (by rw[g];exact⟨_,z,q⟩)
def ZiR:Z7 X (.builtin "len") (fun xs H Q=>∃p ys,xs=[.ref p]/\(SqL X.K H p ys\/SqT X.K H p ys)/\Q (.int ys.length) H):=by
 intro k s l H xs m Q I r h;obtain⟨p,ys,rfl,d,q⟩:=h;obtain⟨u,rfl,i⟩:=YD r
 cases i
 have n:=JV
 rcases d with d|d
 .obtain⟨g,e,f,j⟩:=I.list d
  have c:=e.length;exact Calls.call_len_list f.isList (by simp only[XD]<;>omega) ⟨.int ys.length,H,I.tok _,⟨s.toks+1,by rw[XD,c]⟩,q⟩
 .obtain⟨g,e,f,j⟩:=I.tuple d
  have c:=e.length;exact len_tuple f (by simp only[XD]<;>omega) ⟨.int ys.length,H,I.tok _,⟨s.toks+1,by rw[XD,c]⟩,q⟩
def ZiL:Z7 X (.type "list") (fun xs H Q=>∃p ys,xs=[.ref p]/\(SqL X.K H p ys\/SqT X.K H p ys)/\∀l,H l=none->Q (.ref l) (upd H l<|.lst ys)):=by
 intro z s B H xs D Q I r h;obtain⟨p,ys,rfl,k,q⟩:=h;obtain⟨u,rfl,C⟩:=YD r
 cases C
 have t:∀(c:Qe),QS ys c->ys.length<=sizeLine->∀(d:Heap) (g:Nat),(∀b A,s.heap.get? b=some A->d.get? b=some A) ->
  d.get? s.heap.objs.size=some { cls:=.type "list",dict:=none,data:=.seq c.toArray g,slots := #[] }->EP X z B Q (.ref s.heap.objs.size) { s with heap:=d }:=fun c f j d g i e =>
  ⟨.ref s.heap.objs.size,_,I.laid (t':=s.toks) i (Xv _) (show Z4 X.prog X.w _ d _ (.lst ys) from⟨j,c,g,f,e⟩),rfl,q _<|I.hok.fresh<|Xv _⟩
 rcases k with k|k
 .obtain⟨c,f,v,j⟩:=I.list k
  have m:=f.length;obtain⟨o,w,y,n,x⟩:=v.isList;exact call_list_seq p (.inl rfl) w y x (fun d g i e=>t c f j d g i e) (by simp only[XD]<;>omega)
 .obtain⟨c,f,v,j⟩:=I.tuple k
  have m:=f.length;obtain⟨o,w,y,n,x⟩:=v;exact call_list_seq p (.inr rfl) w y x (fun d g i e=>t c f j d g i e) (by simp only[XD]<;>omega)
def ZhQ:Z7 X (.type "tuple") (fun xs H Q=>∃p ys,xs=[.ref p]/\((SqL X.K H p ys/\∀l,H l=none->Q (.ref l) (upd H l<|.tup ys))\/(SqT X.K H p ys/\Q (.ref p) H))):=by
 intro d s k H xs y Q I r h;obtain⟨p,ys,rfl,h⟩:=h;obtain⟨u,rfl,v⟩:=YD r
 cases v
 rcases h with ⟨j,q⟩|⟨j,q⟩
 .obtain⟨c,g,i,m⟩:=I.list j
  have n:=g.length;refine call_tuple_list i.isList (fun f w=>?_) (by simp only[XD]<;>omega);have t:Qr X d k H { s with heap:=f }:=I.kept (t':=s.toks) w
  have x:Qr X d k (upd H f.objs.size<|.tup ys) { s with heap:=f.push { cls:=.type "tuple",data:=.seq c.toArray } } :=
   t.laid (t':=s.toks) (fun b o e=>Xi _ e) (Xv _) (show Z4 X.prog X.w _ _ _ (.tup ys) from⟨m,c,g,IsTup.new _ _⟩)
  exact⟨.ref f.objs.size,_,x,rfl,q _<|t.hok.fresh<|Xv _⟩
 .obtain⟨c,g,i,m⟩:=I.tuple j
  exact call_tuple_same i ⟨.ref p,H,I,rfl,q⟩
def tyV (K:W.Frag)(T:String)(x:V)(H:Hp):Prop:=match x with
 |.str _=>T = "str"
 |.int _=>T = "int"
 | .ref p=>(T = "list" /\ ∃d,SqL K H p d)\/(T = "tuple" /\ ∃o,K.lookup p=some o/\o.cls=.type "tuple" /\ o.dict=none) \/
  (T = "dict" /\ ((∃c,H p=some (.dK c))\/∃c,H p=some (.dT c)))\/(T = "set" /\ ∃S n,H p=some (.set S n))
 |_=>False
def LS {l:Qc}{q:St}{H:Hp}{s:Shared}{T:String}{x:V}{v:Value}(I:Qr X l q H s)(r:QK x v)(g:tyV X.K T x H) :
 s.TypeIs v T/\∀a,v=.ref a->∃ob,s.heap.get? a=some ob/\ob.dict=none:=by
 cases x with
 |str z =>
   obtain⟨t,rfl⟩:=r
   cases (show T = "str" from g)
   exact⟨typeIs_str s z t,by rintro _ ⟨⟩⟩
 |int i =>
   obtain⟨t,rfl⟩:=r
   cases (show T = "int" from g)
   exact⟨typeIs_int s i t,by rintro _ ⟨⟩⟩
 |ref p =>
   cases r
   rcases g with ⟨rfl,A,w⟩|⟨rfl,o,d,y,j⟩|⟨rfl,d⟩|⟨rfl,S,n,d⟩
   .obtain⟨u,_,m,_⟩:=I.list w
    refine⟨m.isList.typeIs,fun a e=>?_⟩
    cases e
    obtain⟨o,n,e,c,j,_⟩:=m
    exact⟨o,e,j⟩
   .refine⟨⟨o,I.kIn p o d,y⟩,fun a e=>?_⟩
    cases e
    exact⟨o,I.kIn _ o d,j⟩
   .have z:∃o,s.heap.get? p=some o/\o.ExactDict:=by
     rcases d with ⟨h,d⟩|⟨h,d⟩
     .obtain⟨_,_,_,_,o,_,_,e,f,_⟩:=I.hok p _ d
      exact⟨o,e,f⟩
     .obtain⟨_,_,_,_,o,_,_,e,f,_⟩:=I.hok p _ d
      exact⟨o,e,f⟩
    obtain⟨o,e,f⟩:=z;refine⟨⟨o,e,f.1⟩,fun a k=>?_⟩
    cases k
    exact⟨o,e,f.2.1⟩
   .obtain⟨o,_,_,_,e,f,_⟩:=I.hok p _ d
    refine⟨⟨o,e,f.1⟩,fun a k=>?_⟩
    cases k
    exact⟨o,e,f.2.1⟩
 |_=>exact False.elim g
def tBM (K:W.Frag)(T:String)(r:V->List V->Hp->VK->Prop)(f:TE)(t:TA):TE:=fun c H Q=>f c H fun x d=>tyV K T x d/\t c d fun e g=>r x e g Q
variable {o e:Expr}{es:Qi}{to:TE}{t:TA}{name:Str}{apos cpos:Pos}{T id:String}{r:V->List V->Hp->VK->Prop}
noncomputable def VL (D:PlainAttrs T) (i:Slot T name id) (l:typeOf (.builtin id)=pure (.type "method_descriptor")) (G:MtR X id r) (F:PE X o to) (J:PA X (e::es) t)
 (f:attributeBase o name X.env (eval o X.env)=eval o X.env:=by rfl)
 (j:((backTo cpos<|starEach (e::es) X.env).all (fun x => !x.1)&&(backToKw cpos<|keywordEach [] X.env).all (fun x=>x.1.isSome)
  && decide ((e::es).length+([]:List Keyword).length+(if ([]:List Keyword).isEmpty then 0 else 1)<30))=true:=by rfl)
 (d:(apos.endLine==cpos.line)=true:=by rfl) (E:starEach (e::es) X.env=(false,eval e X.env)::starEach es X.env:=by rfl) (c:(backTo cpos<|starEach es X.env).any (·.1)=false:=by rfl) :
 PE X (.Call (.Attribute o name apos) (e::es) [] cpos) (tBM X.K T r to t):=by
 intro g s k H Q I h;refine wpAny_Call_method_late f j d rfl (Q9 (F g s k H _ I h) ?_);rintro v z ⟨x,P,p,m,w,C⟩;obtain⟨M,L⟩:=LS p m w;refine⟨T,id,D,i,l,M,L,?_⟩;have n:=J cpos g z k P _ p C;rw[E]at n ⊢;refine Calls.callWith_builtin (by show(false||(backTo cpos<|starEach es X.env).any (·.1))=false;rw[c]<;>rfl) (Calls.evalArgs_plain ?_);exact Q9 n<|by rintro u y ⟨q,O,N,A,B⟩;exact G g y k O x q v u Q N m A B
end
def MtM (X:Cx)(e:String)(r:V->List V->Hp->VK->Prop):Prop :=
 ∀(a:Qc) (s:Shared) (b:St) (H:Hp) (x:V) (c:List V) (v:Value) (d:Qe) (Q:VK),Qr X a b H s->QK x v->QS c d->r x c H Q ->
  wpAny (model X.prog X.w) X.A (call (.builtin e) (v::d)) (EP X a b Q) X.xe s
theorem QS.one:∀{x:V} {us:Qe},QS [x] us->∃u,us=[u]/\QK x u
 |_,_,.cons r .nil=>⟨_,rfl,r⟩
theorem QS.rep {xs:List V}{us:Qe}(h:QS xs us):∀k:Nat,QS (List.replicate k xs).flatten (List.replicate k us).flatten
 |0=>.nil
 |k+1=>by
   rw[JA,JA,Ul,Ul];exact QS.append h (QS.rep h k)
theorem P3 (a:Qe):∀(k:Nat) (b:Qe),
 List.foldl (fun d c=>d++c) b.toArray (List.replicate k a.toArray)=(b++(List.replicate k a).flatten).toArray
 |0,b=>by simp
 |k+1,b=>by
   have e:b.toArray++a.toArray=(b++a).toArray:=by simp
   have f:(b++a)++(List.replicate k a).flatten=b++(List.replicate (k+1) a).flatten:=by
    rw[JA,Ul,Ga]
   rw[<- f,<- P3 a k (b++a),<- e,JA,List.foldl_cons]
section
variable {X:Cx}{XaV:Qc}{σ:St}{H:Hp}{s:Shared}{l:Addr}{xs ys:List V}
def Qr.lset {a:Qe}  (I:Qr X XaV σ H s)(h:H l=some (.lst xs))
 (e:s.heap.get? l=some { cls:=.type "list",data:=.seq a.toArray n }) (d:f a.toArray=its'.toArray) (b:QS ys its') (hz:ys.length<=sizeLine) :
 Qr X XaV σ (upd H l<|.lst ys) { s with heap:=s.heap.update l (Obj.mapSeq f),toks:=t' }:=by
 have q:=PySem.IsL.update e f;rw[d]at q;refine I.write (x:=l) (e:=l) (by rw[h];exact trivial) (.inl rfl) (fun i u g c=>(XU s.heap (Obj.mapSeq f)<|Ne.symm g).trans c) ⟨_,q⟩ ?_
 exact⟨hz,its',_,b,q⟩
def Qr.lnew  (I:Qr X XaV σ H s)(a:QS ys its)(hz:ys.length<=sizeLine) :
 Qr X XaV σ (upd H s.heap.objs.size<|.lst ys) { s with heap:=s.heap.push { cls:=.type "list",data:=.seq its.toArray },toks:=t' } :=
 I.laid (fun _ _ q=>Xi _ q) (Xv _) ⟨hz,its,0,a,XF _ rfl⟩
def Qr.fresh (I:Qr X XaV σ H s):H s.heap.objs.size=none:=I.hok.fresh (Xv _)
def Qr.lstM (I:Qr X XaV σ H s) (b:H l=some (.lst xs)):xs.length<=sizeLine/\∃(a:Qe) (n:Nat),QS xs a/\xs.length=a.length/\s.heap.get? l=some { cls:=.type "list",data:=.seq a.toArray n }:=by
 obtain⟨z,a,n,r,e⟩:=I.hok l _ b
 exact⟨z,a,n,r,r.length,e⟩
def AJ (h:n<=sizeLine):Builtin.List.listTooLong n=false:=by
 unfold Builtin.List.listTooLong;exact XH (by omega)
end
section
variable {X:Cx}
def VV:V->List V->Hp->VK->Prop:=fun x b H Q=>∃l a y,x=.ref l/\b=[y]/\H l=some (.lst a)/\a.length<sizeLine/\Q .non (upd H l<|.lst<|a++[y])
def VP:MtM X "list.append" VV:=by
 intro g s i H x k v m Q I c d h;obtain⟨l,j,y,rfl,rfl,b,o,q⟩:=h
 cases c
 obtain⟨u,rfl,f⟩:=d.one;obtain⟨z,a,n,r,p,e⟩:=I.lstM b;refine call_meets F.slot_list_append ⟨_,e,rfl⟩ F.entry_list_append (F.args_list_append_2 _ _) (PySem.list_append l a.toArray n u<|by rw[XD];omega) ⟨e,?_⟩;refine⟨.non,_,I.lset (its':=a++[u]) b e (by simp) (r.append<|.cons f .nil) ?_,rfl,q⟩;rw[Xs,List.length_singleton];omega
def MK:R2:=fun x y H Q=>∃l b c a,x=.ref l/\y=.ref b/\H l=some (.lst c)/\H b=some (.lst a)/\c.length+a.length<=sizeLine/\∀p,H p=none->Q (.ref p) (upd H p<|.lst<|c++a)
def RA:OpR X (binaryOp .Add) MK:=by
 intro p s t H x y v u Q I f d h;obtain⟨l,b,B,w,rfl,rfl,j,k,D,q⟩:=h
 cases f
 cases d
 obtain⟨z,c,n,r,E,e⟩:=I.lstM j;obtain⟨A,a,C,g,i,o⟩:=I.lstM k;refine PySem.P.add_list e o ?_ (by rw[XD,XD];omega);have m:c.toArray++a.toArray=(c++a).toArray:=by simp
 rw[m];exact⟨.ref _,_,I.lnew (t':=s.toks) (r.append g)<|by rw[Xs];omega,rfl,q _ I.fresh⟩
def N0:R2:=fun x y H Q=>∃l k a,x=.ref l/\y=.int k/\H l=some (.lst a) /\ -(2^63)<=k/\k<2^63/\a.length*k.toNat<=sizeLine /\
 ∀p,H p=none->Q (.ref p) (upd H p<|.lst (List.replicate k.toNat a).flatten)
def FM {a:Type}(xs:List a)(k:Nat):(List.replicate k xs).flatten.length=k*xs.length:=by
 induction k with
 |zero=>simp
 |succ k b=>rw[JA,Ul,Xs,b,Nat.succ_mul,Nat.add_comm]
def RG:OpR X (binaryOp .Mult) N0:=by
 intro L s M H x y v u Q I B A h;obtain⟨l,k,N,rfl,rfl,D,G,E,p,q⟩:=h
 cases B
 obtain⟨t,rfl⟩:=A;obtain⟨z,b,n,r,C,e⟩:=I.lstM D;have f:b.toArray.size*k.toNat<=sizeLine:=by rw[XD,<- C];exact p
 have i:¬b.toArray.size*k.toNat > (2^63-1)/8:=by
  have:(sizeLine:Nat)<=(2^63-1)/8:=by decide
  omega
 have g:¬(!Builtin.List.listFitsIndex k)=true:=by
  rw[fitsIndex_both G E];exact Xw
 have c:¬Builtin.List.listTooLong (b.toArray.size*k.toNat)=true:=by
  rw[AJ f];exact Xw
 have d:List.foldl (fun o j=>o++j) #[] (List.replicate (if b.toArray.isEmpty=true then 0 else k.toNat) b.toArray)=(List.replicate k.toNat b).flatten.toArray:=by
  have J:∀m:Nat,List.foldl (fun o j=>o++j) #[] (List.replicate m b.toArray)=(List.replicate m b).flatten.toArray:=fun m=>by
   have:=P3 b m []
   rw[List.nil_append]at this;exact this
  rw[J];cases b with
  |nil=>simp
  |cons a O=>rw[Xa<|by simp]
 refine wpAny_binaryOp_repeat_ref (T := "list") (U := "int") (by decide) ⟨_,e,rfl⟩ (fun w=>typeIs_int w k t) noFill_list_mul F.fills_int_mul F.slot_int_rmul repeat_list F.slot_int_index.lookup
  (call_meets F.slot_int_rmul (typeIs_int s k t) F.entry_int_rmul (F.args_int_rmul_2 _ _) (int___rmul___int_list k t l b.toArray n)
   ⟨e,rfl,⟨_,e,rfl⟩,call_meets F.slot_list_mul ⟨_,e,rfl⟩ F.entry_list_mul (F.args_list_mul_2 _ _) (AutoListH.list___mul___list_int_3 l b.toArray n k t g i c) ⟨e,?_⟩⟩)
 rw[d];exact⟨.ref _,_,I.lnew (t':=s.toks) (r.rep k.toNat)<|by rw[FM,Nat.mul_comm];exact p,rfl,q _ I.fresh⟩
end
end L2
namespace Att
open PySem PySem.W PySem.Calls PyProof.Rows
def ZgH  : ∀(ns:Ql) (vs:Qe),WellAll P h vs (ns.map WData.int)->IntsAre vs ns:=by
 intro ns;induction ns with
 |nil =>
   intro vs w;rw[UY]at w;cases w;exact .nil
 |cons n ns c =>
   intro vs w;rw[Xx]at w;cases w with
   |cons a b =>
     cases a
     exact .cons _ _ (c _ b)
def EA {l:OpenLaw}(hn:l.most=some n)
 (b:l.row.toRowW.claim.pre args=true) (i:WellAll P h vals args) :
 ∃a vs ns,vals=[Value.ref a]/\args=[WData.list<|ns.map WData.int]/\h.get? a=some { cls:=.type "list",data:=.seq vs.toArray }/\IntsAre vs ns/\ns.length<=n:=by
 have j:WShape.hasAll [] args [.list .int]=true:=(pre_splitW b).1;have k:l.pre.holds [] { args:=args }=true:=(pre_splitW b).2;obtain⟨d,r,rfl,v,u⟩:=hasAllW_cons j;obtain rfl:=hasAllW_nil u;obtain⟨w,rfl,t⟩:=hasW_list v;obtain⟨ns,rfl⟩:=items_int t
 have c:ns.length<=n:=by
  unfold OpenLaw.pre at k;have g:(WTm.not<|.lt (.lit<|.int (n:Int))<|.len<|.arg 0).holds [] { args:=[.list<|ns.map .int] }=true:=by
   have g:=(holds_andW k).1;rw[hn]at g;exact g
  have f:=condW_of g (w_not<|w_lt w_lit<|w_len_list<|w_arg rfl);rw[Xl]at f;refine Nat.le_of_not_lt fun q=>?_;have p:(n:Int)<((ns.length:Nat):Int):=by omega
  first
   |(rw[XJ p]at f;exact Xm f<|by decide)
   |(simp at f;omega)
 cases i with
 |cons o m =>
   cases m
   cases o with
   |list s e=>exact⟨_,_,ns,rfl,rfl,s,ZgH ns _ e,c⟩
def Ew (l:OpenLaw)(args:List WData):l.row.toRowW.claim.post args (.bool true) args=true :=
 postW_of (r:=l.row.toRowW) (X:=(true==true))
  (show WShape.has [] (.bool true) .bool=true by first|rfl|decide|simp[WShape.has,WShape.arms,WShape.armsAll])
  (show(WTm.eq .res<|.lit<|.bool true).value [] { args:=args,res:=some (.bool true),after:=args }=some (.bool<|true==true) from w_eq_bool (w_res rfl) w_lit) rfl
end Att
namespace L2
open PySem PySem.Spec PyProof.Rows
theorem PX:∀{vs:Qe} {ns:Ql},IntsAre vs ns->QS (ns.map V.int) vs
 |_,_,.nil=>.nil
 |_,_,.cons n t h=>.cons ⟨t,rfl⟩ (PX h)
def Ld (H:Hp):Prop := ∀b,H b=none\/∃o a,H b=some (.frz o<|.lst a)
noncomputable abbrev KOf {K:W.Frag}{h:Heap}(_:K.In h):W.Frag:=K
noncomputable def Vv (s:Stmt)(j:Nat):Stmt:=match s with
 |.ClassDef _ _ _ a _ _ _ _ _ _ _=>a.getD j (.Pass ⟨0,0,0,0⟩)
 |_=>.Pass ⟨0,0,0,0⟩
noncomputable def Y2 (s:Stmt):Arguments:=match s with
 |.FunctionDef _ a _ _ _ _ _ _ _ _=>a
 |_=>{ posonlyargs:=[],args:=[],vararg:=none,kwonlyargs:=[],kw_defaults:=[],kwarg:=none,defaults:=[] }
noncomputable def Z9 (s:Stmt):List Stmt:=match s with
 |.FunctionDef _ _ b _ _ _ _ _ _ _=>b
 |_=>[]
noncomputable def Q2 (s:Stmt):Scope:=match s with
 |.FunctionDef _ _ _ _ _ _ a _ _ _=>a
 |_=>{ kind:=.function,names:=[],isGenerator:=false,isCoroutine:=false }
abbrev CX0:CXT:=fun _ _ _ _ _ _=>False
abbrev E0:XK:=fun _ _ _=>False
def JT:Yf CX0 X E0:=fun _ _ _ _ _ _ _ h=>h.elim
structure Fun (K:W.Frag)(x qual:Str)(st:Stmt)(f:Addr)(fd:FuncData):Prop where
 ex:∃(oc:Value) (od:Qj) (kV doc pm:Value) (an:Qj) (cdv ct:Value) (osl:Array (Qf)),
  fd=W.fnOf x qual (Y2 st) (Z9 st) (Q2 st) .none kV doc pm an cdv ct/\K.lookup f=some ⟨oc,od,.func fd,osl⟩/\W.codeIn K cdv qual=true
 kp:W.keepIn K (.ref f)=true
section
variable {P:Program}{w:World}{K:W.Frag}{mg:Str->Qf}{base:Heap}
def Fun.ok {x b:Str}{st:Stmt}{f:Addr}{l:FuncData}{N ps:Qh}{k:Nat}{d:Sp}(F:Fun K x b st f l)(S:Qp N ps (Q2 st))(e:∀vs H Q E,d vs H Q E->vs.length=ps.length)
 (j:∀(c:Value) (A:Around) (a:List Env) (s:Shared) (H:Hp) (vs:List V) (Q:VK) (E:XK),Room k (A.deeper<|envOfC b (Q2 st) s.heap.objs.size f c)->d vs H Q E ->
  ∃t,PSs (Vz CX0 P w K mg base N b (Q2 st) f c A a s H E).nox (Z9 st) t/\t { nx:=fun _ r=>Q .non r,rt:=Q } (start N vs) H):FnOk P w K mg base CX0 (k+1) f l ps d:=by
 obtain⟨y,v,kV,p,u,B,c,z,m,rfl,n,i⟩:=F.ex;refine Rf n i S e fun A a s H vs Q E o g=>?_;obtain⟨t,h,q⟩:=j c A a s H vs Q E o g
 exact⟨t,h.nox,q⟩
def Fun.binds {x a:Str}{st:Stmt}{f:Addr}{i:FuncData}{ps:Qh}(F:Fun K x a st f i)
 (h:∀(kV b d:Value) (g:Qj) (c e:Value) (us:Qe),us.length=ps.length->bindArgs (W.fnOf x a (Y2 st) (Z9 st) (Q2 st) .none kV b d g c e) ⟨us,[]⟩=pure (ps.zip us)):Vu K i ps []:=by
 obtain⟨m,l,kV,b,d,g,c,e,j,rfl,n,k⟩:=F.ex;exact .all (h kV b d g c e)
def Ju {x a:Str}{st:Stmt}{f:Addr}{j:Value}{od i:Qj}{e:Array (Qf)}{kV d g b h:Value}(l:K.lookup f=some ⟨j,od,.func<|W.fnOf x a (Y2 st) (Z9 st) (Q2 st) .none kV d g i b h,e⟩)
 (c:W.codeIn K b a=true) (k:W.keepIn K (.ref f)=true):Fun K x a st f (W.fnOf x a (Y2 st) (Z9 st) (Q2 st) .none kV d g i b h):=⟨⟨j,od,kV,d,g,i,b,h,e,rfl,l,c⟩,k⟩
end
def Ys  (a:Room k A):A.units+1<cLine:=M9 (Nat.add_le_add_left (by decide:1<=64) _) a.units
def Vg (h:n<=1000):n<sizeLine:=M9 h (by decide)
section
variable {X:Cx}
def pv (i:Nat) {x:Str} {a:Pos} (e:X.N[i]?=some x:=by rfl) (c:Vis X.env.scope x:=by first|exact Or.inl rfl|exact Or.inr Qa|exact Or.inr<|Or.inr rfl) (d:(x==("__debug__" : Str))=false:=by decide)
 (b:(x==("__classdict__" : Str))=false:=by decide):PE X (.Name x a) (Q8 i):=RE e c d b
end
def Q5 (H a:Hp):Prop := ∀b o,H b=some o->a b=some o
def Q5.refl (H:Hp):Q5 H H:=fun _ _ h=>h
def Q5.trans (a:Q5 H H1)(b:Q5 H1 H2):Q5 H H2:=fun c o h=>b c o (a c o h)
def Q5.free (e:Q5 H H')(h:H' l=Option.none):H l=Option.none:=by
 cases q:H l with
 |none=>rfl
 |some o =>
   rw[e l o q]at h;cases h
def Q5.seq {K:W.Frag}{H b:Hp}{a:Addr}{xs:List V}(e:Q5 H b)(h:SqL K H a xs):SqL K b a xs:=by
 rcases h with (h|⟨o,h⟩)|h
 .exact .inl (.inl<|e _ _ h)
 .exact .inl (.inr ⟨o,e _ _ h⟩)
 .exact .inr h
end L2
section
namespace L2
open PySem PySem.Spec PyProof.Rows
theorem Kl {env:Env}{F:Str×NameKind->List (Str×Addr)->Sem (ForInStep<|List<|Str×Addr)}
 (u:∀n c a,env.cells.lookup n=some c->F (n,NameKind.free) a=pure (.yield ((n,c)::a)))
 (t:∀n k a,k≠NameKind.free->F (n,k) a=pure (.yield a)) :
 ∀(l:List (Str×NameKind)) (a:List (Str×Addr)),(∀p∈l,p.2=NameKind.free->∃c,env.cells.lookup p.1=some c)->(∀x c,a.lookup x=some c->env.cells.lookup x=some c) ->
  ∃f,forIn l a F=pure f/\(∀x c,f.lookup x=some c->env.cells.lookup x=some c)/\(∀x c,a.lookup x=some c->∃D,f.lookup x=some D)/\∀p∈l,p.2=NameKind.free->∃c,f.lookup p.1=some c
 |[],a,_,m=>⟨a,by rw[List.forIn_nil],m,fun x c h=>⟨c,h⟩,fun p b=>Xm b<|by simp⟩
 |(n,k)::l,a,A,m=>by
   have i:∀p∈l,p.2=NameKind.free->∃c,env.cells.lookup p.1=some c:=fun p b=>A p (Xe _ b)
   by_cases r:k=NameKind.free
   .subst r
    obtain⟨c,e⟩:=A (n,NameKind.free) Xb rfl
    have s:∀x d,((n,c)::a).lookup x=some d->env.cells.lookup x=some d:=fun x d q=>by
     cases g:x==n with
     |true =>
       simp only[XM,g]at q;cases q;rw[eq_of_beq g];exact e
     |false =>
       simp only[XM,g]at q;exact m x d q
    obtain⟨f,z,y,o,w⟩:=Kl u t l ((n,c)::a) i s
    have B:∀x d,a.lookup x=some d->∃v,((n,c)::a).lookup x=some v:=fun x d q=>by
     cases g:x==n with
     |true=>exact⟨c,by simp only[XM,g]⟩
     |false=>exact⟨d,by simp only[XM,g];exact q⟩
    refine⟨f,by rw[List.forIn_cons,u n c a e,pure_bind];exact z,y,fun x d q=>?_,fun p b j=>?_⟩
    .obtain⟨v,C⟩:=B x d q
     exact o x v C
    .rcases Xg.mp b with rfl|b
     .exact o n c (by simp only[XM,beq_self_eq_true])
     .exact w p b j
   .obtain⟨f,z,y,o,w⟩:=Kl u t l a i m
    refine⟨f,by rw[List.forIn_cons,t n k a r,pure_bind];exact z,y,o,fun p b j=>?_⟩
    rcases Xg.mp b with rfl|b
    .exact Xm j r
    .exact w p b j
def Ti  (h:∀p∈scope.names,p.2=NameKind.free->∃c,env.cells.lookup p.1=some c) :
 ∃b,closureFor scope env=pure b/\(∀x c,b.lookup x=some c->env.cells.lookup x=some c)/\∀p∈scope.names,p.2=NameKind.free->∃c,b.lookup p.1=some c:=by
 simp only[closureFor];obtain⟨b,d,l,_,j⟩:=Kl (env:=env) (F:=fun x r=>match x with|(name,kind)=>if (kind==NameKind.free)=true then do let a <- cellOf env name;pure (ForInStep.yield ((name,a)::r)) else pure<|ForInStep.yield r)
  (fun n c i e=>by
   show(if (NameKind.free==NameKind.free)=true then _ else _)=_
   rw[Xd (show(NameKind.free==NameKind.free)=true from rfl)];unfold cellOf;rw[e];rfl)
  (fun n k i g=>by
   have:(k==NameKind.free)=false:=by simpa using g
   show(if (k==NameKind.free)=true then _ else _)=_
   rw[this,Xa Xw]) scope.names [] h (fun x c q=>by simp at q)
 refine⟨b,?_,l,j⟩
 first
  |exact d
  |(rw[bind_pure];exact d)
  |(simp only[bind_pure]at *;exact d)
  |(rw[show(f scope.names ([]:List (Str×Addr)) _ >>= fun r=>pure r)=_ from bind_pure _];exact d)
theorem T9 {env:Env}:∀{a:List (Str×NameKind)} {x:Str},a.lookup x=some .free ->
 (a.map fun(n,k)=>if (k==NameKind.free&&env.scope.kind==.function&&env.kindOf n==some .cell) then (n,NameKind.cell) else (n,k)).lookup x=some .cell \/
 (a.map fun(n,k)=>if (k==NameKind.free&&env.scope.kind==.function&&env.kindOf n==some .cell) then (n,NameKind.cell) else (n,k)).lookup x=some .free
 |[],_,h=>by simp at h
 |(n,k)::r,x,h=>by
   have d:=@T9 env r x;show List.lookup x ((if (k==NameKind.free&&env.scope.kind==.function&&env.kindOf n==some .cell)=true then (n,NameKind.cell) else (n,k))::_)=_\/List.lookup x ((if (k==NameKind.free&&env.scope.kind==.function&&env.kindOf n==some .cell)=true then (n,NameKind.cell) else (n,k))::_)=_
   cases b:x==n with
   |true =>
     simp only[XM,b]at h;cases h
     by_cases c:(NameKind.free==NameKind.free&&env.scope.kind==.function&&env.kindOf n==some .cell)=true
     .rw[Xd c];left;simp only[XM,b]
     .rw[Xa c];right;simp only[XM,b]
   |false =>
     simp only[XM,b]at h;by_cases c:(k==NameKind.free&&env.scope.kind==.function&&env.kindOf n==some .cell)=true
     .rw[Xd c];simp only[XM,b];exact d h
     .rw[Xa c];simp only[XM,b];exact d h
theorem T7 {env:Env}:∀{a:List (Str×NameKind)} {x:Str},((a.map fun(n,k)=>if (k==NameKind.free&&env.scope.kind==.function&&env.kindOf n==some .cell) then (n,NameKind.cell) else (n,k)).lookup x=some .cell \/
 (a.map fun(n,k)=>if (k==NameKind.free&&env.scope.kind==.function&&env.kindOf n==some .cell) then (n,NameKind.cell) else (n,k)).lookup x=some .free)->a.lookup x=some .free\/a.lookup x=some .cell
 |[],_,h=>by simp at h
 |(n,k)::r,x,h=>by
   have d:=@T7 env r x;have h:List.lookup x ((if (k==NameKind.free&&env.scope.kind==.function&&env.kindOf n==some .cell)=true then (n,NameKind.cell) else (n,k))::_)=_\/List.lookup x ((if (k==NameKind.free&&env.scope.kind==.function&&env.kindOf n==some .cell)=true then (n,NameKind.cell) else (n,k))::_)=_:=h
   cases c:x==n with
   |true =>
     simp only[XM,c];by_cases b:(k==NameKind.free&&env.scope.kind==.function&&env.kindOf n==some .cell)=true
     .have:k=NameKind.free:=by
       rw[WB,WB]at b;exact eq_of_beq b.1.1
      left;rw[this]
     .rw[Xa b]at h
      simp only[XM,c]at h;exact h.symm
   |false =>
     simp only[XM,c];by_cases b:(k==NameKind.free&&env.scope.kind==.function&&env.kindOf n==some .cell)=true
     .rw[Xd b]at h;simp only[XM,c]at h;exact d h
     .rw[Xa b]at h;simp only[XM,c]at h;exact d h
structure CIn where
 cl:List (Str×Addr)
 C:Addr
 s₀:Shared
 H₀:Hp
 ex:Qg
 pn:Qc
noncomputable def ZN (X:Cx)(N:Qh)(scope:Scope)(c:CIn):Cx where
 prog:=X.prog
 w:=X.w
 K:=X.K
 mg:=X.mg
 base:=X.base
 A:=X.A
 N:=N
 s₀:=c.s₀
 H₀:=c.H₀
 env:=compEnvC scope c.cl c.C X.env
 outer:=X.stack
 stack:=X.stack
 ex:=c.ex
 fn:=fun _=>false
 calm:=X.calm
 pn:=c.pn
 xe:=fun _ _=>False
noncomputable def Yj (f:List (Option Nat))(a:St):St:=f.map fun o=>match o with|some i=>(a[i]?).join|none=>none
structure CompOk (NX:Qh)(sc:Scope)(N:Qh)(f:List (Option Nat))(scope:Scope):Prop where
 kind:scope.kind=.function
 nocell:∀y∈scope.names,y.2≠NameKind.cell
 names:∀y∈scope.names,y.2=NameKind.local->scope.names.lookup y.1=some .local
 free:∀y∈scope.names,y.2=NameKind.free->sc.names.lookup y.1=some .cell\/sc.names.lookup y.1=some .free
 len:f.length=N.length
 ix:∀(j i:Nat),f[j]?=some (some i)->∃x,N[j]?=some x/\NX[i]?=some x/\scope.names.lookup x=some .free
noncomputable def UA (NX:Qh)(sc:Scope)(N:Qh)(f:List (Option Nat))(scope:Scope):Bool :=
 decide (scope.kind=.function)&&(scope.names.all fun y=>decide (y.2≠NameKind.cell)&&(decide (y.2≠NameKind.local)||decide (scope.names.lookup y.1=some .local)) &&
  (decide (y.2≠NameKind.free)||decide (sc.names.lookup y.1=some .cell)||decide (sc.names.lookup y.1=some .free)))&&decide (f.length=N.length) &&
 (List.range f.length).all fun j=>match f[j]? with
  | some (some i)=>(match N[j]? with
    |some x=>decide (NX[i]?=some x)&&decide (scope.names.lookup x=some .free)
    |none=>false)
  |_=>true
def Pn   (h:UA NX sc N f scope=true):CompOk NX sc N f scope:=by
 unfold UA at h;simp only[WB,List.all_eq_true,decide_eq_true_eq,Bool.or_eq_true]at h;obtain⟨⟨⟨l,b⟩,k⟩,g⟩:=h;refine⟨l,fun y a=>(b y a).1.1,fun y a e=>?_,fun y a e=>?_,k,fun j i e=>?_⟩
 .rcases(b y a).1.2 with z|z
  .exact Xm e z
  .exact z
 .rcases(b y a).2 with (z|z)|z
  .exact Xm e z
  .exact .inl z
  .exact .inr z
 .have d:j<f.length:=(Xf.mp e).1
  have q:=g j (XI.mpr d);rw[e]at q;cases c:N[j]? with
  |none=>rw[c]at q;simp at q
  |some x =>
    rw[c]at q;simp only[WB,decide_eq_true_eq]at q;exact⟨x,rfl,q.1,q.2⟩
def N3 (f:List (Option Nat))(b a:St):Prop:=a.length=b.length/\∀(i j:Nat),f[i]?=some (some j)->a[i]?=b[i]?
structure TgOk (f:List (Option Nat))(g:TG):Prop where
 keep:∀x σ H Q,g x σ H Q->g x σ H fun σ2 H2=>N3 f σ σ2/\Q σ2 H2
 mono:∀x σ H Q Q',(∀σ H,Q σ H->Q' σ H)->g x σ H Q->g x σ H Q'
structure TgsOk (f:List (Option Nat))(g:TGs):Prop where
 keep:∀xs σ H Q,g xs σ H Q->g xs σ H fun σ2 H2=>N3 f σ σ2/\Q σ2 H2
 mono:∀xs σ H Q Q',(∀σ H,Q σ H->Q' σ H)->g xs σ H Q->g xs σ H Q'
theorem VC  (h:f[j]?=some none:=by rfl):TgOk f (Vc j) where
 keep:=fun x a H Q q=>⟨⟨List.length_set ..,fun i k e=>Xo<|by rintro rfl;rw[h]at e;cases e⟩,q⟩
 mono:=fun x a H Q b m q=>m _ _ q
theorem Sg:TgsOk f MT where
 keep:=by rintro b a H Q ⟨e,q⟩;exact⟨e,⟨rfl,fun _ _ _=>rfl⟩,q⟩
 mono:=by rintro b a H Q c m ⟨e,q⟩;exact⟨e,m _ _ q⟩
theorem BS  (c:TgOk f t)(b:TgsOk f u):TgsOk f (Dj t u) where
 keep:=by rintro k h H Q ⟨v,r,e,q⟩;exact⟨v,r,e,c.mono _ _ _ _ _ (fun a l z=>b.mono _ _ _ _ _ (fun g o y=>⟨⟨y.1.1.trans z.1.1,fun i j d=>(y.1.2 i j d).trans (z.1.2 i j d)⟩,y.2⟩)<|b.keep _ _ _ _ z.2)<|c.keep _ _ _ _ q⟩
 mono:=by rintro k h H Q n m ⟨v,r,e,q⟩;exact⟨v,r,e,c.mono _ _ _ _ _ (fun a l z=>b.mono _ _ _ _ _ m z) q⟩
theorem RC {f:List (Option Nat)}{K:W.Frag}{n:Nat}{t:TGs}(h:TgsOk f t):TgOk f (MM K n t) where
 keep:=by rintro x c H Q ⟨a,b,e,q,l,z⟩;exact⟨a,b,e,q,l,h.keep _ _ _ _ z⟩
 mono:=by rintro x c H Q d m ⟨a,b,e,q,l,z⟩;exact⟨a,b,e,q,l,h.mono _ _ _ _ _ m z⟩
def PCs (X:Cx)(d:Qi)(e:TT):Prop :=
 ∀(a:Qc) (s:Shared) (b:St) (H:Hp) (Q:Bool->Hp->Prop),Qr X a b H s->e b H Q ->
  wpAny (model X.prog X.w) X.A (forIn d true fun c r=>if r=true then do let f <- isTrue c X.env (eval c X.env);pure (ForInStep.yield f) else pure<|ForInStep.yield r) (TP X a b Q) X.xe s
def WG:TT:=fun _ H Q=>Q true H
def Wv:PCs X [] WG:=fun _ _ _ H _ I h=>wpAny_tests_nil ⟨H,I,h⟩
def Ua  (h:PT X c tc):PCs X [c] tc:=fun a s b H Q I q=>wpAny_tests_one (h a s b H Q I q)
def Zj0      (I:Nat->Shared->Prop)
 (e:∀n s,I n s->wpAny (model prog w) A (pyNext it) (fun r i=>match r with
  |none=>R (.ok .next) i
  | some v=>wpAny (model prog w) A (letOwnedTupleGo target it v) (fun _ a=>wpAny (model prog w) A (assign target env v) (fun _ p =>
   wpAny (model prog w) A (forIn ifs true fun c r=>if r=true then do let f <- isTrue c env (eval c env);pure (ForInStep.yield f) else pure<|ForInStep.yield r) (fun f g =>
    if f=true then wpAny (model prog w) A (eval elt env) (fun x l =>
     wpAny (model prog w) A (call (.builtin "list.append") [acc,x]) (fun _ j => ∃m,m<n/\I m j) (fun _ _=>False) l) (fun _ _=>False) g
    else ∃m,m<n/\I m g) (fun _ _=>False) p) (fun _ _=>False) a) (fun _ _=>False) i) (fun _ _=>False) s)
 (n:Nat) (h:I n s) :
 codeAny (model prog w) A (.compLoop (.ListComp elt [⟨target,iter,ifs,0⟩] scope pos) 0 it acc env) R s:=by
 refine codeAny_loop rfl I (fun n s q=>?_) n h;show wpAny _ A ((compTurn (.ListComp elt [⟨target,iter,ifs,0⟩] scope pos) 0 it acc env).onRaise (fun x=>do noteFrame x env;theTreesLotGoes x)) _ _ s;refine wpAny_noted ?_;rw[compTurn_list];refine Xc (wpAny_standAt<|Xc<|wpAny_mono (e n s q) (fun r i o=>?_) fun _ _ b=>b.elim)
 cases r with
 |none=>exact Xq o
 |some v =>
   refine Xc (wpAny_mono o (fun _ a d=>?_) fun _ _ b=>b.elim);refine Xc (wpAny_mono d (fun _ p y=>Xc<|wpAny_mono y (fun f g k=>?_) fun _ _ b=>b.elim) fun _ _ b=>b.elim)
   cases f with
   |false=>exact Xq ⟨rfl,k⟩
   |true =>
     exact Xc (Xc<|wpAny_mono k (fun x l u=>Xc<|wpAny_mono u (fun _ j t=>Xq<|Xq ⟨rfl,t⟩) fun _ _ b=>b.elim) fun _ _ b=>b.elim)
theorem Qr.track {X:Cx}{d:Qc}{i:St}{H:Hp}{s:Shared}{a:Addr}{o:HO}(I:Qr X d i H s)(hn:H a=none)(h0:X.s₀.heap.objs.size<=a)(v:a≠X.env.locals)(w:∀x c,X.env.cells.lookup x=some c->c≠a)
 (t:∀p∈X.pn++d,p.1≠a) (new:Z4 X.prog X.w (upd H a o) s.heap a o):Qr X d i (upd H a o) s where
 ok:=I.ok
 os:=I.os
 bare:=I.bare
 base :=
  { keep:=I.base.keep
    slot:=I.base.slot
    free:=fun b l q n m=>by rw[Qt<|Xu<|Xr (Xk q) h0];exact I.base.free b l q n m
    there:=I.base.there
    tups:=fun b h q=>by have z:=I.base.tups b h q;rw[Qt<|Zw z hn];exact z
    tupo:=I.base.tupo
    frzs:=fun b u h q=>by have z:=I.base.frzs b u h q;rw[Qt<|Zw z hn];exact z
    tbls:=fun b k q=>by obtain⟨f,z⟩:=I.base.tbls b k q;exact⟨f,by rw[Qt<|Zw z hn];exact z⟩ }
 loc:=I.loc
 cell:=I.cell
 free:=by rw[Qt v.symm];exact I.free
 freeC:=fun x c e=>by rw[Qt<|w x c e];exact I.freeC x c e
 pin:=fun p g=>by obtain⟨e,n,r⟩:=I.pin p g;exact⟨e,by rw[Qt<|t p g];exact n,r⟩
 hok:=fun b u e=>by
  by_cases j:b=a
  .subst j;rw[QC]at e;cases e;exact new
  .rw[Qt j]at e
   exact(I.hok b u e).stay (fun _ _ _ q=>q) (fun c q=>by rw[Qt<|Zw q hn];exact q) fun c h q=>by rw[Qt<|Zw q hn];exact q
 len:=I.len
def LCw (f:List (Option Nat))(g:TG)(l:TT)(k:TE)(j:St)(J:It)(Q:VK)(q:Hp):Prop :=
 ∃W:Nat->Nat->List V->Hp->Prop,(∃m,W 0 m [] q)/\∀i m c H,W i m c H ->
  (J.stop i H/\∀p,H p=none->Q (.ref p) (upd H p<|.lst c)) \/
  (J.go i H/\∀x h,J.yld i H x h->g x (Yj f j) h fun a o=>l a o fun b e =>
   if b=true then k a e fun y n=>c.length<sizeLine/\∃d,d<m/\W (i+1) d (c++[y]) n
   else ∃d,d<m/\W (i+1) d c e)
def tLC (f:List (Option Nat))(wi:TI)(g:CIn->TG)(d:CIn->TT)(b:CIn->TE):TE:=fun a H Q=>wi a H fun J e=>∀c:CIn,LCw f (g c) (d c) (b c) a J Q e
noncomputable abbrev Y8 (its:Qe) (k:Nat):Obj:={ cls:=.type "list",data:=.seq its.toArray k }
structure TurnX (X:Cx)(tg:Expr)(J:It)(fp:Qg)(it:Addr)(tn:Nat->Heap->Prop):Prop where
 mem:it∈fp
 obj:∀i h,tn i h->∀b∈fp,∃o,h.get? b=some o/\∀v,o.data≠.cell v
 keep:∀i h h',tn i h->(∀b∈fp,∀o,h.get? b=some o->h'.get? b=some o)->tn i h'
 item:∀(X':Cx),X'.prog=X.prog->X'.w=X.w->X'.K=X.K->X'.A=X.A->X'.calm=X.calm->∀(i:Nat) (XaV:Qc) (s:Shared) (σ:St) (H:Hp) (E:Qb),Qr X' XaV σ H s->(∀b∈fp,Yw X' XaV H b)->tn i s.heap->J.go i H ->
  wpAny (model X.prog X.w) X'.A (pyNext<|.ref it) (fun r s1=>∃u,r=some u /\
   wpAny (model X.prog X.w) X'.A (letOwnedTupleGo tg (.ref it) u) (fun _ s2=>∃x H',Qr X' XaV σ H' s2/\QK x u/\J.yld i H x H'/\tn (i+1) s2.heap/\∀b∈fp,H' b=none) E s1) E s
 done:∀(X':Cx),X'.prog=X.prog->X'.w=X.w->X'.K=X.K->X'.A=X.A->X'.calm=X.calm->∀(i:Nat) (XaV:Qc) (s:Shared) (σ:St) (H:Hp) (E:Qb),Qr X' XaV σ H s->(∀b∈fp,Yw X' XaV H b)->tn i s.heap->J.stop i H ->
  wpAny (model X.prog X.w) X'.A (pyNext<|.ref it) (fun r s1=>r=none/\Qr X' XaV σ H s1) E s
 self:∀(A:Around) (i:Nat) (s:Shared) (Q:Qb) (E:Qb),tn i s.heap->Q (.ref it) s->wpAny (model X.prog X.w) A (pyIter<|.ref it) Q E s
def N8 (X:Cx)(a:Qc)(i:St)(j:Expr)(R:It->Hp->Prop)(c:Value)(f:Shared):Prop :=
 ∃(g:Addr) (h:Qg) (e:Nat->Heap->Prop) (J:It) (d:Hp),c=.ref g/\Qr X a i d f/\TurnX X j J h g e/\e 0 f.heap/\(∀b∈h,Yw X a d b)/\R J d
def PIH (X:Cx)(c iter:Expr)(wi:TI):Prop :=
 ∀(a:Qc) (s:Shared) (b:St) (H:Hp) (R:It->Hp->Prop),Qr X a b H s->wi b H R ->
  wpAny (model X.prog X.w) X.A (eval iter X.env) (fun v d=>wpAny (model X.prog X.w) X.A (pyIter v) (N8 X a b c R) X.xe d) X.xe s
def Turn.x    (T:Turn X.prog X.w X.K tg J fp it tn)(e:X.calm=true):TurnX X tg J fp it tn :=
 ⟨T.mem,T.obj,T.keep,fun d b a c _ h=>T.item d b a c<|h.trans e,fun d b a c _ h=>T.done d b a c<|h.trans e,T.self⟩
def PI.x  (h:PI X tg iter wi)(f:X.calm=true):PIH X tg iter wi:=fun a s b H R I q=>Q9 (h a s b H R I q) fun v m g=>Q9 g<|by rintro v l ⟨d,i,c,J,k,e,j,T,r⟩;exact⟨d,i,c,J,k,e,j,T.x f,r⟩
section
variable {X:Cx}{XaV:Qc}{σ:St}{H2:Hp}{b7:Shared}
def Sd {tg iter elt:Expr}{ifs:Qi}{scope:Scope}{pos:Pos}{N:Qh}{f:List (Option Nat)}{g:CIn->TG}{tc:CIn->TT}{te:CIn->TE}{cl:List (Str×Addr)}
 (ck:CompOk X.N X.env.scope N f scope)
 (hg:∀c,PG (ZN X N scope c) tg<|g c) (ht:∀c,TgOk f<|g c) (hcs:∀c,PCs (ZN X N scope c) ifs<|tc c) (he:∀c,PE (ZN X N scope c) elt<|te c)
 (I:Qr X XaV σ H2 b7) {it:Addr} {G:Qg} {tn:Nat->Heap->Prop} {J:It} (T:TurnX X tg J G it tn) (st:tn 0 b7.heap) (U:∀b∈G,Yw X XaV H2 b)
 {Q:VK} (hq:∀c:CIn,LCw f (g c) (tc c) (te c) σ J Q H2)
 (t:∀x c,cl.lookup x=some c->X.env.cells.lookup x=some c) (hcl2:∀p∈scope.names,p.2=NameKind.free->∃c,cl.lookup p.1=some c)
 {RR:Value->Addr->Result->Shared->Prop} {E:Qb}
 (hRR:∀(R C:Addr) (D:Hp) (S:Shared) (m':Str->Qf),S.heap.Ns C m'->Qr X XaV σ D S->D C=none->C≠X.env.locals->X.s₀.heap.objs.size<=C->(∀x c,X.env.cells.lookup x=some c->c≠C) ->
  (∀p∈X.pn++XaV,p.1≠C)->Q (.ref R) D->RR (.ref R) C (.ok .next) S) :
 wpAny (model X.prog X.w) X.A (newList []) (fun R w=>wpAny (model X.prog X.w) X.A (newFunctionEnv scope X.env.globals cl [] X.env.qual none .none<|some X.env) (fun cenv bw =>
  codeAny (model X.prog X.w) X.A (.compStart (.ListComp elt [⟨tg,iter,ifs,0⟩] scope pos) 0 (.ref it) R { cenv with scope:=relabel scope X.env }) (RR R cenv.locals) bw) E w) E b7:=by
 refine wpAny_newObj_type (wpAny_newFunctionEnv ck.nocell (by intro y hy;simp at hy) (fun b8 c5 c6=>?_) ck.kind);dsimp only at c5 c6 ⊢;have l:Qr X XaV σ H2 { b7 with heap:=b7.heap.push (Y8 [] 0) }:=I.kept (t':=b7.toks) fun b u e=>Xi _ e;have hD:(b7.heap.push<|Y8 [] 0).get? b7.heap.objs.size=some (Y8 [] 0):=XF _ rfl;generalize hs3:({ b7 with heap:=b7.heap.push (Y8 [] 0) }:Shared)=w at l c5 c6 ⊢;have hp3:b7.heap.push (Y8 [] 0)=w.heap:=by rw[<- hs3]
 have hp3':b7.heap.push { cls:=.type "list",dict:=none,data:=.seq ([]:Qe).toArray }=w.heap:=hp3;rw[hp3]at hD;simp only[hp3']at c5 c6 ⊢;have Z:b7.heap.objs.size<w.heap.objs.size:=by rw[<- hp3,W9];exact WY _
 have k3:∀b u,b7.heap.get? b=some u->w.heap.get? b=some u:=fun b u e=>by rw[<- hp3];exact Xi _ e
 have k1:∀b u,w.heap.get? b=some u->b8.get? b=some u:=fun b u e =>
  c6.extBut b u (Xu<|Xk e) (Xi _ e)
 have fpo:∀b∈G,b<b7.heap.objs.size:=fun b a=>by
  obtain⟨o,e,_⟩:=T.obj 0 _ st b a;exact Xk e
 have st1:tn 0 b8:=T.keep _ _ _ st fun b a o e=>k1 b o (k3 b o e);have fneC:∀b∈G,b≠w.heap.objs.size:=fun b a=>Xu (Nat.lt_trans (fpo b a) Z);have fneD:∀b∈G,b≠b7.heap.objs.size:=fun b a=>Xu (fpo b a)
 have P:∀x d,X.env.cells.lookup x=some d->d≠b7.heap.objs.size:=fun x d e=>by
  obtain⟨v,z⟩:=I.cell x d e;exact Xu z.lt
 have M:∀p∈X.pn++XaV,p.1≠b7.heap.objs.size:=fun p H=>Xu (Xk (I.pin p H).1);have freeD:H2 b7.heap.objs.size=none:=I.fresh
 have L:∀b,b≠X.env.locals->b∉X.fs->b∉frs X.stack:=fun b h1 h2 a=>by
  rcases Xg.mp (l.stkSub b a) with z|z
  .exact h1 z
  .exact h2 z
 have exD:∀b,b∈b7.heap.objs.size::G->b=b7.heap.objs.size\/b∈G:=fun b a=>Xg.mp a
 let c:CIn:=⟨cl,w.heap.objs.size,w,H2,b7.heap.objs.size::G,X.pn++XaV⟩
 have O:(ZN X N scope c).Ok :=
  { mod:=l.ok.mod
    kind:=ck.kind
    glob:=l.ok.glob
    blt:=l.ok.blt
    above:=Xv _
    inj:=fun x y d h1 h2=>l.ok.inj x y d (t x d h1) (t y d h2)
    has:=fun x hx=>by
     rcases T7 hx with z|z
     .exact hcl2 (x,.free) (PySem.mem_of_lookup z) rfl
     .exact Xm rfl (ck.nocell (x,.cell)<|PySem.mem_of_lookup z)
    cab:=fun x d h=>Xm (show false=true from h) Xw
    hd:=l.ok.hd
    frames:=l.ok.frames
    stk:=.inl rfl
    exf:=fun b a=>by
     rcases exD b a with rfl|a
     .exact⟨Xu Z,fun x d e=>P x d<|t x d e⟩
     .exact⟨fneC b a,fun x d e=>(U b a).2.2.2.2.1 x d (t x d e)⟩
    bs:=fun b o e=>l.bs b o e
    bsz:=X4 l.ok.bsz l.sz
    noex:=fun b o e a=>by
     rcases exD b a with rfl|a
     .exact Xm (Xk<|I.bk _ _ e) (Yv _)
     .rcases(U b a).2.2.2.1 with z|z
      .exact l.ok.noex b o e z
      .exact Xm (Xr (Xk (l.ok.bs b o e).1) z) (Yv _)
    exfs:=fun b a=>by
     rcases exD b a with rfl|a
     .exact L _ (Yh I.lt) (I.nofs<|Xv _)
     .exact L b (U b a).2.1 (U b a).2.2.1
    funs:=l.stack
    frf:=l.stkFree }
 have I4:Qr (ZN X N scope c) [(b7.heap.objs.size,Y8 [] 0)] (Yj f σ) H2 { w with heap:=b8,toks:=w.toks+([]:List (Str×Value)).length } :=
  { ok:=O
    os:=rfl
    bare:=l.bare
    base:=Un.kept k1
    loc:=⟨_,c5,fun i x v e1 e2 e3=>by
     have hfi:∃j,f[i]?=some (some j)/\σ[j]?=some (some v):=by
      unfold Yj at e2;rw[Xn]at e2;cases ef:f[i]? with
      |none=>rw[ef]at e2;cases e2
      |some o =>
        rw[ef]at e2;cases o with
        |none=>cases e2
        |some j =>
          refine⟨j,rfl,?_⟩;have e2':(σ[j]?).join=some v:=Option.some.inj e2
          cases es:σ[j]? with
          |none=>rw[es]at e2';cases e2'
          |some o2 =>
            rw[es]at e2';have:o2=some v:=e2';rw[this]
     obtain⟨j,ef,es⟩:=hfi;obtain⟨x',n1,n2,n3⟩:=ck.ix i j ef
     have:x'=x:=Option.some.inj (n1.symm.trans e1)
     subst this;have hfr:=ck.free (x',.free) (PySem.mem_of_lookup n3) rfl;obtain⟨m0,hm0,hl0⟩:=l.loc;obtain⟨u,ru,lk⟩:=hl0 j x' v n2 es (hfr.elim (fun z=>.inr<|.inl z) fun z=>.inr<|.inr z);refine⟨u,ru,.inr ⟨T9 n3,?_⟩⟩
     rcases lk with ⟨kl,_⟩|⟨_,d,ed,hd⟩
     .have kl':X.env.scope.names.lookup x'=some .local:=kl
      rcases hfr with z|z
      .rw[kl']at z;cases z
      .rw[kl']at z;cases z
     .obtain⟨d',ed'⟩:=hcl2 (x',.free) (PySem.mem_of_lookup n3) rfl
      have:d'=d:=Option.some.inj ((t x' d' ed').symm.trans ed)
      subst this;exact⟨d',ed',hd.keeps k1⟩⟩
    cell:=fun x d e=>by
     obtain⟨v,z⟩:=l.cell x d (t x d e)
     exact⟨v,z.keeps k1⟩
    free:=l.fresh
    freeC:=fun x d e=>l.freeC x d (t x d e)
    pin:=fun p H=>by
     rcases Xy.mp (show p∈(X.pn++XaV)++[(b7.heap.objs.size,Y8 [] 0)] from H) with hp'|hp'
     .obtain⟨e,n,ne,nf,d⟩:=l.pin p hp'
      exact⟨k1 _ _ e,n,Xu<|Xk e,L p.1 ne nf,d⟩
     .have z:p=(b7.heap.objs.size,Y8 [] 0):=Xh.mp hp'
      subst z;exact⟨k1 _ _ hD,freeD,Xu Z,L _ (Yh I.lt)<|I.nofs<|Xv _,fun v z=>nomatch (show Data.seq _ _=Data.cell v from z)⟩
    hok:=l.hok.kept k1
    len:=by
     show(Yj f σ).length=N.length
     unfold Yj;rw[Xl];exact ck.len }
 have back:∀{σ':St} {D:Hp} {S:Shared} {ps:Qc},Qr (ZN X N scope c) ps σ' D S->Qr X XaV σ D S:=fun{σ' D S ps} J' =>
  l.call' (ch:=b7.heap.objs.size::G) J'.os J'.base J'.hok J'.bare fun b a=>by
   rcases exD b a with rfl|a
   .exact⟨.inr I.sz,Yh I.lt,P,M⟩
   .exact⟨(U b a).2.2.2.1,(U b a).2.1,(U b a).2.2.2.2.1,(U b a).2.2.2.2.2⟩
 have fpX:∀{D:Hp} {ob:Obj},(∀b∈G,D b=none)->∀b∈G,Yw (ZN X N scope c) [(b7.heap.objs.size,ob)] D b:=fun{D ob} hn b a =>
  ⟨hn b a,(O.exf b<|Xe _ a).1,O.exfs b<|Xe _ a,.inl<|Xe _ a,(O.exf b<|Xe _ a).2,fun p H=>by
   rcases Xy.mp (show p∈(X.pn++XaV)++[(b7.heap.objs.size,ob)] from H) with z|z
   .exact(U b a).2.2.2.2.2 p z
   .have z:p=(b7.heap.objs.size,ob):=Xh.mp z
    subst z;exact(fneD b a).symm⟩
 obtain⟨W,⟨m0,w0⟩,turn⟩:=hq c
 have loop:∀s,s=({ w with heap:=b8,toks:=w.toks+([]:List (Str×Value)).length }:Shared) ->
  codeAny (model X.prog X.w) X.A (.compLoop (.ListComp elt [⟨tg,iter,ifs,0⟩] scope pos) 0 (.ref it) (.ref b7.heap.objs.size)<|compEnvC scope cl w.heap.objs.size X.env) (RR (.ref b7.heap.objs.size) w.heap.objs.size) s:=by
  rintro s rfl
  refine Zj0 (fun n S=>∃i D Y m k,Qr (ZN X N scope c) [(b7.heap.objs.size,Y8 m k)] (Yj f σ) D S/\QS Y m/\Y.length<=sizeLine/\tn i S.heap/\(∀b∈G,D b=none)/\W i n Y D) ?_ m0 ⟨0,_,[],[],0,I4,.nil,XQ _,st1,fun b a=>(U b a).1,w0⟩
  rintro n s5 ⟨i,H5,Y,m,k,I5,rv5,hz5,st5,fr5,w5⟩
  rcases turn i n Y H5 w5 with ⟨stop,qn⟩|⟨go,step⟩
  .refine Q9 (T.done (ZN X N scope c) rfl rfl rfl rfl rfl i _ s5 (Yj f σ) H5 _ I5 (fpX fr5) st5 stop) ?_;rintro r s6 ⟨hr,I6⟩
   subst hr;obtain⟨m6,hn6,_⟩:=id I6.loc;obtain⟨eD,nD,_⟩:=I6.pin (b7.heap.objs.size,Y8 m k) (XV _<|Xh.mpr rfl);have I7:Qr X XaV σ (upd H5 b7.heap.objs.size<|.lst Y) s6:=(back I6).track nD I.sz (Yh I.lt) P M ⟨hz5,m,k,rv5,eD⟩;refine hRR _ _ _ s6 m6 hn6 I7 (by rw[Qt<|Yh Z];exact I6.free) (Yh l.lt) l.sz (fun x d e=>?_) (fun p H=>?_) (qn _ nD)
   .obtain⟨v,z⟩:=l.cell x d e
    exact Xu z.lt
   .exact Xu (Xk (l.pin p H).1)
  .refine Q9 (T.item (ZN X N scope c) rfl rfl rfl rfl rfl i _ s5 (Yj f σ) H5 _ I5 (fpX fr5) st5 go) ?_;rintro r s6 ⟨u,hr,h6⟩
   subst hr;refine Q9 h6 ?_;rintro _ s7 ⟨x,H7,I7,r7,y7,st7,fr7⟩;have I7':=I7.pinned (fpX fr7) (T.obj _ _ st7);refine Q9 (hg c _ s7 (Yj f σ) H7 x u _ I7' r7<|(ht c).keep _ _ _ _ (step x H7 y7)) ?_;rintro _ s8 ⟨A,H8,I8,kp8,q8⟩
   have wk:∀(j:Nat) v,(Yj f σ)[j]?=some (some v)->A[j]?=some (some v):=fun j v e=>by
    have ef:∃k,f[j]?=some (some k):=by
     have e':=e;unfold Yj at e';rw[Xn]at e';cases q:f[j]? with
     |none=>rw[q]at e';cases e'
     |some o =>
       cases o with
       |none=>rw[q]at e';cases e'
       |some k=>exact⟨k,rfl⟩
    obtain⟨k,ef⟩:=ef;rw[kp8.2 j k ef];exact e
   have recs:∀{H9:Hp} {s9:Shared} {ob:Obj},Qr (ZN X N scope c) ([(b7.heap.objs.size,ob)]++G0 G s7.heap) A H9 s9->tn (i+1) s9.heap/\∀b∈G,H9 b=none:=fun{H9 s9 ob} I9 =>
    ⟨T.keep _ _ _ st7 fun b a o e=>(I9.pin (b,o)<|XV _<|XV _<|Mm a e).1,fun b a=>by
     obtain⟨o,e,d⟩:=T.obj _ _ st7 b a
     exact(I9.pin (b,o)<|XV _<|XV _<|Mm a e).2.1⟩
   refine Q9 (hcs c _ s8 A H8 _ I8 q8) ?_;rintro ok s9 ⟨H9,I9,q9⟩
   cases ok with
   |false =>
     obtain⟨m',hm,w9⟩:=(show ∃m',m'<n/\W (i+1) m' Y H9 from q9);obtain⟨z1,z2⟩:=recs I9
     exact⟨m',hm,i+1,H9,Y,m,k,(I9.unpinned).weak kp8.1.symm wk,rv5,hz5,z1,z2,w9⟩
   |true =>
     refine Q9 (he c _ s9 A H9 _ I9 (show te c A H9 _ from q9)) ?_;rintro v B ⟨y,H10,I10,r10,hlen,m',hm,w10⟩;obtain⟨eD,nD,neD,nfD,dD⟩:=I10.pin (b7.heap.objs.size,Y8 m k) (XV _<|Uj _<|Xh.mpr rfl);obtain⟨z1,z2⟩:=recs I10;have lv:=rv5.length;refine call_meets F.slot_list_append ⟨_,eD,rfl⟩ F.entry_list_append (F.args_list_append_2 _ _) (PySem.list_append b7.heap.objs.size m.toArray k v<|by rw[XD];omega) ⟨eD,?_⟩;have q:=PySem.IsL.update eD (·.push v);have hf:m.toArray.push v=(m++[v]).toArray:=by simp
     rw[hf]at q;have I11:Qr (ZN X N scope c) [] A H10 { B with heap:=B.heap.update b7.heap.objs.size (Obj.mapSeq (·.push v)) } :=
      (I10.pins_of (pins':=[]) fun p H=>Xm H<|by simp).turned (t':=B.toks) (it:=b7.heap.objs.size) (fun b o a e=>(XU B.heap (Obj.mapSeq (·.push v))<|Ne.symm a).trans e) nD neD (.inl Xb) (O.exf _ Xb).2 fun p H=>by
       have z:p∈(X.pn++XaV)++[]:=H;rw[XG]at z;exact M p z
     have I12:Qr (ZN X N scope c) [(b7.heap.objs.size,Y8 (m++[v]) _)] A H10 { B with heap:=B.heap.update b7.heap.objs.size (Obj.mapSeq (·.push v)) } :=
      I11.pins_of fun p H=>by
       have z:p=(b7.heap.objs.size,_):=Xh.mp H;subst z;exact⟨q,nD,neD,nfD,fun v z=>nomatch (show Data.seq _ _=Data.cell v from z)⟩
     refine⟨m',hm,i+1,H10,Y++[y],m++[v],_,I12.weak kp8.1.symm wk,rv5.append<|.cons r10 .nil,by rw[Xs,List.length_singleton];omega,?_,z2,w10⟩;exact T.keep _ _ _ z1 fun b a o e=>(XU B.heap (Obj.mapSeq (·.push v)) (fneD b a).symm).trans e
 exact codeAny_compStart_list (loop _<|by rw[<- hs3]) (T.self _ 0 _ _ _ st1<|loop _<|by rw[<- hs3])
def LN
 (Z:UA NX sc N f scope=true) (r:X.N=NX) (m:X.env.scope=sc) (E:PIH X tg iter wi)
 (F:∀c,PG (ZN X N scope c) tg<|g c) (y:∀c,TgOk f<|g c) (n:∀c,PCs (ZN X N scope c) ifs<|tc c) (L:∀c,PE (ZN X N scope c) elt<|te c)
 (z:∀x,foldedSetIterable iter X.env x=pure x:=by intro _;rfl):PE X (.ListComp elt [⟨tg,iter,ifs,0⟩] scope pos) (tLC f wi g tc te):=by
 subst r m;intro XaV s σ H Q I h;have a:=Pn Z;obtain⟨cl,d,l,k⟩:=Ti (scope:=scope) (env:=X.env) fun p B G=>I.ok.has p.1 (a.free p B G);rw[eval_ListComp];refine wpAny_comprehension_free (use:=none) rfl z d a.kind a.names (Q9 (E XaV s σ H _ I h) fun xv b6 b8=>Q9 b8 fun w b7 bq=>?_);obtain⟨it,fp,tn,J,H2,e,I2,T,t,Y,A⟩:=bq;subst e;refine Sd (RR:=fun i C=>compPost (model X.prog X.w) X.A X.xe none (EP X XaV σ Q) i C) a F y n L I2 T t Y A l k ?_;intro i C H' u v D I' P O U S R q;exact⟨v,D,fun W j=>⟨.ref i,H',I'.turned (t':=u.toks) (fun b o M e=>(j.2 b M).trans e) P O (.inr U) S R,rfl,q⟩⟩
def YB
 (l:X.calm=true) (m:UA NX sc N f scope=true) (d:X.N=NX) (a:X.env.scope=sc) (i:PI X tg iter wi)
 (j:∀c,PG (ZN X N scope c) tg<|g c) (e:∀c,TgOk f<|g c) (b:∀c,PCs (ZN X N scope c) ifs<|tc c) (k:∀c,PE (ZN X N scope c) elt<|te c)
 (h:∀x,foldedSetIterable iter X.env x=pure x:=by intro _;rfl):PE X (.ListComp elt [⟨tg,iter,ifs,0⟩] scope pos) (tLC f wi g tc te) :=
 LN m d a (i.x l) j e b k h
def Kb  {k:Pos}
 (hN:X.N.Nodup) (E:X.N[i]?=some x) (M:X.env.scope.names.lookup x=some .local)
 (ck:UA NX sc N f scope=true) (G:X.N=NX) (A:X.env.scope=sc) (hi:PIH X tg iter wi)
 (hg:∀c,PG (ZN X N scope c) tg<|g c) (Z:∀c,TgOk f<|g c) (F:∀c,PCs (ZN X N scope c) ifs<|tc c) (he:∀c,PE (ZN X N scope c) elt<|te c)
 (y:swapsWith (.ListComp elt [⟨tg,iter,ifs,0⟩] scope pos) (some<|.Name x n) k.line X.env=pure true)
 (hs:∀x,foldedSetIterable iter X.env x=pure x:=by intro _;rfl):PS X (.Assign [.Name x n] (.ListComp elt [⟨tg,iter,ifs,0⟩] scope pos) k) (Vb (tLC f wi g tc te)<|Vc i):=by
 subst G A;intro XaV s σ H D I h;have d:=Pn ck;obtain⟨cl,l,u,t⟩:=Ti (scope:=scope) (env:=X.env) fun p hp hf=>I.ok.has p.1 (d.free p hp hf);rw[exec_Assign_Name_used _ _ _ _ y];refine Xc (wpAny_standAt<|Xc ?_);show wpAny _ X.A (do let _ <- comprehension (.ListComp elt [⟨tg,iter,ifs,0⟩] scope pos) scope X.env _ (newList []) false (eval iter X.env) (some<|assign (.Name x n) X.env)) _ _ s
 refine Xc (wpAny_mono (wpAny_comprehension_free (use:=some (assign (.Name x n) X.env)) (Q:=fun _ m=>SP X XaV D .next m) rfl hs l d.kind d.names
  (Q9 (hi XaV s σ H _ I h) fun xv b6 b8=>Q9 b8 fun Y b7 bq=>?_)) (fun _ m B=>Xq<|Xq B) fun _ _ e=>e)
 obtain⟨it,fp,tn,J,H2,e,I2,T,R,f2,B⟩:=bq;subst e;refine Sd (RR:=fun j C=>compPost (model X.prog X.w) X.A X.xe (some<|assign (.Name x n) X.env) (fun _ m=>SP X XaV D .next m) j C) d hg Z F he I2 T R f2 B u t ?_;intro j C H' m W hn I' hC O h0 P h2 q;show wpAny _ X.A (assign (.Name x n) X.env<|.ref j) _ _ _;refine wpAny_assign_Name (P9 I' hN E (.inl M) (v:=.ref j) rfl ?_<|.inr M);rintro w L ⟨a,S,ha⟩
 have U:C≠a:=by
  rcases ha with z|z
  .rw[z];exact O
  .exact(P _ _ z).symm
 refine⟨W,hn.sameBut S U,fun h'' r=>?_⟩
 exact⟨_,H',L.turned (t':=w.toks) (fun b o hb e=>(r.2 b hb).trans e) hC O (.inr h0) P h2,q⟩
def HJ  {a:Pos}
 (r:X.N.Nodup) (e:X.N[i]?=some x) (k:X.env.scope.names.lookup x=some .local)
 (q:X.calm=true) (s:UA NX sc N f scope=true) (j:X.N=NX) (d:X.env.scope=sc) (n:PI X tg iter wi)
 (o:∀c,PG (ZN X N scope c) tg<|g c) (l:∀c,TgOk f<|g c) (h:∀c,PCs (ZN X N scope c) ifs<|tc c) (p:∀c,PE (ZN X N scope c) elt<|te c)
 (b:swapsWith (.ListComp elt [⟨tg,iter,ifs,0⟩] scope pos) (some<|.Name x px) a.line X.env=pure true)
 (m:∀x,foldedSetIterable iter X.env x=pure x:=by intro _;rfl):PS X (.Assign [.Name x px] (.ListComp elt [⟨tg,iter,ifs,0⟩] scope pos) a) (Vb (tLC f wi g tc te)<|Vc i) :=
 Kb r e k s j d (n.x q) o l h p b m
end
mutual
inductive Rep (H:Hp):V->PyData->Prop
 |non:Rep H .non .none
 |bl (b:Bool):Rep H (.bl b) (.bool b)
 |int (i:Int):Rep H (.int i) (.int i)
 |str (x:Str):Rep H (.str x) (.str x)
 |lst {a:Addr} {xs:List V} {ds:Qd}:H a=some (.lst xs)->Qy H xs ds->Rep H (.ref a) (.list ds)
 |tup {a:Addr} {xs:List V} {ds:Qd}:H a=some (.tup xs)->Qy H xs ds->Rep H (.ref a) (.tuple ds)
 |dct {a:Addr}:H a=some (.dK [])->Rep H (.ref a) (.dict [])
inductive Qy (H:Hp):List V->Qd->Prop
 |nil:Qy H [] []
 |cons {x:V} {xs:List V} {d:PyData} {ds:Qd}:Rep H x d->Qy H xs ds->Qy H (x::xs) (d::ds)
end
mutual
theorem Rep.mono {H a:Hp}(s:Q5 H a):∀{v:V} {d:PyData},Rep H v d->Rep a v d
 |_,_,.non=>.non
 |_,_,.bl b=>.bl b
 |_,_,.int i=>.int i
 |_,_,.str x=>.str x
 |_,_,.lst h r=>.lst (s _ _ h) (Qy.mono s r)
 |_,_,.tup h r=>.tup (s _ _ h) (Qy.mono s r)
 |_,_,.dct h=>.dct (s _ _ h)
theorem Qy.mono {H a:Hp}(s:Q5 H a):∀{vs:List V} {ds:Qd},Qy H vs ds->Qy a vs ds
 |_,_,.nil=>.nil
 |_,_,.cons r t=>.cons (Rep.mono s r) (Qy.mono s t)
end
theorem Qy.length {H:Hp}:∀{vs:List V} {ds:Qd},Qy H vs ds->vs.length=ds.length
 |_,_,.nil=>rfl
 |_,_,.cons _ t=>by simp[Qy.length t]
theorem Qy.get {H:Hp}:∀{vs:List V} {ds:Qd} {i:Nat} {d:PyData},Qy H vs ds->ds[i]?=some d->∃v,vs[i]?=some v/\Rep H v d
 |_,_,_,_,.nil,e=>by simp at e
 |_,_,0,_,.cons r _,e=>by simp at e;subst e;exact⟨_,rfl,r⟩
 |_,_,i+1,d,.cons _ t,e=>by
   obtain⟨u,b,a⟩:=Qy.get (i:=i) (d:=d) t (by simpa using e)
   exact⟨u,by simpa using b,a⟩
theorem Qy.snoc {H:Hp}{v:V}{d:PyData}:∀{vs:List V} {ds:Qd},Qy H vs ds->Rep H v d->Qy H (vs++[v]) (ds++[d])
 |_,_,.nil,h=>.cons h .nil
 |_,_,.cons r t,h=>.cons r (Qy.snoc t h)
theorem Qy.append {H:Hp}:∀{vs ws:List V} {ds es:Qd},Qy H vs ds->Qy H ws es->Qy H (vs++ws) (ds++es)
 |_,_,_,_,.nil,s=>s
 |_,_,_,_,.cons r t,s=>.cons r (Qy.append t s)
theorem Qy.set {H:Hp}{v:V}{d:PyData}(r:Rep H v d):∀{vs:List V} {ds:Qd} (i:Nat),Qy H vs ds->Qy H (vs.set i v) (ds.set i d)
 |_,_,_,.nil=>.nil
 |_,_,0,.cons _ t=>.cons r t
 |_,_,i+1,.cons q t=>.cons q (Qy.set r i t)
theorem GV {H:Hp}:∀{vs:List V} {l:Ql},Qy H vs (l.map PyData.int)->vs=l.map V.int
 |_,[],.nil=>rfl
 |_,i::l,.cons (.int _) t=>by rw[Xx,GV t]
section
variable {X:Cx}{XaV:Qc}{σ:St}{H:Hp}{s:Shared}
mutual
theorem Rep.reads (I:Qr X XaV σ H s):∀{v:V} {d:PyData} {u:Value},Rep H v d->QK v u->∃as,Reads s.heap u d as
 |_,_,_,.non,r=>by cases r;exact⟨_,.none⟩
 |_,_,_,.bl b,r=>by cases r;exact⟨_,.bool b⟩
 |_,_,_,.int i,r=>by obtain⟨t,rfl⟩:=r;exact⟨_,.int i t⟩
 |_,_,_,.str x,r=>by obtain⟨t,rfl⟩:=r;exact⟨_,.str x t⟩
 |_,_,_,.lst h q,r=>by
   cases r
   obtain⟨z,g,n,a,e⟩:=I.hok _ _ h;obtain⟨as,f⟩:=Qy.reads I q a
   exact⟨_,.list e rfl rfl (by simpa using f)⟩
 |_,_,_,.tup h q,r=>by
   cases r
   obtain⟨z,g,a,o,e,c,n,j⟩:=I.hok _ _ h;obtain⟨as,f⟩:=Qy.reads I q a
   exact⟨_,.tuple e c j<|by simpa using f⟩
 |_,_,_,.dct h,r=>by
   cases r
   obtain⟨z,y,w,m,A,p,B,e,c,j,_,l,_⟩:=I.hok _ _ h
   cases m
   have k:p.toList=[]:=List.eq_nil_of_length_eq_zero l.length
   exact⟨_,.dict (kvs:=[]) e c.1 j (by rw[k];exact .nil)<|by rw[k];exact .nil⟩
theorem Qy.reads (I:Qr X XaV σ H s):∀{vs:List V} {ds:Qd} {us:Qe},Qy H vs ds->QS vs us->∃as,ReadsAll s.heap us ds as
 |_,_,_,.nil,r=>by cases r;exact⟨_,.nil⟩
 |_,_,_,.cons q t,r=>by
   cases r with
   |cons d c =>
     obtain⟨as,b⟩:=Rep.reads I q d;obtain⟨e,a⟩:=Qy.reads I t c
     exact⟨_,.cons b a⟩
end
def Yq (d:PyData):Prop:=d.canLay0=true/\d.depth<=60
def Nq:R2:=fun x y H Q=>∃d e,Rep H x d/\Rep H y e/\Yq d/\Yq e/\Q (.bl<|PyData.eqv d e) H
def N7:R2:=fun x y H Q=>∃d e,Rep H x d/\Rep H y e/\Yq d/\Yq e/\Q (.bl<|!PyData.eqv d e) H
def Bz (l:X.A.units+64<cLine):OpR X (compareOp .Eq) Nq:=by
 intro XaV s σ H x y v u Q I c b h;obtain⟨d,e,j,i,a,k,q⟩:=h;obtain⟨p,g⟩:=j.reads I c;obtain⟨o,f⟩:=i.reads I b;refine SeqAt.compareEq_reads g f a.1 k.1 ?_ ⟨.bl<|PyData.eqv d e,H,I,rfl,q⟩;have n:=a.2;have m:min d.depth e.depth<=d.depth:=Nat.min_le_left _ _;omega
def Fj (l:X.A.units+64<cLine):OpR X (compareOp .NotEq) N7:=by
 intro XaV s σ H x y v u Q I c b h;obtain⟨d,e,j,i,a,k,q⟩:=h;obtain⟨p,g⟩:=j.reads I c;obtain⟨o,f⟩:=i.reads I b;refine SeqAt.compareNe_reads g f a.1 k.1 ?_ ⟨.bl<|!PyData.eqv d e,H,I,rfl,q⟩;have n:=a.2;have m:min d.depth e.depth<=d.depth:=Nat.min_le_left _ _;omega
end
def BQ (f:Yq d):PyData.eqv d d=true:=SeqAt.eqv_refl d f.1
def RD {a:Type}{xs:List a}{i:Int}{v:a}(h:atI xs i=some v):∃j:Nat,xs[j]?=some v/\ixN xs.length i=some j:=by
 unfold atI at h;cases e:ixN xs.length i with
 |none=>rw[e]at h;cases h
 |some j=>rw[e]at h;exact⟨j,h,rfl⟩
inductive TyN (H:Hp):V->String->Prop
 |non:TyN H .non "NoneType"
 |bl (b:Bool):TyN H (.bl b) "bool"
 |int (i:Int):TyN H (.int i) "int"
 |str (x:Str):TyN H (.str x) "str"
 |lst {a:Addr} {xs:List V}:H a=some (.lst xs)->TyN H (.ref a) "list"
 |tup {a:Addr} {xs:List V}:H a=some (.tup xs)->TyN H (.ref a) "tuple"
 |dct {a:Addr}:H a=some (.dK [])->TyN H (.ref a) "dict"
noncomputable def tyD:PyData->String
 |.none => "NoneType"
 |.bool _ => "bool"
 |.int _ => "int"
 |.str _ => "str"
 |.list _ => "list"
 |.tuple _ => "tuple"
 |.dict _ => "dict"
def Rep.ty  (r:Rep H v d):TyN H v (tyD d):=by
 cases r with
 |non=>exact .non
 |bl b=>exact .bl b
 |int i=>exact .int i
 |str x=>exact .str x
 |lst h _=>exact .lst h
 |tup h _=>exact .tup h
 |dct h=>exact .dct h
noncomputable def YK (T c:String):Option Bool :=
 if c = "int" then some (T == "int" || T == "bool") else if c = "bool" then some (T == "bool") else if c = "list" then some (T == "list") else if c = "tuple" then some (T == "tuple") else if c = "str" then some (T == "str") else if c = "dict" then some (T == "dict") else none
def Ci      (d:s.heap.get? a=some o) (f:o.cls=.type "list") (e:YK "list" c=some b) (h:∀t,Q (.bool b) { s with toks:=t }) :
 wpAny (model prog w) A (call (.builtin "isinstance") [.ref a,.type c]) Q E s:=by
 unfold YK at e;split at e
 .rename_i z;subst z;cases e;exact IsiPair.list_int d f (h _)
 .split at e
  .rename_i z;subst z;cases e;exact IsiPair.list_bool d f (h _)
  .split at e
   .rename_i z;subst z;cases e;exact IsiPair.list_list d f (h _)
   .split at e
    .rename_i z;subst z;cases e;exact IsiPair.list_tuple d f (h _)
    .split at e
     .rename_i z;subst z;cases e;exact IsiPair.list_str d f (h _)
     .split at e
      .rename_i z;subst z;cases e;exact IsiPair.list_dict d f (h _)
      .cases e
def C8      (d:s.heap.get? a=some o) (f:o.cls=.type "tuple") (e:YK "tuple" c=some b) (h:∀t,Q (.bool b) { s with toks:=t }) :
 wpAny (model prog w) A (call (.builtin "isinstance") [.ref a,.type c]) Q E s:=by
 unfold YK at e;split at e
 .rename_i z;subst z;cases e;exact IsiPair.tuple_int d f (h _)
 .split at e
  .rename_i z;subst z;cases e;exact IsiPair.tuple_bool d f (h _)
  .split at e
   .rename_i z;subst z;cases e;exact IsiPair.tuple_list d f (h _)
   .split at e
    .rename_i z;subst z;cases e;exact IsiPair.tuple_tuple d f (h _)
    .split at e
     .rename_i z;subst z;cases e;exact IsiPair.tuple_str d f (h _)
     .split at e
      .rename_i z;subst z;cases e;exact IsiPair.tuple_dict d f (h _)
      .cases e
def Ss      (d:s.heap.get? a=some o) (f:o.cls=.type "dict") (e:YK "dict" c=some b) (h:∀t,Q (.bool b) { s with toks:=t }) :
 wpAny (model prog w) A (call (.builtin "isinstance") [.ref a,.type c]) Q E s:=by
 unfold YK at e;split at e
 .rename_i z;subst z;cases e;exact IsiPair.dict_int d f (h _)
 .split at e
  .rename_i z;subst z;cases e;exact IsiPair.dict_bool d f (h _)
  .split at e
   .rename_i z;subst z;cases e;exact IsiPair.dict_list d f (h _)
   .split at e
    .rename_i z;subst z;cases e;exact IsiPair.dict_tuple d f (h _)
    .split at e
     .rename_i z;subst z;cases e;exact IsiPair.dict_str d f (h _)
     .split at e
      .rename_i z;subst z;cases e;exact IsiPair.dict_dict d f (h _)
      .cases e
def CV      (f:TyN H x T)(rx:QK x u)(d:∀a,x≠.ref a)(e:YK T c=some b)(h:∀t,Q (.bool b) { s with toks:=t }) :
 wpAny (model prog w) A (call (.builtin "isinstance") [u,.type c]) Q E s:=by
 unfold YK at e;split at e
 .rename_i z;subst z;cases e
  cases f with
  |non=>cases rx;exact IsiPair.NoneType_int (h _)
  |bl b=>cases rx;exact IsiPair.bool_int (h _)
  |int i=>obtain⟨t,rfl⟩:=rx;exact IsiPair.int_int (h _)
  |str i=>obtain⟨t,rfl⟩:=rx;exact IsiPair.str_int (h _)
  |lst _=>exact Xm rfl (d _)
  |tup _=>exact Xm rfl (d _)
  |dct _=>exact Xm rfl (d _)
 .split at e
  .rename_i z;subst z;cases e
   cases f with
   |non=>cases rx;exact IsiPair.NoneType_bool (h _)
   |bl b=>cases rx;exact IsiPair.bool_bool (h _)
   |int i=>obtain⟨t,rfl⟩:=rx;exact IsiPair.int_bool (h _)
   |str i=>obtain⟨t,rfl⟩:=rx;exact IsiPair.str_bool (h _)
   |lst _=>exact Xm rfl (d _)
   |tup _=>exact Xm rfl (d _)
   |dct _=>exact Xm rfl (d _)
  .split at e
   .rename_i z;subst z;cases e
    cases f with
    |non=>cases rx;exact IsiPair.NoneType_list (h _)
    |bl b=>cases rx;exact IsiPair.bool_list (h _)
    |int i=>obtain⟨t,rfl⟩:=rx;exact IsiPair.int_list (h _)
    |str i=>obtain⟨t,rfl⟩:=rx;exact IsiPair.str_list (h _)
    |lst _=>exact Xm rfl (d _)
    |tup _=>exact Xm rfl (d _)
    |dct _=>exact Xm rfl (d _)
   .split at e
    .rename_i z;subst z;cases e
     cases f with
     |non=>cases rx;exact IsiPair.NoneType_tuple (h _)
     |bl b=>cases rx;exact IsiPair.bool_tuple (h _)
     |int i=>obtain⟨t,rfl⟩:=rx;exact IsiPair.int_tuple (h _)
     |str i=>obtain⟨t,rfl⟩:=rx;exact IsiPair.str_tuple (h _)
     |lst _=>exact Xm rfl (d _)
     |tup _=>exact Xm rfl (d _)
     |dct _=>exact Xm rfl (d _)
    .split at e
     .rename_i z;subst z;cases e
      cases f with
      |non=>cases rx;exact IsiPair.NoneType_str (h _)
      |bl b=>cases rx;exact IsiPair.bool_str (h _)
      |int i=>obtain⟨t,rfl⟩:=rx;exact IsiPair.int_str (h _)
      |str i=>obtain⟨t,rfl⟩:=rx;exact IsiPair.str_str (h _)
      |lst _=>exact Xm rfl (d _)
      |tup _=>exact Xm rfl (d _)
      |dct _=>exact Xm rfl (d _)
     .split at e
      .rename_i z;subst z;cases e
       cases f with
       |non=>cases rx;exact IsiPair.NoneType_dict (h _)
       |bl b=>cases rx;exact IsiPair.bool_dict (h _)
       |int i=>obtain⟨t,rfl⟩:=rx;exact IsiPair.int_dict (h _)
       |str i=>obtain⟨t,rfl⟩:=rx;exact IsiPair.str_dict (h _)
       |lst _=>exact Xm rfl (d _)
       |tup _=>exact Xm rfl (d _)
       |dct _=>exact Xm rfl (d _)
      .cases e
section
variable {X:Cx}
def Ag:Z7 X (.builtin "isinstance") (fun xs H Q=>∃x T c b,xs=[x,.ty c]/\TyN H x T/\YK T c=some b/\Q (.bl b) H):=by
 intro l s v H xs D Q I r h;obtain⟨x,T,c,b,rfl,m,e,q⟩:=h;obtain⟨u,w,rfl,i,B⟩:=Gk r
 cases (show w=Value.type c from B)
 have d:∀t,EP X l v Q (.bool b) { s with toks:=t }:=fun t=>⟨.bl b,H,I.tok t,rfl,q⟩
 by_cases p:∀a,x≠.ref a
 .exact CV m i p e d
 .cases m with
  |lst f =>
    cases i
    obtain⟨z,j,n,A,g⟩:=I.hok _ _ f;exact Ci g rfl e d
  |tup f =>
    cases i
    obtain⟨z,j,A,o,g,k,n,L⟩:=I.hok _ _ f;exact C8 g k e d
  |dct f =>
    cases i
    obtain⟨z,y,C,F,E,G,J,g,k,_⟩:=I.hok _ _ f;exact Ss g k.1 e d
  |_=>exact Xm (by rintro a ⟨⟩) p
def Uv (_ j:Int):Prop:=0<j/\j<2^8000
def CG (h:Uv 0 j):j.natAbs.log2<9000:=by
 have b:j.natAbs≠0:=by have:=h.1;omega
 have a:j.natAbs<2^8000:=by have:=h.2;have:=h.1;omega
 have:=(Nat.log2_lt b).mpr a
 omega
def BM:OpR X (binaryOp .FloorDiv) (rI Uv fun i j=>.int<|i/j):=opI fun i j _ _ _ _ _ a q=>by
 have e:i.fdiv j=i/j:=Int.fdiv_eq_ediv_of_nonneg _ (Int.le_of_lt a.1);refine floordiv_int (Int.ne_of_gt a.1) ?_ (.inl<|PyProof.noPylong_of_log2<|CG a);rw[e];exact q
def Nn (i j:Int):Prop:=0<=j/\(Builtin.Int.intBits i:Int)+j<=2^27
def FV:OpR X (binaryOp .LShift) (rI Nn fun i j=>.int<|i*2^j.toNat):=opI fun _ _ _ _ _ _ _ a q=>lshift_int a.1 a.2 q
end
def Q5.upd  (s:Q5 H H')(h:H a=none):Q5 H (L2.upd H' a o):=fun b u e=>by
 rw[Qt<|Zw e h];exact s b u e
def Q5.new  (h:H a=none):Q5 H (L2.upd H a o):=(Q5.refl H).upd h
end L2
end
section
namespace Att
open PySem PySem.W PySem.Calls PyProof.Rows
theorem Td:∀(ns:Ql) (i:Int),i∈ns->Builtin.Int.intBits i<=WData.weightAll (ns.map WData.int)
 |[],i,h=>by simp at h
 |n::ns,i,h=>by
   rw[Xx,WData.weightAll];rcases Xg.mp h with rfl|h
   .have:WData.weight (.int i)=Builtin.Int.intBits i:=by rw[WData.weight];rfl
    omega
   .have:=Td ns i h
    omega
def CF {ns:Ql}(h:WData.layableAll [WData.list<|ns.map WData.int]=true):∀i∈ns,Builtin.Int.intBits i<=2^20:=fun i b=>by
 have c:=layableW_arg h (WData.list<|ns.map WData.int) (Xh.mpr rfl);obtain⟨_,_,a⟩:=layableW_iff.mp c;rw[WData.weight]at a;exact X4 (Td ns i b) a
def attach_callW {l:OpenLaw}
 (hn:l.most=some n) (A:d.params.defaults=[])
 (call:∀(w:World) (b c:Shared) (t x:Str->Qf) (p:Addr) (o:Obj) (v u g:Value) (a:Addr) (vs:Qe) (ns:Ql),
  Ground q loose [] XP w b t x c.heap->YP w c.heap ->
  c.heap.get? p=some o->o.data=.func (docDef d.name d.params d.body d.scope v u g)->c.heap.CodeRec u d.name->t d.name=some (.ref p) ->
  c.heap.get? a=some { cls:=.type "list",data:=.seq vs.toArray }->IntsAre vs ns->ns.length<=n->(∀i∈ns,Builtin.Int.intBits i<=2^20)->c.gens=#[] ->
  codeAny (model l.prog w) callerA (.call (.ref p) ⟨[.ref a],[]⟩) (fun r s=>r=.ok (.ret<|.bool true)/\OldK c.heap s.heap/\s.os=c.os/\AllBare s.gens) c) :
 WalkO q loose XP YP l.row.toRowW d [] (fun f vs=>PySem.call f vs):=by
 intro w b c t x G Y p o v u g R kV I N B D z M E C S h m F y L;obtain rfl:R=.none:=Dflts.none D A
 obtain rfl:kV=.none:=Dflts.noKw D;obtain⟨a,vs,ns,rfl,rfl,j,e,k⟩:=EA hn h y;refine enter_call (codeAny_mono (call w b c t x p o v u g a vs ns G Y I (fd_plain N) B z j e k (CF m) M) fun r s H=>?_)
 obtain⟨rfl,Q,P,O⟩:=H
 exact⟨.inl ⟨.bool true,.bool true,[],rfl,fun _=>rfl,.bool true,Ew l _,fun _=>⟨List.Pairwise.nil,fun _ J=>(nomatch J)⟩⟩,Q,P,O⟩
end Att
namespace L2
open PySem PySem.Spec PyProof.Rows
structure Scr (K:W.Frag)(H:Hp)(a:Addr)(ns:Ql):Prop where
 sq:SqL K H a (ns.map V.int)
 len:ns.length<=63
 bits:∀i∈ns,Builtin.Int.intBits i<=2^20
def Scr.mono {K:W.Frag}{H b:Hp}{a:Addr}{ns:Ql}(h:Scr K H a ns)(s:Q5 H b):Scr K b a ns:=⟨s.seq h.sq,h.len,h.bits⟩
structure Df (K:W.Frag)(mg:Str->Qf)(x:Str)(st:Stmt)(ps:Qh):Prop where
 ex:∃f fd,Fun K x x st f fd/\mg x=some (.ref f)/\Vu K fd ps []
def QG (P:Program)(w:World)(K:W.Frag)(a:Str->Qf)(base:Heap)(x:Str)(ps:Qh)(k:Nat)(c:Sp):Prop :=
 ∃f b,a x=some (.ref f)/\W.keepIn K (.ref f)=true/\Vu K b ps []/\FnOk P w K a base CX0 k f b ps c
def Df.cal {P:Program}{w:World}{K:W.Frag}{d:Str->Qf}{base:Heap}{x:Str}{st:Stmt}{N ps:Qh}{k:Nat}{c:Sp}(D:Df K d x st ps)(S:Qp N ps (Q2 st))(e:∀vs H Q E,c vs H Q E->vs.length=ps.length)
 (g:∀(f:Addr) (b:Value) (A:Around) (a:List Env) (s:Shared) (H:Hp) (vs:List V) (Q:VK) (E:XK),Room k (A.deeper<|envOfC x (Q2 st) s.heap.objs.size f b)->c vs H Q E ->
  ∃t,PSs (Vz CX0 P w K d base N x (Q2 st) f b A a s H E).nox (Z9 st) t/\t { nx:=fun _ n=>Q .non n,rt:=Q } (start N vs) H):QG P w K d base x ps (k+1) c:=by
 obtain⟨f,m,F,j,l⟩:=D.ex
 exact⟨f,m,j,F.kp,l,F.ok S e fun b A a s H vs Q E i h=>g f b A a s H vs Q E i h⟩
section
variable {X:Cx}
noncomputable def QJ {x:Str}{p a:Pos}{e:Expr}{es:Qi}{t:TA}{ps:Qh}{j k:Nat}{d:Sp}(C:QG X.prog X.w X.K X.mg X.base x ps j d)(g:Room k X.A)(q:PA X (e::es) t)(l:j<=k:=by walk_at"j")(m:Gl X x:=by rfl)
 (c:(x==("__debug__" : Str))=false:=by decide +kernel)
 (n:starEach (e::es) X.env=(false,eval e X.env)::starEach es X.env:=by rfl) (b:(backTo a<|starEach es X.env).any (·.1)=false:=by rfl):PE X (.Call (.Name x p) (e::es) [] a) (Yk d [] E0 t):=by
 obtain⟨f,r,h,i,o,F⟩:=C;exact RM F (g.mono l) m h i o .nil JT q c n b
end
def Vy:bootBuiltins "len"=some (.builtin "len"):=by decide +kernel
def D5:bootBuiltins "max"=some (.builtin "max"):=by decide +kernel
def G1:bootBuiltins "min"=some (.builtin "min"):=by decide +kernel
def Ds:bootBuiltins "sum"=some (.builtin "sum"):=by decide +kernel
def VO:bootBuiltins "isinstance"=some (.builtin "isinstance"):=by decide +kernel
def B5:bootBuiltins "int"=some (.type "int"):=by decide +kernel
def Ha:bootBuiltins "bool"=some (.type "bool"):=by decide +kernel
def Sv:bootBuiltins "list"=some (.type "list"):=by decide +kernel
def Hu:bootBuiltins "tuple"=some (.type "tuple"):=by decide +kernel
mutual
theorem Rep.uniq {H:Hp}:∀{v:V} {d e:PyData},Rep H v d->Rep H v e->d=e
 |_,_,_,.non,.non=>rfl
 |_,_,_,.bl b,.bl _=>rfl
 |_,_,_,.int b,.int _=>rfl
 |_,_,_,.str b,.str _=>rfl
 |_,_,_,.lst h r,.lst a c=>by
   rw[h]at a;cases a;rw[Qy.uniq r c]
 |_,_,_,.tup h r,.tup a c=>by
   rw[h]at a;cases a;rw[Qy.uniq r c]
 |_,_,_,.lst h r,.tup a c=>by rw[h]at a;cases a
 |_,_,_,.tup h r,.lst a c=>by rw[h]at a;cases a
 |_,_,_,.dct h,.dct a=>rfl
 |_,_,_,.lst h r,.dct a=>by rw[h]at a;cases a
 |_,_,_,.tup h r,.dct a=>by rw[h]at a;cases a
 |_,_,_,.dct h,.lst a c=>by rw[h]at a;cases a
 |_,_,_,.dct h,.tup a c=>by rw[h]at a;cases a
theorem Qy.uniq {H:Hp}:∀{vs:List V} {ds es:Qd},Qy H vs ds->Qy H vs es->ds=es
 |_,_,_,.nil,.nil=>rfl
 |_,_,_,.cons r t,.cons b a=>by rw[Rep.uniq r b,Qy.uniq t a]
end
mutual
noncomputable def noL:PyData->Bool
 |.none=>true
 |.bool _=>true
 |.int _=>true
 |.str _=>true
 |.list _=>false
 |.dict _=>false
 |.tuple a=>noLs a
noncomputable def noLs:Qd->Bool
 |[]=>true
 |d::a=>noL d&&noLs a
end
mutual
theorem Rep.updL {H:Hp}{l:Addr}{us zs:List V}(a:H l=some (.lst us)):∀{v:V} {d:PyData},noL d=true->Rep H v d->Rep (L2.upd H l<|.lst zs) v d
 |_,_,_,.non=>.non
 |_,_,_,.bl b=>.bl b
 |_,_,_,.int i=>.int i
 |_,_,_,.str x=>.str x
 |_,_,h,.lst _ _=>by simp[noL]at h
 |_,_,h,.tup c r=>.tup (by rw[Qt<|NV c a<|by intro z;cases z];exact c) (Qy.updL a (by simpa [noL] using h) r)
theorem Qy.updL {H:Hp}{l:Addr}{us zs:List V}(a:H l=some (.lst us)):∀{vs:List V} {ds:Qd},noLs ds=true->Qy H vs ds->Qy (L2.upd H l<|.lst zs) vs ds
 |_,_,_,.nil=>.nil
 |_,_,h,.cons r t=>.cons (Rep.updL a (by simp[noLs]at h;exact h.1) r) (Qy.updL a (by simp[noLs]at h;exact h.2) t)
end
def Tb (a b:Int):Builtin.Range.rangeSize a b (-1)=((a-b).toNat:Int):=by
 unfold Builtin.Range.rangeSize;simp only[show ¬((-1:Int) > 0) by decide,if_false,show(-(-1):Int)=1 from rfl,Int.ediv_one]
 split<;>omega
def OV (ha : -(2^62)<=a)(d:a<2^62)(hb : -(2^62)<=b)(c:b<2^62):Builtin.Range.small a b (-1)=true:=by
 unfold Builtin.Range.small;rw[Tb];simp only[Builtin.Range.rangeFitsLong,WB,Bool.or_eq_true,decide_eq_true_eq,beq_iff_eq,show ¬((-1:Int) > 0) by decide,if_false];omega
def MP (a:Int)(n:Nat):It:=⟨fun i _=>i<n,fun i H x b=>b=H/\x=.int (a-i),fun i _=>n<=i⟩
theorem OR {P:Program}{w:World}{K:W.Frag}{G:Expr}(it:Addr)(d:Int)(n:Nat):Turn P w K G (MP d n) [it] it (fun i h=>IsRangeIter h it (d+(i:Nat)*(-1)) ((n:Int)-(i:Nat)) (-1)) where
 mem:=by simp
 obj:=fun i h a b c=>by
  have e:b=it:=by simpa using c
  subst e;exact⟨_,a,fun v z=>by
   have F:Data.fields _=Data.cell v:=z
   cases F⟩
 keep:=fun i h l a k=>k it (by simp) _ a
 item:=by
  intro X r m u q i g s D H E I j a p;subst r m u;obtain⟨C,B,M,A,y,x⟩:=j it (by simp);have W:=Walks.range (prog:=X.prog) (w:=X.w) (I.ok.hd q) it d (-1) n;refine W.item i s _ _ p a fun v l tk L f J=>?_;obtain⟨t,rfl⟩:=L;have O:Qr X g D H { s with heap:=l,toks:=tk }:=I.turned (fun b o c e=>J b o (by simpa using c) e) C B A y x;refine⟨_,rfl,Uy (s:={ s with heap:=l,toks:=tk }) (n := "range_iterator") f rfl rfl (by decide) ⟨.int<|d-i,H,O,⟨t,?_⟩,⟨rfl,rfl⟩,f,fun b c=>(j b c).1⟩⟩;rw[show d+(i:Int)*(-1)=d-i by omega]
 done:=by
  intro X r m u q i g s D H E I j a p;subst r m u;obtain⟨C,B,M,A,y,x⟩:=j it (by simp);exact wpAny_pyNext_range_end (I.ok.hd q) a (by have:n<=i:=p;omega) fun l N=>⟨rfl,I.turned (t':=s.toks) (fun b o c e=>N b o c e) C B A y x⟩
 self:=fun _ _ _ _ _ a h=>wpAny_pyIter_rangeiter a h
section
variable {X:Cx}{tg:Expr}
def E9 {c:Qc}{d:St}{H:Hp}{s:Shared}{R:It->Hp->Prop}{E:Qb}{lo a:Int}{t u v:Tok}{f:Nat}(I:Qr X c d H s)(h1 : -(2^62)<=a)(j:a<2^62)(h3 : -(2^62)<=lo)(i:lo<2^62)
 (q:R (MP a (a-lo).toNat) H):wpAny (model X.prog X.w) X.A (pyIter<|.ref s.heap.objs.size) (PIE X c d tg R) E { s with heap:=s.heap.push { cls:=.type "range",data:=.fields #[.int a t,.int lo u,.int (-1) v] },toks:=f }:=by
 refine wpAny_pyIter_range (IsRange.new ..) (OV h1 j h3 i) ?_;have g:Qr X c d H { s with heap:=s.heap.push { cls:=.type "range",data:=.fields #[.int a t,.int lo u,.int (-1) v] },toks:=f }:=I.kept fun b o e=>Xi _ e
 refine⟨(s.heap.push { cls:=.type "range",data:=.fields #[.int a t,.int lo u,.int (-1) v] }).objs.size,[(s.heap.push { cls:=.type "range",data:=.fields #[.int a t,.int lo u,.int (-1) v] }).objs.size],_,_,H,rfl,
  g.kept (t':=f) fun b o e=>Xi _ e,OR _ a (a-lo).toNat,?_,fun b h=>?_,q⟩
 .have l:a+((0:Nat):Int)*(-1)=a:=by simp
  have k:(((a-lo).toNat:Nat):Int)-((0:Nat):Int)=Builtin.Range.rangeSize a lo (-1):=by rw[Tb];omega
  show IsRangeIter _ _ (a+((0:Nat):Int)*(-1)) ((((a-lo).toNat:Nat):Int)-((0:Nat):Int)) (-1);rw[l,k];exact XF _ rfl
 .have e:b=(s.heap.push { cls:=.type "range",data:=.fields #[.int a t,.int lo u,.int (-1) v] }).objs.size:=by simpa using h
  subst e;exact g.fpOk (Xv _) (g.hok.fresh<|Xv _)
def NZ (c:TA):TI:=fun a H R=>c a H fun b d=>∃i j:Int,b=[.int i,.int j,.int (-1)]/\(-(2^62)<=i/\i<2^62 /\ -(2^62)<=j/\j<2^62)/\R (MP i (i-j).toNat) d
def Kg {a b c:Expr} {m:TA} {p f:Pos} (B:Gl X "range") (A:X.mg "range"=none) (C:PA X [a,b,c] m) (z:starEach [a,b,c] X.env=[(false,eval a X.env),(false,eval b X.env),(false,eval c X.env)]:=by rfl)
 (g:starEach [b,c] X.env=[(false,eval b X.env),(false,eval c X.env)]:=by rfl):PI X tg (.Call (.Name "range" p) [a,b,c] [] f) (NZ m):=by
 intro l s n H R I h;refine Call_ (Jr I B A boot_range<|PyProof.Rows.callWith_type1 (Q9 (C f l s n H _ I h) ?_) (by rw[z,g])<|by rw[g];rfl);rintro F L ⟨E,M,D,u,k⟩;obtain⟨i,j,e,⟨k,y,x,w⟩,q⟩:=k;subst e;cases u with
 |cons r d =>
   cases d with
   |cons v d =>
     cases d with
     |cons o d =>
       cases d
       obtain⟨t,rfl⟩:=r;obtain⟨J,rfl⟩:=v;obtain⟨G,rfl⟩:=o;exact call_range_3 (by decide) (E9 D k y x w q) (.inl<|PyProof.noPylong_small<|by decide)
end
def Bo (K:W.Frag):V->V->Hp->VK->Prop:=fun o i H Q=>∃p a k v,o=.ref p/\i=.int k/\SqL K H p a/\0<=k/\a[k.toNat]?=some v/\Q v H
def OD (ns:Ql):preSum (fun i=>ns.getD i 0) ns.length=ns.sum:=by
 have a:∀k,k<=ns.length->preSum (fun i=>ns.getD i 0) k=(ns.take k).sum:=by
  intro k;induction k with
  |zero=>intro _;simp[preSum]
  |succ k b =>
    intro d;have c:k<ns.length:=by omega
    rw[W8,Bc,<- b (by omega)];simp[preSum,c]
 rw[a ns.length<|Xv _,WA]
theorem Jx:∀{vs:Qe} {ns:Ql} {i:Nat} {v:Value},IntsAre vs ns->vs[i]?=some v->∃t,v=.int (ns.getD i 0) t
 |_,_,_,_,.nil,e=>by simp at e
 |_,_,0,_,.cons n t h,e=>by simp at e;exact⟨t,by simp[<- e]⟩
 |_,_,i+1,v,.cons n t h,e=>by
   obtain⟨a,z⟩:=Jx (i:=i) (v:=v) h (by simpa using e)
   exact⟨a,by simpa using z⟩
def OY  {A:Around}    (r:A.handled=none)(j:s.heap.IsList l vs.toArray)(m:IntsAre vs ns)
 (h:∀h' p t',(∀b o,s.heap.get? b=some o->h'.get? b=some o)->Q (.int ns.sum t') { s with heap:=h',toks:=p }):wpAny (model prog w) A (call (.builtin "sum") [.ref l]) Q E s:=by
 obtain⟨o,k,F,n,D⟩:=id j;have g:l≠s.heap.objs.size:=Xu (Xk k);have W:=(Walks.list (prog:=prog) (w:=w) (A:=A.in1) r s.heap.objs.size l g vs.toArray).toS;refine call_sum_walkAnyS (wpAny_pyIter_list j ?_);refine⟨s.heap.objs.size,_,_,_,_,_,_,fun i=>ns.getD i 0,rfl,W,⟨⟨_,XF _ rfl,rfl,rfl⟩,j.at fun o e=>Xi _ e⟩,fun b a=>?_,fun i v t=>Jx m<|by simpa using t,fun q t' c=>?_⟩
 .rcases Xg.mp a with rfl|a
  .exact Xk (XF _ rfl)
  .obtain rfl:=Xh.mp a
   exact Xk (Xi _ k)
 .obtain⟨h',u,C,d,f⟩:=q
  have B:u=s.gens:=c.gens;have z:C=s.drawn:=c.drawn;have y:f=s.os:=c.os;subst B z y;have x:vs.toArray.size=ns.length:=by rw[XD,m.length]
  rw[x,OD];exact h h' d t' fun b o e=>c.heap b o (fun a=>Xm (Xk e)<|(Xh.mp a)▸Yv _) (Xi _ e)
section
variable {X:Cx}
def UI:Nm X (Bo X.K):=by
 intro u s x H o i y z Q I d e h;obtain⟨p,c,k,v,rfl,rfl,j,m,b,q⟩:=h
 cases d
 obtain⟨t,rfl⟩:=e;obtain⟨g,r,f,A⟩:=I.list j;obtain⟨w,n,a⟩:=r.get b;have C:=r.length;have B:=JV;have l:k.toNat<c.length:=(Xf.mp b).1;exact wpAny_getItem_list f.isList m (by omega) (by simpa using n) ⟨v,H,I,a,q⟩
def E6:Z7 X (.builtin "sum") (fun xs H Q=>X.calm=true/\∃(x:V) (ns:Ql),xs=[x]/\Rep H x (.list<|ns.map PyData.int)/\Q (.int ns.sum) H):=by
 intro j s l H xs m Q I r h;obtain⟨f,x,ns,rfl,e,q⟩:=h;obtain⟨u,rfl,a⟩:=YD r
 cases e with
 |lst g c =>
   cases a
   have i:=GV c;subst i;obtain⟨d,b,p,t⟩:=I.list (SqL.of (K:=X.K) g);exact OY (I.ok.hd f) p.isList (Mp b) fun v n o k=>⟨.int ns.sum,H,I.kept k,⟨_,rfl⟩,q⟩
end
def Qr.turnedL {X:Cx}{f:Qc}{g:St}{H:Hp}{s:Shared}{h':Heap}{t':Nat}{ch:Qg}(I:Qr X f g H s)(k:∀b o,b∉ch->s.heap.get? b=some o->h'.get? b=some o)(d:∀b∈ch,Yw X f H b):Qr X f g H { s with heap:=h',toks:=t' }:=by
 refine I.step (g':=s.gens) (d':=s.drawn) (ch:=ch) (fun b l=>?_) (fun b o _ _ a e _=>k b o a e) (fun b o _ _ a e _=>⟨o.slots,k b o a e⟩) (fun _ _ _ _ n=>n)
  (fun b o a e=>⟨o,k b o a e⟩) (fun _ _ e=>e) (fun _ _ _ e=>e) (fun b B e=>⟨#[],by rw[e];simp⟩) (fun m j=>?_) (fun b u e=>?_) I.bare (fun b _ o a _ e=>k b o a e)
 .obtain⟨D,x,C,w,t,p⟩:=d b l
  exact⟨w,x,t,p⟩
 .obtain⟨o,y,A,i,r⟩:=j
  exact⟨o,y,A,k _ o (fun z=>(d _ z).2.1 rfl) i,r⟩
 .refine(I.hok b u e).stay (fun c v a q=>k c v (fun z=>?_) q) (fun _ q=>q) fun _ _ q=>q
  have h:=(d c z).1
  rcases a with rfl|a
  .rw[h]at e;cases e
  .rw[h]at a;cases a
def Qr.trackTup {X:Cx}{a:Qc}{d:St}{H:Hp}{g s:Shared}{T:Addr}{x y:V}{u v:Value}(b:Qr X a d H g)(I:Qr X a d H s)(hT:g.heap.objs.size<=T)(rx:QK x u)(h:QK y v)(f:s.heap.IsTuple T #[u,v]):Qr X a d (upd H T<|.tup [x,y]) s:=by
 refine I.track (b.hok.fresh hT) (X4 b.sz hT) (Yh<|Xr b.lt hT) (fun z c e q=>?_) (fun p j q=>?_) ⟨by show 2<=sizeLine;decide,[u,v],.cons rx<|.cons h .nil,f⟩
 .obtain⟨w,i⟩:=b.cell z c e
  exact Xm (Xr i.lt<|by rw[q];exact hT) (Yv _)
 .exact Xm (Xr (Xk (b.pin p j).1)<|by rw[q];exact hT) (Yv _)
def Ite (K:W.Frag)(a:Addr):It :=
 ⟨fun i H=>∃b x,SqL K H a b/\b[i]?=some x,
  fun i H v c=>∃p x,H p=none/\v=.ref p/\c=upd H p (.tup [.int (i:Int),x])/\∀b,SqL K H a b->b[i]?=some x,
  fun i H=>∃b,SqL K H a b/\i=b.length⟩
theorem Ob {P:Program}{w:World}{K:W.Frag}{m:Qi}{k:Nat}{B:Pos}{e it a:Addr}(L:e≠it)(J:a≠e)(G:a≠it) :
 Turn P w K (.Tuple m k B) (Ite K a) [e,it] e (fun i h=>(∃d,IsEnum h e it i d)/\h.IsListIter it a i) where
 mem:=by simp
 obj:=fun i h g c r=>by
  obtain⟨⟨d,f⟩,o1,e1,c1,d1⟩:=g;simp only[Xg,XT,or_false]at r;rcases r with rfl|rfl
  .exact⟨_,f,by rintro v ⟨⟩⟩
  .exact⟨_,e1,fun v z=>by rw[d1]at z;cases z⟩
 keep:=fun i h N g kk=>by
  obtain⟨⟨d,f⟩,u⟩:=g
  exact⟨⟨d,kk e (by simp) _ f⟩,u.at fun o x=>kk it (by simp) o x⟩
 item:=by
  intro X hP hw hK r i l s Q H E I O g hg;subst hP hw hK;obtain⟨xs,x,j,hx⟩:=hg;obtain⟨b,p,Y,Z⟩:=I.list j;obtain⟨u1,F,U⟩:=p.get hx;obtain⟨f,u⟩:=g;have W:=WalksT.enumerate (prog:=X.prog) (w:=X.w) (A:=X.A) (I.ok.hd r) e it a L J G b.toArray;have l1:i<b.length:=(Xf.mp F).1;have wr:∀c∈[e,it],Yw X l H c:=O;refine W.item i s _ _ (by simp only[XD];omega) ⟨f,u,Y.isList⟩ fun T vals N tk pt hT tup C kp=>?_;obtain⟨t,R,e1,rfl⟩:=pt
  have ev1:R=u1:=by
   have:b[i]?=some R:=by simpa using e1
   rw[F]at this;exact(Option.some.inj this).symm
  subst ev1;have I1:Qr X l Q H { s with heap:=N,toks:=tk }:=I.turnedL kp wr;refine⟨.ref T,rfl,W.go m k B i T { s with heap:=N,toks:=tk } _ _ C fun M S D=>?_⟩;have I2:Qr X l Q H { s with heap:=M,toks:=tk }:=I1.turnedL (t':=tk) D wr
  have y:M.IsTuple T #[.int (i:Int) t,R]:=by
   obtain⟨o,ho,hcl,n,hd⟩:=tup
   exact⟨o,D T o (W.apart i T N C) ho,hcl,n,hd⟩
  have I3:=I.trackTup I2 hT (x:=.int (i:Int)) ⟨t,rfl⟩ U y;obtain⟨s1,s2,_⟩:=S;refine⟨.ref T,_,I3,rfl,⟨T,x,I.hok.fresh hT,rfl,rfl,fun xs' h=>by rw[I.list_inj h j];exact hx⟩,⟨s1,s2⟩,fun c q=>?_⟩
  have hlt:c<s.heap.objs.size:=by
   simp only[Xg,XT,or_false]at q;obtain⟨d,f⟩:=f
   rcases q with rfl|rfl
   .exact Xk f
   .obtain⟨_,z,_⟩:=u;exact Xk z
  rw[Qt<|Xu<|Xr hlt hT];exact(O c q).1
 done:=by
  intro X hP hw hK r i l s Q H E I O g hg;subst hP hw hK;obtain⟨xs,j,rfl⟩:=hg;obtain⟨b,p,Y,Z⟩:=I.list j;obtain⟨f,u⟩:=g;have W:=WalksT.enumerate (prog:=X.prog) (w:=X.w) (A:=X.A) (I.ok.hd r) e it a L J G b.toArray;have en:xs.length=b.toArray.size:=by simp[p.length]
  refine W.done s _ _ (by rw[<- en];exact⟨f,u,Y.isList⟩) fun N tk kp=>⟨rfl,I.turnedL kp O⟩
 self:=fun _ _ _ _ _ g h=>by
  obtain⟨⟨d,f⟩,_⟩:=g;exact wpAny_pyIter_enum f h
section
variable {X:Cx}
def NG (K:W.Frag)(f:TA):TI:=fun c H R=>f c H fun e b=>∃a,e=[.ref a]/\(∃d,SqL K b a d)/\R (Ite K a) b
def IY:bootBuiltins "enumerate"=some (.type "enumerate"):=by decide +kernel
def GW    (J:Gl X "enumerate") (G:X.mg "enumerate"=none) (L:PA X [a] ta) (E:starEach [a] X.env=[(false,eval a X.env)]:=by rfl) :
 PI X (.Tuple elts k tpos) (.Call (.Name "enumerate" p) [a] [] pos) (NG X.K ta):=by
 intro f s i H R I h;refine Call_ (Jr I J G IY<|PyProof.Rows.callWith_type1 (Q9 (L pos f s i H _ I h) ?_) E rfl);rintro S b ⟨Q,t,g,y,z⟩;obtain⟨x,e,⟨P,C⟩,q⟩:=z;subst e;obtain⟨u,rfl,v⟩:=YD y
 cases v
 obtain⟨m,w,j,B⟩:=g.list C;refine call_enumerate_list j.isList fun N n M D A=>wpAny_pyIter_enum n ?_;have l:x<b.heap.objs.size:=by obtain⟨o,F,_⟩:=j.isList;exact Xk F
 have O:Qr X f i t { b with heap:=N }:=g.kept (t':=b.toks) A;refine⟨_,[b.heap.objs.size+1,b.heap.objs.size],_,_,t,rfl,O,Ob (e:=b.heap.objs.size+1) (it:=b.heap.objs.size) (a:=x) (Nat.succ_ne_self _) (Xu<|UZ l)<|Xu l,⟨⟨_,n⟩,M⟩,fun c r=>?_,q⟩
 have d:b.heap.objs.size<=c:=by
  simp only[Xg,XT,or_false]at r;rcases r with rfl|rfl
  .exact Nat.le_add_right _ _
  .exact Xv _
 exact g.fpOk d (g.hok.fresh d)
end
def DR {s:Shared}{h':Heap}(c:∀b x,b∉[s.heap.objs.size]->(s.heap.push o).get? b=some x->h'.get? b=some x):∀b x,s.heap.get? b=some x->h'.get? b=some x :=
 fun b x e=>c b x (fun a=>by rw[Xh.mp a]at e;exact Yv _<|Xk e) (Xi _ e)
noncomputable def Yz:Ql->Int
 |[]=>0
 |[a]=>a
 |a::b::r=>min a (Yz (b::r))
theorem Ke:∀{ns:Ql},ns≠[]->Yz ns∈ns/\∀a∈ns,Yz ns<=a
 |[],h=>Xm rfl h
 |[a],_=>by simp[Yz]
 |a::b::r,_=>by
   obtain⟨f,e⟩:=Ke (ns:=b::r) (by simp);simp only[Yz];refine⟨?_,fun c d=>?_⟩
   .by_cases h:a<=Yz (b::r)
    .rw[Int.min_eq_left h];exact Xb
    .rw[Int.min_eq_right<|by omega];exact Xe _ f
   .rcases Xg.mp d with rfl|d
    .omega
    .have:=e c d
     omega
def C2  (b:M∈ns)(c:∀a∈ns,M<=a):M=Yz ns:=by
 obtain⟨e,d⟩:=Ke (ns:=ns) (fun z=>by rw[z]at b;cases b)
 have:=c _ e
 have:=d _ b
 omega
section
variable {X:Cx}
def NO (X:Cx):List V->Hp->VK->Prop:=fun b H Q=>X.calm=true/\∃(x:V) (a:Ql),b=[x]/\Rep H x (.list<|a.map PyData.int)/\a≠[]/\Q (.int<|Yz a) H
def FC:Z7 X (.builtin "min") (NO X):=by
 intro U s W H Z us Q I r h;obtain⟨P,x,d,rfl,M,w,q⟩:=h;obtain⟨u,rfl,G⟩:=YD r
 cases M with
 |@lst l Y _ R L =>
   cases G
   have S:=GV L;subst S;obtain⟨c,J,p,hz⟩:=I.list (SqL.of (K:=X.K) R);have y:=p.isList;have z:=Mp J;have E:c.length=d.length:=z.length;have D:0<d.length:=MA.mpr w;have f:l<s.heap.objs.size:=by obtain⟨_,e,_⟩:=y;exact Xk e
   refine call_min_walk (wpAny_pyIter_list y ?_)
   refine⟨s.heap.objs.size,[s.heap.objs.size,l],[s.heap.objs.size],c.toArray.size,_,_,_,rfl,Walks.list (A:=X.A.in1) (I.ok.hd P) _ l (Xu f) c.toArray,
    ⟨⟨_,XF _ rfl,rfl,rfl⟩,y.push _⟩,fun b m=>?_,by simp only[XD];omega,CmpOf.ints_lt (fun i=>d.getD i 0) (fun i v n=>Jx z<|by simpa using n),fun v h' tk n N=>?_⟩
   .show b<(s.heap.push _).objs.size
    rw[W9];rcases Xg.mp m with rfl|m
    .exact WY _
    .rcases Xg.mp m with rfl|m
     .exact UZ f
     .cases m
   .rw[List.getElem?_toArray]at n
    obtain⟨t,rfl⟩:=Jx z n;obtain⟨F,C⟩:=argBest_lt (fun i=>d.getD i 0) (c.toArray.size-1);have o:c.toArray.size=c.length:=by simp
    generalize argBest (fun i j=>decide (d.getD i 0<d.getD j 0)) (c.toArray.size-1)=k at F C ⊢;rw[o]at F C;have g:k<d.length:=by omega
    have T:d.getD k 0=Yz d:=by
     refine C2 (by simp[g]) fun a B=>?_;obtain⟨j,O,rfl⟩:=Gb.mp B
     have:=C j (by omega)
     simpa [O,g] using this
    exact⟨.int<|Yz d,H,I.kept<|DR N,⟨t,by rw[T]⟩,q⟩
end
end L2
end
namespace Mir
noncomputable def YC (ns:Ql)(k:Int):Int:=ns.getD k.toNat 0
noncomputable def TH (x:Int):Nat:=if x==0 then 0 else x.natAbs.log2+1
noncomputable def N6 (i:Int):Int:=if i<0 then -i else i
noncomputable def mix (head k:Int):Nat->Int×Int×Int
 |0=>(head%2147483629+7919*k,69621*k+5,0)
 |i+1 =>
   ((((mix head k i).1*48271+11+(i:Int)*k)%2147483647),
    (((mix head k i).2.1*16807+((mix head k i).1*48271+11+(i:Int)*k)%2147483647)%2147483629),
    (mix head k i).2.2*2147483629+(((mix head k i).2.1*16807+((mix head k i).1*48271+11+(i:Int)*k)%2147483647)%2147483629*(((mix head k i).2.1*16807+((mix head k i).1*48271+11+(i:Int)*k)%2147483647)%2147483629)+((mix head k i).1*48271+11+(i:Int)*k)%2147483647)%2147483587)
noncomputable def LQ (ns:Ql)(k:Int):Int :=
 if YC ns 0/720%2=1 then (mix (YC ns 0) k 30).2.2 else N6 (YC ns k)+(mix (YC ns 0) k 30).2.2*2^TH (N6<|YC ns k)
structure Ln where
 up:Option Nat
 bs:Ql
structure Yd where
 T:Nat
 ls:List Ln
noncomputable def Zd (y:Yd)(k:Nat):Option Nat:=(y.ls[k]?).bind (·.up)
structure Yd.Ok (y:Yd):Prop where
 t1:1<=y.T
 t8:y.T<=8
 l1:1<=y.ls.length
 l5:y.ls.length<=5
 up0:Zd y 0=none
 ups:∀k,0<k->k<y.ls.length->∃a,Zd y k=some a/\a<k
 bl:∀l∈y.ls,l.bs.length=y.T
 bb:∀l∈y.ls,∀b∈l.bs,0<=b/\b<10^300
def He {b:Int}(h:b<10^30):b<10^300:=Int.lt_trans h (by decide +kernel)
noncomputable def upF9(y:Yd):Nat->Nat->Qk
 |0,k=>[k]
 |n+1,k=>k::match Zd y k with
  |none=>[]
  |some a=>if a<k then upF9 y n a else []
theorem upE9(y:Yd):∀n k m,k<=n->k<=m->upF9 y n k=upF9 y m k
 |0,k,0,_,_=>rfl
 |0,k,m+1,h,_=>by
  cases Nat.le_zero.mp h;unfold upF9;cases Zd y 0<;>simp
 |n+1,k,0,_,h=>by
  cases Nat.le_zero.mp h;unfold upF9;cases Zd y 0<;>simp
 |n+1,k,m+1,h,g=>by
  unfold upF9;cases Zd y k with
  |none=>rfl
  |some a=>
   by_cases l:a<k
   .simp only[l,if_true,upE9 y n a m (by omega)<|by omega]
   .simp only[l,if_false]
noncomputable def upL(y:Yd)(k:Nat):Qk:=upF9 y k k
theorem upD9(y:Yd)(k:Nat):upL y k=k::match Zd y k with|none=>[]|some a=>if a<k then upL y a else []:=by
 unfold upL;rw[upE9 y k k (k+1) (Nat.le_refl _)<|by omega]
 show k::_=_
 cases Zd y k with
 |none=>rfl
 |some a=>
  by_cases l:a<k
  .simp only[l,if_true,upE9 y k a a (by omega)<|Nat.le_refl _]
  .simp only[l,if_false]
def RF (b:y.Ok)(d:k<y.ls.length):upL y k=if k=0 then [0] else k::upL y ((Zd y k).getD 0):=by
 rw[upD9];by_cases c:k=0
 .subst c;simp[b.up0]
 .obtain⟨a,e,l⟩:=b.ups k (by omega) d
  simp[e,l,c]
def Rr (y:Yd):∀k,∀j∈upL y k,j<=k:=by
 intro k;induction k using Nat.strongRecOn with
 |ind k d =>
   intro j b;rw[upD9]at b;rcases Xg.mp b with rfl|b
   .exact Xv _
   .cases e:Zd y k with
    |none=>rw[e]at b;simp at b
    |some a =>
      rw[e]at b;by_cases c:a<k
      .simp only[c,if_true]at b
       have:=d a c j b
       omega
      .simp only[c,if_false]at b;simp at b
def HF (y:Yd)(k:Nat):k∈upL y k:=by rw[upD9];exact Xb
def DD (b:y.Ok)(h0:0<k)(d:k<y.ls.length)(e:Zd y k=some a)(l:Nat)(c:l≠k):l∈upL y k↔l∈upL y a:=by
 rw[RF b d,Xa<|by omega,e];simp only[Option.getD_some,Xg];constructor
 .rintro(h|h)
  .exact Xm h c
  .exact h
 .exact .inr
end Mir
namespace Mir
structure Gs where
 line:Nat
 first:Nat
 last:Nat
 want:Int
 most:Int
structure Gs.Ok (y:Yd)(g:Gs):Prop where
 ln:g.line<y.ls.length
 fl:g.first<=g.last
 lt:g.last<y.T
 w1:1<=g.want
 w2:g.want<10^300
 m1:1<=g.most
 m2:g.most<10^300
noncomputable def gn0 (ns:Ql)(k:Nat):Int:=LQ ns (6+(k:Int))
noncomputable def gn1 (ns:Ql)(y:Yd)(k:Nat):Int:=gn0 ns k/(y.ls.length:Int)
noncomputable def gn2 (ns:Ql)(y:Yd)(k:Nat):Int:=gn1 ns y k/(y.T:Int)
noncomputable def gf (ns:Ql)(y:Yd)(k:Nat):Int:=gn1 ns y k%(y.T:Int)
noncomputable def gl (ns:Ql)(y:Yd)(k:Nat):Int:=gf ns y k+gn2 ns y k%((y.T:Int)-gf ns y k)
noncomputable def ZH (g:Gs)(t:Int):Bool:=decide ((g.first:Int)<=t)&&decide (t<=(g.last:Int))
noncomputable def Z3 (y:Yd)(l:Nat)(t:Nat):Int:=(((y.ls[l]?).map (·.bs)).getD []).getD t 0
noncomputable def Z6 (gs:List Gs)(t:Int)(l:Nat):Qk->Int
 |[]=>0
 |k::r=>(match gs[k]? with|some g=>if g.line=l/\ZH g t=true then g.most else 0|none=>0)+Z6 gs t l r
def Uf (gs:List Gs)(t:Int)(l:Nat)(a b:Qk):Z6 gs t l (a++b)=Z6 gs t l a+Z6 gs t l b:=by
 induction a with
 |nil=>simp[Z6]
 |cons k r c=>simp only[J8,Z6,c];omega
noncomputable def WL (y:Yd)(b:Qn)(st:Qn)(j:Nat):Qn:=fun l=>st l+(if Zd y j=some l then min (st j) (b j) else 0)
noncomputable def Vk (y:Yd)(b own:Qn):Nat->Qn
 |0=>own
 |i+1=>WL y b (Vk y b own i) (y.ls.length-1-i)
noncomputable def V8 (y:Yd)(b own:Qn)(l:Nat):Int:=Vk y b own (y.ls.length-1) l
noncomputable def passes (y:Yd)(b own:Qn)(l:Nat):Int:=min (V8 y b own l) (b l)
noncomputable def WX (y:Yd)(b own:Qn)(l:Nat):Qn
 |0=>0
 |n+1=>WX y b own l n+(if Zd y (l+1+n)=some l then passes y b own (l+1+n) else 0)
theorem Th (y:Yd)(c:y.Ok)(b own:Qn)(l:Nat):∀i,i<=y.ls.length-1->y.ls.length-1-i<=l->∀d,i+d<=y.ls.length-1->Vk y b own (i+d) l=Vk y b own i l
 |i,f,e,0,_=>rfl
 |i,f,e,d+1,m=>by
   have g:=Th y c b own l i f e d (by omega);show WL y b (Vk y b own<|i+d) (y.ls.length-1-(i+d)) l=_;unfold WL;rw[g];by_cases h:0<y.ls.length-1-(i+d)
   .obtain⟨a,j,k⟩:=c.ups (y.ls.length-1-(i+d)) h (by omega)
    rw[j];have:¬some a=some l:=by
     intro z;injection z with z;omega
    rw[Xa this];omega
   .have:y.ls.length-1-(i+d)=0:=by omega
    omega
def Tc (a:y.Ok)(b own:Qn)(c:j<y.ls.length):Vk y b own (y.ls.length-1-j) j=V8 y b own j:=by
 unfold V8;have:=Th y a b own j (y.ls.length-1-j) (by omega) (by omega) j (by omega);rw[show y.ls.length-1-j+j=y.ls.length-1 by omega]at this;exact this.symm
theorem Pq {y:Yd}(c:y.Ok)(b own:Qn)(l:Nat):∀i,i<=y.ls.length-1->Vk y b own i l+WX y b own l (y.ls.length-1-i-l)=own l+WX y b own l (y.ls.length-1-l)
 |0,_=>by simp[Vk]
 |i+1,s=>by
   have f:=Pq c b own l i (by omega)
   have e:Vk y b own (i+1) l=Vk y b own i l+(if Zd y (y.ls.length-1-i)=some l then passes y b own (y.ls.length-1-i) else 0):=by
    show WL y b (Vk y b own i) (y.ls.length-1-i) l=_;unfold WL passes;have j:y.ls.length-1-i<y.ls.length:=by have:=c.l1;omega
    have h:=Tc c b own j;rw[show y.ls.length-1-(y.ls.length-1-i)=i by omega]at h;rw[h]
   rw[e];by_cases r:l<y.ls.length-1-i
   .obtain⟨d,m⟩:∃d,y.ls.length-1-i-l=d+1:=⟨y.ls.length-1-i-l-1,by omega⟩
    rw[m]at f;have g:y.ls.length-1-(i+1)-l=d:=by omega
    rw[g];have o:l+1+d=y.ls.length-1-i:=by omega
    simp only[WX,o]at f;omega
   .have p:y.ls.length-1-i-l=0:=by omega
    have g:y.ls.length-1-(i+1)-l=0:=by omega
    rw[p]at f;rw[g];have:¬Zd y (y.ls.length-1-i)=some l:=by
     intro z;have k:0<y.ls.length-1-i:=by omega
     obtain⟨a,n,q⟩:=c.ups (y.ls.length-1-i) k (by omega);rw[n]at z;injection z with z;omega
    rw[Xa this];simp only[WX]at f ⊢;omega
def CO (a:y.Ok)(b own:Qn)(l:Nat):V8 y b own l=own l+WX y b own l (y.ls.length-1-l):=by
 have h:=Pq a b own l (y.ls.length-1) (Xv _);rw[show y.ls.length-1-(y.ls.length-1)-l=0 by omega]at h;simp only[WX]at h;unfold V8;omega
end Mir
namespace Mir
noncomputable def Qz (f:Qn):Qn
 |0=>0
 |n+1=>Qz f n+f n
theorem Zi {f g:Qn}:∀{n:Nat},(∀k,k<n->f k=g k)->Qz f n=Qz g n
 |0,_=>rfl
 |n+1,h=>by
   simp only[Qz];rw[Zi (n:=n) fun k a=>h k<|by omega,h n<|by omega]
theorem YU {f g:Qn}:∀{n:Nat},(∀k,k<n->f k<=g k)->Qz f n<=Qz g n
 |0,_=>Wb _
 |n+1,h=>by
   simp only[Qz];have:=YU (n:=n) fun k a=>h k (by omega)
   have:=h n (by omega)
   omega
theorem GK (f g:Qn):∀n,Qz (fun k=>f k+g k) n=Qz f n+Qz g n
 |0=>rfl
 |n+1=>by simp only[Qz];rw[GK f g n];omega
theorem BY (c:Int)(f:Qn):∀n,Qz (fun k=>c*f k) n=c*Qz f n
 |0=>by simp[Qz]
 |n+1=>by simp only[Qz];rw[BY c f n,Int.mul_add]
theorem Vh:∀n,Qz (fun _=>0) n=0
 |0=>rfl
 |n+1=>by simp only[Qz];rw[Vh n];rfl
theorem UD {a:Nat}{v:Int}:∀{n:Nat},Qz (fun l=>if l=a then v else 0) n=if a<n then v else 0
 |0=>by simp[Qz]
 |n+1=>by
   simp only[Qz];rw[UD (n:=n)]
   by_cases h:n=a
   .subst h;simp
   .by_cases b:a<n
    .simp[h,b];omega
    .have:¬a<n+1:=by omega
     simp[h,b,this]
def BB  (h:∀k,k<n->0<=f k):0<=Qz f n:=by
 have:=YU (f:=fun _=>0) (g:=f) (n:=n) h
 rw[Vh]at this;exact this
noncomputable def wgt (gs:List Gs)(t:Int)(l k:Nat):Int:=match gs[k]? with|some g=>if g.line=l/\ZH g t=true then g.most else 0|none=>0
def FI (gs:List Gs)(t:Int)(l k:Nat):Z6 gs t l [k]=wgt gs t l k:=by
 simp only[Z6,wgt];cases gs[k]? with
 |none=>rfl
 |some g=>simp
def II (gs:List Gs)(t:Int)(l:Nat)(p:Qm)(m:Nat):Z6 gs t l ((List.range m).filter p)=Qz (fun k=>if p k=true then wgt gs t l k else 0) m:=by
 induction m with
 |zero=>rfl
 |succ m a =>
   rw[Y7,Uh,Uf,a];simp only[Qz];cases e:p m with
   |true=>simp only[J7,e,if_true,List.filter_nil,FI]
   |false=>simp only[J7,e,List.filter_nil,Z6,X6,if_false]
theorem GU (f:Nat->Qn)(n:Nat):∀m,Qz (fun l=>Qz (fun k=>f l k) m) n=Qz (fun k=>Qz (fun l=>f l k) n) m
 |0=>by simp only[Qz];exact Vh n
 |m+1=>by
   simp only[Qz];rw[GK,GU f n m]
end Mir
section
namespace L2
open PySem PySem.Spec PyProof.Rows
structure Q0 (F H F' H':Hp):Prop where
 hh:Q5 H H'
 ff:Q5 F F'
 fh:Q5 F' H'
 fr:∀a,F' a≠none->F a≠none\/H a=none
def Q0.refl (s:Q5 F H):Q0 F H F H:=⟨Q5.refl _,Q5.refl _,s,fun _ h=>.inl h⟩
def Q0.trans (a:Q0 F H F1 H1)(b:Q0 F1 H1 F2 H2):Q0 F H F2 H2 :=
 ⟨a.hh.trans b.hh,a.ff.trans b.ff,b.fh,fun p h=>by
  rcases b.fr p h with z|z
  .exact a.fr p z
  .exact .inr (a.hh.free z)⟩
def Zt {H:Hp}{a:Addr}{o:HO}(h:H a=some o):H a≠none:=by rw[h];rintro⟨⟩
def U9 {H:Hp}{a:Addr}(h:H a≠none):∃o,H a=some o:=by
 cases e:H a with
 |none=>exact Xm e h
 |some o=>exact⟨o,rfl⟩
def Ap  (s:Q5 F H):Q5 (upd F p o) (upd H p o):=fun b u e=>by
 by_cases h:b=p
 .subst h;rw[QC]at e ⊢;exact e
 .rw[Qt h]at e ⊢;exact s b u e
def Q0.new  (s:Q5 F H)(b:H p=none):Q0 F H (upd F p o) (upd H p o) :=
 ⟨Q5.new b,Q5.new<|s.free b,Ap s,fun a h=>by
  by_cases e:a=p
  .subst e;exact .inr b
  .rw[Qt e]at h;exact .inl h⟩
def Q0.own  (s:Q5 F H)(a:H p=none):Q0 F H F (upd H p o) :=
 ⟨Q5.new a,Q5.refl _,s.upd<|s.free a,fun _ h=>.inl h⟩
def Q0.freeze  (x:Q0 F0 H0 F H)(d:F a=none)(c:H a=some o)(h0:H0 a=none):Q0 F0 H0 (upd F a o) H :=
 ⟨x.hh,x.ff.trans<|Q5.new d,fun b u e=>by
  by_cases h:b=a
  .subst h;rw[QC]at e;rw[c];exact e
  .rw[Qt h]at e;exact x.fh b u e,fun b h=>by
  by_cases e:b=a
  .subst e;exact .inr h0
  .rw[Qt e]at h;exact x.fr b h⟩
def Q0.free  (x:Q0 F H F' H')(c:F a=none)(b:H a≠none):F' a=none:=by
 cases e:F' a with
 |none=>rfl
 |some o =>
   rcases x.fr a (Zt e) with z|z
   .exact Xm c z
   .exact Xm z b
structure OwnP where
 ok:W.Frag->Hp->Hp->V->Qg->Prop
 there:∀{K:W.Frag} {F H:Hp} {v:V} {p:Qg},ok K F H v p->∀a∈p,F a=none/\H a≠none
 mono:∀{K:W.Frag} {F F' H H':Hp} {v:V} {p:Qg},Q5 F F'->(∀a∈p,F' a=none)->(∀a∈p,H' a=H a)->ok K F H v p->ok K F' H' v p
 uniq:∀{K:W.Frag} {F H:Hp} {v:V} {p q:Qg},ok K F H v p->ok K F H v q->∀a∈q,a∈p
structure ZP where
 ok:W.Frag->Hp->V->Prop
 mono:∀{K:W.Frag} {F F':Hp} {v:V},Q5 F F'->ok K F v->ok K F' v
inductive OT where
 |zow (Ψ:ZP)
 |fz (d:PyData)
 |ol (ds:Qd)
 |oll (dss:List (Qd))
 |scr (ns:Ql)
 |own (v:V) (Φ:OwnP)
abbrev QF:=List (Option OT)
def Vm (F H:Hp)(a:Addr)(ds:Qd):Prop:=F a=none/\∃b,H a=some (.lst b)/\Qy F b ds
def Zp (F H:Hp):Qg->List (Qd)->Prop
 |[],[]=>True
 |a::d,c::b=>Vm F H a c/\Zp F H d b
 |_,_=>False
def Zs (K:W.Frag)(F H:Hp)(v:V):OT->Qg->Prop
 |.fz d,p=>p=[]/\Rep F v d
 |.ol i,p=>∃a,v=.ref a/\p=[a]/\Vm F H a i
 |.oll c,p=>∃a b,v=.ref a/\p=a::b/\(a::b).Nodup/\F a=none/\H a=some (.lst<|b.map V.ref)/\Zp F H b c
 |.scr h,p=>p=[]/\∃a,v=.ref a/\Scr K F a h
 |.own g f,p=>v=g/\f.ok K F H v p
 |.zow e,p=>p=[]/\e.ok K F v
def Q5.at_eq (s:Q5 H H')(h:H a≠none):H' a=H a:=by
 cases e:H a with
 |none=>exact Xm e h
 |some o=>exact s _ _ e
def Vm.ext  (h:Vm F H a ds)(x:Q0 F H F' H'):Vm F' H' a ds:=by
 obtain⟨e,c,b,d⟩:=h
 exact⟨x.free e<|Zt b,c,x.hh _ _ b,d.mono x.ff⟩
theorem Zp.ext {F H c b:Hp}(x:Q0 F H c b):∀{as:Qg} {a:List (Qd)},Zp F H as a->Zp c b as a
 |[],[],_=>trivial
 |_::_,_::_,h=>⟨h.1.ext x,Zp.ext x h.2⟩
 |[],_::_,h=>False.elim h
 |_::_,[],h=>False.elim h
theorem Zp.mem {F H:Hp}:∀{as:Qg} {d:List (Qd)},Zp F H as d->∀a∈as,F a=none/\H a≠none
 |[],[],_,a,c=>by cases c
 |b::as,_::_,h,a,c=>by
   rcases Xg.mp c with rfl|c
   .obtain⟨f,g,e,_⟩:=h.1
    exact⟨f,Zt e⟩
   .exact Zp.mem h.2 a c
 |[],_::_,h,_,_=>False.elim h
 |_::_,[],h,_,_=>False.elim h
def Zs.ext {K:W.Frag}{F H k j:Hp}{v:V}{t:OT}{p:Qg}(h:Zs K F H v t p)(x:Q0 F H k j):Zs K k j v t p:=by
 cases t with
 |fz d=>exact⟨h.1,h.2.mono x.ff⟩
 |zow l=>exact⟨h.1,l.mono x.ff h.2⟩
 |ol u=>obtain⟨a,e,c,b⟩:=h;exact⟨a,e,c,b.ext x⟩
 |oll o=>obtain⟨a,q,e,c,b,n,i,m⟩:=h;exact⟨a,q,e,c,b,x.free n<|Zt i,x.hh _ _ i,m.ext x⟩
 |scr s=>obtain⟨e,a,c,b⟩:=h;exact⟨e,a,c,b.mono x.ff⟩
 |own r f=>exact⟨h.1,f.mono x.ff (fun a g=>x.free (f.there h.2 a g).1 (f.there h.2 a g).2) (fun a g=>x.hh.at_eq (f.there h.2 a g).2) h.2⟩
def Zs.there {K:W.Frag}{F H:Hp}{v:V}{t:OT}{p:Qg}(h:Zs K F H v t p):∀a∈p,F a=none/\H a≠none:=by
 cases t with
 |fz d=>obtain⟨rfl,_⟩:=h;intro a f;cases f
 |zow o=>obtain⟨rfl,_⟩:=h;intro a f;cases f
 |ol u =>
   obtain⟨a,m,rfl,i,q,g,_⟩:=h;intro b c;have e:b=a:=by simpa using c
   subst e;exact⟨i,Zt g⟩
 |oll n =>
   obtain⟨a,w,m,rfl,i,g,l,k⟩:=h;intro b c;rcases Xg.mp c with rfl|c
   .exact⟨g,Zt l⟩
   .exact k.mem b c
 |scr s=>obtain⟨rfl,_⟩:=h;intro a f;cases f
 |own r j=>exact j.there h.2
def Vm.other   (h:Vm F H a ds)(n:a≠b):Vm F (upd H b o) a ds:=by
 obtain⟨f,c,e,d⟩:=h
 exact⟨f,c,by rw[Qt n];exact e,d⟩
theorem Zp.other {F H:Hp}{b:Addr}{o:HO}:∀{as:Qg} {c:List (Qd)},Zp F H as c->b∉as->Zp F (upd H b o) as c
 |[],[],_,_=>trivial
 |a::as,_::_,h,n=>⟨h.1.other (fun z=>n<|by rw[z];exact Xb),Zp.other h.2 fun z=>n<|Xe _ z⟩
 |[],_::_,h,_=>False.elim h
 |_::_,[],h,_=>False.elim h
def Zs.other {K:W.Frag}{F H:Hp}{v:V}{t:OT}{p:Qg}{b:Addr}{o:HO}(h:Zs K F H v t p)(n:b∉p):Zs K F (upd H b o) v t p:=by
 cases t with
 |fz d=>exact h
 |zow q=>exact h
 |ol u=>obtain⟨a,f,rfl,e⟩:=h;exact⟨a,f,rfl,e.other fun z=>n<|by simp[z]⟩
 |oll l =>
   obtain⟨a,m,f,rfl,e,k,j,i⟩:=h
   exact⟨a,m,f,rfl,e,k,by rw[Qt fun z=>n<|by simp[z]];exact j,i.other fun z=>n<|Xe _ z⟩
 |scr s=>exact h
 |own r g=>exact⟨h.1,g.mono (Q5.refl _) (fun a c=>(g.there h.2 a c).1) (fun a c=>Qt fun z=>n<|by rw[<- z];exact c) h.2⟩
def KTs (K:W.Frag) (F:Hp):Prop := ∃a b,W.nsIn K mainGlobals "START"=some (some<|.ref a)/\W.nsIn K mainGlobals "END"=some (some<|.ref b)/\F a=some (.tup [.str "start"])/\F b=some (.tup [.str "end"])
def KTs.mono {K:W.Frag}{F a:Hp}(h:KTs K F)(s:Q5 F a):KTs K a:=by
 obtain⟨f,g,e,d,c,b⟩:=h
 exact⟨f,g,e,d,s _ _ c,s _ _ b⟩
structure QB (K:W.Frag)(H0 F:Hp)(ρ:QF)(σ:St)(H:Hp):Prop where
 kt:KTs K F
 sub:Q5 F H
 len:σ.length=ρ.length
 fp:∃fp:Nat->Qg,(∀(i:Nat) (t:OT),ρ[i]?=some (some t)->∃v,σ[i]?=some (some v)/\Zs K F H v t (fp i)) /\
  (∀(i j:Nat) (a:Addr),a∈fp i->a∈fp j->i=j)/\∀(i:Nat) (a:Addr),a∈fp i->H0 a=none/\H a≠none
def QB.ext {K:W.Frag}{H0 F g H f:Hp}{ρ:QF}{d:St}(s:QB K H0 F ρ d H)(x:Q0 F H g f):QB K H0 g ρ d f:=by
 obtain⟨h,r,n,p,m,l,k⟩:=s;refine⟨h.mono x.ff,x.fh,n,p,fun i t e=>?_,l,fun i a j=>?_⟩
 .obtain⟨v,c,b⟩:=m i t e
  exact⟨v,c,b.ext x⟩
 .obtain⟨c,b⟩:=k i a j
  obtain⟨o,q⟩:=U9 b
  exact⟨c,Zt<|x.hh _ _ q⟩
def Fgt:QF->QF->Prop
 |[],[]=>True
 |_::r,none::a=>Fgt r a
 |s::r,some x::a=>s=some x/\Fgt r a
 |_,_=>False
theorem Fgt.len:∀{ρ a:QF},Fgt ρ a->ρ.length=a.length
 |[],[],_=>rfl
 |_::r,none::b,h=>by
   have c:Fgt r b:=h
   simp[Fgt.len c]
 |s::r,some x::b,h=>by
   have c:s=some x/\Fgt r b:=h
   simp[Fgt.len c.2]
 |[],none::_,h=>False.elim h
 |[],some _::_,h=>False.elim h
 |_::_,[],h=>False.elim h
theorem Fgt.get:∀{ρ b:QF},Fgt ρ b->∀(i:Nat) (t:OT),b[i]?=some (some t)->ρ[i]?=some (some t)
 |[],[],_,i,t,e=>by simp at e
 |_::r,none::a,h,0,t,e=>by simp at e
 |_::r,none::a,h,i+1,t,e=>by
   have c:Fgt r a:=h
   have:=Fgt.get c i t (by simpa using e)
   simpa using this
 |s::r,some x::a,h,0,t,e=>by
   have c:s=some x/\Fgt r a:=h
   simp at e;subst e;simp[c.1]
 |s::r,some x::a,h,i+1,t,e=>by
   have c:s=some x/\Fgt r a:=h
   have:=Fgt.get c.2 i t (by simpa using e)
   simpa using this
 |[],none::_,h,_,_,_=>False.elim h
 |[],some _::_,h,_,_,_=>False.elim h
 |_::_,[],h,_,_,_=>False.elim h
def QB.fgt {K:W.Frag}{H0 F H:Hp}{ρ a:QF}{b:St}(s:QB K H0 F ρ b H)(f:Fgt ρ a):QB K H0 F a b H:=by
 obtain⟨c,k,j,l,h,g,d⟩:=s
 exact⟨c,k,j.trans f.len,l,fun i t e=>h i t<|f.get i t e,g,d⟩
def QB.set {K:W.Frag}{H0 F H:Hp}{ρ:QF}{m:St}{i:Nat}{v:V}{t:OT}{p:Qg}(s:QB K H0 F ρ m H)(C:Zs K F H v t p)
 (I:∀(a:Addr),a∈p->H0 a=none)
 (hn:∀(a:Addr),a∈p->∀(j:Nat) (u:V) (t':OT) (q:Qg),ρ[j]?=some (some t')->m[j]?=some (some u)->Zs K F H u t' q->a∉q) :
 QB K H0 F (ρ.set i<|some t) (m.set i<|some v) H:=by
 obtain⟨G,N,M,o,D,L,J⟩:=s;refine⟨G,N,by simp[M],fun j=>if j=i then p else if (ρ[j]?).join.isSome then o j else [],fun j t' e=>?_,fun j k a d A=>?_,fun j a d=>?_⟩
 .by_cases b:j=i
  .subst b
   have x:j<ρ.length:=by
    have:=(Xf.mp e).1
    simpa using this
   rw[Xj x]at e;cases e;refine⟨v,Xj<|by omega,?_⟩;dsimp only;rw[Xd rfl];exact C
  .rw[Xo<|Ne.symm b]at e
   obtain⟨u,h,g⟩:=D j t' e;refine⟨u,by rw[Xo<|Ne.symm b];exact h,?_⟩;dsimp only;rw[Xa b,e,Xd<|by rfl];exact g
 .have f:∀(j:Nat),j≠i->a∈(if j=i then p else if (ρ[j]?).join.isSome then o j else [])->∃t' u,ρ[j]?=some (some t')/\m[j]?=some (some u)/\Zs K F H u t' (o j)/\a∈o j:=fun j b l=>by
   rw[Xa b]at l;cases e:(ρ[j]?).join with
   |none=>rw[e]at l;simp at l
   |some t' =>
     rw[e]at l;have E:ρ[j]?=some (some t'):=by
      cases z:ρ[j]? with
      |none=>rw[z]at e;simp at e
      |some w=>rw[z]at e;simp at e;rw[e]
     obtain⟨u,h,g⟩:=D j t' E
     exact⟨t',u,E,h,g,by simpa using l⟩
  by_cases b:j=i
  .by_cases n:k=i
   .omega
   .obtain⟨t',u,h,g,B,r⟩:=f k n A
    have c:a∈p:=by simpa [b] using d
    exact Xm r (hn a c k u t' _ h g B)
  .obtain⟨t',u,h,g,B,r⟩:=f j b d
   by_cases n:k=i
   .have y:a∈p:=by simpa [n] using A
    exact Xm r (hn a y j u t' _ h g B)
   .obtain⟨Q,P,T,S,R,O⟩:=f k n A
    exact L j k a r O
 .by_cases b:j=i
  .have c:a∈p:=by simpa [b] using d
   exact⟨I a c,(C.there a c).2⟩
  .simp only[Xa b]at d
   split at d
   .exact J j a d
   .cases d
def QB.setF {K:W.Frag}{H0 F H:Hp}{ρ:QF}{c:St}{i:Nat}{v:V}{d:PyData}(s:QB K H0 F ρ c H)(r:Rep F v d):QB K H0 F (ρ.set i<|some<|.fz d) (c.set i<|some v) H :=
 s.set (p:=[]) ⟨rfl,r⟩ (by rintro a ⟨⟩) (hn:=fun a b=>nomatch b)
def QB.write {K:W.Frag}{H0 F H:Hp}{ρ:QF}{g:St}{i:Nat}{ds:Qd}(s:QB K H0 F ρ g H)(e:ρ[i]?=some (some<|.ol ds)) :
 ∃a xs,g[i]?=some (some<|.ref a)/\H a=some (.lst xs)/\Qy F xs ds/\H0 a=none/\F a=none/\∀c d,Qy F c d->QB K H0 F (ρ.set i<|some<|.ol d) g (upd H a<|.lst c):=by
 obtain⟨C,G,E,x,w,t,p⟩:=s;obtain⟨v,A,a,rfl,y,n,xs,J,I⟩:=w i _ e;have o:a∈x i:=by rw[y];exact Xb
 refine⟨a,xs,A,J,I,(p i a o).1,n,fun c d r=>?_⟩;have h:=(Xf.mp e).1;refine⟨C,G.upd n,by simp[E],x,fun j B f=>?_,t,fun j b D=>?_⟩
 .by_cases k:j=i
  .subst k
   rw[Xj h]at f;cases f
   exact⟨_,A,a,rfl,y,n,c,QC,r⟩
  .rw[Xo<|Ne.symm k]at f
   obtain⟨u,m,l⟩:=w j B f
   exact⟨u,m,l.other fun z=>k<|t j i a z o⟩
 .obtain⟨m,l⟩:=p j b D
  refine⟨m,?_⟩
  by_cases z:b=a
  .subst z;rw[QC];rintro⟨⟩
  .rw[Qt z];exact l
def QB.freeze {K:W.Frag}{H0 F H:Hp}{ρ:QF}{A:St}{i:Nat}{ds:Qd}(s:QB K H0 F ρ A H)(e:ρ[i]?=some (some<|.ol ds)) :
 ∃a xs,F a=none/\H a=some (.lst xs)/\H0 a=none/\A[i]?=some (some<|.ref a)/\Qy F xs ds/\QB K H0 (upd F a<|.lst xs) (ρ.set i<|some<|.fz<|.list ds) A H:=by
 obtain⟨kt,h1,h2,G,R,Q,P⟩:=s;obtain⟨v,Z,a,rfl,e2,Y,xs,X,U⟩:=R i _ e;have O:a∈G i:=by rw[e2];exact Xb
 have D:=(Xf.mp e).1;have p:Q5 F (upd F a<|.lst xs):=Q5.new Y;refine⟨a,xs,Y,X,(P i a O).1,Z,U,kt.mono p,?_,by simp[h2],fun j=>if j=i then [] else G j,fun j M y=>?_,fun j k b f E=>?_,fun j b f=>?_⟩
 .intro b u f
  by_cases z:b=a
  .subst z;rw[QC]at f;rw[X];exact f
  .rw[Qt z]at f;exact h1 b u f
 .by_cases l:j=i
  .subst l
   rw[Xj D]at y;cases y;refine⟨_,Z,?_,.lst QC<|U.mono p⟩;dsimp only;rw[Xd rfl]
  .rw[Xo<|Ne.symm l]at y
   obtain⟨u,f1,m⟩:=R j M y;refine⟨u,f1,?_⟩;dsimp only;rw[Xa l];have x:a∉G j:=fun z=>l (Q j i a z O);have C:∀b,F b=none->b≠a->upd F a (.lst xs) b=none:=fun b f q=>by rw[Qt q];exact f
   have S:∀{b:Addr} {w:Qd},b≠a->Vm F H b w->Vm (upd F a<|.lst xs) H b w:=fun{b w} q ⟨z1,zs,z2,z3⟩=>⟨C _ z1 q,zs,z2,z3.mono p⟩
   cases M with
   |fz d=>exact⟨m.1,m.2.mono p⟩
   |zow Ψ=>exact⟨m.1,Ψ.mono p m.2⟩
   |ol w =>
     obtain⟨b,t,n,r⟩:=m
     exact⟨b,t,n,S (fun z=>x<|by rw[n,z];exact Xb) r⟩
   |oll g =>
     obtain⟨b,o,t,n,r,g4,T,g6⟩:=m;refine⟨b,o,t,n,r,C _ g4 (fun z=>x<|by rw[n,z];exact Xb),T,?_⟩;have B:a∉o:=fun z=>x (by rw[n];exact Xe _ z)
     clear t n r T;have J:∀(o:Qg) (g:List (Qd)),a∉o->Zp F H o g->Zp (upd F a<|.lst xs) H o g:=by
      intro o;induction o with
      |nil =>
        intro g _ h;cases g with
        |nil=>exact trivial
        |cons _ _=>exact False.elim h
      |cons c cs ih =>
        intro g q h;cases g with
        |nil=>exact False.elim h
        |cons w I=>exact⟨S (fun z=>q<|by rw[z];exact Xb) h.1,ih I (fun z=>q<|Xe _ z) h.2⟩
     exact J o g B g6
   |scr ns =>
     obtain⟨t,b,n,r⟩:=m
     exact⟨t,b,n,r.mono p⟩
   |own v0 L=>exact⟨m.1,L.mono p (fun b f=>C b (L.there m.2 b f).1 fun z=>x<|by rw[<- z];exact f) (fun _ _=>rfl) m.2⟩
 .by_cases l:j=i
  .simp[l]at f
  .by_cases N:k=i
   .simp[N]at E
   .simp only[Xa l]at f
    simp only[Xa N]at E;exact Q j k b f E
 .by_cases l:j=i
  .simp[l]at f
  .simp only[Xa l]at f
   exact P j b f
inductive Args (K:W.Frag)(F:Hp):List V->List OT->Prop
 |nil:Args K F [] []
 |fz {v:V} {d:PyData} {vs:List V} {ts:List OT}:Rep F v d->Args K F vs ts->Args K F (v::vs) (.fz d::ts)
 |zow {v:V} {Ψ:ZP} {vs:List V} {ts:List OT}:Ψ.ok K F v->Args K F vs ts->Args K F (v::vs) (.zow Ψ::ts)
 |scr {a:Addr} {ns:Ql} {vs:List V} {ts:List OT}:Scr K F a ns->Args K F vs ts->Args K F (.ref a::vs) (.scr ns::ts)
theorem Args.mono {K:W.Frag}{F a:Hp}(s:Q5 F a):∀{vs:List V} {ts:List OT},Args K F vs ts->Args K a vs ts
 |_,_,.nil=>.nil
 |_,_,.fz r t=>.fz (r.mono s) (Args.mono s t)
 |_,_,.scr r t=>.scr (r.mono s) (Args.mono s t)
 |_,_,.zow (Ψ:=Ψ) r t=>.zow (Ψ.mono s r) (Args.mono s t)
theorem Args.length {K:W.Frag}{F:Hp}:∀{vs:List V} {ts:List OT},Args K F vs ts->vs.length=ts.length
 |_,_,.nil=>rfl
 |_,_,.fz _ t=>by simp[Args.length t]
 |_,_,.scr _ t=>by simp[Args.length t]
 |_,_,.zow _ t=>by simp[Args.length t]
theorem Args.get {K:W.Frag}{F H:Hp}:∀{vs:List V} {ts:List OT},Args K F vs ts->∀(i:Nat) (t:OT),ts[i]?=some t->∃v,vs[i]?=some v/\Zs K F H v t []
 |_,_,.nil,i,t,e=>by simp at e
 |_,_,.fz r _,0,t,e=>by simp at e;subst e;exact⟨_,rfl,rfl,r⟩
 |_,_,.scr r _,0,t,e=>by simp at e;subst e;exact⟨_,rfl,rfl,_,rfl,r⟩
 |_,_,.zow r _,0,t,e=>by simp at e;subst e;exact⟨_,rfl,rfl,r⟩
 |_,_,.zow _ q,i+1,t,e=>by
   obtain⟨v,b,a⟩:=Args.get (H:=H) q i t (by simpa using e)
   exact⟨v,by simpa using b,a⟩
 |_,_,.fz _ q,i+1,t,e=>by
   obtain⟨v,b,a⟩:=Args.get (H:=H) q i t (by simpa using e)
   exact⟨v,by simpa using b,a⟩
 |_,_,.scr _ q,i+1,t,e=>by
   obtain⟨v,b,a⟩:=Args.get (H:=H) q i t (by simpa using e)
   exact⟨v,by simpa using b,a⟩
section
variable (K:W.Frag)
def Qu (t:TE)(ρ:QF)(d:PyData):Prop := ∀(e F:Hp) (a:St) (H:Hp) (Q:VK),QB K e F ρ a H->(∀c b v,Q0 F H c b->Rep c v d->Q v b)->t a H Q
def EvO (t:TE)(ρ:QF)(r:OT):Prop := ∀(e F:Hp) (c:St) (H:Hp) (Q:VK),QB K e F ρ c H->(∀d b v p,Q0 F H d b->(∀a∈p,H a=none)->Zs K d b v r p->Q v b)->t c H Q
def Za (t:TT)(ρ:QF)(b:Bool):Prop := ∀(d F:Hp) (a:St) (H:Hp) (Q:Bool->Hp->Prop),QB K d F ρ a H->(∀e c,Q0 F H e c->Q b c)->t a H Q
def Z0 (t:TA)(ρ:QF)(ts:List OT):Prop := ∀(e F:Hp) (a:St) (H:Hp) (Q:List V->Hp->Prop),QB K e F ρ a H->(∀d c b,Q0 F H d c->Args K d b ts->Q b c)->t a H Q
def Rs (f:Hp)(J:It)(ds:Qd):Prop := ∀(b a:Hp),Q5 f b->Q5 b a->J.stop ds.length a /\
 ∀(i:Nat) (d:PyData),ds[i]?=some d->J.go i a/\∀x c,J.yld i a x c->∃e,Q0 b a e c/\Rep e x d
def EvI (wi:TI)(ρ:QF)(ds:Qd):Prop := ∀(d F:Hp) (a:St) (H:Hp) (R:It->Hp->Prop),QB K d F ρ a H->(∀c b J,Q0 F H c b->Rs c J ds->R J b)->wi a H R
def GTo (g:TG)(d:PyData)(ρ b:QF):Prop := ∀(e F:Hp) (c:St) (H:Hp) (x:V) (Q:St->Hp->Prop),QB K e F ρ c H->Rep F x d->(∀a,QB K e F b a H->Q a H)->g x c H Q
def Gd (g:TGs)(ds:Qd)(ρ b:QF):Prop := ∀(e F:Hp) (c:St) (H:Hp) (d:List V) (Q:St->Hp->Prop),QB K e F ρ c H->Qy F d ds->(∀a,QB K e F b a H->Q a H)->g d c H Q
structure PEnds where
 nx:QF->Prop
 rt:OT->Prop
 bk:QF->Prop:=fun _=>False
 ct:QF->Prop:=fun _=>False
structure Cnv (F0 H0:Hp)(D:PEnds)(E:Ends):Prop where
 nx:∀F σ H ρ,Q0 F0 H0 F H->QB K H0 F ρ σ H->D.nx ρ->E.nx σ H
 rt:∀F H v r p,Q0 F0 H0 F H->(∀a∈p,H0 a=none)->Zs K F H v r p->D.rt r->E.rt v H
 bk:∀F σ H ρ,Q0 F0 H0 F H->QB K H0 F ρ σ H->D.bk ρ->E.bk σ H
 ct:∀F σ H ρ,Q0 F0 H0 F H->QB K H0 F ρ σ H->D.ct ρ->E.ct σ H
def Q1 (t:TS)(ρ:QF)(D:PEnds):Prop := ∀(c a F:Hp) (b:St) (H:Hp) (E:Ends),Q0 c a F H->QB K a F ρ b H->Cnv K c a D E->t E b H
end
section
variable {K:W.Frag}{ρ:QF}{ta tb tc:TE}{tA tB':TT}
def Qu.o  (h:Qu K t ρ d):EvO K t ρ (.fz d):=fun b F a H Q S q=>h b F a H Q S fun e c v x r=>q e c v [] x (by rintro _ ⟨⟩) ⟨rfl,r⟩
def EvO.e  (h:EvO K t ρ (.fz d)):Qu K t ρ d:=fun b F a H Q S q=>h b F a H Q S fun e c v p x _ r=>q e c v x r.2
def EvO.fz  (h:EvO K t ρ (.ol ds)):Qu K t ρ (.list ds):=fun i F c H Q S q=>h i F c H Q S fun k j v p x g r=>by
 obtain⟨a,rfl,rfl,b,d,f,e⟩:=r;refine q (upd k a<|.lst d) j _ (x.freeze b f<|g a Xb) (.lst QC<|e.mono<|Q5.new b)
def Qq  (e:ρ[i]?=some (some<|.fz d)):Qu K (Q8 i) ρ d:=fun g F c H Q S q=>by
 obtain⟨f,h,_⟩:=S.fp;obtain⟨v,b,a⟩:=h i _ e
 exact⟨v,b,q F H v (Q0.refl S.sub) a.2⟩
def QA:Qu K (tC<|.int i) ρ (.int i):=fun b F a H Q S q=>q F H _ (Q0.refl S.sub) (.int i)
def Gh:Qu K (tC<|.bl b) ρ (.bool b):=fun c F a H Q S q=>q F H _ (Q0.refl S.sub) (.bl b)
def Gw:Qu K (tC .non) ρ .none:=fun b F a H Q S q=>q F H _ (Q0.refl S.sub) .non
def Yu:Qu K (tC<|.str x) ρ (.str x):=fun b F a H Q S q=>q F H _ (Q0.refl S.sub) (.str x)
def YS   (k:Qu K ta ρ a)(j:Qu K tb ρ b)(S:QB K H0 F ρ σ H)
 (h:∀c f x y,Q0 F H c f->Rep c x a->Rep c y b->r x y f Q):tOp r ta tb σ H Q :=
 k H0 F σ H _ S fun o m x e i=>j H0 o σ m _ (S.ext e) fun n l y d g=>h n l x y (e.trans d) (i.mono d.ff) g
def Z8 {g:Int->Int->Int}{x y:Int}(d:Qu K ta ρ (.int x))(c:Qu K tb ρ (.int y)):Qu K (tOp (rI0 fun i j=>.int<|g i j) ta tb) ρ (.int<|g x y):=fun l F k H Q S q =>
 YS d c S fun h f u v e b a=>by cases b;cases a;exact⟨x,y,rfl,rfl,q h f _ e<|.int _⟩
def Vo {g:Int->Int->Bool}{x y:Int}(d:Qu K ta ρ (.int x))(c:Qu K tb ρ (.int y)):Qu K (tOp (rI0 fun i j=>.bl<|g i j) ta tb) ρ (.bool<|g x y):=fun l F k H Q S q =>
 YS d c S fun h f u v e b a=>by cases b;cases a;exact⟨x,y,rfl,rfl,q h f _ e<|.bl _⟩
def Vd {C:Int->Int->Prop}{g:Int->Int->Int}{x y:Int}(f:Qu K ta ρ (.int x))(d:Qu K tb ρ (.int y))(c:C x y):Qu K (tOp (rI C fun i j=>.int<|g i j) ta tb) ρ (.int<|g x y):=fun m F l H Q S q =>
 YS f d S fun k h u v e b a=>by cases b;cases a;exact⟨x,y,rfl,rfl,c,q k h _ e<|.int _⟩
def Lb {g:Int->Int}{x:Int}(d:Qu K ta ρ (.int x)):Qu K (tUn (rU fun i=>.int<|g i) ta) ρ (.int<|g x):=fun f F a H Q S q =>
 d f F a H _ S fun h e v b c=>by cases c;exact⟨x,rfl,q h e _ b<|.int _⟩
noncomputable def ZR:PyData->Option V
 |.none=>some .non
 |.bool b=>some (.bl b)
 |.int i=>some (.int i)
 |.str x=>some (.str x)
 |_=>Option.none
def Rep.flat  (r:Rep H x d)(e:ZR d=some v):x=v:=by
 cases r<;>simp[ZR]at e<;>exact e
def Lu  (h:Qu K ta ρ a)(g:Qu K tb ρ b)(e1:ZR a=some v)(i:ZR b=some w)(f:∀(H:Hp) (Q:VK),Q (.bl<|decide (v=w)) H->rEq v w H Q) :
 Qu K (tOp rEq ta tb) ρ (.bool<|decide (v=w)):=fun m F l H Q S q =>
 YS h g S fun k j x y e d c=>by rw[d.flat e1,c.flat i];exact f _ _ (q k j _ e<|.bl _)
def LJ  (h:Qu K ta ρ a)(g:Qu K tb ρ b)(e1:ZR a=some v)(i:ZR b=some w)(f:∀(H:Hp) (Q:VK),Q (.bl<|!decide (v=w)) H->rNe v w H Q) :
 Qu K (tOp rNe ta tb) ρ (.bool<|!decide (v=w)):=fun m F l H Q S q =>
 YS h g S fun k j x y e d c=>by rw[d.flat e1,c.flat i];exact f _ _ (q k j _ e<|.bl _)
def S5:decide (V.int x=V.int y)=decide (x=y):=by
 by_cases h:x=y
 .subst h;simp
 .rw[XH h,XH fun z=>h<|by injection z]
def Gq (b:Qu K ta ρ (.int x))(a:Qu K tb ρ (.int y)):Qu K (tOp rEq ta tb) ρ (.bool<|decide (x=y)):=by
 rw[<- S5];exact Lu b a rfl rfl fun H Q q=>⟨rfl,q⟩
def Gr (b:Qu K ta ρ (.int x))(a:Qu K tb ρ (.int y)):Qu K (tOp rNe ta tb) ρ (.bool<|!decide (x=y)):=by
 rw[<- S5];exact LJ b a rfl rfl fun H Q q=>⟨rfl,q⟩
def Gx (g:Qu K ta ρ a)(f:Qu K tb ρ b)(i:Yq a)(h:Yq b):Qu K (tOp Nq ta tb) ρ (.bool<|PyData.eqv a b):=fun m F l H Q S q =>
 YS g f S fun k j x y e d c=>⟨a,b,d.mono e.fh,c.mono e.fh,i,h,q k j _ e<|.bl _⟩
def NQ (g:Qu K ta ρ a)(f:Qu K tb ρ b)(i:Yq a)(h:Yq b):Qu K (tOp N7 ta tb) ρ (.bool<|!PyData.eqv a b):=fun m F l H Q S q =>
 YS g f S fun k j x y e d c=>⟨a,b,d.mono e.fh,c.mono e.fh,i,h,q k j _ e<|.bl _⟩
def NI:PyData->Bool
 |.none=>true
 |_=>false
def Rep.isNon  (r:Rep H x d):decide (x=.non)=NI d:=by cases r<;>rfl
def NR (e:Qu K ta ρ a):Qu K (NP ta) ρ (.bool<|!NI a):=fun g F b H Q S q =>
 e g F b H _ S fun h f v c d=>by rw[d.isNon];exact q h f _ c (.bl _)
def Zy (h:Qu K ta ρ (.bool b)):Za K (Gj ta) ρ b:=fun f F a H Q S q=>h f F a H _ S fun g e v c d=>by cases d;exact⟨b,rfl,q g e c⟩
def ZJ (h:Qu K ta ρ (.bool b)):Za K (tB ta) ρ b:=fun f F a H Q S q=>h f F a H _ S fun g e v c d=>by cases d;exact⟨b,rfl,q g e c⟩
def NE:Za K WG ρ true:=fun b F a H Q S q=>q F H (Q0.refl S.sub)
def U0 (j:Za K tA ρ b)(i:b=true->Za K tB' ρ c):Za K (Nr tA tB') ρ (b&&c):=fun f F d H Q S q=>j f F d H _ S fun g e a=>by
 cases b with
 |true=>rw[Xd rfl];exact i rfl f g d e Q (S.ext a) fun l k h=>by simpa using q l k (a.trans h)
 |false=>rw[Xa Xw];simpa using q g e a
def YL (j:Za K tA ρ b)(i:b=false->Za K tB' ρ c):Za K (tOr tA tB') ρ (b||c):=fun f F d H Q S q=>j f F d H _ S fun g e a=>by
 cases b with
 |false=>rw[Xa Xw];exact i rfl f g d e Q (S.ext a) fun l k h=>by simpa using q l k (a.trans h)
 |true=>rw[Xd rfl];simpa using q g e a
def VN (d:Za K tA ρ b):Za K (No tA) ρ (!b):=fun f F a H Q S q=>d f F a H _ S fun g e c=>q g e c
def U1 (l:Qu K ta ρ (.bool b))(k:b=true->Qu K tb ρ (.bool c)):Qu K (NS ta tb) ρ (.bool<|b&&c):=fun f F d H Q S q=>l f F d H _ S fun g e v a j=>by
 cases j
 refine⟨b,rfl,?_⟩
 cases b with
 |true=>rw[Xd rfl];exact k rfl f g d e Q (S.ext a) fun n m v h i=>by simpa using q n m v (a.trans h) (by simpa using i)
 |false=>rw[Xa Xw];exact q g e _ a (.bl _)
def NM (e:Qu K ta ρ (.bool b)):Qu K (Re ta) ρ (.bool<|!b):=fun g F a H Q S q=>e g F a H _ S fun h f v c d=>by cases d;exact⟨b,rfl,q h f _ c<|.bl _⟩
def UM {g g':Int->Int->Bool}{x y z:Int}(r:Qu K ta ρ (.int x))(p:Qu K tb ρ (.int y))(o:Qu K tc ρ (.int z)) :
 Qu K (DB (rI0 fun i j=>.bl<|g i j) (rI0 fun i j=>.bl<|g' i j) ta tb tc) ρ (.bool<|g x y&&g' y z):=fun d F b H Q S q =>
 r d F b H _ S fun B t v a n=>p d B b t _ (S.ext a) fun h f w c m=>by
  cases n;cases m
  refine⟨x,y,rfl,rfl,g x y,rfl,?_⟩
  cases e:g x y with
  |true=>rw[Xd rfl];exact o d h b f _ (S.ext<|a.trans c) fun A s u k l=>by cases l;exact⟨y,z,rfl,rfl,by simpa [e] using q A s _ ((a.trans c).trans k)<|by rw[e];exact .bl _⟩
  |false=>rw[Xa Xw];simpa [e] using q h f _ (a.trans c) (by rw[e];exact .bl _)
def Q6:Z0 K QQ ρ []:=fun b F a H Q S q=>q F H [] (Q0.refl S.sub) .nil
def Qv  (i:Qu K ta ρ d)(h:Z0 K t ρ ts):Z0 K (QI ta t) ρ (.fz d::ts):=fun e F a H Q S q =>
 i e F a H _ S fun m k v c g=>h e m a k _ (S.ext c) fun l j n b f=>q l j _ (c.trans b) (.fz (g.mono b.ff) f)
def Bw   (e:ρ[i]?=some (some<|.scr ns))(f:Z0 K t ρ ts):Z0 K (QI (Q8 i) t) ρ (.scr ns::ts):=fun l F c H Q S q=>by
 obtain⟨o,h,_⟩:=S.fp;obtain⟨v,j,_,a,rfl,g⟩:=h i _ e
 exact⟨_,j,f l F c H _ S fun m k n b d=>q m k _ b<|.scr (g.mono b.ff) d⟩
def U3   (e:ρ[i]?=some (some<|.zow Ψ))(d:Z0 K t ρ ts):Z0 K (QI (Q8 i) t) ρ (.zow Ψ::ts):=fun k F b H Q S q=>by
 obtain⟨n,h,_⟩:=S.fp;obtain⟨v,g,_,f⟩:=h i _ e
 exact⟨_,g,d k F b H _ S fun l j m a c=>q l j _ a<|.zow (Ψ.mono a.ff f) c⟩
def fzs (ds:Qd):List OT:=ds.map OT.fz
theorem Args.reps {F:Hp}:∀{vs:List V} {ds:Qd},Args K F vs (fzs ds)->Qy F vs ds
 |_,[],.nil=>.nil
 |_,_::_,.fz r t=>.cons r (Args.reps t)
def Wr  (h:Z0 K t ρ (fzs ds))(f:ds.length<=1000):Qu K (Ur t) ρ (.tuple ds):=fun g F e H Q S q =>
 h g F e H _ S fun k j i a c=>⟨by rw[c.reps.length];exact YI<|Vg f,fun p d=>by
  have b:=a.fh;exact q _ _ _ (a.trans<|Q0.new b d)<|.tup QC<|c.reps.mono<|Q5.new<|b.free d⟩
def GI   (x:Q0 F0 H0 F H)(b:H p=none)(r:Qy F xs ds):Q0 F0 H0 F (upd H p<|.lst xs)/\(∀a∈[p],H0 a=none)/\Zs K F (upd H p<|.lst xs) (.ref p) (.ol ds) [p] :=
 ⟨x.trans<|Q0.own x.fh b,fun a c=>by
  have e:a=p:=by simpa using c
  subst e;exact x.hh.free b,p,rfl,rfl,x.fh.free b,xs,QC,r⟩
def V9  (h:Z0 K t ρ (fzs ds))(i:ds.length<=1000):EvO K (JF t) ρ (.ol ds):=fun j F e H Q S q =>
 h j F e H _ S fun m l k f d=>⟨by rw[d.reps.length];exact YI<|Vg i,fun p g=>by
  obtain⟨a,b,c⟩:=GI (K:=K) f g d.reps;exact q _ _ _ _ a b c⟩
def Ud  (r:Rep F x (.list ds))(s:Q5 F H):∃a xs,x=.ref a/\SqL K H a xs/\Qy F xs ds/\H a=some (.lst xs):=by
 cases r with
 |lst b c=>exact⟨_,_,rfl,SqL.of<|s _ _ b,c,s _ _ b⟩
def GN  (r:Rep F x (.tuple ds))(s:Q5 F H):∃a xs,x=.ref a/\SqT K H a xs/\Qy F xs ds/\H a=some (.tup xs):=by
 cases r with
 |tup b c=>exact⟨_,_,rfl,SqT.of<|s _ _ b,c,s _ _ b⟩
def UG   (r:Qy F xs ds)(e:atI ds i=some d):∃z,atI xs i=some z/\Rep F z d:=by
 obtain⟨j,f,c⟩:=RD e;obtain⟨z,b,a⟩:=r.get f;refine⟨z,?_,a⟩;unfold atI;rw[r.length,c];exact b
def Ve  (l:Qu K ta ρ (.list ds))(k:Qu K tb ρ (.int i))(e:atI ds i=some d):Qu K (tOp (rIx K) ta tb) ρ d:=fun s F r H Q S q =>
 YS l k S fun p o x y b j h=>by
  obtain⟨a,g,rfl,n,m,_⟩:=Ud (K:=K) j b.fh;obtain⟨z,f,c⟩:=UG m e
  cases h
  exact .inl ⟨a,g,i,z,rfl,rfl,n,f,q p o z b c⟩
def Yb  (l:Qu K ta ρ (.tuple ds))(k:Qu K tb ρ (.int i))(e:atI ds i=some d):Qu K (tOp (rIx K) ta tb) ρ d:=fun s F r H Q S q =>
 YS l k S fun p o x y b j h=>by
  obtain⟨a,g,rfl,n,m,_⟩:=GN (K:=K) j b.fh;obtain⟨z,f,c⟩:=UG m e
  cases h
  exact .inr (.inl ⟨a,g,i,z,rfl,rfl,n,f,q p o z b c⟩)
def Ws   (e0:ρ[i]?=some (some<|.ol ds))(n:Qu K tb ρ (.int k))(e:atI ds k=some d):Qu K (tOp (rIx K) (Q8 i) tb) ρ d:=fun t F c H Q S q=>by
 obtain⟨w,h,_⟩:=S.fp;obtain⟨v,r,a,rfl,_,m⟩:=h i _ e0;refine⟨_,r,n t F c H _ S fun u s y b l=>?_⟩;obtain⟨x,j,p,o⟩:=m.ext b;obtain⟨z,g,f⟩:=UG o e
 cases l
 exact .inl ⟨a,j,k,z,rfl,rfl,SqL.of p,g,q u s z b f⟩
def Lj  (e0:ρ[i]?=some (some<|.scr ns))(o:Qu K tb ρ (.int k))(e:atI ns k=some n):Qu K (tOp (rIx K) (Q8 i) tb) ρ (.int n):=fun s F c H Q S q=>by
 obtain⟨u,h,_⟩:=S.fp;obtain⟨v,p,_,a,rfl,f⟩:=h i _ e0;refine⟨_,p,o s F c H _ S fun t r y b g=>?_⟩
 cases g
 obtain⟨j,m,l⟩:=RD e
 have d:atI (ns.map V.int) k=some (.int n):=by
  unfold atI;rw[Xl,l];show(ns.map V.int)[j]?=_;rw[Xn,m];rfl
 exact .inl ⟨a,_,k,_,rfl,rfl,(b.ff.trans b.fh).seq f.sq,d,q t r _ b<|.int n⟩
def QL (R:List OT->OT->Prop):Sp:=fun e H Q _=>∃F c r,KTs K F/\Q5 F H/\Args K F e c/\R c r/\∀d b v p,Q0 F H d b->(∀a∈p,H a=none)->Zs K d b v r p->Q v b
def B7   (h:Z0 K t ρ ts)(j:R ts r):EvO K (Yk (QL (K:=K) R) [] E t) ρ r:=fun l F c H Q S q =>
 h l F c H _ S fun n s o b e=>by
  refine⟨n,ts,r,(S.ext b).kt,b.fh,by rw[XG];exact e,j,fun m k v p d g f=>q m k v p (b.trans d) (fun a i=>b.hh.free<|g a i) f⟩
def Ze   (h:Z0 K t ρ ts)(a:R ts (.fz d)):Qu K (Yk (QL (K:=K) R) [] E t) ρ d:=(B7 h a).e
def LF   (h:Z0 K t ρ ts)(a:R ts (.ol ds)):Qu K (Yk (QL (K:=K) R) [] E t) ρ (.list ds):=(B7 h a).fz
end
def Df.ev {P:Program}{w:World}{K:W.Frag}{n:Str->Qf}{base:Heap}{x:Str}{st:Stmt}{N ps:Qh}{k:Nat}{R:List OT->OT->Prop}(D:Df K n x st ps)(S:Qp N ps (Q2 st))(o:∀ts r,R ts r->ts.length=ps.length)
 (B:∀(f:Addr) (c:Value) (A:Around) (b:List Env) (s:Shared) (H:Hp) (E:XK) (ts:List OT) (r:OT),Room k (A.deeper<|envOfC x (Q2 st) s.heap.objs.size f c)->R ts r ->
  ∃t,PSs (Vz CX0 P w K n base N x (Q2 st) f c A b s H E).nox (Z9 st) t/\Q1 K t (ts.map some++List.replicate (N.length-ts.length) none) { nx:=fun _=>r=.fz .none,rt:=fun L=>L=r }):QG P w K n base x ps (k+1) (QL (K:=K) R):=by
 refine D.cal S (by rintro m H Q E ⟨F,ts,r,_,_,g,y,_⟩;exact g.length.trans<|o ts r y) ?_;rintro f c A b s H m Q E X ⟨F,ts,r,U,J,g,y,q⟩;obtain⟨t,h1,Z⟩:=B f c A b s H E ts r X y;refine⟨t,h1,Z F H F (start N m) H _ (Q0.refl J) ⟨U,J,?_,fun _=>[],fun i I e=>?_,fun i j a h=>(nomatch h),fun i a h=>(nomatch h)⟩ ⟨fun G M C O l _ e=>?_,fun G C v L p l Y T e=>?_,fun _ _ _ _ _ _ z=>False.elim z,fun _ _ _ _ _ _ z=>False.elim z⟩⟩
 .unfold start
  simp[g.length]
 .have d:i<ts.length:=by
   by_cases z:i<ts.length
   .exact z
   .rw[X9<|by simpa using z]at e
    have:=List.mem_of_getElem? e
    simp at this
  rw[XN<|by simpa using d,Xn]at e;have e':ts[i]?=some I:=by
   cases z:ts[i]? with
   |none=>rw[z]at e;simp at e
   |some w=>rw[z]at e;simp at e;rw[e]
  obtain⟨v,e1,e2⟩:=g.get (H:=H) i I e';refine⟨v,?_,e2⟩;unfold start;have u:i<m.length:=by rw[g.length];exact d
  rw[XN<|by simpa using u,Xn,e1];rfl
 .subst e
  exact q G C _ [] l (by rintro _ ⟨⟩) ⟨rfl,.non⟩
 .subst e
  exact q G C v p l Y T
theorem Tn:∀{as bs:Qg},as.map V.ref=bs.map V.ref->as=bs
 |[],[],_=>rfl
 |[],_::_,h=>by simp at h
 |_::_,[],h=>by simp at h
 |a::as,b::bs,h=>by
   simp only[Xx,List.cons.injEq]at h;obtain⟨c,d⟩:=h;injection c with c;rw[c,Tn d]
section
variable {K:W.Frag}{ρ:QF}{ta tb te:TE}{tA:TT}{t u:TS}{D:PEnds}
def Zz (h:D.nx ρ):Q1 K NF ρ D:=fun c b F a H E x S C=>C.nx F a H ρ x S h
def QH (h:Q1 K t ρ { D with nx:=fun a=>Q1 K u a D }):Q1 K (WH t u) ρ D:=fun d c F e H E x S C =>
 h d c F e H { E with nx:=u E } x S ⟨fun j b i a f g q=>q d c j b i E f g C,C.rt,C.bk,C.ct⟩
def Gy (f:Fgt ρ ρ')(h:Q1 K t ρ' D):Q1 K t ρ D:=fun c b F a H E x S C=>h c b F a H E x (S.fgt f) C
def JS (i:Nat)(e:ρ[i]?=some (some<|.ol ds))(h:Q1 K t (ρ.set i<|some<|.fz<|.list ds) D):Q1 K t ρ D:=fun k j F b H E x S C=>by
 obtain⟨a,l,f,d,c,_,_,g⟩:=S.freeze e;exact h k j _ b H E (x.freeze f d c) g C
def Jo (h:EvO K te ρ r)(e:D.rt r):Q1 K (Y9 te) ρ D:=fun l i F b H E x S C =>
 h i F b H _ S fun k j v p c f d=>C.rt k j v r p (x.trans c) (fun a g=>x.hh.free<|f a g) d e
def ZO (h:Qu K te ρ d)(a:D.rt (.fz d)):Q1 K (Y9 te) ρ D:=Jo h.o a
def D7  (e:ρ[i]?=some (some<|.ol ds))(c:D.rt (.ol ds)):Q1 K (Y9<|Q8 i) ρ D:=fun m l F j H E x S C=>by
 obtain⟨k,h,_,f⟩:=S.fp;obtain⟨v,g,b⟩:=h i _ e
 exact⟨v,g,C.rt F H v _ _ x (fun a d=>(f i a d).1) b c⟩
def Zv (h:Za K tA ρ b)(j:b=true->Q1 K t ρ D)(i:b=false->Q1 K u ρ D):Q1 K (Gc tA t u) ρ D:=fun f d F c H E x S C =>
 h d F c H _ S fun g e a=>by
  cases b with
  |true=>rw[Xd rfl];exact j rfl f d g c e E (x.trans a) (S.ext a) C
  |false=>rw[Xa Xw];exact i rfl f d g c e E (x.trans a) (S.ext a) C
def VM  (h:EvO K te ρ r)(hn:D.nx (ρ.set i<|some r)):Q1 K (Vb te<|Vc i) ρ D:=fun F0 H0 F L H E x S C =>
 h H0 F L H _ S fun F' H' v p s I Q=>by
  refine C.nx F' _ H' _ (x.trans s) ((S.ext s).set Q (fun a y=>x.hh.free<|I a y) (hn:=fun a y j w G q e1 e2 c=>?_)) hn;obtain⟨X,U,g2,T⟩:=S.fp;obtain⟨w',J,Y⟩:=U j G e1;intro R;have A:=Y.ext s;rw[e2]at J;cases J
  have g:∀b∈q,b∈X j:=by
   cases G with
   |fz d=>rw[c.1];intro b e;cases e
   |zow Ψ=>rw[c.1];intro b e;cases e
   |ol ds =>
     obtain⟨b1,n,m,O⟩:=c;obtain⟨b2,f,o,P⟩:=A;rw[n]at f;cases f;rw[m,o];exact fun _ z=>z
   |oll dss =>
     obtain⟨b1,l,n,m,O,z4,N,z6⟩:=c;obtain⟨b2,k,f,o,P,y4,B,y6⟩:=A;rw[n]at f;cases f;rw[N]at B;have e5:l.map V.ref=k.map V.ref:=by injection B with z;injection z
     have Z:l=k:=Tn e5;rw[m,o,Z];exact fun _ z=>z
   |scr ns=>rw[c.1];intro b e;cases e
   |own v0 M=>exact fun b e=>M.uniq A.2 c.2 b e
  exact(T j a<|g a R).2 (I a y)
def ZU  (h:Qu K te ρ d)(hn:D.nx (ρ.set i<|some<|.fz d)):Q1 K (Vb te<|Vc i) ρ D:=VM h.o hn
def Zj  : GTo K (Vc i) d ρ (ρ.set i<|some<|.fz d):=fun b F a H x Q S r q=>q _ (S.setF r)
def Wt:Gd K MT [] ρ ρ:=fun c F a H b Q S r q=>by cases r;exact⟨rfl,q _ S⟩
def ZT   (i:GTo K g d ρ ρ1)(h:Gd K gs ds ρ1 ρ2):Gd K (Dj g gs) (d::ds) ρ ρ2:=fun b F c H k Q S r q=>by
 cases r with
 |cons f e=>exact⟨_,_,rfl,i b F c H _ _ S f fun a j=>h b F a H _ _ j e q⟩
def WK   (h:Gd K gs ds ρ ρ1)(hn:ds.length=n):GTo K (MM K n gs) (.tuple ds) ρ ρ1:=fun f F d H x Q S r q=>by
 obtain⟨a,b,rfl,e,c,_⟩:=GN (K:=K) r S.sub
 exact⟨a,b,rfl,e,by rw[c.length,hn],h f F d H b Q S c q⟩
def Gu  (h:Qu K te ρ d)(j:GTo K g d ρ ρ')(hn:D.nx ρ'):Q1 K (Vb te g) ρ D:=fun l e F b H E x S C =>
 h e F b H _ S fun i f v c r=>j e i b f v _ (S.ext c) r fun a k=>C.nx i a f ρ' (x.trans c) k hn
def Q0.wr  (x:Q0 F0 H0 F H)(h0:H0 a=none)(b:F a=none):Q0 F0 H0 F (upd H a o) :=
 ⟨x.hh.upd h0,x.ff,x.fh.upd b,x.fr⟩
def UR  (e:ρ[i]?=some (some<|.ol ds))(h:Qu K te ρ d)(y:ds.length<1000)(hn:D.nx (ρ.set i<|some<|.ol<|ds++[d])) :
 Q1 K (Vt<|tBM K "list" VV (Q8 i)<|QI te QQ) ρ D:=fun G r F c H E x S C=>by
 obtain⟨a,w,k,q,z,_⟩:=S.write e;refine⟨_,k,.inl ⟨rfl,_,SqL.of q⟩,h r F c H _ S fun s B v f l=>?_⟩;obtain⟨A,b,j,p,g,o,n,m⟩:=(S.ext f).write e;rw[k]at j;cases j;refine⟨a,b,v,rfl,rfl,p,by rw[g.length];exact Vg<|by omega,?_⟩;exact C.nx s c _ _ ((x.trans f).wr o n) (m _ _<|g.snoc l) hn
def UN   (e:ρ[i]?=some (some<|.ol ds))(h:Qu K te ρ d)(s:Qu K tb ρ (.int k))(r:ixN ds.length k=some j)(hn:D.nx (ρ.set i<|some<|.ol<|ds.set j d)) :
 Q1 K (Vb te<|Bm (Q8 i) tb JO) ρ D:=fun Q o F c H E x S C =>
 h o F c H _ S fun J G v b q=>by
  obtain⟨a,L,n,N,M,_⟩:=(S.ext b).write e;refine⟨_,n,s o J c G _ (S.ext b) fun I P y g p=>?_⟩;obtain⟨O,f,m,B,l,A,z,w⟩:=(S.ext<|b.trans g).write e;rw[n]at m;cases m
  cases p
  refine⟨a,f,k,j,rfl,rfl,B,by rw[l.length];exact r,?_⟩;exact C.nx I c _ _ ((x.trans<|b.trans g).wr A z) (w _ _<|l.set (q.mono g.ff) j) hn
def Sy   (e:ρ[i]?=some (some<|.ol ds))(J:Qu K tb ρ (.int k))(h0:0<=k)(o:ds[k.toNat]?=some (.int m))(h:Qu K te ρ (.int n))
 (hn:D.nx (ρ.set i<|some<|.ol<|ds.set k.toNat<|.int<|f m n)):Q1 K (Bt (Q8 i) tb te (Bo K) (ipI f) JO) ρ D:=fun F0 s F c H E x S C=>by
 obtain⟨a,X,j,Z,Y,_⟩:=S.write e;refine⟨_,j,J s F c H _ S fun U R y b G=>?_⟩
 cases G
 obtain⟨a1,g,r,Q,P,_⟩:=(S.ext b).write e;rw[j]at r;cases r;obtain⟨z,A,v⟩:=P.get o;refine⟨a,g,k,z,rfl,rfl,SqL.of Q,h0,A,h s U c R _ (S.ext b) fun T H2 w l B=>?_⟩
 cases B
 cases v
 refine⟨m,n,rfl,rfl,?_⟩;obtain⟨a2,d,q,O,p,N,M,L⟩:=(S.ext<|b.trans l).write e;rw[j]at q;cases q;have I:k.toNat<ds.length:=(Xf.mp o).1;refine⟨a,d,k,k.toNat,rfl,rfl,O,?_,?_⟩
 .rw[p.length]
  unfold ixN;rw[Xd h0,Xd<|by omega]
 .exact C.nx T c _ _ ((x.trans<|b.trans l).wr N M) (L _ _<|p.set (.int _) _) hn
def Q0.base (x:Q0 F0 H0 F H):Q0 F H0 F H:=⟨x.hh,Q5.refl _,x.fh,fun _ h=>.inl h⟩
def Q0.rebase (x:Q0 F0 H0 F H)(y:Q0 F H0 F' H'):Q0 F0 H0 F' H' :=
 ⟨y.hh,x.ff.trans y.ff,y.fh,fun a h=>(y.fr a h).elim (fun z=>x.fr a z) .inr⟩
def V0   (P:Nat->QF->Prop)(hi:EvI K wi ρ ds)(h0:P 0 ρ)
 (hs:∀(i:Nat) (d:PyData) (a:QF),ds[i]?=some d->P i a->∃b,GTo K g d a b/\Q1 K tbd b { nx:=P (i+1),ct:=P (i+1),bk:=D.nx,rt:=D.rt }) (hd:∀a,P ds.length a->D.nx a):Q1 K (Ut wi g tbd) ρ D:=fun R k F B H E x S C =>
 hi k F B H _ S fun Q H1 J T W=>by
  refine⟨fun i m B H=>m=ds.length-i/\i<=ds.length/\∃F a,Q0 R k F H/\Q5 Q F/\QB K k F a B H/\P i a,⟨ds.length,by simp,XQ _,Q,ρ,x.trans T,Q5.refl _,S.ext T,h0⟩,?_⟩
  rintro i m o Y ⟨rfl,hle,Z,a,U,X,M,p⟩
  obtain⟨w1,w2⟩:=W Z Y X M.sub
  by_cases s:i<ds.length
  .have e:ds[i]?=some ds[i]:=by simp[s]
   obtain⟨go,yl⟩:=w2 i _ e;refine .inr ⟨go,fun h N=>∃O b,Q0 R k O N/\Q5 Q O/\QB K k O b h N/\P (i+1) b,fun h N q=>⟨ds.length-(i+1),by omega,rfl,s,q⟩,fun v z y=>?_⟩;obtain⟨A,G,r3⟩:=yl v z y;obtain⟨b,hg,hb⟩:=hs i _ a e p;refine hg k A o z v _ (M.ext G) r3 fun h S2=>?_;have f:Q0 R k A z:=U.trans G;have r:=X.trans G.ff
   exact hb A k A h z _ f.base S2 ⟨fun n l w c j L I=>⟨n,c,f.rebase j,r.trans j.ff,L,I⟩,fun n w v4 r4 p4 j=>C.rt n w v4 r4 p4<|f.rebase j,
    fun n l w c j=>C.nx n l w c<|f.rebase j,fun n l w c j L I=>⟨n,c,f.rebase j,r.trans j.ff,L,I⟩⟩
  .have e:i=ds.length:=by omega
   subst e;exact .inl ⟨w1,C.nx Z o Y a U M<|hd a p⟩
def GH   (R:Nat->QF)(j:EvI K wi ρ ds)(h0:Fgt ρ (R 0))
 (h:∀(i:Nat) (d:PyData),ds[i]?=some d->∃b,GTo K g d (R i) b/\Q1 K tbd b { nx:=fun a=>Fgt a<|R<|i+1,ct:=fun a=>Fgt a<|R<|i+1,bk:=D.nx,rt:=D.rt }) (k:∀a,Fgt a (R ds.length)->D.nx a):Q1 K (Ut wi g tbd) ρ D:=by
 refine V0 (fun i a=>Fgt a<|R i) j h0 (fun i d a e f=>?_) k;obtain⟨b,m,l⟩:=h i d e
 exact⟨b,fun n F c H x Q S r q=>m n F c H x Q (S.fgt f) r q,l⟩
def HG  (P:Nat->QF->Prop)(v:Nat)(h0:P v ρ)
 (N:∀(m:Nat) (a:QF),P m a->∃b,Za K c a b/\(b=true->Q1 K tbd a { nx:=fun d=>∃m',m'<m/\P m' d,ct:=fun d=>∃m',m'<m/\P m' d,bk:=D.nx,rt:=D.rt })/\(b=false->D.nx a)):Q1 K (RH c tbd) ρ D:=fun n e F r H E x S C=>by
 refine⟨fun m r H=>∃F a,Q0 n e F H/\QB K e F a r H/\P m a,⟨v,F,ρ,x,S,h0⟩,?_⟩
 rintro m i U ⟨X,a,J,A,p⟩
 obtain⟨b,R,Q,O⟩:=N m a p;refine R e X i U _ A fun G B s=>?_;have y:=J.trans s;have z:=A.ext s
 cases b with
 |false=>rw[Xa Xw];exact C.nx G i B a y z (O rfl)
 |true =>
   rw[Xd rfl];refine⟨fun j q=>∃m',m'<m/\∃l d,Q0 n e l q/\QB K e l d j q/\P m' d,fun j q h=>h,?_⟩;have w:∀o g k f,Q0 n e o k->QB K e o f g k->(∃m',m'<m/\P m' f)->∃m',m'<m/\∃l d,Q0 n e l k/\QB K e l d g k/\P m' d:=fun o g k f I T ⟨m',M,L⟩=>⟨m',M,o,f,I,T,L⟩;exact Q rfl n e G i B _ y z ⟨w,C.rt,C.nx,w⟩
def Jv (h:Qu K ta ρ (.list ds)):EvI K (Db K ta) ρ ds:=fun G F s H R S q =>
 h G F s H _ S fun r E v c m=>by
  obtain⟨a,b,rfl,B,o,A⟩:=Ud (K:=K) m c.fh
  have x:r a=some (.lst b):=by
   cases m with
   |lst n J =>
     have:=c.fh _ _ n
     rw[A]at this;cases this;exact n
  refine⟨a,rfl,⟨b,B⟩,q r E _ c fun I C l k=>?_⟩;have g:SqL K C a b:=SqL.of (k _ _<|l _ _ x);refine⟨⟨b,g,by rw[o.length];exact Xv _⟩,fun i d e=>?_⟩;obtain⟨z,j,w⟩:=o.get e;refine⟨⟨b,z,g,j⟩,fun y L f=>?_⟩;obtain⟨rfl,f⟩:=f;have p:=f b g;rw[j]at p;cases p
  exact⟨I,Q0.refl k,w.mono l⟩
def NJ (h:Qu K ta ρ (.tuple ds)):EvI K (N4 K ta) ρ ds:=fun G F s H R S q =>
 h G F s H _ S fun r E v c m=>by
  obtain⟨a,b,rfl,B,o,A⟩:=GN (K:=K) m c.fh
  have x:r a=some (.tup b):=by
   cases m with
   |tup n J =>
     have:=c.fh _ _ n
     rw[A]at this;cases this;exact n
  refine⟨a,rfl,⟨b,B⟩,q r E _ c fun I C l k=>?_⟩;have g:SqT K C a b:=SqT.of (k _ _<|l _ _ x);refine⟨⟨b,g,by rw[o.length];exact Xv _⟩,fun i d e=>?_⟩;obtain⟨z,j,w⟩:=o.get e;refine⟨⟨b,z,g,j⟩,fun y L f=>?_⟩;obtain⟨rfl,f⟩:=f;have p:=f b g;rw[j]at p;cases p
  exact⟨I,Q0.refl k,w.mono l⟩
noncomputable def ZI (lo:Int)(n:Nat):Qd:=(List.range n).map fun(i:Nat)=>PyData.int (lo+(i:Int))
def Y6 {lo:Int}{n i:Nat}{d:PyData}(e:(ZI lo n)[i]?=some d):i<n/\d=.int (lo+(i:Int)):=by
 unfold ZI at e;rw[Xn]at e;by_cases h:i<n
 .simp[h]at e;exact⟨h,e.symm⟩
 .simp[h]at e
def W0 {lo:Int}{n:Nat}:(ZI lo n).length=n:=by simp[ZI]
def PJ {F:Hp}{lo:Int}{n:Nat}:Rs F (Itr lo n) (ZI lo n):=fun f j g a=>by
 refine⟨by show n<=_;rw[W0];exact Xv _,fun i d e=>?_⟩;obtain⟨c,rfl⟩:=Y6 e;refine⟨c,fun x h b=>?_⟩;obtain⟨rfl,rfl⟩:=b
 exact⟨f,Q0.refl a,.int _⟩
def Yg {t:TA}{n:Int}(h:Z0 K t ρ [.fz<|.int n])(h1 : -(2^62)<=n)(d:n<2^62):EvI K (Gp t) ρ (ZI 0 n.toNat):=fun f F b H R S q =>
 h f F b H _ S fun g e i c a=>by
  cases a with
  |fz r a=>cases a;cases r;exact⟨n,rfl,h1,d,q g e _ c PJ⟩
def Hi {t:TA}{m n:Int}(h:Z0 K t ρ [.fz<|.int m,.fz<|.int n])(h1 : -(2^62)<=m/\m<2^62 /\ -(2^62)<=n/\n<2^62):EvI K (NA t) ρ (ZI m (n-m).toNat):=fun f F b H R S q =>
 h f F b H _ S fun g e i c a=>by
  cases a with
  |fz r a =>
    cases a with
    |fz d a=>cases a;cases r;cases d;exact⟨m,n,rfl,h1,q g e _ c PJ⟩
noncomputable def Wd (a:Int)(n:Nat):Qd:=(List.range n).map fun(i:Nat)=>PyData.int (a-(i:Int))
def BZ  (e:(Wd hi n)[i]?=some d):i<n/\d=.int (hi-(i:Int)):=by
 unfold Wd at e;rw[Xn]at e;by_cases h:i<n
 .simp[h]at e;exact⟨h,e.symm⟩
 .simp[h]at e
def Hv  : (Wd hi n).length=n:=by simp[Wd]
def LG {t:TA}{m n:Int}(h:Z0 K t ρ [.fz<|.int m,.fz<|.int n,.fz<|.int (-1)])(b : -(2^62)<=m/\m<2^62 /\ -(2^62)<=n/\n<2^62):EvI K (NZ t) ρ (Wd m (m-n).toNat):=fun p F c H R S q =>
 h p F c H _ S fun v o w f a=>by
  cases a with
  |fz r a =>
    cases a with
    |fz k a =>
      cases a with
      |fz j a =>
        cases a;cases r;cases k;cases j
        refine⟨m,n,rfl,b,q v o _ f fun s A y g=>⟨by show _<=_;rw[Hv];exact Xv _,fun i d e=>?_⟩⟩;obtain⟨b,rfl⟩:=BZ e;refine⟨b,fun x z l=>?_⟩;obtain⟨rfl,rfl⟩:=l
        exact⟨s,Q0.refl g,.int _⟩
noncomputable def Wq:Option OT->Option OT
 |some (.fz d)=>some (.fz d)
 |some (.scr b)=>some (.scr b)
 |some (.zow a)=>some (.zow a)
 |_=>none
noncomputable def Jk (f:List (Option Nat))(ρ:QF):QF:=f.map fun o=>match o with|some i=>Wq (ρ[i]?).join|none=>none
def QB.inner  (f:List (Option Nat))(S:QB K H0 F ρ σ H):QB K H0 F (Jk f ρ) (Yj f σ) H:=by
 obtain⟨m,p,C,E,n,B,A⟩:=S;refine⟨m,p,by simp[Jk,Yj],fun _=>[],fun i t e=>?_,fun i j a h=>(nomatch h),fun i a h=>(nomatch h)⟩;unfold Jk at e;rw[Xn]at e;cases z:f[i]? with
 |none=>rw[z]at e;simp at e
 |some o =>
   rw[z]at e;simp only[YJ,Option.some.injEq]at e;cases o with
   |none=>cases e
   |some k =>
     simp only at e
     have l:ρ[k]?=some (some t)/\((∃d,t=.fz d)\/(∃c,t=.scr c)\/∃b,t=.zow b):=by
      cases y:ρ[k]? with
      |none=>rw[y]at e;simp[Wq]at e
      |some w =>
        rw[y]at e;simp only[Option.join_some]at e;cases w with
        |none=>simp[Wq]at e
        |some w =>
          cases w with
          |fz d=>simp[Wq]at e;subst e;exact⟨rfl,.inl ⟨_,rfl⟩⟩
          |scr c=>simp[Wq]at e;subst e;exact⟨rfl,.inr<|.inl ⟨_,rfl⟩⟩
          |zow b=>simp[Wq]at e;subst e;exact⟨rfl,.inr<|.inr ⟨_,rfl⟩⟩
          |ol r=>simp[Wq]at e
          |oll r=>simp[Wq]at e
          |own x s=>simp[Wq]at e
     obtain⟨v,q,g⟩:=n k t l.1;refine⟨v,?_,?_⟩
     .unfold Yj
      rw[Xn,z];simp[q]
     .rcases l.2 with ⟨d,rfl⟩|⟨c,rfl⟩|⟨b,rfl⟩
      .exact⟨rfl,g.2⟩
      .exact⟨rfl,g.2⟩
      .exact⟨rfl,g.2⟩
def JY {w:Type}{f:List (Option Nat)}{wi:TI}{g:CIn->TG}{tcc:CIn->TT}{tee:CIn->TE}{xs:List w}{enc h:w->PyData}{p:w->Bool}(hi:EvI K wi ρ (xs.map enc))(hl:xs.length<=1000)
 (hs:∀x∈xs,∀c,∃d,GTo K (g c) (enc x) (Jk f ρ) d/\Za K (tcc c) d (p x)/\(p x=true->Qu K (tee c) d (h x))):EvO K (tLC f wi g tcc tee) ρ (.ol<|(xs.filter p).map h):=fun r F P H Q S q =>
 hi r F P H _ S fun O H1 J B W c=>by
  have hn:xs.length<=sizeLine:=YI (Vg hl);refine⟨fun i m A H=>m=xs.length-i/\i<=xs.length/\∃s,Q0 O H1 s H/\Qy s A (((xs.take i).filter p).map h),⟨xs.length,by simp,XQ _,O,Q0.refl B.fh,.nil⟩,?_⟩
  rintro i m A H' ⟨rfl,hle,s,j,o⟩
  obtain⟨Z,Y⟩:=W s H' j.ff j.fh
  by_cases b:i<xs.length
  .have e:(xs.map enc)[i]?=some (enc xs[i]):=by simp[b]
   obtain⟨go,X⟩:=Y i _ e;refine .inr ⟨go,fun v E y=>?_⟩;obtain⟨N,n,r3⟩:=X v E y;obtain⟨d,k1,k2,k3⟩:=hs xs[i] (X0 b) c;have S3:=(S.ext<|B.trans<|j.trans n).inner f;have I:xs.take (i+1)=xs.take i++[xs[i]]:=by rw[W8];simp[b]
   have ly:=o.length
   have ly2:A.length<=i:=by
    rw[ly,Xl];refine X4 (List.length_filter_le _ _) ?_;rw[List.length_take];omega
   refine k1 r N _ E v _ S3 r3 fun k L=>k2 r N k E _ L fun M H4 l=>?_
   cases C:p xs[i] with
   |true =>
     rw[Xd rfl];refine k3 C r M k H4 _ (L.ext l) fun F5 H5 z G r5=>⟨by omega,xs.length-(i+1),by omega,rfl,b,F5,j.trans<|n.trans<|l.trans G,?_⟩;rw[I,Uh,XB];simp only[J7,C,if_true,List.filter_nil,Xx,UY];exact(o.mono (n.trans<|l.trans G).ff).snoc r5
   |false =>
     rw[Xa Xw];refine⟨xs.length-(i+1),by omega,rfl,b,M,j.trans<|n.trans l,?_⟩;rw[I,Uh,XB];simp only[J7,C,List.filter_nil,UY,XG,X6,if_false];exact o.mono (n.trans l).ff
  .have e:i=xs.length:=by omega
   subst e;refine .inl ⟨by simpa using Z,fun a ha=>?_⟩;rw[WA]at o;obtain⟨U,T,R⟩:=GI (K:=K) (B.trans j) ha o;exact q _ _ _ _ U T R
def Ux {b:Type}{f:List (Option Nat)}{wi:TI}{g:CIn->TG}{tee:CIn->TE}{xs:List b}{enc h:b->PyData}(k:EvI K wi ρ (xs.map enc))(j:xs.length<=1000)
 (i:∀x∈xs,∀c,∃a,GTo K (g c) (enc x) (Jk f ρ) a/\Qu K (tee c) a (h x)):EvO K (tLC f wi g (fun _=>WG) tee) ρ (.ol<|xs.map h):=by
 have:=JY (K:=K) (ρ:=ρ) (f:=f) (wi:=wi) (g:=g) (tcc:=fun _=>WG) (tee:=tee) (xs:=xs) (enc:=enc) (h:=h) (p:=fun _=>true) k j fun x d c=>by
  obtain⟨a,m,l⟩:=i x d c
  exact⟨a,m,NE,fun _=>l⟩
 have e:xs.filter (fun _=>true)=xs:=List.filter_eq_self.mpr fun _ _=>rfl;rw[e]at this;exact this
def Dk:List V->Hp->VK->Prop:=fun a H Q=>∃i j,a=[.int i,.int j]/\Q (.int (if j > i then j else i)) H
def Da:List V->Hp->VK->Prop:=fun a H Q=>∃i j,a=[.int i,.int j]/\Q (.int (if j<i then j else i)) H
def NH:List V->Hp->VK->Prop:=fun a H Q=>(∃i,a=[.int i]/\Q (.int i) H)\/∃k,a=[.bl k]/\Q (.int (if k then 1 else 0)) H
def Nu:List V->Hp->VK->Prop:=fun a H Q=>∃x T c b,a=[x,.ty c]/\TyN H x T/\YK T c=some b/\Q (.bl b) H
def Jf (K:W.Frag):List V->Hp->VK->Prop:=fun b H Q=>∃p a,b=[.ref p]/\(SqL K H p a\/SqT K H p a)/\Q (.int a.length) H
def DN (K:W.Frag):List V->Hp->VK->Prop:=fun b H Q=>∃p a,b=[.ref p]/\(SqL K H p a\/SqT K H p a)/\∀l,H l=none->Q (.ref l) (upd H l<|.lst a)
def RJ (K:W.Frag):List V->Hp->VK->Prop:=fun b H Q=>∃p a,b=[.ref p]/\((SqL K H p a/\∀l,H l=none->Q (.ref l) (upd H l<|.tup a))\/(SqT K H p a/\Q (.ref p) H))
def Nl (X:Cx):List V->Hp->VK->Prop:=fun b H Q=>X.calm=true/\∃(x:V) (a:Ql),b=[x]/\Rep H x (.list<|a.map PyData.int)/\Q (.int a.sum) H
def Fk (h:X.calm=true):Z7 X (.builtin "max") Dk:=Ic h
def B2 (h:X.calm=true):Z7 X (.builtin "min") Da:=Is h
def LU:Z7 X (.type "int") NH:=IW
def JW:Z7 X (.builtin "isinstance") Nu:=Ag
def Vw:Z7 X (.builtin "len") (Jf X.K):=ZiR
def RS:Z7 X (.type "list") (DN X.K):=ZiL
def Pg:Z7 X (.type "tuple") (RJ X.K):=ZhQ
def D3:Z7 X (.builtin "sum") (Nl X):=E6
def Ry   (g:Qu K ta ρ (.int x))(f:Qu K tb ρ (.int y))(S:QB K H0 F ρ σ H)(h:∀m b,Q0 F H m b->r [.int x,.int y] b Q):tCB r (QI ta<|QI tb QQ) σ H Q :=
 g H0 F σ H _ S fun l j v a e=>f H0 l σ j _ (S.ext a) fun k i w c d=>by cases e;cases d;exact h k i (a.trans c)
def Fx (b:Qu K ta ρ (.int x))(a:Qu K tb ρ (.int y)):Qu K (tCB Dk<|QI ta<|QI tb QQ) ρ (.int (if y > x then y else x)):=fun g F f H Q S q =>
 Ry b a S fun d c e=>⟨x,y,rfl,q d c _ e<|.int _⟩
def L4 (b:Qu K ta ρ (.int x))(a:Qu K tb ρ (.int y)):Qu K (tCB Da<|QI ta<|QI tb QQ) ρ (.int (if y<x then y else x)):=fun g F f H Q S q =>
 Ry b a S fun d c e=>⟨x,y,rfl,q d c _ e<|.int _⟩
def Rg (h:Qu K ta ρ (.bool b)):Qu K (tCB NH<|QI ta QQ) ρ (.int (if b then 1 else 0)):=fun f F a H Q S q =>
 h f F a H _ S fun g e v c d=>by cases d;exact .inr ⟨b,rfl,q g e _ c<|.int _⟩
def Jp  (h:Qu K ta ρ a)(g:YK (tyD a) c=some b):Qu K (tCB Nu<|QI ta<|QI (tC<|.ty c) QQ) ρ (.bool b):=fun j F e H Q S q =>
 h j F e H _ S fun k i v d f=>⟨v,_,c,b,rfl,(f.mono d.fh).ty,g,q k i _ d<|.bl _⟩
def WP (h:Qu K ta ρ (.list ds)):Qu K (tCB (Jf K)<|QI ta QQ) ρ (.int (ds.length:Int)):=fun j F c H Q S q =>
 h j F c H _ S fun k i v b e=>by
  obtain⟨a,d,rfl,g,f,_⟩:=Ud (K:=K) e b.fh
  exact⟨a,d,rfl,.inl g,by rw[f.length];exact q k i _ b<|.int _⟩
def GB (h:Qu K ta ρ (.tuple ds)):Qu K (tCB (Jf K)<|QI ta QQ) ρ (.int (ds.length:Int)):=fun j F c H Q S q =>
 h j F c H _ S fun k i v b e=>by
  obtain⟨a,d,rfl,g,f,_⟩:=GN (K:=K) e b.fh
  exact⟨a,d,rfl,.inr g,by rw[f.length];exact q k i _ b<|.int _⟩
def TV  (e0:ρ[i]?=some (some<|.scr ns)):Qu K (tCB (Jf K)<|QI (Q8 i) QQ) ρ (.int (ns.length:Int)):=fun f F d H Q S q=>by
 obtain⟨e,h,_⟩:=S.fp;obtain⟨v,c,_,a,rfl,b⟩:=h i _ e0
 exact⟨_,c,a,ns.map V.int,rfl,.inl<|S.sub.seq b.sq,by rw[Xl];exact q F H _ (Q0.refl S.sub)<|.int _⟩
def TK  (e0:ρ[i]?=some (some<|.ol ds)):Qu K (tCB (Jf K)<|QI (Q8 i) QQ) ρ (.int (ds.length:Int)):=fun j F f H Q S q=>by
 obtain⟨g,h,_⟩:=S.fp;obtain⟨v,e,a,rfl,_,_,b,d,c⟩:=h i _ e0
 exact⟨_,e,a,b,rfl,.inl<|SqL.of d,by rw[c.length];exact q F H _ (Q0.refl S.sub)<|.int _⟩
def R9 (h:Qu K ta ρ (.tuple ds)):EvO K (tCB (DN K)<|QI ta QQ) ρ (.ol ds):=fun m F c H Q S q =>
 h m F c H _ S fun o n v b i=>by
  obtain⟨a,g,rfl,l,k,_⟩:=GN (K:=K) i b.fh;refine⟨a,g,rfl,.inr l,fun p j=>?_⟩;obtain⟨f,e,d⟩:=GI (K:=K) b j k;exact q _ _ _ _ f e d
def Dx  (e0:ρ[i]?=some (some<|.ol ds)):Qu K (tCB (RJ K)<|QI (Q8 i) QQ) ρ (.tuple ds):=fun k F g H Q S q=>by
 obtain⟨j,h,_⟩:=S.fp;obtain⟨v,f,a,rfl,_,_,c,e,d⟩:=h i _ e0;refine⟨_,f,a,c,rfl,.inl ⟨SqL.of e,fun p b=>?_⟩⟩;exact q _ _ _ (Q0.new S.sub b) (.tup QC<|d.mono<|Q5.new<|S.sub.free b)
def Bv {ns:Ql}(h:Qu K ta ρ (.list<|ns.map PyData.int))(d:X.calm=true):Qu K (tCB (Nl X)<|QI ta QQ) ρ (.int ns.sum):=fun f F b H Q S q =>
 h f F b H _ S fun g e v a c=>⟨d,v,ns,rfl,c.mono a.fh,q g e _ a<|.int _⟩
def Ra (r:Qu K ta ρ (.list as))(o:Qu K tb ρ (.list bs))(n:as.length+bs.length<=1000):EvO K (tOp MK ta tb) ρ (.ol<|as++bs):=fun B F w H Q S q =>
 YS r o S fun E C x y e l k=>by
  obtain⟨a,j,rfl,z,c,s⟩:=Ud (K:=K) l e.fh;obtain⟨b,i,rfl,A,d,v⟩:=Ud (K:=K) k e.fh;refine⟨a,b,j,i,rfl,rfl,s,v,by rw[c.length,d.length];exact YI<|Vg n,fun p m=>?_⟩;obtain⟨h,g,f⟩:=GI (K:=K) e m (c.append d);exact q _ _ _ _ h g f
end
def Zn {K:W.Frag}{ρ:QF}{a:TE}{t:TA}{d:PyData}{ds:Qd}(c:Qu K a ρ d)(b:Z0 K t ρ (fzs ds)):Z0 K (QI a t) ρ (fzs (d::ds)):=Qv c b
def EvI.cast {K:W.Frag}{wi:TI}{ρ:QF}{ds a:Qd}(h:EvI K wi ρ ds)(e:ds=a):EvI K wi ρ a:=e▸h
def YX  (h:a=b)(c:m=n):ZI a m=ZI b n:=by rw[h,c]
def HU  (h:a=b)(c:m=n):Wd a m=Wd b n:=by rw[h,c]
def Rh {K:W.Frag}{ρ:QF}{b a:TE}{x y:Int}(d:Qu K b ρ (.int x))(c:Qu K a ρ (.int y)):Qu K (tCB Dk<|QI b<|QI a QQ) ρ (.int<|max x y):=by
 have e:max x y=if y > x then y else x:=by split<;>omega
 rw[e];exact Fx d c
def DA {K:W.Frag}{ρ:QF}{b a:TE}{x y:Int}(d:Qu K b ρ (.int x))(c:Qu K a ρ (.int y)):Qu K (tCB Da<|QI b<|QI a QQ) ρ (.int<|min x y):=by
 have e:min x y=if y<x then y else x:=by split<;>omega
 rw[e];exact L4 d c
def DJ {K:W.Frag}{ρ:QF}{f:List (Option Nat)}{wi:TI}{g:CIn->TG}{tee:CIn->TE}{lo:Int}{n:Nat}{h:Nat->PyData}(j:EvI K wi ρ (ZI lo n))(e:n<=1000)
 (d:∀(x:Nat),x<n->∀c,∃a,GTo K (g c) (.int<|lo+(x:Int)) (Jk f ρ) a/\Qu K (tee c) a (h x)):EvO K (tLC f wi g (fun _=>WG) tee) ρ (.ol<|(List.range n).map h) :=
 Ux (xs:=List.range n) (enc:=fun(i:Nat)=>PyData.int<|lo+(i:Int)) j (by simpa using e) fun x b c=>d x (XI.mp b) c
def Qu.cast {K:W.Frag}{t:TE}{ρ:QF}{d d':PyData}(h:Qu K t ρ d)(e:d=d'):Qu K t ρ d':=e▸h
def EvO.cast {K:W.Frag}{t:TE}{ρ:QF}{d d':OT}(h:EvO K t ρ d)(e:d=d'):EvO K t ρ d':=e▸h
def Za.cast {K:W.Frag}{t:TT}{ρ:QF}{d d':Bool}(h:Za K t ρ d)(e:d=d'):Za K t ρ d':=e▸h
def B3 (K:W.Frag):Sp:=fun b H Q _=>∃(a:Addr) (c:Ql),b=[.ref a]/\KTs K H/\Scr K H a c/\∀d,Q (.bl true) d
def Fun.evLaw {P:Program}{w:World}{K:W.Frag}{m:Str->Qf}{base:Heap}{x c p:Str}{st:Stmt}{f:Addr}{n:FuncData}{N:Qh}{k:Nat}(F:Fun K x c st f n)(S:Qp N [p] (Q2 st))
 (l:∀(d:Value) (A:Around) (b:List Env) (s:Shared) (H:Hp) (E:XK) (ns:Ql),Room k (A.deeper<|envOfC c (Q2 st) s.heap.objs.size f d)->ns.length<=63->(∀i∈ns,Builtin.Int.intBits i<=2^20) ->
  ∃t,PSs (Vz CX0 P w K m base N c (Q2 st) f d A b s H E).nox (Z9 st) t/\Q1 K t (some (.scr ns)::List.replicate (N.length-1) none) { nx:=fun _=>False,rt:=fun r=>r=.fz (.bool true) }):FnOk P w K m base CX0 (k+1) f n [p] (B3 K):=by
 refine F.ok S (by rintro C H Q E ⟨a,ns,e,_⟩;rw[e];rfl) ?_;rintro d A b s H C Q E I ⟨a,ns,e,G,g,q⟩;subst e;obtain⟨t,L,J⟩:=l d A b s H E ns I g.len g.bits;refine⟨t,L,J H H H (start N [.ref a]) H _ (Q0.refl<|Q5.refl _) ⟨G,Q5.refl _,?_,fun _=>[],fun i O e=>?_,fun i j a h=>(nomatch h),fun i a h=>(nomatch h)⟩ ⟨fun M u o y B _ e=>False.elim e,fun M o v R p B T D e=>?_,fun _ _ _ _ _ _ z=>False.elim z,fun _ _ _ _ _ _ z=>False.elim z⟩⟩
 .unfold start
  simp
 .cases i with
  |zero =>
    simp at e
    subst e;exact⟨_,rfl,rfl,a,rfl,g⟩
  |succ i =>
    rw[UW]at e;have:=List.mem_of_getElem? e
    simp at this
 .subst e
  obtain⟨_,r⟩:=D
  cases r
  exact q o
def ZG {K:W.Frag}{ρ:QF}:Z0 K QQ ρ (fzs []):=Q6
def z62:(2:Int)^62=4611686018427387904:=by decide
def Fa {c:CXT}{P:Program}{w:World}{K:W.Frag}{a:Str->Qf}{base:Heap}{N:Qh}{q:Str}{sc:Scope}{f:Addr}{b:Value}{A:Around}{o:List Env}{s:Shared}{H:Hp}{E:XK}:(Vz c P w K a base N q sc f b A o s H E).nox.K=K:=rfl
def CZ   : (ZN X N sc c).K=X.K:=rfl
section
noncomputable def cut {a:Type}(xs:List a)(lo b:Option Int):List a:=(xs.drop<|HT.sIx xs.length 0 lo).take (HT.sIx xs.length xs.length b-HT.sIx xs.length 0 lo)
end
section
variable {K:W.Frag}{ρ:QF}{ta:TE}
noncomputable def JN (as:Qd):Qd:=as.zipIdx.map fun p=>PyData.tuple [.int (p.2:Int),p.1]
def Mn (as:Qd):(JN as).length=as.length:=by simp[JN]
def BT {as:Qd}{i:Nat}(e:(JN as)[i]?=some d):∃a,as[i]?=some a/\d=.tuple [.int (i:Int),a]:=by
 unfold JN at e;rw[Xn,List.getElem?_zipIdx]at e;cases z:as[i]? with
 |none=>rw[z]at e;cases e
 |some a=>rw[z]at e;simp at e;exact⟨a,rfl,e.symm⟩
def Ig {H:Hp}  (r:Rep F x (.list ds)):∃a xs,x=.ref a/\F a=some (.lst xs)/\Qy F xs ds:=by
 cases r with
 |lst c b=>exact⟨_,_,rfl,c,b⟩
def GC  (h:Z0 K t ρ [.fz<|.list as]):EvI K (NG K t) ρ (JN as):=fun I F z H R S q =>
 h I F z H _ S fun J w L k f=>by
  cases f with
  |fz r f =>
    cases f
    obtain⟨a,b,rfl,o,m⟩:=Ig (H:=w) r;refine⟨a,rfl,⟨b,SqL.of<|k.fh _ _ o⟩,q J w _ k fun y G l c=>?_⟩;have g:SqL K G a b:=SqL.of (c _ _<|l _ _ o);refine⟨⟨b,g,by rw[Mn,m.length]⟩,fun i d e=>?_⟩;obtain⟨M,E,rfl⟩:=BT e;obtain⟨j,s,D⟩:=m.get E;refine⟨⟨b,j,g,s⟩,fun v N C=>?_⟩;obtain⟨p,x,n,rfl,rfl,B⟩:=C;have u:=B b g;rw[s]at u;cases u;have A:Q5 y (upd y p<|.tup [.int (i:Int),j]):=Q5.new (c.free n)
    exact⟨_,Q0.new c n,.tup QC<|.cons (.int _)<|.cons ((D.mono l).mono A) .nil⟩
def FJ  (h:Qu K ta ρ (.list<|ns.map PyData.int))(d:X.calm=true)(hn:ns≠[]):Qu K (tCB (NO X)<|QI ta QQ) ρ (.int<|Yz ns):=fun f F b H Q S q =>
 h f F b H _ S fun g e v a c=>⟨d,v,ns,rfl,c.mono a.fh,hn,q g e _ a<|.int _⟩
noncomputable def Ji:OT->Option PyData
 |.fz d=>some d
 |.ol b=>some (.list b)
 |.oll a=>some (.list<|a.map PyData.list)
 |.scr _=>none
 |.own _ _=>none
 |.zow _=>none
noncomputable def frF (F H:Hp)(p:Qg):Hp:=fun b=>if b∈p then H b else F b
def Jt  (h:b∈p):frF F H p b=H b:=by unfold frF;rw[Xd h]
def YV  (h:b∉p):frF F H p b=F b:=by unfold frF;rw[Xa h]
def W3  (h:∀a∈p,F a=none):Q5 F (frF F H p):=fun b u e=>by
 rw[YV fun z=>by rw[h b z]at e;cases e];exact e
def GE  (s:Q5 F H):Q5 (frF F H p) H:=fun b u e=>by
 by_cases z:b∈p
 .rw[Jt z]at e;exact e
 .rw[YV z]at e;exact s b u e
theorem Pa {F d H:Hp}(e:Q5 F d):∀{as:Qg} {c:List (Qd)},Zp F H as c->(∀a∈as,d a=H a)->Qy d (as.map V.ref) (c.map PyData.list)
 |[],[],_,_=>.nil
 |a::as,n::c,h,f=>by
   obtain⟨⟨m,l,k,j⟩,i⟩:=h;exact .cons (.lst (by rw[f a Xb];exact k)<|j.mono e) (Pa e i fun b g=>f b<|Xe _ g)
 |[],_::_,h,_=>False.elim h
 |_::_,[],h,_=>False.elim h
def Zs.frz   (c:Zs K F H v t p)(e:Ji t=some d):Rep (frF F H p) v d:=by
 have f:Q5 F (frF F H p):=W3 fun a j=>(c.there a j).1
 cases t with
 |fz w=>cases e;exact c.2.mono f
 |ol u =>
   cases e
   obtain⟨a,rfl,rfl,k,o,h,g⟩:=c;exact .lst (by rw[Jt Xb];exact h) (g.mono f)
 |oll l =>
   cases e
   obtain⟨a,x,rfl,rfl,s,k,h,g⟩:=c;exact .lst (by rw[Jt Xb];exact h) (Pa f g fun b i=>Jt<|Xe _ i)
 |scr r=>cases e
 |own q n=>cases e
 |zow m=>cases e
theorem Zp.frOther {F H:Hp}{p:Qg}(d:Q5 F (frF F H p)):∀{as:Qg} {c:List (Qd)},(∀a∈as,a∉p)->Zp F H as c->Zp (frF F H p) H as c
 |[],[],_,_=>trivial
 |a::as,m::c,e,h=>by
   obtain⟨⟨l,f,k,j⟩,i⟩:=h
   exact⟨⟨by rw[YV<|e a Xb];exact l,f,k,j.mono d⟩,Zp.frOther d (fun b g=>e b<|Xe _ g) i⟩
 |[],_::_,_,h=>False.elim h
 |_::_,[],_,h=>False.elim h
def Zs.frOther   (e:Q5 F (frF F H p))(c:Zs K F H v t q)(hn:∀a∈q,a∉p):Zs K (frF F H p) H v t q:=by
 cases t with
 |fz d=>exact⟨c.1,c.2.mono e⟩
 |zow k=>exact⟨c.1,k.mono e c.2⟩
 |ol w =>
   obtain⟨a,rfl,rfl,h,l,g,f⟩:=c
   exact⟨a,rfl,rfl,by rw[YV<|hn a Xb];exact h,l,g,f.mono e⟩
 |oll o =>
   obtain⟨a,r,rfl,rfl,m,h,g,f⟩:=c
   exact⟨a,r,rfl,rfl,m,by rw[YV<|hn a Xb];exact h,g,f.frOther e fun b n=>hn b<|Xe _ n⟩
 |scr u=>obtain⟨h,a,g,f⟩:=c;exact⟨h,a,g,f.mono e⟩
 |own s i=>exact⟨c.1,i.mono e (fun a j=>by rw[YV<|hn a j];exact(i.there c.2 a j).1) (fun _ _=>rfl) c.2⟩
def QB.freezeG   (s:QB K H0 F ρ σ H)(e:ρ[i]?=some (some t))(I:Ji t=some d) :
 ∃p,(∀a∈p,F a=none/\H a≠none/\H0 a=none)/\QB K H0 (frF F H p) (ρ.set i<|some<|.fz d) σ H:=by
 obtain⟨B,D,C,o,y,x,w⟩:=s;obtain⟨v,J,h⟩:=y i _ e;have m:=(Xf.mp e).1;have q:Q5 F (frF F H<|o i):=W3 fun a g=>(h.there a g).1;refine⟨o i,fun a g=>⟨(h.there a g).1,(h.there a g).2,(w i a g).1⟩,B.mono q,GE D,by simp[C],fun j=>if j=i then [] else o j,fun j A l=>?_,fun j k b f n=>?_,fun j b f=>?_⟩
 .by_cases c:j=i
  .subst c
   rw[Xj m]at l;cases l;refine⟨_,J,?_,h.frz I⟩;dsimp only;rw[Xd rfl]
  .rw[Xo<|Ne.symm c]at l
   obtain⟨u,G,E⟩:=y j A l;refine⟨u,G,?_⟩;dsimp only;rw[Xa c];exact E.frOther q fun a g z=>c (x j i a g z)
 .by_cases c:j=i
  .simp[c]at f
  .by_cases r:k=i
   .simp[r]at n
   .simp only[Xa c]at f
    simp only[Xa r]at n;exact x j k b f n
 .by_cases c:j=i
  .simp[c]at f
  .simp only[Xa c]at f
   exact w j b f
def WU  (e:∀a∈p,F a=none/\H a≠none)(x:Q0 (frF F H p) H F' H'):Q0 F H (fun b=>if b∈p then none else F' b) H' :=
 ⟨x.hh,fun b u c=>by
  have d:b∉p:=fun z=>by rw[(e b z).1]at c;cases c
  simp only[Xa d];exact x.ff b u<|by rw[YV d];exact c,fun b u c=>by
  by_cases z:b∈p
  .simp[z]at c
  .simp only[Xa z]at c;exact x.fh b u c,fun b c=>by
  by_cases z:b∈p
  .simp[z]at c
  .simp only[Xa z]at c
   rcases x.fr b c with y|y
   .rw[YV z]at y;exact .inl y
   .exact .inr y⟩
def Ax (i:Nat)  (e:ρ[i]?=some (some r))(l:Ji r=some d0)(f:ZR d=some w)(h:Qu K t (ρ.set i<|some<|.fz d0) d):Qu K t ρ d:=fun n F j H Q S q=>by
 obtain⟨p,c,m⟩:=S.freezeG e l;refine h n _ j H Q m fun s o v x b=>?_;have k:=b.flat f;refine q _ o v (WU (fun a g=>⟨(c a g).1,(c a g).2.1⟩) x) ?_;subst k;cases b<;>simp[ZR]at f
 .exact .non
 .exact .bl _
 .exact .int _
 .exact .str _
def GM (i:Nat)  (e:ρ[i]?=some (some r))(g:Ji r=some d0)(h:Za K t (ρ.set i<|some<|.fz d0) b):Za K t ρ b:=fun k F f H Q S q=>by
 obtain⟨p,c,j⟩:=S.freezeG e g;exact h k _ f H Q j fun m l x=>q _ l (WU (fun a d=>⟨(c a d).1,(c a d).2.1⟩) x)
def JZ (ds:Qd):Prop := ∀d∈ds,∃w,ZR d=some w
theorem Qy.flats {F b:Hp}:∀{xs:List V} {ds:Qd},JZ ds->Qy F xs ds->Qy b xs ds
 |_,_,_,.nil=>.nil
 |_::_,d::_,h,.cons r t=>by
   obtain⟨w,e⟩:=h d Xb;refine .cons ?_ (Qy.flats (fun c a=>h c<|Xe _ a) t)
   cases r<;>simp[ZR]at e
   .exact .non
   .exact .bl _
   .exact .int _
   .exact .str _
def Ao (i:Nat)  (e:ρ[i]?=some (some r))(o:Ji r=some d0)(k:JZ ds)(h:EvO K t (ρ.set i<|some<|.fz d0) (.ol ds)):EvO K t ρ (.ol ds):=fun u F f H Q S q=>by
 obtain⟨p,c,s⟩:=S.freezeG e o;refine h u _ f H Q s fun A w v y x b j=>?_;obtain⟨a,rfl,rfl,n,g,m,l⟩:=j;refine q _ w _ [a] (WU (fun a d=>⟨(c a d).1,(c a d).2.1⟩) x) b ⟨a,rfl,rfl,?_,g,m,l.flats k⟩;dsimp only;by_cases z:a∈p
 .rw[Xd z]
 .rw[Xa z];exact n
end
section
variable {K:W.Frag}{ρ:QF}{ta tb te ti tj:TE}{D:PEnds}
def QB.toOO  (s:QB K H0 F ρ σ H)(e:ρ[i]?=some (some<|.ol [])):QB K H0 F (ρ.set i<|some<|.oll []) σ H:=by
 obtain⟨h,n,m,o,f,l,k⟩:=s;have c:=(Xf.mp e).1;refine⟨h,n,by simp[m],o,fun j g b=>?_,l,k⟩
 by_cases d:j=i
 .subst d
  rw[Xj c]at b;cases b;obtain⟨v,u,a,rfl,t,r,w,q,p⟩:=f j _ e
  cases p
  exact⟨_,u,a,[],rfl,t,by simp,r,q,trivial⟩
 .rw[Xo<|Ne.symm d]at b
  exact f j g b
def C3 (i:Nat)(e:ρ[i]?=some (some<|.ol []))(h:Q1 K t (ρ.set i<|some<|.oll []) D):Q1 K t ρ D:=fun c b F a H E x S C=>h c b F a H E x (S.toOO e) C
theorem Zp.snoc {F H:Hp}{b:Addr}{ds:Qd}:∀{as:Qg} {a:List (Qd)},Zp F H as a->Vm F H b ds->Zp F H (as++[b]) (a++[ds])
 |[],[],_,h=>⟨h,trivial⟩
 |_::_,_::_,h,c=>⟨h.1,Zp.snoc h.2 c⟩
 |[],_::_,h,_=>False.elim h
 |_::_,[],h,_=>False.elim h
theorem Zp.length {F H:Hp}:∀{as:Qg} {a:List (Qd)},Zp F H as a->as.length=a.length
 |[],[],_=>rfl
 |_::_,_::_,h=>by simp[Zp.length h.2]
 |[],_::_,h=>False.elim h
 |_::_,[],h=>False.elim h
theorem Zp.get {F H:Hp}:∀{as:Qg} {b:List (Qd)} {k:Nat} {ds:Qd},Zp F H as b->b[k]?=some ds->∃c,as[k]?=some c/\Vm F H c ds
 |[],[],_,_,_,e=>by simp at e
 |a::_,_::_,0,ds,h,e=>by simp at e;subst e;exact⟨a,rfl,h.1⟩
 |_::as,_::b,k+1,ds,h,e=>by
   obtain⟨c,f,d⟩:=Zp.get (k:=k) (ds:=ds) h.2 (by simpa using e)
   exact⟨c,by simpa using f,d⟩
 |[],_::_,_,_,h,_=>False.elim h
 |_::_,[],_,_,h,_=>False.elim h
theorem Zp.set {F H:Hp}{c:Addr}{xs:List V}{ds:Qd}(r:Qy F xs ds)(g:F c=none):∀{as:Qg} {b:List (Qd)} {k:Nat},Zp F H as b->as.Nodup->as[k]?=some c->Zp F (upd H c<|.lst xs) as (b.set k ds)
 |[],[],_,_,_,e=>by simp at e
 |a::as,d::b,0,h,f,e=>by
   simp at e
   subst e;exact⟨⟨g,xs,QC,r⟩,h.2.other (Xt.mp f).1⟩
 |a::as,d::b,k+1,h,f,e=>by
   have i:as[k]?=some c:=by simpa using e
   have j:=List.mem_of_getElem? i
   exact⟨h.1.other (fun z=>(Xt.mp f).1 (by rw[z];exact j)),Zp.set r g h.2 (Xt.mp f).2 i⟩
 |[],_::_,_,h,_,_=>False.elim h
 |_::_,[],_,h,_,_=>False.elim h
def Oh    (e:ρ[i]?=some (some<|.oll dss))(h:Qu K te ρ d)(hk:Qu K ti ρ (.int k))(hm:Qu K tj ρ (.int m))(e1:ixN dss.length k=some k')(e2:dss[k']?=some ds)(e3:ixN ds.length m=some m')
 (hn:D.nx (ρ.set i<|some<|.oll<|dss.set k'<|ds.set m' d)):Q1 K (Vb te<|Bm (tOp (rIx K) (Q8 i) ti) tj JO) ρ D:=fun F0 Y F A H E x S C =>
 h Y F A H _ S fun F1 H1 v x1 r1=>by
  have L:=S.ext x1;obtain⟨w,Q,g2,g3⟩:=L.fp;obtain⟨v1,q1,a,J,rfl,p1,n,R,p,l⟩:=Q i _ e;refine⟨_,q1,hk Y F1 A H1 _ L fun F2 H2 y B r2=>?_⟩
  cases r2
  obtain⟨c,G,oc⟩:=(l.ext B).get e2
  have ea:atI (J.map V.ref) k=some (.ref c):=by
   unfold atI;rw[Xl,l.length,e1];show(J.map V.ref)[k']?=_;rw[Xn,G];rfl
  refine .inl ⟨a,J.map V.ref,k,.ref c,rfl,rfl,SqL.of<|B.hh _ _ p,ea,hm Y F2 A H2 _ (L.ext B) fun F3 H3 z Z r3=>?_⟩
  cases r3
  have f:=B.trans Z;obtain⟨g,xs,M,r⟩:=oc.ext Z;refine⟨c,xs,m,m',rfl,rfl,M,by rw[r.length];exact e3,?_⟩;have X:=L.ext f;have X3:=x.trans (x1.trans f);have s:c∈w i:=by rw[p1];exact Xe _ (List.mem_of_getElem? G)
  have N:c≠a:=fun z=>(Xt.mp n).1 (by rw[<- z];exact List.mem_of_getElem? G);have O:=(Xf.mp e).1;have rr:=(r.set (r1.mono f.ff) m');refine C.nx F3 A _ _ (X3.wr (g3 i c s).1 g) ⟨X.kt,X.sub.upd g,by simp[X.len],w,fun j t I=>?_,g2,fun j b hb=>?_⟩ hn
  .by_cases P:j=i
   .subst P
    rw[Xj O]at I;cases I;have ok3:=(Q j _ e);refine⟨_,q1,a,J,rfl,p1,n,f.free R<|Zt p,by rw[Qt N.symm];exact f.hh _ _ p,(l.ext f).set rr g (Xt.mp n).2 G⟩
   .rw[Xo<|Ne.symm P]at I
    obtain⟨u,U,T⟩:=Q j t I
    exact⟨u,U,(T.ext f).other fun z=>P<|g2 j i c z s⟩
  .obtain⟨U,T⟩:=g3 j b hb
   refine⟨U,?_⟩
   by_cases z:b=c
   .subst z;rw[QC];rintro⟨⟩
   .rw[Qt z]
    obtain⟨o,ho⟩:=U9 T;exact Zt (f.hh _ _ ho)
def L7 {L:Type}{f:List (Option Nat)}{wi:TI}{g:CIn->TG}{tee:CIn->TE}{xs:List L}{enc:L->PyData}{h:L->Qd}(hi:EvI K wi ρ (xs.map enc))(hl:xs.length<=1000)
 (hs:∀x∈xs,∀c,∃r,GTo K (g c) (enc x) (Jk f ρ) r/\EvO K (tee c) r (.ol<|h x)):EvO K (tLC f wi g (fun _=>WG) tee) ρ (.oll<|xs.map h):=fun N F σ H Q S q =>
 hi N F σ H _ S fun Z X J B W c=>by
  have hn:xs.length<=sizeLine:=YI (Vg hl);refine⟨fun i m O H=>m=xs.length-i/\i<=xs.length/\∃E n,Q0 Z X E H/\O=n.map V.ref/\n.Nodup/\(∀a∈n,X a=none)/\Zp E H n ((xs.take i).map h),⟨xs.length,by simp,XQ _,Z,[],Q0.refl B.fh,rfl,by simp,fun a w=>(nomatch w),trivial⟩,?_⟩
  rintro i m O H' ⟨rfl,hle,E,n,k,rfl,R,C,t⟩
  obtain⟨w1,w2⟩:=W E H' k.ff k.fh
  by_cases l:i<xs.length
  .have e:(xs.map enc)[i]?=some (enc xs[i]):=by simp[l]
   obtain⟨go,yl⟩:=w2 i _ e;refine .inr ⟨go,fun v G y=>?_⟩;obtain⟨Y,A,r3⟩:=yl v G y;obtain⟨r,k1,k2⟩:=hs xs[i] (X0 l) c;have S3:=(S.ext<|B.trans<|k.trans A).inner f;have tk:xs.take (i+1)=xs.take i++[xs[i]]:=by rw[W8];simp[l]
   have ol:=t.length;refine k1 N Y _ G v _ S3 r3 fun I S4=>?_;dsimp only[WG];rw[Xd rfl];refine k2 N Y I G _ S4 fun F5 H5 z p P U ok=>⟨?_,xs.length-(i+1),by omega,rfl,l,F5,n++[?_],k.trans<|A.trans P,?_,?_,?_,?_⟩
   .rw[Xl,ol,Xl,List.length_take];omega
   .exact(match z with|.ref b=>b|_=>0)
   all_goals obtain⟨b,rfl,rfl,o1⟩:=ok
   .simp
   .rw[WZ]
    refine⟨R,by simp,fun s j d hd=>?_⟩;have M:d=b:=by simpa using hd
    subst M;intro z;subst z;have u:G s=none:=U s Xb
    have:=(t.mem s j).2
    obtain⟨o,ho⟩:=U9 this;rw[A.hh _ _ ho]at u;cases u
   .intro s j
    rcases Xy.mp j with j|j
    .exact C s j
    .have:s=b:=by simpa using j
     subst this;exact(k.trans A).hh.free (U s Xb)
   .rw[tk,XB]
    exact(t.ext<|A.trans P).snoc o1
  .have e:i=xs.length:=by omega
   subst e;refine .inl ⟨by simpa using w1,fun a w=>?_⟩;rw[WA]at t;have T:a∉n:=fun z=>(t.mem a z).2 w;refine q E _ _ (a::n) ((B.trans k).trans (Q0.own k.fh w)) (fun b u=>?_) ⟨a,n,rfl,rfl,Xt.mpr ⟨T,R⟩,k.fh.free w,QC,t.other T⟩
   rcases Xg.mp u with rfl|u
   .exact(B.trans k).hh.free w
   .exact B.hh.free (C b u)
def Rw  (t:Qu K ta ρ (.list ds))(s:Qu K tb ρ (.int k))(h0:0<=k)(r:ds.length*k.toNat<=1000)(z:k<=1000000):EvO K (tOp N0 ta tb) ρ (.ol (List.replicate k.toNat ds).flatten):=fun B F w H Q S q =>
 YS t s S fun v C x y e l j=>by
  obtain⟨a,c,rfl,A,d,u⟩:=Ud (K:=K) l e.fh
  cases j
  have b:(2:Int)^63=9223372036854775808:=by decide
  refine⟨a,k,c,rfl,rfl,u,by rw[b];omega,by rw[b];omega,by rw[d.length];exact YI<|Vg r,fun p o=>?_⟩
  have i:∀n:Nat,Qy v (List.replicate n c).flatten (List.replicate n ds).flatten:=fun n=>by
   induction n with
   |zero=>exact .nil
   |succ n m=>rw[JA,JA,Ul,Ul];exact d.append m
  obtain⟨h,g,f⟩:=GI (K:=K) e o (i k.toNat);exact q _ _ _ _ h g f
theorem DT {a:Type}(d:a):∀n:Nat,(List.replicate n [d]).flatten=List.replicate n d
 |0=>rfl
 |n+1=>by rw[JA,Ul,DT d n];rfl
end
end L2
end
namespace PySem
section
variable {prog:Program}{w:World}{K:Type} [DecidableEq K] (knd:KeyKind prog w K)
def Yo (h:Heap) (b:List K×List K) (a:Addr):Prop := ∃o n p q,h.get? a=some o/\o.cls=.type "tuple" /\ o.data=.seq #[.ref p,.ref q] n/\IsTupleKey knd h b.1 p/\IsTupleKey knd h b.2 q
variable {knd}
def Yo.typeIs {s:Shared}  (x:Yo knd s.heap ks a):s.TypeIs (.ref a) "tuple" := let ⟨o,_,_,_,ho,hc,_⟩:=x;⟨o,ho,hc⟩
def Yo.inj  (i:Yo knd h x a)(g:Yo knd h y a):x=y:=by
 obtain⟨o,n,p,q,j,_,k,m,l⟩:=i;obtain⟨t,u,s,r,c,_,b,e,d⟩:=g
 cases Option.some.inj (j.symm.trans c)
 rw[k]at b;injection b with z _;have f:=X5 Array.toList z
 simp at f
 obtain⟨rfl,rfl⟩:=f;exact Prod.ext (m.inj e) (l.inj d)
def Yo.keeps   {es ep}(x:Yo knd h ks a)(f:h.get? d=some o)(i:o.data=.dict es ep)(e:Heap.SameBut d h h'):Yo knd h' ks a:=by
 obtain⟨j,n,p,q,c,k,b,m,l⟩:=x
 have g:a≠d:=fun z=>by
  subst z;cases Option.some.inj (c.symm.trans f);rw[i]at b;exact nomatch b
 exact⟨j,n,p,q,(e.2 a g).trans c,k,b,m.keeps f i e,l.keeps f i e⟩
noncomputable def Hk (knd:KeyKind prog w K)(a:List K×List K):Int:=reduceHash (Builtin.Tuple.tupleHashOf [tupleKeyHash knd a.1,tupleKeyHash knd a.2])
variable {A:Around}{E:Qb}{s:Shared}
def Zfl  (u:A.units+5<cLine)(j:Yo knd s.heap ks a)(h:Q (Hk knd ks) { s with toks:=s.toks+(ks.1.length+ks.2.length+3) }) :
 wpAny (model prog w) A (pyHash<|.ref a) Q E s:=by
 have hT:=j.typeIs;obtain⟨o,n,p,q,k,_,l,r,m⟩:=j;unfold pyHash pyHashByItsType;refine Xc (wpAny_cRoomFor_or (.inr<|by omega) ?_);refine Xc (wpAny_specialOf hT F.slot_tuple_hash.lookup ?_);show wpAny _ _ (if (some (Value.builtin "tuple.__hash__")==some Value.none)=true then _ else _) Q E s;rw[Xa<|by rw[beq_builtin_none];exact Xw];refine Xc (wpAny_specialOf hT F.slot_tuple_hash.lookup ?_);show wpAny _ _ (callSpecialIfBoundUnlessNone? (.ref a) "__hash__" _ >>= _) Q E s;refine Xc (wpAny_callSpecialIfBoundUnlessNone?_slot hT F.slot_tuple_hash<|wpAny_call_entry F.slot_tuple_hash hT F.entry_tuple_hash ?_<|F.args_tuple_hash_1 _);show wpAny _ _ (Builtin.Tuple.tupleItemsOf (.ref a) >>= _) _ _ s;refine Xc (wpAny_tupleItemsOf k l ?_);refine Xc ?_
 rw[<- Array.forIn_toList];refine wpAny_forIn_list _
  (fun c (b:Array Int) e=>(c=[.ref p,.ref q]/\b.toList=[]/\e=s)\/(c=[.ref q]/\b.toList=[tupleKeyHash knd ks.1]/\e={ s with toks:=s.toks+(ks.1.length+1) }) \/
   (c=[]/\b.toList=[tupleKeyHash knd ks.1,tupleKeyHash knd ks.2]/\e={ s with toks:=s.toks+(ks.1.length+1)+(ks.2.length+1) }))
  _ ?_ ?_ _ _ (.inl ⟨rfl,rfl,rfl⟩)
 .rintro x c b e (⟨d,f,rfl⟩|⟨d,f,rfl⟩|⟨d,_⟩)
  .injection d with i g
   subst i g;refine Xc (wpAny_pyHash_tuple ?hu1 r ?_)
   case hu1=>show A.units+1<cLine;omega
   exact Xq (.inr<|.inl ⟨rfl,by simp[f],rfl⟩)
  .injection d with i g
   subst i g;refine Xc (wpAny_pyHash_tuple ?hu2 m ?_)
   case hu2=>show A.units+1<cLine;omega
   exact Xq (.inr<|.inr ⟨rfl,by simp[f],rfl⟩)
  .cases d
 .rintro b e (⟨d,_⟩|⟨d,_⟩|⟨_,f,rfl⟩)
  .cases d
  .cases d
  show wpAny _ _ (retInt<|Builtin.Tuple.tupleHashOf b.toList) _ _ _;rw[f];refine wpAny_ret_mkInt ?_;show wpAny _ _ (if (decide (-(2:Int)^63<=Builtin.Tuple.tupleHashOf [tupleKeyHash knd ks.1,tupleKeyHash knd ks.2])&&decide (Builtin.Tuple.tupleHashOf [tupleKeyHash knd ks.1,tupleKeyHash knd ks.2]<2^63))=true then _ else _) Q E _;unfold Hk reduceHash at h;have t:s.toks+(ks.1.length+ks.2.length+3)=s.toks+(ks.1.length+1)+(ks.2.length+1)+1:=by omega
  rw[t]at h;split
  .rename_i d
   rw[Xd d]at h;exact Xq h
  .rename_i d
   rw[Xa d]at h;exact Xc (wpAny_rule<|Xq h)
def ON  (hu:A.units+1<cLine)(M:Yo knd s.heap x a)(I:Yo knd s.heap y b)(h:P (.done<|.ret<|.bool<|decide (x=y)) s) :
 wpAny (model prog w) A (Builtin.«tuple.__eq__» ⟨[.ref a,.ref b],[]⟩) P E s:=by
 have G:=I.typeIs;obtain⟨X,Z,p,q,o,_,z,F,D⟩:=M;obtain⟨W,Y,L,H,n,_,t,C,B⟩:=I;show wpAny _ _ (isInstance (.ref b) (.type "tuple") >>= _) _ _ s;refine Xc (wpAny_isInstance G isSubtype_tuple_tuple ?_);simp only[Uk,X6,if_false];refine Xc (wpAny_tupleItemsOf o z ?_);refine Xc (wpAny_tupleItemsOf n t ?_);refine Xc ?_
 have J:decide (x=y)=(decide (x.1=y.1)&&decide (x.2=y.2)):=by
  obtain⟨S,R⟩:=x;obtain⟨Q,O⟩:=y
  simp
 refine wpAny_forIn_list _
  (fun c r l=>r.1=none/\l=s/\((c=[(.ref p,.ref L),(.ref q,.ref H)])\/(c=[(.ref q,.ref H)]/\x.1=y.1)\/(c=[]/\x=y)))
  _ ?_ ?_ _ _ ⟨rfl,rfl,.inl rfl⟩
 .rintro⟨u,v⟩ c r l ⟨m,rfl,(d|⟨d,N⟩|⟨d,_⟩)⟩
  .injection d with k j
   injection k with i g;subst j i g;refine Xc (wpAny_eqBool_tuple (by omega) F C ?_)
   by_cases f:x.1=y.1
   .rw[XJ f]
    simp only[Uk,X6,if_false];exact Xq ⟨rfl,rfl,.inr<|.inl ⟨trivial,f⟩⟩
   .rw[XH f]
    simp only[Bool.not_false,if_true];rw[J,XH f,Bool.false_and]at h;exact Xc (Xq<|Xq<|Xq h)
  .injection d with k j
   injection k with i g;subst j i g;refine Xc (wpAny_eqBool_tuple (by omega) D B ?_)
   by_cases f:x.2=y.2
   .rw[XJ f]
    simp only[Uk,X6,if_false];exact Xq ⟨rfl,rfl,.inr<|.inr ⟨trivial,Prod.ext N f⟩⟩
   .rw[XH f]
    simp only[Bool.not_false,if_true];rw[J,XH f,Bool.and_false]at h;exact Xc (Xq<|Xq<|Xq h)
  .cases d
 .rintro⟨U,T⟩ l ⟨m,rfl,(d|⟨d,_⟩|⟨_,e⟩)⟩
  .cases d
  .cases d
  simp only at m
  subst m;refine Xq ?_;rw[XJ e]at h;exact h
def Zf1  (g:A.units+5<cLine)(d:Yo knd s.heap x a)(f:Yo knd s.heap y b)(h:Q (decide (x=y)) s) :
 wpAny (model prog w) A (eqBool (.ref a)<|.ref b) Q E s:=by
 unfold eqBool;try with_reducible refine wpAny_holding ?_;show wpAny _ _ (if (Value.ref a==Value.ref b)=true then _ else _) Q E s
 by_cases c:(Value.ref a==Value.ref b)=true
 .rw[Xd c]
  have e:a=b:=by have:=eq_of_beq c;injection this
  subst e;cases d.inj f;exact Xc (wpAny_rule<|Xq<|by simpa using h)
 .rw[Xa c]
  exact Xc (wpAny_richCompare_same_room (op:=.Eq) d.typeIs f.typeIs F.slot_tuple_eq
   (wpAny_call_entry F.slot_tuple_eq d.typeIs F.entry_tuple_eq (ON (by show _+1<cLine;simp;omega) d f ⟨_,rfl,(by rintro⟨⟩),wpAny_truthy_bool h⟩)<|F.args_tuple_eq_2 _ _) (by omega))
def OG (n:Nat)  (i:IsTupleKey knd s.heap ks a)(h:Q true s):wpAny (model prog w) A (eqIsQuiet (n+1)<|.ref a) Q E s:=by
 have hT:=i.typeIs;obtain⟨o,d,m,j,_,l,k⟩:=i;unfold eqIsQuiet;refine Xc (wpAny_specialOf hT F.slot_tuple_eq.lookup ?_);show wpAny _ _ (isInstance (.ref a) (.type "tuple") >>= _) _ _ s;refine Xc (wpAny_isInstance hT isSubtype_tuple_tuple ?_);simp only[Uk,X6,if_false];refine Xc (wpAny_seqItems j l ?_);refine Xc ?_;show wpAny _ _ (forIn d _ _) _ _ s;rw[<- Array.forIn_toList];refine wpAny_forIn_list _ (fun b r e=>r.1=none/\e=s/\∀v∈b,carriedByValue v=true) _ ?_ ?_ _ _ ⟨rfl,rfl,k.byValue⟩
 .rintro v b r e ⟨g,rfl,c⟩
  rw[eqIsQuiet_byValue _<|c v Xb];refine Xc (Xq ?_);simp only[Uk,X6,if_false];exact Xq ⟨rfl,rfl,fun u f=>c u<|Xe _ f⟩
 .rintro⟨q,p⟩ e ⟨g,rfl,_⟩
  simp only at g
  subst g;exact Xq h
def Zen  (j:Yo knd s.heap ks a)(h:Q true s):wpAny (model prog w) A (eqIsQuiet 8<|.ref a) Q E s:=by
 have hT:=j.typeIs;obtain⟨o,n,p,q,l,_,m,x,t⟩:=j;unfold eqIsQuiet;refine Xc (wpAny_specialOf hT F.slot_tuple_eq.lookup ?_);show wpAny _ _ (isInstance (.ref a) (.type "tuple") >>= _) _ _ s;refine Xc (wpAny_isInstance hT isSubtype_tuple_tuple ?_);simp only[Uk,X6,if_false];refine Xc (wpAny_seqItems l m ?_);refine Xc ?_;show wpAny _ _ (forIn #[Value.ref p,Value.ref q] _ _) _ _ s;rw[<- Array.forIn_toList];refine wpAny_forIn_list _ (fun b r e=>r.1=none/\e=s/\∀v∈b,∃z i,v=.ref z/\IsTupleKey knd s.heap i z) _ ?_ ?_ _ _ ⟨rfl,rfl,fun v d=>?_⟩
 .rintro v b r e ⟨g,rfl,c⟩
  obtain⟨z,i,rfl,k⟩:=c v Xb;refine Xc (OG 6 k ?_);simp only[Uk,X6,if_false];exact Xq ⟨rfl,rfl,fun u f=>c u<|Xe _ f⟩
 .rintro⟨B,y⟩ e ⟨g,rfl,_⟩
  simp only at g
  subst g;exact Xq h
 .rcases Xg.mp d with rfl|d
  .exact⟨p,_,rfl,x⟩
  .rcases Xg.mp d with rfl|d
   .exact⟨q,_,rfl,t⟩
   .cases d
end
noncomputable def HN {prog:Program}{w:World}{K:Type} [DecidableEq K] (knd:KeyKind prog w K):HeapKind prog w (List K×List K) where
 is:=Yo knd
 hash:=Hk knd
 draws:=fun e=>e.1.length+e.2.length+3
 room:=fun A=>A.units+5<cLine
 inj:=fun b a=>b.inj a
 keeps:=fun x g hd f=>x.keeps g hd f
 pyHash:=fun c d h=>Zfl c d h
 eqBool:=fun c b a h=>Zf1 c b a h
 quiet:=fun d h=>Zen d h
section
variable {prog:Program}{w:World}{K:Type} [DecidableEq K] {knd:HeapKind prog w K}{A:Around}{E:Qb}{s:Shared}
def Zdf   (u:knd.room A)(b:knd.is s.heap k a)(z:s.heap.DictOfH knd d xs)
 (c:∀p,atKey xs k=some p->Q p.2 { s with toks:=s.toks+knd.draws k })
 (m:atKey xs k=none->∀h',h'.DictOfH knd d (xs++[(k,a,dflt)])->Heap.SameBut d s.heap h'->Q dflt { s with heap:=h',toks:=s.toks+knd.draws k })
 (hsz:xs.length<=sizeLine) :
 wpAny (model prog w) A (dictSetDefault d (.ref a) dflt) Q E s:=by
 obtain⟨o,D,C,h,B,g,q,n,r⟩:=z;unfold dictSetDefault;try with_reducible refine wpAny_holding ?_;refine Xc (knd.pyHash u b ?_);refine Xc (wpAny_dictFind_heap (s:={ s with toks:=s.toks+knd.draws k }) u b h g q n r ?_ ?_)
 .intro l
  have i:k∉xs.map (·.1):=not_mem_keys_of_get l
  refine Xc (wpAny_rule (Xc (wpAny_updateDictKeys (hz:=by have e:=size_of_entries q;omega) (s:={ s with toks:=s.toks+knd.draws k }) h g (Xq (m (atKey_none_of_get l) _ ⟨_,_,C+1,X8 _ h<|Obj.isFreed_of_dict<|Obj.data_mapDictKeys g _,
   B.mapDictKeys _,Obj.data_mapDictKeys g _,?_,?_,?_⟩<|Heap.SameBut.update ..)))))
  .simp[q,entryOfKey]
  .intro x f
   rcases Xy.mp f with f|f
   .exact knd.keeps (n x f) h g (Heap.SameBut.update ..)
   .simp only[Xh]at f
    subst f;exact knd.keeps b h g (Heap.SameBut.update ..)
  .rw[XB,WZ]
   refine⟨r,by simp,?_⟩;intro x f y t;simp only[Xx,UY,Xh]at t;subst t;exact fun e=>i (e▸f)
 .intro j p v
  refine Xc (wpAny_dictEntries (s:={ s with toks:=s.toks+knd.draws k }) h g ?_);rw[entry_at q j,v];exact Xc (wpAny_rule<|Xq<|c _<|atKey_of_get r v)
def ZdC (knd:HeapKind prog w K)(d a:Addr)(l:(d==sysModules)=false)(dflt:Value) :
 MeetsIn prog w (Builtin.«dict.setdefault» ⟨[.ref d,.ref a,dflt],[]⟩) (fun A R s=>knd.room A.in1/\∃k xs,knd.is s.heap k a/\s.heap.DictOfH knd d xs/\xs.length<=sizeLine /\
  (∀p,atKey xs k=some p->R (.ok<|.ret p.2) { s with toks:=s.toks+knd.draws k }) /\
  (atKey xs k=none->∀h',h'.DictOfH knd d (xs++[(k,a,dflt)])->Heap.SameBut d s.heap h'->R (.ok<|.ret dflt) { s with heap:=h',toks:=s.toks+knd.draws k })) :=
 .of_wp fun A R s ⟨h,k,xs,b,f,g,n,m⟩=>by
  unfold Builtin.«dict.setdefault»;refine Xc ?_;unfold Builtin.Dict.keyAndDefault;refine Xc (wpAny_notOrdered_dict f.typeIs ?_);show wpAny _ _ (pure (d,Value.ref a,some dflt)) _ _ s;refine Xq ?_;show wpAny _ _ (if (d==sysModules)=true then _ else (dictSetDefault d (.ref a) dflt >>= _)) _ _ s;rw[Xa<|by rw[l];exact Xw];exact Xc (Zdf h b f (fun p i=>Xq ⟨p.2,rfl,n p i⟩) (fun j h' e c=>Xq ⟨dflt,rfl,m j h' e c⟩) g)
end
end PySem
namespace L2
open PySem PySem.Spec PyProof.Rows
section
variable {κ:Type} [DecidableEq κ]
noncomputable def Z1 (kvs:List (κ×V))(k:κ):Option V:=(kvs.find? fun a=>decide (a.1=k)).map (·.2)
noncomputable def VZ (kvs:List (κ×V))(k:κ)(v:V):List (κ×V) :=
 if (kvs.any fun a=>decide (a.1=k))=true then kvs.map (fun a=>if a.1=k then (a.1,v) else a) else kvs++[(k,v)]
def Y5 {p:κ×V}  (e:p.1=k):Z1 (p::r) k=some p.2:=by simp[Z1,Xz,e]
def Y4 {p:κ×V}  (e:¬p.1=k):Z1 (p::r) k=Z1 r k:=by simp[Z1,Xz,e]
theorem SO (k:κ):∀kvs:List (κ×V),(kvs.any fun a=>decide (a.1=k))=(Z1 kvs k).isSome
 |[]=>rfl
 |p::r=>by
   rw[List.any_cons];by_cases e:p.1=k
   .simp only[Y5 e,XJ e,Bool.true_or,Option.isSome_some]
   .rw[Y4 e,XH e,Bool.false_or];exact SO k r
theorem Pv (k j:κ)(y:V):∀kvs:List (κ×V),Z1 kvs k=none->Z1 (kvs++[(k,y)]) j=if j=k then some y else Z1 kvs j
 |[],_=>by
   by_cases e:k=j
   .rw[Xd e.symm];exact Y5 (p:=(k,y)) e
   .rw[Xa fun z=>e z.symm];exact Y4 (p:=(k,y)) e
 |p::r,a=>by
   rw[J8];have b:¬p.1=k:=fun z=>by rw[Y5 z]at a;cases a
   rw[Y4 b]at a;have c:=Pv k j y r a
   by_cases e:p.1=j
   .rw[Y5 e,Y5 e,Xa fun z=>b<|e.trans z]
   .rw[Y4 e,Y4 e,c]
def Tu (kvs:List (κ×V))(k:κ)(v:V):(VZ kvs k v).length<=kvs.length+1:=by
 unfold VZ;split
 .rw[Xl];omega
 .rw[Xs,XS,List.length_nil];omega
def ZM.isSome_eq  (r:ZM o u):o.isSome=u.isSome:=by
 cases o with
 |none=>cases u with
   |none=>rfl
   |some _=>exact(show False from r).elim
 |some _=>cases u with
   |none=>exact(show False from r).elim
   |some _=>rfl
def ZM.getD   (r:ZM o u)(a:QK d d'):QK (o.getD d) (u.getD d'):=by
 cases o with
 |none=>cases u with
   |none=>exact a
   |some _=>exact(show False from r).elim
 |some _=>cases u with
   |none=>exact(show False from r).elim
   |some _=>exact r
def KV.val  (r:KV kvs vs)(k:κ):ZM (Z1 kvs k) (valueAt vs k):=by
 unfold KV at r;induction r with
 |nil=>exact True.intro
 |@cons p q i a h t f =>
   obtain⟨d,g⟩:=h
   by_cases e:p.1=k
   .have c:q.1=k:=d.symm.trans e
    have b:valueAt (q::a) k=some q.2:=by simp[valueAt,Xz,c]
    rw[Y5 e,b];exact g
   .have c:¬q.1=k:=fun z=>e (d.trans z)
    have b:valueAt (q::a) k=valueAt a k:=by simp[valueAt,Xz,c]
    rw[Y4 e,b];exact f
def KV.any  (r:KV kvs vs)(k:κ):(kvs.any fun a=>decide (a.1=k))=vs.any fun a=>decide (a.1=k):=by
 unfold KV at r;induction r with
 |nil=>rfl
 |cons h t b=>rw[List.any_cons,List.any_cons,b,h.1]
def KV.repl  (r:KV kvs vs)(k:κ)  (c:QK y u) :
 KV (kvs.map fun a=>if a.1=k then (a.1,y) else a) (vs.map fun a=>if a.1=k then (a.1,u) else a):=by
 unfold KV at r ⊢;induction r with
 |nil=>exact .nil
 |@cons p q i g h t d =>
   rw[Xx,Xx];refine .cons ?_ d;obtain⟨b,f⟩:=h
   by_cases e:p.1=k
   .rw[Xd e,Xd<|b.symm.trans e];exact⟨b,c⟩
   .rw[Xa e,Xa fun z=>e<|b.trans z];exact⟨b,f⟩
def KV.put  (r:KV kvs vs)(k:κ)  (a:QK y u):KV (VZ kvs k y) (stored vs k u):=by
 unfold VZ stored;rw[r.any k];by_cases e:(vs.any fun b=>decide (b.1=k))=true
 .rw[Xd e,Xd e];exact r.repl k a
 .rw[Xa e,Xa e];exact Paired.snoc r ⟨rfl,a⟩
def KV.keys {kvs:List (κ×V)}{vs:List (κ×Value)}(r:KV kvs vs):kvs.map (·.1)=vs.map (·.1):=by
 unfold KV at r;induction r with
 |nil=>rfl
 |cons h t a=>rw[Xx,Xx,a,h.1]
def KV.length {kvs:List (κ×V)}{vs:List (κ×Value)}(r:KV kvs vs):kvs.length=vs.length:=Paired.length r
end
def Uz   (r:QK (kV k) u):(ZF P w).is k u=true:=by
 cases k with
 |inl i=>obtain⟨t,e⟩:=(show ∃t,u=Value.int i t from r);subst e;exact OW P w i t
 |inr x=>obtain⟨t,e⟩:=(show ∃t,u=Value.str x t from r);subst e;exact OC P w x t
theorem PF {P:Program}{w:World}:∀{a:List Key} {us:Qe},QS (a.map kV) us->ItemsAre (ZF P w) a us
 |[],_,r=>by rw[UY]at r;cases r;exact .nil
 |k::a,_,r=>by
   rw[Xx]at r;cases r with
   |cons h t=>exact .cons (Uz h) (PF t)
abbrev KT (H:Hp):List (List Key×V)->List (List Key×Addr×Value)->Prop:=Paired fun p q=>p.1=q.1/\H q.2.1=some (.tup<|p.1.map kV)/\QK p.2 q.2.2
def KT.val  (r:KT H kvs xs)(k:List Key):ZM (Z1 kvs k) ((atKey xs k).map (·.2)):=by
 induction r with
 |nil=>exact True.intro
 |@cons p q i a h t f =>
   obtain⟨d,_,g⟩:=h
   by_cases e:p.1=k
   .have c:q.1=k:=d.symm.trans e
    have b:atKey (q::a) k=some q.2:=by simp[atKey,Xz,c]
    rw[Y5 e,b];exact g
   .have c:¬q.1=k:=fun z=>e (d.trans z)
    have b:atKey (q::a) k=atKey a k:=by simp[atKey,Xz,c]
    rw[Y4 e,b];exact f
def KT.repl  (r:KT H kvs xs)(k:List Key)  (d:QK y u) :
 KT H (kvs.map fun b=>if b.1=k then (b.1,y) else b) (xs.map<|putAt k u):=by
 induction r with
 |nil=>exact .nil
 |@cons p q j i h t f =>
   rw[Xx,Xx];refine .cons ?_ f;obtain⟨a,c,g⟩:=h;unfold putAt;by_cases e:p.1=k
   .rw[Xd e,Xd<|a.symm.trans e];exact⟨a,c,d⟩
   .rw[Xa e,Xa fun z=>e<|a.trans z];exact⟨a,c,g⟩
def KT.put  (r:KT H kvs xs)(k:List Key)  (d:H b=some (.tup<|k.map kV))(a:QK y u) :
 KT H (VZ kvs k y) (storedH xs k b u):=by
 have e:(kvs.any fun c=>decide (c.1=k))=(atKey xs k).isSome:=by
  rw[SO,(r.val k).isSome_eq,J9]
 unfold VZ storedH;rw[e];by_cases q:(atKey xs k).isSome=true
 .rw[Xd q,Xd q];exact r.repl k a
 .rw[Xa q,Xa q];exact Paired.snoc r ⟨rfl,d,a⟩
def KT.keeps  (r:KT H kvs xs)(a:∀b ys,H b=some (.tup ys)->H' b=some (.tup ys)):KT H' kvs xs :=
 Paired.mapP r fun _ _ z=>⟨z.1,a _ _ z.2.1,z.2.2⟩
section
variable {P:Program}{w:World}{H:Hp}{h:Heap}{a:Addr}
def NC (b:HOk P w H h)(e:Rd H a u):Z4 P w H h a u:=e.ok b
def Jj (b:HOk P w H h)(e:Rd H a (.dK kvs)):kvs.length<=sizeLine/\(a==sysModules)=false/\∃vs,KV kvs vs/\h.DictOf (ZF P w) a vs :=
 show Z4 P w H h a (.dK kvs) from NC b e
def Dd (b:HOk P w H h)(e:H a=some (.dK kvs)):kvs.length<=sizeLine/\(a==sysModules)=false/\∃vs,KV kvs vs/\h.DictOf (ZF P w) a vs:=Jj b (.inl e)
def Wm (c:HOk P w H h)(e:H a=some (.tup<|ks.map kV)):(tupleKind<|ZF P w).is h ks a:=by
 obtain⟨_,b,r,o,g,f,n,d⟩:=(show Z4 P w H h a (.tup<|ks.map kV) from c a _ e)
 exact⟨o,b.toArray,n,g,f,d,by simpa using PF r⟩
def JR (d:HOk P w H h)(e:Rd H a (.dT kvs)):kvs.length<=sizeLine/\(a==sysModules)=false /\
 ∃xs,KT H kvs xs/\h.DictOfH (tupleKind<|ZF P w) a xs:=by
 obtain⟨z,y,xs,r,o,u,v,s,n,k,j,i⟩:=(show Z4 P w H h a (.dT kvs) from NC d e);refine⟨z,y,xs,r,o,u,v,s,n,k,j,fun x b=>?_,i⟩
 have c:∀{l:List (List Key×V)} {m:List (List Key×Addr×Value)},KT H l m->∀x∈m,(tupleKind<|ZF P w).is h x.1 x.2.1:=by
  intro l m q;induction q with
  |nil=>intro x b;exact nomatch b
  |@cons p q B A f t g =>
    intro x b;rcases Xg.mp b with e|b
    .subst e
     exact Wm d (by rw[<- f.1];exact f.2.1)
    .exact g x b
 exact c r x b
def Dq (b:HOk P w H h)(e:H a=some (.dT kvs)):kvs.length<=sizeLine/\(a==sysModules)=false /\
 ∃xs,KT H kvs xs/\h.DictOfH (tupleKind<|ZF P w) a xs:=JR b (.inl e)
end
def V4 (H:Hp)(a:Addr)(y:V)(r:Option V):Prop :=
 (∃c k,Rd H a (.dK c)/\y=kV k/\r=Z1 c k)\/∃c k b,Rd H a (.dT c)/\y=.ref b/\H b=some (.tup<|k.map kV)/\r=Z1 c k
def Jh (H:Hp)(a:Addr)(y v:V)(d:Hp):Prop :=
 (∃c k,H a=some (.dK c)/\y=kV k/\c.length<sizeLine/\d=upd H a (.dK<|VZ c k v)) \/
 ∃c k b,H a=some (.dT c)/\y=.ref b/\H b=some (.tup<|k.map kV)/\c.length<sizeLine/\d=upd H a (.dT<|VZ c k v)
def V4.k {H:Hp}{a:Addr}{kvs:List (Key×V)}{k:Key}(e:H a=some (.dK kvs)):V4 H a (kV k) (Z1 kvs k):=.inl ⟨kvs,k,.inl e,rfl,rfl⟩
def V4.t  {kvs:List (List Key×V)}{k:List Key}(e:H a=some (.dT kvs))(c:H b=some (.tup<|k.map kV)):V4 H a (.ref b) (Z1 kvs k):=.inr ⟨kvs,k,b,.inl e,rfl,c,rfl⟩
def Jh.k {H:Hp}{a:Addr}{kvs:List (Key×V)}{k:Key}{v:V}(e:H a=some (.dK kvs))(b:kvs.length<sizeLine):Jh H a (kV k) v (upd H a<|.dK<|VZ kvs k v):=.inl ⟨kvs,k,e,rfl,b,rfl⟩
def Jh.t {H:Hp}{a b:Addr}{kvs:List (List Key×V)}{k:List Key}{v:V}(e:H a=some (.dT kvs))(d:H b=some (.tup<|k.map kV))(c:kvs.length<sizeLine) :
 Jh H a (.ref b) v (upd H a<|.dT<|VZ kvs k v):=.inr ⟨kvs,k,b,e,rfl,d,c,rfl⟩
section
variable {X:Cx}{XaV:Qc}{σ:St}{H:Hp}{s:Shared}{a:Addr}{y v:V}{u r:Value}{o:Option V}{A:Around}{E:Qb}
def Qr.big (I:Qr X XaV σ H s):sysModules<s.heap.objs.size:=by
 have h:mainGlobals<s.heap.objs.size:=(I.mod.glob.keeps I.bk).lt;exact Nat.lt_trans (by decide) h
def EF (C:A.units+1<cLine)(I:Qr X XaV σ H s)(g:V4 H a y (some v))(w:QK y u)(h:∀f t,Qr X XaV σ H t->QK v f->Q f t) :
 wpAny (model X.prog X.w) A (getItem (.ref a) u) Q E s:=by
 rcases g with ⟨i,k,e,n,l⟩|⟨i,k,b,e,n,G,l⟩
 .subst n
  obtain⟨z,F,B,d,q⟩:=Jj I.hok e;obtain⟨f,j,c⟩:=ZM.some_of (v:=v) (o:=valueAt B k) (by rw[l];exact d.val k);exact wpAny_getItem_of (Uz w) q.mapOf j (h f _ (I.tok _) c)
 .subst n
  cases (show u=Value.ref b from w)
  obtain⟨z,F,x,d,q⟩:=JR I.hok e;obtain⟨f,j,c⟩:=ZM.some_of (v:=v) (o:=(atKey x k).map (·.2)) (by rw[l];exact d.val k);obtain⟨p,D,m⟩:=Option.map_eq_some_iff.mp j;refine wpAny_getItem_heap (tupleKind_room_in1 C) (Wm I.hok G) q D ?_;rw[m];exact h f _ (I.tok _) c
def Lc (p:A.units+1<cLine)(I:Qr X XaV σ H s)(g:V4 H a y o)(n:QK y u)(h:∀m,Qr X XaV σ H m->Q (.bool o.isSome) m) :
 wpAny (model X.prog X.w) A (compareOp .In u<|.ref a) Q E s:=by
 rcases g with ⟨d,k,e,i,l⟩|⟨d,k,b,e,i,t,l⟩
 .subst i
  obtain⟨z,f,x,c,j⟩:=Jj I.hok e;refine wpAny_in_of (Uz n) f j.mapOf ?_;rw[<- (c.val k).isSome_eq,<- l];exact h _ (I.tok _)
 .subst i
  cases (show u=Value.ref b from n)
  obtain⟨z,f,w,c,j⟩:=JR I.hok e;refine wpAny_in_heap (tupleKind_room_in1 p) (Wm I.hok t) f j ?_;have q:=(c.val k).isSome_eq;rw[J9]at q;rw[<- q,<- l];exact h _ (I.tok _)
def F6 (p:A.units+1<cLine)(I:Qr X XaV σ H s)(g:V4 H a y o)(n:QK y u)(h:∀m,Qr X XaV σ H m->Q (.bool<|!o.isSome) m) :
 wpAny (model X.prog X.w) A (compareOp .NotIn u<|.ref a) Q E s:=by
 rcases g with ⟨d,k,e,i,l⟩|⟨d,k,b,e,i,t,l⟩
 .subst i
  obtain⟨z,f,x,c,j⟩:=Jj I.hok e;refine wpAny_notIn_of (Uz n) f j.mapOf ?_;rw[<- (c.val k).isSome_eq,<- l];exact h _ (I.tok _)
 .subst i
  cases (show u=Value.ref b from n)
  obtain⟨z,f,w,c,j⟩:=JR I.hok e;refine wpAny_notIn_heap (tupleKind_room_in1 p) (Wm I.hok t) f j ?_;have q:=(c.val k).isSome_eq;rw[J9]at q;rw[<- q,<- l];exact h _ (I.tok _)
def GG  (I:Qr X XaV σ H s)(d:Mut (H a))(f:Heap.SameBut a s.heap h')(g:∃q,h'.get? a=some q)(c:Z4 X.prog X.w (upd H a ob) h' a ob) :
 Qr X XaV σ (upd H a ob) { s with heap:=h',toks:=t' } :=
 I.write (x:=a) (e:=a) d (.inl rfl) (fun b q h z=>(f.2 b h).trans z) g c
def RI    (z:kvs.length<=sizeLine)(c:(a==sysModules)=false)(b:KV kvs vs)(d:h'.DictOf (ZF P w) a vs) :
 Z4 P w H' h' a (.dK kvs):=⟨z,c,vs,b,d⟩
def Od  (O:A.units+1<cLine)(I:Qr X XaV σ H s)(g:Jh H a y v H')(D:QK y u)(F:QK v r)(h:∀C,Qr X XaV σ H' C->Q () C) :
 wpAny (model X.prog X.w) A (setItem (.ref a) u r) Q E s:=by
 rcases g with ⟨f,k,e,w,l,x⟩|⟨f,k,b,e,w,L,l,x⟩
 .subst w x
  obtain⟨z,t,N,d,B⟩:=Dd I.hok e;have m:N.length<=sizeLine:=by rw[<- d.length];exact z
  have p:(VZ f k v).length<=sizeLine:=by have:=Tu f k v;omega
  refine wpAny_setItem_pairs (hsz:=m) (Uz D) B fun G i n=>h _ ?_;have P:∃q,G.get? a=some q:=let ⟨q,_,_,j,_⟩:=i;⟨q,j⟩;exact GG I (by rw[e];exact True.intro) n P (RI p t (d.put k F) i)
 .subst w x
  cases (show u=Value.ref b from D)
  obtain⟨z,t,M,d,B⟩:=Dq I.hok e;have m:M.length<=sizeLine:=by rw[<- Paired.length d];exact z
  have p:(VZ f k v).length<=sizeLine:=by have:=Tu f k v;omega
  refine wpAny_setItem_heap (hsz:=m) (tupleKind_room_in1 O) (Wm I.hok L) B fun G i n=>h _ ?_;obtain⟨q,W,Y,j,U,T,S,_,R⟩:=i;refine GG I (by rw[e];exact True.intro) n ⟨q,j⟩ ⟨p,t,_,(d.put k L F).keeps fun c Z J=>?_,q,W,Y,j,U,T,S,R⟩;rw[Qt<|NV J e fun z=>nomatch z];exact J
end
def MN (i:Expr):Prop := ∀a b,subscripted i false a b=operate [a,b] (getItem a b)
def Sq {prog:Program}{w:World}{A:Around}{E:Qb}{s:Shared}{env:Env}{b a:Expr}{e:Pos}{T k:String}{Q:Qb}
 (m:typeLookup (.type T) "__getitem__"=pure (some<|.builtin k)) (l:MN a)
 (h:wpAny (model prog w) A (eval b env) (fun o j=>wpAny (model prog w) A (eval a env) (fun i d=>d.TypeIs o T/\wpAny (model prog w) A (getItem o i) Q E d) E j) E s) :
 wpAny (model prog w) A (eval (.Subscript b a e) env) Q E s:=by
 refine Subscript_ (wpAny_mono h (fun o j p=>wpAny_mono p (fun i d f=>?_) fun _ _ x=>x) fun _ _ x=>x);obtain⟨hT,f⟩:=f;unfold subscriptTail;refine Xc ?_;rw[getitemInPython_of_ne hT.not_modules];refine Xc (wpAny_specialOf hT m ?_)
 have c:wpAny (model prog w) A (subscripted a false o i) (fun r g=>wpAny (model prog w) A (letTemporaryGo b o r >>= fun _=>pure r) Q E g) E d:=by
  rw[l o i];exact wpAny_operating (wpAny_mono f (fun r g n=>Xc<|wpAny_letTemporaryGo<|Xq n) fun _ _ x=>x)
 first
  |exact Xq (Xc c)
  |exact Xc (Xq<|Xc c)
  |exact Xc c
def O1 {X:Cx} {f:Qc} {h:St} {H:Hp} {s:Shared} {a:Addr} {y:V} {o:Option V} (I:Qr X f h H s) (g:V4 H a y o):s.TypeIs (.ref a) "dict" := by
 rcases g with ⟨c,k,e,_,_⟩|⟨c,k,b,e,_,_,_⟩
 .obtain⟨_,_,j,_,d⟩:=Jj I.hok e
  exact d.typeIs
 .obtain⟨_,_,i,_,d⟩:=JR I.hok e
  exact d.typeIs
def Dn (e d:TE):TE:=fun b H Q=>e b H fun x f=>d b f fun y c=>∃a v,x=.ref a/\V4 c a y (some v)/\Q v c
def Bf (d e:TE):TE:=fun b H Q=>d b H fun y f=>e b f fun x c=>∃a o,x=.ref a/\V4 c a y o/\Q (.bl o.isSome) c
def Sr (d e:TE):TE:=fun b H Q=>d b H fun y f=>e b f fun x c=>∃a o,x=.ref a/\V4 c a y o/\Q (.bl<|!o.isSome) c
def Dl (f d e:TE):TS:=fun D b H=>e b H fun v i=>f b i fun x h=>d b h fun y g=>∃a c,x=.ref a/\Jh g a y v c/\D.nx b c
section
variable {X:Cx}{o i value:Expr}{pos pos':Pos}{td ty tv:TE}
def BD (n:X.A.units+1<cLine)(q:PE X o td)(r:PE X i ty)(p:MN i):PE X (.Subscript o i pos) (Dn td ty):=by
 intro b s d H Q I h;refine Sq PySem.F.slot_dict_getitem.lookup p (Q9 (q b s d H _ I h) ?_);rintro u f ⟨x,B,z,k,m⟩;refine Q9 (r b f d B _ z m) ?_;rintro F E ⟨y,A,e,j,a,v,t,g,l⟩;subst t;obtain rfl:u=Value.ref a:=k
 exact⟨O1 e g,EF n e g j fun C D w c=>⟨v,A,w,c,l⟩⟩
def DG (m:X.A.units+1<cLine)(p:PE X i ty)(n:PE X o td):PC X .In i o (Bf ty td):=by
 intro b s c H Q I h;refine Q9 (p b s c H _ I h) ?_;rintro C d ⟨y,z,v,e,k⟩;refine Q9 (n b d c z _ v k) ?_;rintro u B ⟨x,w,t,f,a,l,q,g,j⟩;subst q;obtain rfl:u=Value.ref a:=f;exact Lc m t g e fun A r=>⟨.bl l.isSome,w,r,rfl,j⟩
def Im (m:X.A.units+1<cLine)(p:PE X i ty)(n:PE X o td):PC X .NotIn i o (Sr ty td):=by
 intro b s c H Q I h;refine Q9 (p b s c H _ I h) ?_;rintro C d ⟨y,z,v,e,k⟩;refine Q9 (n b d c z _ v k) ?_;rintro u B ⟨x,w,t,f,a,l,q,g,j⟩;subst q;obtain rfl:u=Value.ref a:=f;exact F6 m t g e fun A r=>⟨.bl<|!l.isSome,w,r,rfl,j⟩
def DY (q:X.A.units+1<cLine)(w:PE X o td)(z:PE X i ty)(p:PE X value tv)(t:swapsWith value (some<|.Subscript o i pos') pos.line X.env=pure false) :
 PS X (.Assign [.Subscript o i pos'] value pos) (Dl td ty tv):=by
 intro b s c H D I h;refine wpAny_Assign_Subscript (Q9 (p b s c H _ I h) ?_) t;rintro r e ⟨v,L,F,k,n⟩;refine Q9 (w b e c L _ F n) ?_;rintro u d ⟨x,J,E,j,m⟩;refine Q9 (z b d c J _ E m) ?_;rintro O N ⟨y,P,C,f,a,G,A,g,l⟩;subst A;obtain rfl:u=Value.ref a:=j;exact Od q C g f k fun M B=>⟨c,G,B,l⟩
end
def CT  (h:Heap) (a:sysModules<h.objs.size):Z4 P w H (h.push { cls:=.type "dict",data:=.dict #[] }) h.objs.size (.dK []) :=
 ⟨XQ _,beq_eq_false_iff_ne.mpr<|Ne.symm<|Xu a,[],.nil,Heap.DictOf.new h⟩
def SD  (h:Heap) (a:sysModules<h.objs.size):Z4 P w H (h.push { cls:=.type "dict",data:=.dict #[] }) h.objs.size (.dT []) :=
 ⟨XQ _,beq_eq_false_iff_ne.mpr<|Ne.symm<|Xu a,[],.nil,_,#[],0,XF _ rfl,⟨rfl,rfl,rfl⟩,rfl,rfl,JD⟩
def Rl:TE:=fun _ H Q=>∀p,H p=none->Q (.ref p) (upd H p<|.dK [])
def LR:TE:=fun _ H Q=>∀p,H p=none->Q (.ref p) (upd H p<|.dT [])
section
variable {X:Cx}{pos:Pos}
def Hq:PE X (.Dict [] [] pos) Rl:=fun b s c H Q I h =>
 wpAny_Dict_empty ⟨.ref s.heap.objs.size,_,I.laid (a:=s.heap.objs.size) (o:=.dK []) (t':=s.toks) (fun _ _ q=>Xi _ q) (Xv _)<|CT s.heap I.big,rfl,h _<|I.hok.fresh<|Xv _⟩
def En:PE X (.Dict [] [] pos) LR:=fun b s c H Q I h =>
 wpAny_Dict_empty ⟨.ref s.heap.objs.size,_,I.laid (a:=s.heap.objs.size) (o:=.dT []) (t':=s.toks) (fun _ _ q=>Xi _ q) (Xv _)<|SD s.heap I.big,rfl,h _<|I.hok.fresh<|Xv _⟩
end
structure M2 (X:Cx)(o:Expr)(m:Str)(apos:Pos)(e f:Expr)(cpos:Pos):Prop where
 base:attributeBase o m X.env (eval o X.env)=eval o X.env
 few:((backTo cpos<|starEach [e,f] X.env).all (fun x => !x.1)&&(backToKw cpos<|keywordEach [] X.env).all (fun x=>x.1.isSome)
  && decide (([e,f]:Qi).length+([]:List Keyword).length+(if ([]:List Keyword).isEmpty then 0 else 1)<30))=true
 line:(apos.endLine==cpos.line)=true
 trees:backTo cpos (starEach [e,f] X.env)=[(false,eval e X.env),(false,eval f X.env)]
def IsD (H:Hp)(a:Addr):Prop:=(∃b,Rd H a<|.dK b)\/∃b,Rd H a (.dT b)
def Ri {X:Cx}{j:Qc}{k:St}{H:Hp}{s:Shared}{a:Addr}(I:Qr X j k H s)(d:IsD H a) :
 s.TypeIs (.ref a) "dict" /\ (∀b,Value.ref a=.ref b->∃ob,s.heap.get? b=some ob/\ob.dict=none)/\(a==sysModules)=false:=by
 rcases d with ⟨f,e⟩|⟨f,e⟩
 .obtain⟨_,g,m,_,c⟩:=Jj I.hok e
  refine⟨c.typeIs,fun b q=>?_,g⟩
  cases q
  obtain⟨ob,_,_,i,h,_⟩:=c
  exact⟨ob,i,h.2.1⟩
 .obtain⟨_,g,l,_,c⟩:=JR I.hok e
  refine⟨c.typeIs,fun b q=>?_,g⟩
  cases q
  obtain⟨ob,_,_,i,h,_⟩:=c
  exact⟨ob,i,h.2.1⟩
section
variable {X:Cx}{XaV:Qc}{σ:St}{H:Hp}{s:Shared}{a:Addr}{y d:V}{u r:Value}{o:Option V}{A:Around}{E:Qb}
def LV (w:A.units+1<cLine)(I:Qr X XaV σ H s)(g:V4 H a y o)(q:QK y u)(t:QK d r)(h:∀n p,Qr X XaV σ H p->QK (o.getD d) n->Q n p) :
 wpAny (model X.prog X.w) A (call (.builtin "dict.get") [.ref a,u,r]) Q E s:=by
 rcases g with ⟨i,k,e,m,l⟩|⟨i,k,b,e,m,x,l⟩
 .subst m
  obtain⟨z,j,B,c,f⟩:=Jj I.hok e;refine call_meetsIn PySem.F.slot_dict_get f.typeIs PySem.F.entry_dict_get (PySem.F.args_dict_get_3 _ _ _) (meets_dict_get_default (ZF X.prog X.w) a (Uz q) j r) ⟨_,f.mapOf,h _ _ (I.tok _) ?_⟩;rw[l];exact(c.val k).getD t
 .subst m
  cases (show u=Value.ref b from q)
  obtain⟨z,j,v,c,f⟩:=JR I.hok e;refine call_meetsIn PySem.F.slot_dict_get f.typeIs PySem.F.entry_dict_get (PySem.F.args_dict_get_3 _ _ _) (meetsH_dict_get_default (tupleKind<|ZF X.prog X.w) a b j r) ⟨tupleKind_room_in1 w,k,v,Wm I.hok x,f,h _ _ (I.tok _) ?_⟩;rw[l];exact(c.val k).getD t
end
def Rt (g e f:TE):TE:=fun b H Q=>g b H fun x d=>∃a,x=.ref a/\IsD d a/\e b d fun y h=>f b h fun z c=>∃o,V4 c a y o/\Q (o.getD z) c
section
variable {X:Cx}{o e f:Expr}{apos cpos:Pos}{td ty tx:TE}
def Ac (B:X.A.units+1<cLine) (C:PE X o td) (E:PE X e ty) (D:PE X f tx) (m:M2 X o "get" apos e f cpos):PE X (.Call (.Attribute o "get" apos) [e,f] [] cpos) (Rt td ty tx):=by
 intro b s c H Q I h;refine wpAny_Call_method m.base m.few m.line PySem.F.plainAttrs_dict PySem.F.slot_dict_get PySem.F.type_dict_get (Q9 (C b s c H _ I h) ?_);rintro u p ⟨x,O,j,t,a,F,d,A⟩;subst F;obtain rfl:u=Value.ref a:=t;obtain⟨l,k,_⟩:=Ri j d;refine⟨l,k,?_⟩
 rw[m.trees];refine Calls.callWith_builtin rfl (Calls.evalArgs_plain (Calls.spliced_cons (Q9 (E b p c O _ j A) fun U n ⟨y,N,L,r,w⟩ =>
  Calls.spliced_cons (Q9 (D b n c N _ L w) fun W S ⟨z,M,J,q,T,g,v⟩=>Calls.spliced_nil ?_))))
 exact LV B J g r q fun P R G i=>⟨_,M,G,i,v⟩
end
section
variable {X:Cx}{XaV:Qc}{σ:St}{H:Hp}{s:Shared}{a:Addr}{kvs:List (Key×V)}{A:Around}{E:Qb}
def SX (I:Qr X XaV σ H s) (e:Rd H a (.dK kvs)) (h:∀p f,H p=none->Qr X XaV σ (upd H p<|.dK kvs) f->Q (.ref p) f):wpAny (model X.prog X.w) A (call (.type "dict") [.ref a]) Q E s:=by
 obtain⟨z,j,l,c,k⟩:=Jj I.hok e;refine kt_call_dict j k (by rw[<- c.length];exact z) fun m d i=>?_;refine h _ _ (I.hok.fresh<|Xv _) (I.laid (a:=s.heap.objs.size) (o:=.dK kvs) (t':=s.toks) (fun b q g=>?_) (Xv _)<|RI z (beq_eq_false_iff_ne.mpr<|Ne.symm<|Xu I.big) c d)
 exact(i.2 b<|Xu<|Xk g).trans (Xi _ g)
end
end L2
namespace L2
open PySem
theorem Zp.keep {F H d:Hp}:∀{as:Qg} {c:List (Qd)},(∀b∈as,d b=H b)->Zp F H as c->Zp F d as c
 |[],[],_,_=>trivial
 |a::as,_::_,h,o=>by
   obtain⟨⟨k,e,j,i⟩,f⟩:=o
   exact⟨⟨k,e,by rw[h a Xb];exact j,i⟩,Zp.keep (fun b g=>h b<|Xe _ g) f⟩
 |[],_::_,_,h=>False.elim h
 |_::_,[],_,h=>False.elim h
def Zs.keep   (k:∀b∈p,H' b=H b)(h:Zs K F H v t p):Zs K F H' v t p:=by
 cases t with
 |fz d=>exact h
 |zow q=>exact h
 |ol u =>
   obtain⟨a,rfl,rfl,e,i,c,f⟩:=h
   exact⟨a,rfl,rfl,e,i,by rw[k a Xb];exact c,f⟩
 |oll n =>
   obtain⟨a,o,rfl,rfl,e,c,f,m⟩:=h
   exact⟨a,o,rfl,rfl,e,c,by rw[k a Xb];exact f,m.keep fun b j=>k b<|Xe _ j⟩
 |scr s=>exact h
 |own r g =>
   obtain⟨e,c⟩:=h
   exact⟨e,g.mono (Q5.refl _) (fun a l=>(g.there c a l).1) k c⟩
def QB.writeOwn    (s:QB K H0 F ρ σ H)(e:ρ[i]?=some (some<|.own v Φ)) :
 σ[i]?=some (some v)/\∃p,Φ.ok K F H v p/\(∀a∈p,H0 a=none/\F a=none/\H a≠none) /\
  ∀(m:Hp) (g:OwnP) (o:Qg),Q5 F m->(∀b,b∉p->H b≠none->m b=H b)->(∀b,H b≠none->m b≠none)->g.ok K F m v o->(∀a∈o,a∈p\/(H a=none/\H0 a=none)) ->
   QB K H0 F (ρ.set i<|some<|.own v g) σ m:=by
 obtain⟨I,O,L,A,y,q,h⟩:=s;obtain⟨u,C,rfl,B⟩:=y i _ e;refine⟨C,A i,B,fun a c=>⟨(h i a c).1,(Φ.there B a c).1,(h i a c).2⟩,fun m g o G J w x l=>?_⟩;have t:=(Xf.mp e).1;refine⟨I,G,by simp[L],fun j=>if j=i then o else A j,fun j E r=>?_,fun j k a c f=>?_,fun j a c=>?_⟩
 .by_cases d:j=i
  .subst d
   rw[Xj t]at r;cases r;refine⟨_,C,rfl,?_⟩;simp only[if_true];exact x
  .rw[Xo<|Ne.symm d]at r
   obtain⟨D,N,M⟩:=y j E r;refine⟨D,N,?_⟩;simp only[Xa d];exact M.keep fun b f=>J b (fun z=>d<|q j i b f z) (h j b f).2
 .by_cases d:j=i
  .by_cases n:k=i
   .omega
   .simp only[Xd d]at c
    simp only[Xa n]at f;rcases l a c with z|z
    .exact Xm (q k i a f z) n
    .exact Xm z.1 (h k a f).2
  .simp only[Xa d]at c
   by_cases n:k=i
   .simp only[Xd n]at f
    rcases l a f with z|z
    .exact Xm (q j i a c z) d
    .exact Xm z.1 (h j a c).2
   .simp only[Xa n]at f
    exact q j k a c f
 .by_cases d:j=i
  .simp only[Xd d]at c
   rcases l a c with z|z
   .exact⟨(h i a z).1,w a (h i a z).2⟩
   .exact⟨z.2,(g.there x a c).2⟩
  .simp only[Xa d]at c
   exact⟨(h j a c).1,w a (h j a c).2⟩
noncomputable def WI:Key->PyData
 |.inl i=>.int i
 |.inr x=>.str x
noncomputable def QR (k:List Key):PyData:=.tuple (k.map WI)
def Md  (r:Rep F y (WI k)):y=kV k:=by
 cases k with
 |inl i=>cases r;rfl
 |inr x=>cases r;rfl
theorem PV {F:Hp}:∀{ys:List V} {k:List Key},Qy F ys (k.map WI)->ys=k.map kV
 |_,[],.nil=>rfl
 |_,k::b,.cons r a=>by rw[Md r,PV a];rfl
def Wy  (r:Rep F y (QR k)):∃b,y=.ref b/\F b=some (.tup<|k.map kV):=by
 unfold QR at r;cases r with
 |tup h a=>exact⟨_,rfl,by rw[h,PV a]⟩
abbrev VE:=List (List Key×PyData)
noncomputable def VX (kvs:VE)(k:List Key):Option PyData:=(kvs.find? fun a=>decide (a.1=k)).map (·.2)
noncomputable def Up (kvs:VE)(k:List Key)(d:PyData):VE:=if (kvs.any fun a=>decide (a.1=k))=true then kvs.map (fun a=>if a.1=k then (a.1,d) else a) else kvs++[(k,d)]
inductive PairD (F:Hp):List (List Key×V)->VE->Prop
 |nil:PairD F [] []
 |cons {k:List Key} {x:V} {d:PyData} {xs:List (List Key×V)} {kvs:VE}:Rep F x d->PairD F xs kvs->PairD F ((k,x)::xs) ((k,d)::kvs)
theorem PairD.mono {F a:Hp}(s:Q5 F a):∀{xs:List (List Key×V)} {kvs:VE},PairD F xs kvs->PairD a xs kvs
 |_,_,.nil=>.nil
 |_,_,.cons r t=>.cons (r.mono s) (t.mono s)
theorem PairD.length {F:Hp}:∀{xs:List (List Key×V)} {kvs:VE},PairD F xs kvs->xs.length=kvs.length
 |_,_,.nil=>rfl
 |_,_,.cons _ t=>by simp[t.length]
theorem PairD.val {F:Hp}(k:List Key):∀{xs:List (List Key×V)} {kvs:VE},PairD F xs kvs->(Z1 xs k=none/\VX kvs k=none)\/∃x d,Z1 xs k=some x/\VX kvs k=some d/\Rep F x d
 |_,_,.nil=>.inl ⟨rfl,rfl⟩
 |_,_,.cons (k:=k') (x:=x) (d:=d) (xs:=xs) (kvs:=kvs) r t=>by
   by_cases e:k'=k
   .exact .inr ⟨x,d,Y5 e,by simp[VX,Xz,e],r⟩
   .have q:VX ((k',d)::kvs) k=VX kvs k:=by simp[VX,Xz,e]
    rw[Y4 (p:=(k',x)) e,q];exact t.val k
theorem PairD.any {F:Hp}(k:List Key):∀{xs:List (List Key×V)} {kvs:VE},PairD F xs kvs->(xs.any fun a=>decide (a.1=k))=(kvs.any fun a=>decide (a.1=k))
 |_,_,.nil=>rfl
 |_,_,.cons _ t=>by simp[t.any k]
theorem PairD.mapP {F:Hp}(k:List Key){y:V}{d:PyData}(r:Rep F y d):∀{xs:List (List Key×V)} {kvs:VE},PairD F xs kvs->PairD F (xs.map fun a=>if a.1=k then (a.1,y) else a) (kvs.map fun a=>if a.1=k then (a.1,d) else a)
 |_,_,.nil=>.nil
 |_,_,.cons (k:=k') b t=>by
   rw[Xx,Xx];by_cases e:k'=k
   .simp only[e,if_true]
    exact .cons r (t.mapP k r)
   .simp only[e,if_false]
    exact .cons b (t.mapP k r)
theorem PairD.snoc {F:Hp}(k:List Key){y:V}{d:PyData}(r:Rep F y d):∀{xs:List (List Key×V)} {kvs:VE},PairD F xs kvs->PairD F (xs++[(k,y)]) (kvs++[(k,d)])
 |_,_,.nil=>.cons r .nil
 |_,_,.cons a t=>.cons a (t.snoc k r)
def PairD.put (k:List Key)  (r:Rep F y d)  (t:PairD F xs kvs):PairD F (VZ xs k y) (Up kvs k d):=by
 unfold VZ Up;rw[t.any k];split
 .exact t.mapP k r
 .exact t.snoc k r
def V6 (kvs:VE):OwnP where
 ok K F H v p := ∃a d,v=.ref a/\p=[a]/\F a=none/\H a=some (.dT d)/\PairD F d kvs
 there:=by
  rintro K F H v p ⟨a,d,rfl,rfl,h,f,g⟩ b j
  cases Xh.mp j
  exact⟨h,Zt f⟩
 mono:=by
  rintro K F o H n v p s l k ⟨a,d,rfl,rfl,h,f,g⟩
  exact⟨a,d,rfl,rfl,l a Xb,by rw[k a Xb];exact f,g.mono s⟩
 uniq:=by
  rintro K F H v p q ⟨a,d,rfl,rfl,_⟩ ⟨b,m,e,rfl,_⟩ c i
  cases e
  exact i
section
variable {K:W.Frag}{ρ:QF}{te ty tv:TE}{D:PEnds}{i:Nat}{v:V}{kvs:VE}{k:List Key}{d:PyData}
def QB.dct  (S:QB K H0 F ρ σ H)(e:ρ[i]?=some (some<|.own v<|V6 kvs)) :
 ∃a xs,v=.ref a/\σ[i]?=some (some<|.ref a)/\F a=none/\H0 a=none/\H a=some (.dT xs)/\PairD F xs kvs:=by
 obtain⟨h,p,⟨a,xs,rfl,rfl,g,f,c⟩,b,_⟩:=S.writeOwn e
 exact⟨a,xs,rfl,h,g,(b a Xb).1,f,c⟩
def Kp  (t:PairD F xs kvs):(Z1 xs k).isSome=(VX kvs k).isSome:=by
 rcases t.val k with ⟨b,a⟩|⟨x,c,b,a,_⟩<;>rw[b,a]<;>rfl
def Cm (h:Qu K ty ρ (QR k))(e:ρ[i]?=some (some<|.own v<|V6 kvs)):Qu K (Bf ty<|Q8 i) ρ (.bool (VX kvs k).isSome):=fun p F f H Q S q =>
 h p F f H _ S fun r o y c g=>by
  obtain⟨a,s,rfl,n,_,_,m,l⟩:=(S.ext c).dct e;obtain⟨b,rfl,j⟩:=Wy g
  exact⟨_,n,a,_,rfl,V4.t m<|c.fh _ _ j,q r o _ c<|by rw[Kp l];exact .bl _⟩
def IF (h:Qu K ty ρ (QR k))(e:ρ[i]?=some (some<|.own v<|V6 kvs)):Qu K (Sr ty<|Q8 i) ρ (.bool<|!(VX kvs k).isSome):=fun p F f H Q S q =>
 h p F f H _ S fun r o y c g=>by
  obtain⟨a,s,rfl,n,_,_,m,l⟩:=(S.ext c).dct e;obtain⟨b,rfl,j⟩:=Wy g
  exact⟨_,n,a,_,rfl,V4.t m<|c.fh _ _ j,q r o _ c<|by rw[Kp l];exact .bl _⟩
def Ef (e:ρ[i]?=some (some<|.own v<|V6 kvs))(J:Qu K tv ρ d)(I:Qu K ty ρ (QR k))(hz:kvs.length<sizeLine)(hn:D.nx (ρ.set i<|some<|.own v<|V6<|Up kvs k d)):Q1 K (Dl (Q8 i) ty tv) ρ D:=fun F0 s F j H E x S C =>
 J s F j H _ S fun T Q u h B=>by
  obtain⟨a,U,rfl,O,_⟩:=(S.ext h).dct e;refine⟨_,O,I s T j Q _ (S.ext h) fun R H2 y g A=>?_⟩;have n:=S.ext (h.trans g);obtain⟨Z,t,m,_,l,N,M,r⟩:=n.dct e
  cases m
  obtain⟨b,rfl,L⟩:=Wy A;refine⟨a,_,rfl,Jh.t M (g.fh _ _ L)<|by rw[r.length];exact hz,?_⟩;obtain⟨_,p,G,X,w⟩:=n.writeOwn e;obtain⟨P,o,m,rfl,_,Y,_⟩:=G
  cases m
  refine C.nx R j _ _ ((x.trans<|h.trans g).wr N l) (w _ (V6<|Up kvs k d) [a] (n.sub.upd l) (fun c f _=>Qt fun z=>f<|by rw[z];exact Xb) (fun c f=>?_) ⟨a,_,rfl,rfl,l,QC,r.put k<|B.mono g.ff⟩ fun c f=>.inl f) hn
  by_cases z:c=a
  .subst z;rw[QC];rintro⟨⟩
  .rw[Qt z];exact f
def EvX (K:W.Frag)(t:TE)(ρ:QF)(Φ:OwnP):Prop := ∀(f F:Hp) (c:St) (H:Hp) (Q:VK),QB K f F ρ c H->(∀e b v p,Q0 F H e b->(∀a∈p,H a=none)->Φ.ok K e b v p->Q v b)->t c H Q
theorem BH:∀{as bs:Qg},as.map V.ref=bs.map V.ref->as=bs
 |[],[],_=>rfl
 |a::as,b::bs,h=>by
   rw[Xx,Xx]at h;injection h with e c
   cases e
   rw[BH c]
 |[],_::_,h=>by cases h
 |_::_,[],h=>by cases h
def US   (h:Zs K F H w t p)(h':Zs K F H w t q):∀b∈q,b∈p:=by
 cases t with
 |fz d=>rw[h'.1];intro b e;cases e
 |zow u=>rw[h'.1];intro b e;cases e
 |ol A =>
   obtain⟨E,g,f,m⟩:=h';obtain⟨C,c,l,j⟩:=h;rw[g]at c;cases c;rw[f,l];exact fun _ z=>z
 |oll s =>
   obtain⟨a,G,g,f,_,_,m,_⟩:=h';obtain⟨b,B,c,l,_,_,j,_⟩:=h;rw[g]at c;cases c;rw[m]at j;injection j with r;injection r with o;rw[f,l,BH o];exact fun _ z=>z
 |scr y=>rw[h'.1];intro b e;cases e
 |own x n=>exact n.uniq h.2 h'.2
def BG (h:EvX K te ρ Φ)(hn:∀v,D.nx<|ρ.set i<|some<|.own v Φ):Q1 K (Vb te<|Vc i) ρ D:=fun N B F l H E x S C =>
 h B F l H _ S fun I G v p b f n=>by
  refine C.nx I _ G _ (x.trans b) ((S.ext b).set (t:=.own v Φ) ⟨rfl,n⟩ (fun a e=>x.hh.free<|f a e) (hn:=fun a e j w m q A z c=>?_)) (hn v);obtain⟨M,s,L,r⟩:=S.fp;obtain⟨J,g,y⟩:=s j m A;intro o;have u:=y.ext b;rw[z]at g;cases g
  exact(r j a<|US (K:=K) u c a o).2 (f a e)
end
end L2
namespace Mir
theorem Pw {g:Qn}{l:Nat}(h:∀c,c<=l->g c=0):∀m,Qz g (l+1+m)=Qz (fun j=>g<|l+1+j) m
 |0=>by
   show Qz g (l+1)=0;rw[Zi (g:=fun _=>0) fun k a=>h k<|by omega,Vh]
 |m+1=>by
   show Qz g (l+1+m)+g (l+1+m)=_;rw[Pw h m];rfl
theorem T3 (y:Yd)(b own:Qn)(l:Nat):∀m,WX y b own l m=Qz (fun j=>if Zd y (l+1+j)=some l then passes y b own (l+1+j) else 0) m
 |0=>rfl
 |m+1=>by simp only[WX,Qz];rw[T3 y b own l m]
def JP (b:y.Ok)(f:c<y.ls.length)(e:Zd y c=some l):l<c:=by
 by_cases g:c=0
 .subst g;rw[b.up0]at e;cases e
 .obtain⟨a,h,d⟩:=b.ups c (by omega) f
  rw[h]at e;cases e;exact d
def PD (a:y.Ok)(b own:Qn)(d:l<y.ls.length):V8 y b own l=own l+Qz (fun c=>if Zd y c=some l then passes y b own c else 0) y.ls.length:=by
 rw[CO a,T3];have e:y.ls.length=l+1+(y.ls.length-1-l):=by omega
 have h:=Pw (g:=fun c=>if Zd y c=some l then passes y b own c else 0) (l:=l) (fun c f=>Xa fun z=>by
  have:=JP a (by omega) z
  omega) (y.ls.length-1-l)
 rw[<- e]at h;rw[h]
section
variable {y:Yd}
def SJ (a:y.Ok):upL y 0=[0]:=by
 have:=a.l1
 rw[RF a<|by omega,Xd rfl]
end
end Mir
namespace Mir
noncomputable def ind (p:Prop) [Decidable p]:Int:=if p then 1 else 0
theorem S9 {y:Yd}(b:y.Ok)(l:Nat)(r:l<y.ls.length):∀n j,j<n->j<y.ls.length ->
 ind (l∈upL y j)=ind (j=l)+Qz (fun c=>if Zd y c=some l then ind (c∈upL y j) else 0) y.ls.length
 |0,j,h,_=>by omega
 |n+1,j,h,d=>by
   by_cases e:j=l
   .subst e
    have z:Qz (fun c=>if Zd y c=some j then ind (c∈upL y j) else 0) y.ls.length=0:=by
     rw[Zi (g:=fun _=>0) fun c f=>?_,Vh]
     by_cases u:Zd y c=some j
     .have:=JP b f u
      have w:¬c∈upL y j:=fun z=>by have:=Rr y j c z;omega
      simp[u,ind,w]
     .simp[u]
    rw[z];simp[ind,HF]
   .by_cases o:j=0
    .subst o
     have w:¬l∈upL y 0:=fun z=>by rw[SJ b]at z;simp at z;exact e z.symm
     have z:Qz (fun c=>if Zd y c=some l then ind (c∈upL y 0) else 0) y.ls.length=0:=by
      rw[Zi (g:=fun _=>0) fun c f=>?_,Vh]
      by_cases u:Zd y c=some l
      .have v:¬c∈upL y 0:=fun z=>by
        rw[SJ b]at z;simp at z;subst z;rw[b.up0]at u;cases u
       simp[u,ind,v]
      .simp[u]
     rw[z];simp[ind,w,e]
    .obtain⟨a,i,x⟩:=b.ups j (by omega) d
     have p:=S9 b l r n a (by omega) (by omega);have m:(l∈upL y j)↔(l∈upL y a):=DD b (by omega) d i l (fun z=>e z.symm);have t:ind (l∈upL y j)=ind (l∈upL y a):=by unfold ind;simp only[m]
     have s:∀c,c<y.ls.length->(if Zd y c=some l then ind (c∈upL y j) else 0)=(if Zd y c=some l then ind (c∈upL y a) else 0)+(if c=j then ind (a=l) else 0):=by
      intro c f;by_cases z:c=j
      .subst z
       have w:¬c∈upL y a:=fun q=>by have:=Rr y a c q;omega
       rw[i];by_cases q:a=l
       .subst q;simp[ind,HF,w]
       .have:¬some a=some l:=fun z=>q (by injection z)
        simp[ind,q]
      .have k:(c∈upL y j)↔(c∈upL y a):=DD b (by omega) d i c z
       have:ind (c∈upL y j)=ind (c∈upL y a):=by unfold ind;simp only[k]
       rw[this,Xa z,YH]
     rw[t,p,Zi s,GK,UD,Xd d];have:ind (j=l)=0:=by unfold ind;rw[Xa e]
     omega
noncomputable def ZK (y:Yd)(m:Nat)(ln:Nat->Nat)(f:Qn)(l:Nat):Int:=Qz (fun k=>f k*ind (l∈upL y (ln k))) m
def UO (b:y.Ok)  (a:∀k,k<m->ln k<y.ls.length)(f:Qn)(d:l<y.ls.length) :
 ZK y m ln f l=Qz (fun k=>f k*ind (ln k=l)) m+Qz (fun c=>if Zd y c=some l then ZK y m ln f c else 0) y.ls.length:=by
 unfold ZK;have g:∀k,k<m->f k*ind (l∈upL y (ln k))=f k*ind (ln k=l)+Qz (fun c=>if Zd y c=some l then f k*ind (c∈upL y (ln k)) else 0) y.ls.length:=by
  intro k e;rw[S9 b l d _ (ln k) (WY _)<|a k e,Int.mul_add,<- BY];congr 1;refine Zi fun c _=>?_
  by_cases u:Zd y c=some l
  .rw[Xd u,Xd u]
  .rw[Xa u,Xa u,Int.mul_zero]
 rw[Zi g,GK,GU];congr 1;refine Zi fun c _=>?_
 by_cases u:Zd y c=some l
 .simp only[Xd u]
 .simp only[Xa u]
  rw[Vh]
theorem no_more {y:Yd}(e:y.Ok){m:Nat}{ln:Nat->Nat}(a:∀k,k<m->ln k<y.ls.length){f:Qn}{b own:Qn}(g:∀l,l<y.ls.length->Qz (fun k=>f k*ind (ln k=l)) m<=own l)(j:∀l,l<y.ls.length->ZK y m ln f l<=b l) :
 ∀n l,y.ls.length<=l+n->l<y.ls.length->ZK y m ln f l<=passes y b own l
 |0,l,h,d=>by omega
 |n+1,l,h,d=>by
   have p:ZK y m ln f l<=V8 y b own l:=by
    rw[UO e a f d,PD e b own d];refine Int.add_le_add (g l d) (YU fun c i=>?_)
    by_cases u:Zd y c=some l
    .rw[Xd u,Xd u]
     have:=JP e i u
     exact no_more e a g j n c (by omega) i
    .rw[Xa u,Xa u]
     exact Wb _
   have o:=j l d;unfold passes;omega
end Mir
namespace Mir
def RT   (h:∀k,k<m->f k<=g k)(l:Nat):ZK y m ln f l<=ZK y m ln g l :=
 YU fun k a=>by
  unfold ind;split
  .have:=h k a;omega
  .omega
def FZ   (h:∀k,k<m->0<=f k)(l:Nat):0<=ZK y m ln f l :=
 BB fun k a=>by
  unfold ind;split
  .have:=h k a;omega
  .omega
structure Shut (y:Yd)(m:Nat)(ln:Nat->Nat)(f mo:Qn)(b:Qn)(S R:Qm):Prop where
 nn:∀k,k<m->0<=f k
 full:∀k,k<m->S k=true->R (ln k)=false->f k=mo k
 none:∀k,k<m->S k=false->R (ln k)=true->f k=0
 top:R 0=true->ZK y m ln f 0=b 0
 out:∀c a,c<y.ls.length->Zd y c=some a->R c=true->R a=false->ZK y m ln f c=b c
 inn:∀c a,c<y.ls.length->Zd y c=some a->R c=false->R a=true->ZK y m ln f c=0
noncomputable def QZ (S:Qm)(f:Qn):Qn:=fun k=>if S k=true then f k else 0
def Hm  (h:0<=f k):QZ S f k<=f k:=by
 unfold QZ;split<;>omega
def A3  (h:0<=f k):0<=QZ S f k:=by
 unfold QZ;split<;>omega
theorem Shut.alike {y:Yd}(i:y.Ok){m:Nat}{ln:Nat->Nat}(a:∀k,k<m->ln k<y.ls.length){f q b:Qn}{S R:Qm}(h:Shut y m ln f q b S R) :
 ∀n l,y.ls.length<=l+n->l<y.ls.length->R l=true->ZK y m ln f l=ZK y m ln (QZ S f) l
 |0,l,t,j,_=>by omega
 |n+1,l,t,j,p=>by
   rw[UO i a f j,UO i a (QZ S f) j];congr 1
   .refine Zi fun k d=>?_
    by_cases e:ln k=l
    .have:f k=QZ S f k:=by
      unfold QZ;cases s:S k with
      |true=>simp
      |false=>simp;exact h.none k d s (by rw[e];exact p)
     rw[this]
    .simp[ind,e]
   .refine Zi fun c o=>?_
    by_cases u:Zd y c=some l
    .rw[Xd u,Xd u]
     have:=JP i o u
     cases r:R c with
     |true=>exact Shut.alike i a h n c (by omega) o r
     |false =>
       have e:=h.inn c l o u r p;have w:=RT (y:=y) (ln:=ln) (f:=QZ S f) (g:=f) (fun k d=>Hm (S:=S)<|h.nn k d) c;have v:=FZ (y:=y) (ln:=ln) (f:=QZ S f) (fun k d=>A3 (S:=S)<|h.nn k d) c;omega
    .rw[Xa u,Xa u]
theorem Shut.all {y:Yd}(i:y.Ok){m:Nat}{ln:Nat->Nat}(d:∀k,k<m->ln k<y.ls.length){f j b own:Qn}{S R:Qm}(h:Shut y m ln f j b S R)
 (o:∀l,l<y.ls.length->own l=Qz (fun k=>QZ S j k*ind (ln k=l)) m) :
 ∀n l,y.ls.length<=l+n->l<y.ls.length->(R l=true->l=0\/∃a,Zd y l=some a/\R a=false)->passes y b own l<=ZK y m ln (QZ S f) l
 |0,l,q,g,_=>by omega
 |n+1,l,q,g,w=>by
   cases r:R l with
   |true =>
     have e:ZK y m ln f l=b l:=by
      rcases w r with z|⟨a,u,t⟩
      .subst z;exact h.top r
      .exact h.out l a g u r t
     rw[<- h.alike i d (n+1) l q g r,e];unfold passes;omega
   |false =>
     have x:V8 y b own l<=ZK y m ln (QZ S f) l:=by
      rw[UO i d _ g,PD i b own g];refine Int.add_le_add ?_ (YU fun c p=>?_)
      .rw[o l g]
       refine YU fun k v=>?_
       by_cases e:ln k=l
       .have:QZ S j k=QZ S f k:=by
         unfold QZ;cases s:S k with
         |true=>simp;exact(h.full k v s<|by rw[e];exact r).symm
         |false=>simp
        rw[this];exact Wb _
       .simp[ind,e]
      .by_cases u:Zd y c=some l
       .rw[Xd u,Xd u]
        have:=JP i p u
        exact Shut.all i d h o n c (by omega) p (fun _=>.inr ⟨l,u,r⟩)
       .rw[Xa u,Xa u]
        exact Wb _
     unfold passes;omega
end Mir
namespace Mir
section
variable {ν:Type} [DecidableEq ν]
abbrev Lay (ν:Type):=List (ν×ν×Int)
abbrev Zg (ν:Type):=ν->ν->Int
noncomputable def Wg (L:Lay ν):List ν:=L.flatMap fun x=>[x.2.1,x.1]
noncomputable def VA (L:Lay ν)(φ:Zg ν):Ql:=L.flatMap fun x=>[x.2.2-φ x.1 x.2.1,φ x.1 x.2.1]
def Dis (L:Lay ν):Prop:=(L.map fun x=>(x.1,x.2.1)).Nodup
noncomputable def VR (φ:Zg ν)(s e:ν)(a:Int):Zg ν:=fun p q=>if p=s/\q=e then φ p q+a else φ p q
theorem D2 {a b:Type}(f g:a->b):∀(L:List a) (e:Nat),(L.flatMap fun x=>[f x,g x])[e]?=L[e/2]?.map (if e%2=0 then f else g)
 |[],e=>by simp
 |x::L,0=>by simp
 |x::L,1=>by simp
 |x::L,e+2=>by
   have h:=D2 f g L e;have d:(e+2)/2=e/2+1:=by omega
   have c:(e+2)%2=e%2:=by omega
   rw[d,c,M8,UW];simpa using h
noncomputable def hdE (L:Lay ν)(e:Nat):Option ν:=L[e/2]?.map fun x=>if e%2=0 then x.2.1 else x.1
noncomputable def tlE (L:Lay ν)(e:Nat):Option ν:=L[e/2]?.map fun x=>if e%2=0 then x.1 else x.2.1
noncomputable def rmE (L:Lay ν)(φ:Zg ν)(e:Nat):Option Int:=L[e/2]?.map fun x=>if e%2=0 then x.2.2-φ x.1 x.2.1 else φ x.1 x.2.1
def Hf (L:Lay ν)(e:Nat):(Wg L)[e]?=hdE L e:=by
 unfold Wg hdE;rw[D2];congr 1
 split<;>rfl
def UJ (L:Lay ν)(φ:Zg ν)(e:Nat):(VA L φ)[e]?=rmE L φ e:=by
 unfold VA rmE;rw[D2];congr 1
 split<;>rfl
noncomputable def ZeJ (e:Nat):Nat:=if e%2=0 then e+1 else e-1
def IU (L:Lay ν)(e:Nat):(Wg L)[ZeJ e]?=tlE L e:=by
 rw[Hf];unfold hdE tlE ZeJ;by_cases h:e%2=0
 .have b:(e+1)/2=e/2:=by omega
  have a:¬(e+1)%2=0:=by omega
  simp only[h,if_true,b,a,if_false]
 .have b:(e-1)/2=e/2:=by omega
  have a:(e-1)%2=0:=by omega
  simp only[h,if_false,b,a,if_true]
noncomputable def Vj (L:Lay ν)(F:ν->ν->Int):Int:=(L.map fun x=>F x.1 x.2.1).sum
noncomputable def V5 (L:Lay ν)(φ:Zg ν)(n:ν):Int:=Vj L fun s e=>φ s e*(ind (s=n)-ind (e=n))
def IN   (h:(s,e)∉L.map fun x=>(x.1,x.2.1))(G:Int->ν->ν->Int) :
 Vj L (fun p q=>G (VR φ s e a p q) p q)=Vj L fun p q=>G (φ p q) p q:=by
 unfold Vj;congr 1;refine XX fun x d=>?_
 have:¬(x.1=s/\x.2.1=e):=by rintro⟨c,b⟩;exact h (XO.mpr ⟨x,d,by rw[c,b]⟩)
 unfold VR;dsimp only;rw[Xa this]
theorem PK {φ:Zg ν}{a:Int}(G:Int->ν->ν->Int):∀{L:Lay ν},Dis L->∀{x:ν×ν×Int},x∈L ->
 Vj L (fun p q=>G (VR φ x.1 x.2.1 a p q) p q)=Vj L (fun p q=>G (φ p q) p q)-G (φ x.1 x.2.1) x.1 x.2.1+G (φ x.1 x.2.1+a) x.1 x.2.1
 |[],_,_,h=>by cases h
 |y::L,b,x,h=>by
   unfold Dis at b;rw[Xx,Xt]at b;rcases Xg.mp h with rfl|h
   .have:=IN (φ:=φ) (a:=a) b.1 G
    have e:VR φ x.1 x.2.1 a x.1 x.2.1=φ x.1 x.2.1+a:=by unfold VR;rw[Xd ⟨rfl,rfl⟩]
    unfold Vj at this ⊢;rw[Xx,Bb,Xx,Bb,this];dsimp only;rw[e];omega
   .have c:=PK (φ:=φ) (a:=a) G (L:=L) b.2 h
    have g:¬(y.1=x.1/\y.2.1=x.2.1):=fun⟨f,d⟩=>b.1 (XO.mpr ⟨x,h,by rw[f,d]⟩);have e:VR φ x.1 x.2.1 a y.1 y.2.1=φ y.1 y.2.1:=by unfold VR;rw[Xa g]
    unfold Vj at c ⊢;rw[Xx,Bb,Xx,Bb,c];dsimp only;rw[e];omega
noncomputable def Ya (L:Lay ν)(a:Int)(φ:Zg ν)(e:Nat):Zg ν :=
 match L[e/2]? with
 |some x=>VR φ x.1 x.2.1 (if e%2=0 then a else -a)
 |none=>φ
def EX (h:Dis L)   (b:hdE L e=some t)(c:tlE L e=some s)(n:ν) :
 V5 L (Ya L a φ e) n=V5 L φ n+a*(ind (s=n)-ind (t=n)):=by
 unfold hdE at b;unfold tlE at c;cases d:L[e/2]? with
 |none=>rw[d]at b;cases b
 |some x =>
   rw[d]at b c;have f:x∈L:=List.mem_of_getElem? d;have g:Ya L a φ e=VR φ x.1 x.2.1 (if e%2=0 then a else -a):=by unfold Ya;rw[d]
   rw[g];unfold V5;rw[PK (fun v p q=>v*(ind (p=n)-ind (q=n))) h f];simp only[YJ,Option.some.injEq]at b c;by_cases z:e%2=0
   .rw[Xd z]at b c ⊢
    subst b c;rw[Int.add_mul];omega
   .rw[Xa z]at b c ⊢
    subst b c;rw[Int.add_mul,Int.neg_mul,UX a,UX a];omega
inductive Chain (L:Lay ν)(s:ν):ν->Qk->Prop
 |nil:Chain L s s []
 |cons {n m:ν} {e:Nat} {w:Qk} (h:hdE L e=some n) (t:tlE L e=some m) (c:Chain L s m w):Chain L s n (e::w)
noncomputable def YM (L:Lay ν)(a:Int)(φ:Zg ν)(w:Qk):Zg ν:=w.foldl (Ya L a) φ
theorem HM {L:Lay ν}(b:Dis L){s:ν}{a:Int}(p:ν):∀{w:Qk} {n:ν} {φ:Zg ν},Chain L s n w->V5 L (YM L a φ w) p=V5 L φ p+a*(ind (s=p)-ind (n=p))
 |_,_,φ,.nil=>by
   show V5 L φ p=_;rw[Int.sub_self,Int.mul_zero,YH]
 |e::w,n,φ,.cons (m:=m) h t c=>by
   show V5 L (YM L a (Ya L a φ e) w) p=_;rw[HM b p c,EX b h t,UX,UX,UX];omega
def Within (L:Lay ν)(φ:Zg ν):Prop := ∀x∈L,0<=φ x.1 x.2.1/\φ x.1 x.2.1<=x.2.2
def DZ:∀{L:Lay ν},Dis L->∀{i j:Nat} {x y:ν×ν×Int},L[i]?=some x->L[j]?=some y->x.1=y.1->x.2.1=y.2.1->i=j:=fun{L} f {i j x y} e d h g=>by
 have a:(L.map fun x=>(x.1,x.2.1))[i]?=some (x.1,x.2.1):=by rw[Xn,e];rfl
 have b:(L.map fun x=>(x.1,x.2.1))[j]?=some (x.1,x.2.1):=by rw[Xn,d,h,g];rfl
 have c:i<(L.map fun x=>(x.1,x.2.1)).length:=(Xf.mp a).1
 exact(List.getElem?_inj c f).mp (a.trans b.symm)
def OU {L:Lay ν}(l:Dis L){φ:Zg ν}(h:Within L φ){a:Int}(o:0<=a){e:Nat}{r:Int}(b:rmE L φ e=some r)(n:a<=r):Within L (Ya L a φ e):=by
 unfold rmE at b;cases c:L[e/2]? with
 |none=>rw[c]at b;cases b
 |some x =>
   rw[c]at b;simp only[YJ,Option.some.injEq]at b;have m:=h x (List.mem_of_getElem? c);intro y g;have d:=h y g;have k:Ya L a φ e=VR φ x.1 x.2.1 (if e%2=0 then a else -a):=by unfold Ya;rw[c]
   rw[k];unfold VR;by_cases z:y.1=x.1/\y.2.1=x.2.1
   .rw[Xd z]
    obtain⟨j,f⟩:=List.mem_iff_getElem?.mp g;have i:=DZ l f c z.1 z.2;subst i;rw[c]at f;cases f
    by_cases q:e%2=0
    .rw[Xd q]at b ⊢;omega
    .rw[Xa q]at b ⊢;omega
   .rw[Xa z];exact d
def ET {L:Lay ν}(h:Dis L){φ:Zg ν}{a:Int}(l:0<=a){e c:Nat}(j:c≠e){r:Int}(b:rmE L φ c=some r):∃g,rmE L (Ya L a φ e) c=some g/\r<=g:=by
 unfold rmE at b ⊢;cases f:L[c/2]? with
 |none=>rw[f]at b;cases b
 |some y =>
   rw[f]at b;simp only[YJ,Option.some.injEq]at b ⊢;refine⟨_,rfl,?_⟩;unfold Ya;cases i:L[e/2]? with
   |none=>simp only[];omega
   |some x =>
     simp only[];unfold VR;by_cases z:y.1=x.1/\y.2.1=x.2.1
     .rw[Xd z]
      have k:=DZ h f i z.1 z.2
      by_cases q:e%2=0
      .have d:¬c%2=0:=by omega
       rw[Xa d]at b ⊢;rw[Xd q];omega
      .have d:c%2=0:=by omega
       rw[Xd d]at b ⊢;rw[Xa q];omega
     .rw[Xa z];omega
theorem PZ {L:Lay ν}(c:Dis L){a:Int}(d:0<=a):∀{w:Qk} {φ:Zg ν},Within L φ->w.Nodup->(∀e∈w,∃r,rmE L φ e=some r/\a<=r)->Within L (YM L a φ w)
 |[],_,h,_,_=>h
 |e::w,φ,h,k,g=>by
   obtain⟨m,l⟩:=Xt.mp k;obtain⟨r,n,j⟩:=g e Xb;show Within L (YM L a (Ya L a φ e) w);refine PZ c d (OU c h d n j) l fun p b=>?_;obtain⟨s,f,i⟩:=g p (Xe _ b);obtain⟨q,o,t⟩:=ET c d (e:=e) (fun z=>m<|z▸b) f
   exact⟨q,o,by omega⟩
abbrev Got (ν:Type):=List (ν×Option Nat)
noncomputable def QT (es:Got ν):List ν:=es.map (·.1)
inductive Tree (L:Lay ν)(φ:Zg ν)(s:ν):Got ν->Prop
 |root:Tree L φ s [(s,none)]
 |add {es:Got ν} {e:Nat} {n m:ν} {r:Int} (t:Tree L φ s es) (hn:n∉QT es) (hh:hdE L e=some n) (ht:tlE L e=some m) (hm:m∈QT es) (hr:rmE L φ e=some r) (h0:0<r):Tree L φ s (es++[(n,some e)])
noncomputable def Jl (es:Got ν)(n:ν):Option (Option Nat):=es.lookup n
def O6 {es:Got ν}:n∉QT es->es.lookup n=none:=by
 induction es with
 |nil=>intro _;rfl
 |cons p es a =>
   intro h;have c:n≠p.1:=fun z=>h (by rw[z];exact Xb);have b:n∉QT es:=fun z=>h (Xe _ z);obtain⟨k,v⟩:=p;rw[XM];have:(n==k)=false:=by rw[beq_eq_false_iff_ne];exact c
   rw[this];exact a b
def Kj {es a:Got ν}:(es++a).lookup n=(es.lookup n).or (a.lookup n):=by
 induction es with
 |nil=>rfl
 |cons p es b =>
   obtain⟨k,v⟩:=p;rw[J8,XM,XM];cases (n==k)
   .exact b
   .rfl
inductive Back (L:Lay ν)(es:Got ν):ν->Qk->Prop
 |nil {n:ν} (h:Jl es n=some none):Back L es n []
 |cons {n m:ν} {e:Nat} {w:Qk} (h:Jl es n=some (some e)) (t:tlE L e=some m) (b:Back L es m w):Back L es n (e::w)
theorem Back.app {L:Lay ν}{es a:Got ν}:∀{w:Qk} {n:ν},Back L es n w->Back L (es++a) n w
 |_,_,.nil h=>.nil (by unfold Jl at h ⊢;rw[Kj,h];rfl)
 |_,_,.cons h t b=>.cons (by unfold Jl at h ⊢;rw[Kj,h];rfl) t b.app
structure WayOk (L:Lay ν)(φ:Zg ν)(s:ν)(es:Got ν)(n:ν)(w:Qk):Prop where
 back:Back L es n w
 chain:Chain L s n w
 nodup:w.Nodup
 room:∀e∈w,∃r,rmE L φ e=some r/\0<r
 heads:∀e∈w,∃m,hdE L e=some m/\m∈QT es
theorem Tree.way {L:Lay ν}{φ:Zg ν}{s:ν}:∀{es:Got ν},Tree L φ s es->∀n∈QT es,∃w,WayOk L φ s es n w
 |_,.root,n,j=>by
   have e:n=s:=by simpa [QT] using j
   subst e;exact⟨[],.nil<|by simp[Jl],.nil,JD,(by rintro e ⟨⟩),(by rintro e ⟨⟩)⟩
 |_,.add (es:=es) (e:=e) (n:=k) (m:=m) t u l o x v y,n,j=>by
   have d:n∈QT es\/n=k:=by simpa [QT] using j
   have f:∀p,p∈QT es->p∈QT (es++[(k,some e)]):=fun p r=>by
    unfold QT at r ⊢;rw[XB];exact Uj _ r
   rcases d with d|rfl
   .obtain⟨w,q⟩:=t.way n d
    exact⟨w,q.back.app,q.chain,q.nodup,q.room,fun g c=>let ⟨i,a,b⟩:=q.heads g c;⟨i,a,f _ b⟩⟩
   .obtain⟨w,q⟩:=t.way m x
    refine⟨e::w,.cons ?_ o q.back.app,.cons l o q.chain,Xt.mpr ⟨fun z=>?_,q.nodup⟩,fun g c=>?_,fun g c=>?_⟩
    .unfold Jl
     rw[Kj,O6 u];simp
    .obtain⟨i,a,b⟩:=q.heads e z
     rw[l]at a;cases a;exact u b
    .rcases Xg.mp c with rfl|c
     .exact⟨_,v,y⟩
     .exact q.room g c
    .rcases Xg.mp c with rfl|c
     .exact⟨n,l,by simp[QT]⟩
     .obtain⟨i,a,b⟩:=q.heads g c
      exact⟨i,a,f _ b⟩
theorem Tree.nodup {L:Lay ν}{φ:Zg ν}{s:ν}:∀{es:Got ν},Tree L φ s es->(QT es).Nodup
 |_,.root=>by simp[QT]
 |_,.add (n:=k) t c _ _ _ _ _=>by
   have:=t.nodup
   unfold QT at this c ⊢;rw[XB,WZ];refine⟨this,by simp,fun a f b d=>?_⟩;have e:b=k:=by simpa using d
   exact fun z=>c (e▸z▸f)
theorem Tree.start {L:Lay ν}{φ:Zg ν}{s:ν}:∀{es:Got ν},Tree L φ s es->s∈QT es
 |_,.root=>by simp[QT]
 |_,.add t _ _ _ _ _ _=>by
   have:=t.start
   unfold QT at this ⊢;rw[XB];exact Uj _ this
theorem Tree.sub {L:Lay ν}{φ:Zg ν}{s:ν}:∀{es:Got ν},Tree L φ s es->∀n∈QT es,n∈s::Wg L
 |_,.root,n,b=>by
   have e:n=s:=by simpa [QT] using b
   rw[e];exact Xb
 |_,.add (es:=es) (n:=k) t d c _ _ _ _,n,b=>by
   have a:n∈QT es\/n=k:=by simpa [QT] using b
   rcases a with a|rfl
   .exact t.sub n a
   .exact Xe _ (List.mem_of_getElem?<|(Hf L _).trans c)
theorem HB {a:Type} [DecidableEq a]:∀{xs ys:List a},xs.Nodup->(∀x∈xs,x∈ys)->xs.length<=ys.length
 |[],_,_,_=>XQ _
 |x::xs,ys,e,h=>by
   obtain⟨g,f⟩:=Xt.mp e;have c:=h x Xb
   have:=HB (xs:=xs) (ys:=ys.erase x) f fun z b=>by
    have d:z≠x:=fun q=>g (q▸b)
    exact(List.mem_erase_of_ne d).mpr (h z<|Xe _ b)
   rw[List.length_erase_of_mem c]at this;have:0<ys.length:=List.length_pos_of_mem c;rw[XS];omega
def Tree.len {L:Lay ν}{φ:Zg ν}{s:ν}{es:Got ν}(t:Tree L φ s es):es.length<=(Wg L).length+1:=by
 have:=HB t.nodup t.sub
 simpa [QT] using this
def Ye (L:Lay ν)(φ:Zg ν)(es:Got ν):Prop := ∀e m n r,tlE L e=some m->hdE L e=some n->rmE L φ e=some r->0<r->m∈QT es->n∈QT es
end
end Mir
namespace Mir
inductive Nd where
 |start|fin
 |guest (k:Nat)
 |line (l t:Nat)
deriving DecidableEq
structure Gv where
 m:Nat
 ln:Nat->Nat
 wa:Qn
 mo:Qn
 th:Nat->Qm
noncomputable def upN (y:Yd)(l:Nat):Nat:=(Zd y l).getD 0
noncomputable def Vi (y:Yd)(G:Gv)(k:Nat):Lay Nd:=(.start,.guest k,G.wa k)::(List.range y.T).flatMap fun t=>if G.th k t=true then [(.guest k,.line (G.ln k) t,G.mo k)] else []
noncomputable def VH (y:Yd)(t:Nat):Lay Nd:=(.line 0 t,.fin,Z3 y 0 t)::(List.range<|y.ls.length-1).flatMap fun i=>[(.line (i+1) t,.line (upN y<|i+1) t,Z3 y (i+1) t)]
noncomputable def Zm (y:Yd)(G:Gv):Lay Nd:=(List.range G.m).flatMap (Vi y G)++(List.range y.T).flatMap (VH y)
def Pc (A B:Lay Nd)(F:Nd->Nd->Int):Vj (A++B) F=Vj A F+Vj B F:=by
 unfold Vj;rw[XB,Bc]
theorem GP (f:Nat->Lay Nd)(F:Nd->Nd->Int):∀n,Vj ((List.range n).flatMap f) F=Qz (fun k=>Vj (f k) F) n
 |0=>rfl
 |n+1=>by
   rw[Y7,Ui,Pc,GP f F n];simp[Qz]
def SZ (x:Nd×Nd×Int)(F:Nd->Nd->Int):Vj [x] F=F x.1 x.2.1:=by simp[Vj]
def PO (x:Nd×Nd×Int)(L:Lay Nd)(F:Nd->Nd->Int):Vj (x::L) F=F x.1 x.2.1+Vj L F:=by simp[Vj]
def EI (y:Yd)(G:Gv)(F:Nd->Nd->Int)(k:Nat):Vj (Vi y G k) F=F .start (.guest k)+Qz (fun t=>if G.th k t=true then F (.guest k) (.line (G.ln k) t) else 0) y.T:=by
 unfold Vi;rw[PO,GP];congr 1;refine Zi fun t _=>?_
 split
 .rw[SZ]
 .rfl
def Ih (y:Yd)(F:Nd->Nd->Int)(t:Nat):Vj (VH y t) F=F (.line 0 t) .fin+Qz (fun i=>F (.line (i+1) t)<|.line (upN y<|i+1) t) (y.ls.length-1):=by
 unfold VH;rw[PO,GP];congr 1;refine Zi fun t _=>?_;rw[SZ]
def HC (y:Yd)(G:Gv)(F:Nd->Nd->Int):Vj (Zm y G) F =
 Qz (fun k=>F .start (.guest k)+Qz (fun t=>if G.th k t=true then F (.guest k) (.line (G.ln k) t) else 0) y.T) G.m +
 Qz (fun t=>F (.line 0 t) .fin+Qz (fun i=>F (.line (i+1) t)<|.line (upN y<|i+1) t) (y.ls.length-1)) y.T:=by
 unfold Zm;rw[Pc,GP,GP];congr 1
 .exact Zi fun k _=>EI y G F k
 .exact Zi fun t _=>Ih y F t
def YT   : x∈Vi y G k↔x=(.start,.guest k,G.wa k)\/∃t,t<y.T/\G.th k t=true/\x=(.guest k,.line (G.ln k) t,G.mo k):=by
 unfold Vi;rw[Xg,Wa];refine or_congr Iff.rfl ⟨?_,by rintro⟨t,b,d,a⟩;exact⟨t,XI.mpr b,by rw[Xd d];exact Xh.mpr a⟩⟩;rintro⟨t,b,a⟩
 by_cases c:G.th k t=true
 .rw[Xd c]at a
  exact⟨t,XI.mp b,c,Xh.mp a⟩
 .rw[Xa c]at a;cases a
def WT  : x∈VH y t↔x=(.line 0 t,.fin,Z3 y 0 t)\/∃i,i<y.ls.length-1/\x=(.line (i+1) t,.line (upN y<|i+1) t,Z3 y (i+1) t):=by
 unfold VH;rw[Xg,Wa];refine or_congr Iff.rfl ⟨?_,by rintro⟨i,b,a⟩;exact⟨i,XI.mpr b,Xh.mpr a⟩⟩;rintro⟨i,b,a⟩;exact⟨i,XI.mp b,Xh.mp a⟩
def UK  : x∈Zm y G↔(∃k,k<G.m/\x∈Vi y G k)\/∃t,t<y.T/\x∈VH y t:=by
 unfold Zm;rw[Xy,Wa,Wa];simp only[XI]
def BX (n:Nat):(List.range n).Pairwise (· ≠ ·):=List.nodup_range
def BJ (y:Yd)(G:Gv):Dis (Zm y G):=by
 unfold Dis List.Nodup;rw[List.pairwise_map];unfold Zm;rw[List.pairwise_append];refine⟨?_,?_,?_⟩
 .rw[MB]
  refine⟨fun k _=>?_,(BX _).imp fun{k j} d x a z b=>?_⟩
  .unfold Vi
   rw[List.pairwise_cons];refine⟨fun x a=>?_,?_⟩
   .obtain⟨t,_,a⟩:=Wa.mp a
    split at a
    .rw[Xh.mp a];intro q;cases q
    .cases a
   .rw[MB]
    refine⟨fun t _=>?_,(BX _).imp fun{t u} c x a z b=>?_⟩
    .split
     .exact List.pairwise_singleton _ _
     .exact List.Pairwise.nil
    .split at a
     .split at b
      .rw[Xh.mp a,Xh.mp b]
       intro q;simp at q;exact c q
      .cases b
     .cases a
  .rcases YT.mp a with rfl|⟨t,_,_,rfl⟩<;>rcases YT.mp b with rfl|⟨u,_,_,rfl⟩<;>intro q<;>simp at q
   .exact d q
   .exact d q.1
 .rw[MB]
  refine⟨fun t _=>?_,(BX _).imp fun{t u} c x a z b=>?_⟩
  .unfold VH
   rw[List.pairwise_cons];refine⟨fun x a=>?_,?_⟩
   .obtain⟨i,_,a⟩:=Wa.mp a
    rw[Xh.mp a];intro q;cases q
   .rw[MB]
    refine⟨fun t _=>List.pairwise_singleton _ _,(BX _).imp fun{i j} e x a z b=>?_⟩;rw[Xh.mp a,Xh.mp b];intro q;simp at q;exact e q.1
  .rcases WT.mp a with rfl|⟨i,_,rfl⟩<;>rcases WT.mp b with rfl|⟨j,_,rfl⟩<;>intro q<;>simp at q
   .exact c q
   .exact c q.1.2
 .intro x a z b
  obtain⟨k,_,a⟩:=Wa.mp a;obtain⟨t,_,b⟩:=Wa.mp b
  rcases YT.mp a with rfl|⟨f,_,_,rfl⟩<;>rcases WT.mp b with rfl|⟨j,_,rfl⟩<;>intro q<;>simp at q
end Mir
namespace Mir
noncomputable def QM (G:Gv)(φ:Zg Nd)(t k:Nat):Int:=if G.th k t=true then φ (.guest k) (.line (G.ln k) t) else 0
noncomputable def upF (y:Yd)(φ:Zg Nd)(t l:Nat):Int:=if l=0 then φ (.line 0 t) .fin else φ (.line l t) (.line (upN y l) t)
theorem Kf (f:Qn):∀n,Qz f (n+1)=f 0+Qz (fun i=>f<|i+1) n
 |0=>by simp[Qz]
 |n+1=>by
   show Qz f (n+1)+f (n+1)=_;rw[Kf f n];simp[Qz];omega
def ZW {p:Prop} [Decidable p] (h:¬p):ind p=0:=Xa h
def B9 {p q:Prop} [Decidable p] [Decidable q] (h:p↔q):ind p=ind q:=by unfold ind;simp only[h]
def IG (y:Yd)(G:Gv)(φ:Zg Nd)(b:k0<G.m):V5 (Zm y G) φ (.guest k0)=Qz (fun t=>QM G φ t k0) y.T-φ .start (.guest k0):=by
 unfold V5;rw[HC];have c:Qz (fun t=>φ (.line 0 t) .fin*(ind (Nd.line 0 t=.guest k0)-ind (Nd.fin=.guest k0))+Qz (fun i=>φ (.line (i+1) t) (.line (upN y<|i+1) t)*(ind (Nd.line (i+1) t=.guest k0)-ind (Nd.line (upN y<|i+1) t=.guest k0))) (y.ls.length-1)) y.T=0:=by
  rw[Zi (g:=fun _=>0) fun t _=>?_,Vh];rw[ZW (by rintro⟨⟩),ZW (by rintro⟨⟩),Zi (g:=fun _=>0) fun i _=>?_,Vh]
  .simp
  .rw[ZW (by rintro⟨⟩),ZW fun z=>nomatch z];simp
 rw[c,YH];rw[Zi (g:=fun k=>if k=k0 then Qz (fun t=>QM G φ t k0) y.T-φ .start (.guest k0) else 0) fun k _=>?_,UD,Xd b];rw[ZW (p:=Nd.start=.guest k0) fun z=>nomatch z]
 by_cases e:k=k0
 .subst e
  rw[Xd rfl];have:Qz (fun t=>if G.th k t=true then φ (.guest k) (.line (G.ln k) t)*(ind (Nd.guest k=.guest k)-ind (Nd.line (G.ln k) t=.guest k)) else 0) y.T=Qz (fun t=>QM G φ t k) y.T:=by
   refine Zi fun t _=>?_;unfold QM;split
   .rw[ZW (p:=Nd.line (G.ln k) t=.guest k) fun z=>nomatch z]
    simp[ind]
   .rfl
  rw[this];simp[ind];omega
 .have a:¬Nd.guest k=.guest k0:=fun z=>e (by injection z)
  rw[Xa e,ZW a,Zi (g:=fun _=>0) fun t _=>?_,Vh]
  .simp
  .rw[ZW (p:=Nd.line (G.ln k) t=.guest k0) fun z=>nomatch z]
   simp
def Hz (b:y.Ok)(h0:0<c)(d:c<y.ls.length):upN y c=l↔Zd y c=some l:=by
 obtain⟨a,e,_⟩:=b.ups c h0 d;unfold upN;rw[e];simp
def E1 (a:y.Ok)(G:Gv)(φ:Zg Nd)(h:l<y.ls.length)(b:t0<y.T):V5 (Zm y G) φ (.line l t0) =
 upF y φ t0 l-Qz (fun k=>QM G φ t0 k*ind (G.ln k=l)) G.m-Qz (fun c=>if Zd y c=some l then upF y φ t0 c else 0) y.ls.length:=by
 unfold V5;rw[HC];have m:Qz (fun k=>φ .start (.guest k)*(ind (Nd.start=.line l t0)-ind (Nd.guest k=.line l t0))+Qz (fun t=>if G.th k t=true then φ (.guest k) (.line (G.ln k) t)*(ind (Nd.guest k=.line l t0)-ind (Nd.line (G.ln k) t=.line l t0)) else 0) y.T) G.m = - Qz (fun k=>QM G φ t0 k*ind (G.ln k=l)) G.m:=by
  rw[show-Qz (fun k=>QM G φ t0 k*ind (G.ln k=l)) G.m=(-1)*Qz (fun k=>QM G φ t0 k*ind (G.ln k=l)) G.m by omega,<- BY];refine Zi fun k _=>?_;rw[ZW (p:=Nd.start=.line l t0) (by rintro⟨⟩),ZW (p:=Nd.guest k=.line l t0) fun z=>nomatch z];rw[Zi (g:=fun t=>if t=t0 then-(QM G φ t0 k*ind (G.ln k=l)) else 0) fun t _=>?_,UD,Xd b]
  .simp
  .by_cases e:t=t0
   .subst e
    rw[Xd rfl,B9 (p:=Nd.line (G.ln k) t=.line l t) (q:=G.ln k=l)<|by simp];unfold QM;split
    .rw[Int.zero_sub,Int.mul_neg]
    .simp
   .rw[Xa e,ZW (p:=Nd.line (G.ln k) t=.line l t0) fun z=>e<|by injection z]
    simp
 rw[m];have j:Qz (fun t=>φ (.line 0 t) .fin*(ind (Nd.line 0 t=.line l t0)-ind (Nd.fin=.line l t0))+Qz (fun i=>φ (.line (i+1) t) (.line (upN y<|i+1) t)*(ind (Nd.line (i+1) t=.line l t0)-ind (Nd.line (upN y<|i+1) t=.line l t0))) (y.ls.length-1)) y.T
  = upF y φ t0 l-Qz (fun c=>if Zd y c=some l then upF y φ t0 c else 0) y.ls.length:=by
  rw[Zi (g:=fun t=>if t=t0 then upF y φ t0 l-Qz (fun c=>if Zd y c=some l then upF y φ t0 c else 0) y.ls.length else 0) fun t _=>?_,UD,Xd b];rw[ZW (p:=Nd.fin=.line l t0) fun z=>nomatch z]
  by_cases e:t=t0
  .subst e
   rw[Xd rfl,B9 (p:=Nd.line 0 t=.line l t) (q:=0=l)<|by simp];have d:y.ls.length=(y.ls.length-1)+1:=by omega
   have s:upF y φ t l=Qz (fun c=>if c=l then upF y φ t l else 0) y.ls.length:=by rw[UD,Xd h]
   have r:∀c,c<y.ls.length->(if c=l then upF y φ t l else 0)=upF y φ t c*ind (c=l):=fun c _=>by
    by_cases q:c=l
    .subst q;simp[ind]
    .simp[ind,q]
   rw[s,Zi r,d,Kf,Kf];have f:¬Zd y 0=some l:=fun z=>by rw[a.up0]at z;cases z
   have n:upF y φ t 0=φ (.line 0 t) .fin:=by unfold upF;rw[Xd rfl]
   rw[Xa f,n,<- d];have o:Qz (fun i=>φ (.line (i+1) t) (.line (upN y<|i+1) t)*(ind (Nd.line (i+1) t=.line l t)-ind (Nd.line (upN y<|i+1) t=.line l t))) (y.ls.length-1)
    = Qz (fun i=>upF y φ t (i+1)*ind (i+1=l)) (y.ls.length-1)+Qz (fun i => -1*(if Zd y (i+1)=some l then upF y φ t (i+1) else 0)) (y.ls.length-1):=by
    rw[<- GK];refine Zi fun i u=>?_;rw[B9 (p:=Nd.line (i+1) t=.line l t) (q:=i+1=l)<|by simp,B9 (p:=Nd.line (upN y<|i+1) t=.line l t) (q:=Zd y (i+1)=some l)<|by rw[<- Hz a (by omega) (by omega)];simp]
    have:upF y φ t (i+1)=φ (.line (i+1) t) (.line (upN y<|i+1) t):=by unfold upF;rw[Xa<|by omega]
    rw[this,UX];by_cases q:Zd y (i+1)=some l
    .rw[Xd q];simp[ind,q];omega
    .rw[Xa q];simp[ind,q]
   rw[o,BY];simp only[Int.sub_zero];omega
  .rw[Xa e,ZW (p:=Nd.line 0 t=.line l t0) (fun z=>e<|by injection z),Zi (g:=fun _=>0) fun i _=>?_,Vh]
   .simp
   .rw[ZW (p:=Nd.line (i+1) t=.line l t0) (fun z=>e<|by injection z),ZW (p:=Nd.line (upN y<|i+1) t=.line l t0) fun z=>e<|by injection z]
    simp
 rw[j];omega
end Mir
namespace Mir
section
variable {ν:Type} [DecidableEq ν]
def Ye.fwd  (hw:Within L φ)(d:Ye L φ es){x:ν×ν×Int}(c:x∈L)(g:x.1∈QT es)(f:x.2.1∉QT es):φ x.1 x.2.1=x.2.2:=by
 obtain⟨i,a⟩:=List.mem_iff_getElem?.mp c;have e:(2*i)/2=i:=by omega
 have b:(2*i)%2=0:=by omega
 by_cases z:φ x.1 x.2.1=x.2.2
 .exact z
 .have:=hw x c
  exact Xm (d (2*i) x.1 x.2.1 (x.2.2-φ x.1 x.2.1) (by unfold tlE;rw[e,a,b];rfl) (by unfold hdE;rw[e,a,b];rfl) (by unfold rmE;rw[e,a,b];rfl) (by omega) g) f
def Ye.bwd  (hw:Within L φ)(d:Ye L φ es){x:ν×ν×Int}(c:x∈L)(g:x.1∉QT es)(f:x.2.1∈QT es):φ x.1 x.2.1=0:=by
 obtain⟨i,a⟩:=List.mem_iff_getElem?.mp c;have e:(2*i+1)/2=i:=by omega
 have b:¬(2*i+1)%2=0:=by omega
 by_cases z:φ x.1 x.2.1=0
 .exact z
 .have:=hw x c
  exact Xm (d (2*i+1) x.2.1 x.1 (φ x.1 x.2.1) (by unfold tlE;rw[e,a];simp[b]) (by unfold hdE;rw[e,a];simp[b]) (by unfold rmE;rw[e,a];simp[b]) (by omega) f) g
end
structure Flow (y:Yd)(G:Gv)(φ:Zg Nd):Prop where
 wi:Within (Zm y G) φ
 kp:∀n,n≠.start->n≠.fin->V5 (Zm y G) φ n=0
def RN  (a:k<G.m):((.start,.guest k,G.wa k):Nd×Nd×Int)∈Zm y G:=UK.mpr (.inl ⟨k,a,YT.mpr<|.inl rfl⟩)
def BC  (b:k<G.m)(a:t<y.T)(h:G.th k t=true):((.guest k,.line (G.ln k) t,G.mo k):Nd×Nd×Int)∈Zm y G:=UK.mpr (.inl ⟨k,b,YT.mpr<|.inr ⟨t,a,h,rfl⟩⟩)
def Rk  (a:t<y.T):((.line 0 t,.fin,Z3 y 0 t):Nd×Nd×Int)∈Zm y G:=UK.mpr (.inr ⟨t,a,WT.mpr<|.inl rfl⟩)
def MZ  (a:t<y.T)(h0:0<l)(b:l<y.ls.length):((.line l t,.line (upN y l) t,Z3 y l t):Nd×Nd×Int)∈Zm y G :=
 UK.mpr (.inr ⟨t,a,WT.mpr<|.inr ⟨l-1,by omega,by rw[show l-1+1=l by omega]⟩⟩)
noncomputable def moT (G:Gv)(t k:Nat):Int:=if G.th k t=true then G.mo k else 0
section
variable {y:Yd}{G:Gv}{φ:Zg Nd}(F:Flow y G φ)
include F
theorem Flow.tak (b:k<G.m)(a:t<y.T):0<=QM G φ t k/\QM G φ t k<=moT G t k:=by
 unfold QM moT;by_cases c:G.th k t=true
 .rw[Xd c,Xd c]
  exact F.wi _ (BC b a c)
 .rw[Xa c,Xa c]
  omega
theorem Flow.total (a:k<G.m):Qz (fun t=>QM G φ t k) y.T=φ .start (.guest k):=by
 have:=F.kp (.guest k) (by rintro⟨⟩) (by rintro⟨⟩)
 rw[IG y G φ a]at this;omega
theorem Flow.want (a:k<G.m):0<=φ .start (.guest k)/\φ .start (.guest k)<=G.wa k:=F.wi _ (RN a)
theorem Flow.up (b:y.Ok)(a:∀k,k<G.m->G.ln k<y.ls.length){t:Nat}(f:t<y.T):∀n l,y.ls.length<=l+n->l<y.ls.length->upF y φ t l=ZK y G.m G.ln (QM G φ t) l
 |0,l,h,d=>by omega
 |n+1,l,h,d=>by
   have z:=F.kp (.line l t) (by rintro⟨⟩) (by rintro⟨⟩)
   rw[E1 b G φ d f]at z;have e:Qz (fun c=>if Zd y c=some l then upF y φ t c else 0) y.ls.length=Qz (fun c=>if Zd y c=some l then ZK y G.m G.ln (QM G φ t) c else 0) y.ls.length:=by
    refine Zi fun c g=>?_
    by_cases u:Zd y c=some l
    .rw[Xd u,Xd u]
     have:=JP b g u
     exact Flow.up b a f n c (by omega) g
    .rw[Xa u,Xa u]
   rw[UO b a _ d,<- e];omega
theorem Flow.up_ok (c:y.Ok)(a:t<y.T)(b:l<y.ls.length):0<=upF y φ t l/\upF y φ t l<=Z3 y l t:=by
 unfold upF;by_cases z:l=0
 .subst z
  rw[Xd rfl];exact F.wi _ (Rk a)
 .rw[Xa z]
  exact F.wi _ (MZ a (by omega) b)
theorem Flow.load (b:y.Ok)(a:∀k,k<G.m->G.ln k<y.ls.length)(c:t<y.T)(d:l<y.ls.length):ZK y G.m G.ln (QM G φ t) l<=Z3 y l t:=by
 rw[<- F.up b a c y.ls.length l (by omega) d];exact(F.up_ok b c d).2
noncomputable def Vr (es:Got Nd)(k:Nat):Bool:=decide (Nd.guest k∈QT es)
noncomputable def TZ (es:Got Nd)(t l:Nat):Bool:=decide (Nd.line l t∈QT es)
omit F in
theorem not_of {p:Prop} [Decidable p] (h:decide p=false):¬p:=Ug h
theorem Flow.shut (ok:y.Ok)(d:∀k,k<G.m->G.ln k<y.ls.length)(e:Ye (Zm y G) φ es)(h:Nd.fin∉QT es)(b:t<y.T) :
 Shut y G.m G.ln (QM G φ t) (moT G t) (fun l=>Z3 y l t) (Vr es) (TZ es t) where
 nn k hk:=(F.tak hk b).1
 full k hk hS hR:=by
  unfold QM moT;by_cases c:G.th k t=true
  .rw[Xd c,Xd c]
   exact e.fwd F.wi (BC hk b c) (XW hS) (not_of hR)
  .rw[Xa c,Xa c]
 none k hk hS hR:=by
  unfold QM;by_cases c:G.th k t=true
  .rw[Xd c]
   exact e.bwd F.wi (BC hk b c) (not_of hS) (XW hR)
  .rw[Xa c]
 top hR:=by
  have i:=ok.l1;rw[<- F.up ok d b y.ls.length 0 (by omega) (by omega)];unfold upF;rw[Xd rfl];exact e.fwd F.wi (Rk b) (XW hR) h
 out c a hcl u h1 h2:=by
  have g:c≠0:=fun z=>by subst z;rw[ok.up0]at u;cases u
  have f:upN y c=a:=(Hz ok (by omega) hcl).mpr u;rw[<- F.up ok d b y.ls.length c (by omega) hcl];unfold upF;rw[Xa g];exact e.fwd F.wi (MZ b (by omega) hcl) (XW h1) (by rw[f];exact not_of h2)
 inn c a hcl u h1 h2:=by
  have g:c≠0:=fun z=>by subst z;rw[ok.up0]at u;cases u
  have f:upN y c=a:=(Hz ok (by omega) hcl).mpr u;rw[<- F.up ok d b y.ls.length c (by omega) hcl];unfold upF;rw[Xa g];exact e.bwd F.wi (MZ b (by omega) hcl) (not_of h1) (by rw[f];exact XW h2)
theorem Flow.filled (c:Ye (Zm y G) φ es)(b:Nd.start∈QT es)(a:k<G.m)(d:Vr es k=false):Qz (fun t=>QM G φ t k) y.T=G.wa k:=by
 rw[F.total a];exact c.fwd F.wi (RN a) b (not_of d)
noncomputable def V2 (G:Gv)(S:Qm)(t l:Nat):Int:=Qz (fun k=>QZ S (moT G t) k*ind (G.ln k=l)) G.m
omit F in
theorem RZ {y:Yd}(b:y.Ok):∀n j,j<n->j<y.ls.length->0∈upL y j
 |0,j,h,_=>by omega
 |n+1,j,h,c=>by
   by_cases z:j=0
   .subst z;exact HF y 0
   .obtain⟨a,d,e⟩:=b.ups j (by omega) c
    exact(DD b (by omega) c d 0 fun q=>z q.symm).mpr (RZ b n a (by omega)<|by omega)
omit F in
theorem SI (b:y.Ok)  (a:∀k,k<m->ln k<y.ls.length)(f:Qn):ZK y m ln f 0=Qz f m :=
 Zi fun k c=>by
  unfold ind;rw[Xd<|RZ b _ _ (WY _)<|a k c,Int.mul_one]
theorem Flow.no_more (b:y.Ok)(a:∀k,k<G.m->G.ln k<y.ls.length)(S:Qm)(c:t<y.T):Qz (QZ S<|QM G φ t) G.m<=passes y (fun l=>Z3 y l t) (V2 G S t) 0:=by
 have j:=b.l1;rw[<- SI b a];refine Mir.no_more b a (fun l h=>?_) (fun l h=>?_) y.ls.length 0 (by omega) (by omega)
 .refine YU fun k d=>?_
  have q:=F.tak d c
  by_cases e:G.ln k=l
  .unfold QZ ind
   rw[Xd e];split<;>omega
  .rw[ZW e];omega
 .have q:=F.load b a c h
  have i:=RT (y:=y) (ln:=G.ln) (f:=QZ S (QM G φ t)) (g:=QM G φ t) (fun k d=>Hm (F.tak d c).1) l;omega
theorem Flow.meet (d:y.Ok)(c:∀k,k<G.m->G.ln k<y.ls.length)(g:Ye (Zm y G) φ es)(f:Nd.fin∉QT es)(e:t<y.T) :
 passes y (fun l=>Z3 y l t) (V2 G (Vr es) t) 0=Qz (QZ (Vr es)<|QM G φ t) G.m:=by
 have h:=d.l1;have a:=F.no_more d c (Vr es) e;have b:=(F.shut d c g f e).all d c (own:=V2 G (Vr es) t) (fun l i=>rfl) y.ls.length 0 (by omega) (by omega) (fun _=>.inl rfl);rw[SI d c]at b;omega
omit F in
theorem Hr (f g:Qn):∀n,Qz (fun k=>f k-g k) n=Qz f n-Qz g n
 |0=>rfl
 |n+1=>by
   simp only[Qz];rw[Hr f g n];omega
theorem Flow.lack (c:y.Ok)(a:∀k,k<G.m->G.ln k<y.ls.length)(b:Ye (Zm y G) φ es)(e:Nd.start∈QT es)(h:Nd.fin∉QT es) :
 Qz (fun k=>G.wa k-Qz (fun t=>QM G φ t k) y.T) G.m=Qz (QZ (Vr es) G.wa) G.m-Qz (fun t=>passes y (fun l=>Z3 y l t) (V2 G (Vr es) t) 0) y.T:=by
 rw[Zi (n:=y.T) fun t d=>F.meet c a b h d,GU,<- Hr];refine Zi fun k f=>?_
 cases s:Vr es k with
 |true =>
   have:Qz (fun t=>QZ (Vr es) (QM G φ t) k) y.T=Qz (fun t=>QM G φ t k) y.T:=Zi fun t _=>by unfold QZ;rw[Xd s]
   rw[this];unfold QZ;rw[Xd s]
 |false =>
   have:Qz (fun t=>QZ (Vr es) (QM G φ t) k) y.T=0:=by
    rw[Zi (g:=fun _=>0) fun t _=>?_,Vh];unfold QZ;rw[Xa<|by rw[s];decide]
   rw[this,F.filled b e f s];unfold QZ;rw[Xa<|by rw[s];decide];omega
omit F in
theorem IM (y:Yd)(G:Gv)(φ:Zg Nd):V5 (Zm y G) φ .start=Qz (fun k=>φ .start<|.guest k) G.m:=by
 unfold V5;rw[HC];have a:Qz (fun t=>φ (.line 0 t) .fin*(ind (Nd.line 0 t=.start)-ind (Nd.fin=.start))+Qz (fun i=>φ (.line (i+1) t) (.line (upN y<|i+1) t)*(ind (Nd.line (i+1) t=.start)-ind (Nd.line (upN y<|i+1) t=.start))) (y.ls.length-1)) y.T=0:=by
  rw[Zi (g:=fun _=>0) fun t _=>?_,Vh];rw[ZW (by rintro⟨⟩),ZW (by rintro⟨⟩),Zi (g:=fun _=>0) fun i _=>?_,Vh]
  .simp
  .rw[ZW (by rintro⟨⟩),ZW fun z=>nomatch z];simp
 rw[a,YH];refine Zi fun k _=>?_;rw[ZW (p:=Nd.guest k=.start) (by rintro⟨⟩),Zi (g:=fun _=>0) fun t _=>?_,Vh]
 .simp[ind]
 .rw[ZW (p:=Nd.line (G.ln k) t=.start) fun z=>nomatch z];simp
theorem Flow.push (f:0<=a)(hw:Chain (Zm y G) .start .fin w)(hn:w.Nodup)(d:∀e∈w,∃r,rmE (Zm y G) φ e=some r/\a<=r) :
 Flow y G (YM (Zm y G) a φ w)/\V5 (Zm y G) (YM (Zm y G) a φ w) .start=V5 (Zm y G) φ .start+a:=by
 refine⟨⟨PZ (BJ y G) f F.wi hn d,fun n c b=>?_⟩,?_⟩
 .rw[HM (BJ y G) n hw,F.kp n c b,ZW fun z=>c z.symm,ZW fun z=>b z.symm]
  simp
 .rw[HM (BJ y G) .start hw,ZW (p:=Nd.fin=.start) fun z=>nomatch z]
  simp[ind]
theorem Flow.most:V5 (Zm y G) φ .start<=Qz G.wa G.m:=by
 rw[IM];exact YU fun k a=>(F.want a).2
end
def TL  (h:∀x∈Zm y G,0<=x.2.2):Flow y G (fun _ _=>0):=by
 refine⟨fun x b=>⟨Wb _,h x b⟩,fun n _ _=>?_⟩
 unfold V5 Vj;have:∀L:Lay Nd,(L.map fun x=>(0:Int)*(ind (x.1=n)-ind (x.2.1=n))).sum=0:=fun L=>by
  induction L with
  |nil=>rfl
  |cons x L a=>rw[Xx,Bb,a];simp
 exact this _
end Mir
namespace Mir
open PySem
def Oq (e:Nat):Builtin.bitAnd (e:Int) 1=((e%2:Nat):Int):=by
 unfold Builtin.bitAnd;have b:decide ((0:Int)<=(e:Int))=true:=XJ (by omega);have a:decide ((0:Int)<=1)=true:=rfl;rw[b,a];show((((e:Int).toNat &&& (1:Int).toNat:Nat)):Int)=_;rw[Xp,show(1:Int).toNat=1 from rfl,Nat.and_one_is_mod]
def L5 (e:Nat):e ||| 1=e+1-e%2:=by
 apply Nat.eq_of_testBit_eq
 intro i;rw[Nat.testBit_or];have a:e%2=0\/e%2=1:=by omega
 cases i with
 |zero =>
   rw[Nat.testBit_zero,Nat.testBit_zero,Nat.testBit_zero];have:(e+1-e%2)%2=1:=by omega
   rw[this];rcases a with h|h<;>rw[h]<;>rfl
 |succ i =>
   rw[Nat.testBit_succ,Nat.testBit_succ,Nat.testBit_succ];have:(e+1-e%2)/2=e/2:=by omega
   rw[this];simp
def EN (e:Nat):Builtin.bitOr (e:Int) 1=((e+1-e%2:Nat):Int):=by
 unfold Builtin.bitOr;have a:Builtin.bitNot (e:Int) = -(e:Int)-1:=rfl;have b:Builtin.bitNot 1 = -2:=rfl
 have c:Builtin.bitAnd (Builtin.bitNot (e:Int)) (Builtin.bitNot 1)=Builtin.bitNot (((e ||| 1:Nat)):Int):=by
  rw[a,b];unfold Builtin.bitAnd;have f:decide ((0:Int) <= -(e:Int)-1)=false:=XH (by omega);have d:decide ((0:Int) <= -2)=false:=rfl;rw[f,d];show Builtin.bitNot ((((Builtin.bitNot (-(e:Int)-1)).toNat ||| (Builtin.bitNot (-2)).toNat:Nat)):Int)=_;have h:(Builtin.bitNot (-(e:Int)-1)).toNat=e:=by show(-(-(e:Int)-1)-1).toNat=e;omega
  have g:(Builtin.bitNot (-2)).toNat=1:=rfl;rw[h,g]
 rw[c,L5];show -(-(((e+1-e%2:Nat)):Int)-1)-1=_;omega
def K7 (e:Nat):Builtin.bitXor (e:Int) 1=(ZeJ e:Int):=by
 unfold Builtin.bitXor;rw[Oq,EN];unfold ZeJ;split<;>omega
end Mir
namespace L2
open PySem PySem.Spec PyProof.Rows
abbrev KK:=List Key×List Key
def Jg (P:Program)(w:World)(a:Addr)(xs:List (KK×Addr×V))(h:Heap):Prop:=xs.length<=sizeLine/\(a==sysModules)=false/\∃b:List (KK×Addr×Value),
 Paired (fun(x:KK×Addr×V) (y:KK×Addr×Value)=>x.1=y.1/\x.2.1=y.2.1/\QK x.2.2 y.2.2) xs b /\
 ∃o c d,h.get? a=some o/\o.ExactDict/\o.data=.dict c d/\c.toList=b.map (entryOfKey<|HN<|ZF P w)/\(b.map (·.1)).Nodup
noncomputable def pdO (P:Program)(w:World)(a:Addr)(xs:List (KK×Addr×V)):HO:=.ext (Jg P w a xs)
def Jg.move   (x:Jg P w a xs h1)(k:∀o,h1.get? a=some o->h2.get? a=some o):Jg P w a xs h2:=by
 obtain⟨z,y,b,r,o,c,d,i,h,g,f,e⟩:=x
 exact⟨z,y,b,r,o,c,d,k _ i,h,g,f,e⟩
def Jg.ok    (x:Jg P w a xs h):Z4 P w H h a (pdO P w a xs):=by
 refine⟨x,?_,fun e d y k=>y.move k⟩;obtain⟨z,y,c,r,o,f,g,b,_⟩:=x
 exact⟨o,b⟩
def Vp (H:Hp)(k:KK)(b:Addr):Prop := ∃p q,H b=some (.tup [.ref p,.ref q])/\H p=some (.tup<|k.1.map kV)/\H q=some (.tup<|k.2.map kV)
def Vp.mono (s:∀b ys,H b=some (.tup ys)->H' b=some (.tup ys))  (x:Vp H k b):Vp H' k b:=by
 obtain⟨p,q,d,c,a⟩:=x
 exact⟨p,q,s _ _ d,s _ _ c,s _ _ a⟩
section
variable {P:Program}{w:World}{H:Hp}{h:Heap}{a b:Addr}
def BP (c:HOk P w H h)(x:Vp H k b):(HN<|ZF P w).is h k b:=by
 obtain⟨p,q,j,i,g⟩:=x;obtain⟨_,f,r,o,s,m,n,l⟩:=(show Z4 P w H h b (.tup [.ref p,.ref q]) from c b _ j)
 cases r with
 |cons e r =>
   cases r with
   |cons d r =>
     cases r
     cases (show _=Value.ref p from e)
     cases (show _=Value.ref q from d)
     exact⟨o,n,p,q,s,m,l,Wm c i,Wm c g⟩
def Di (f:HOk P w H h)(e:H a=some (pdO P w a xs))(i:∀x∈xs,Vp H x.1 x.2.1):xs.length<=sizeLine/\(a==sysModules)=false/\∃vs,
 Paired (fun(x:KK×Addr×V) (y:KK×Addr×Value)=>x.1=y.1/\x.2.1=y.2.1/\QK x.2.2 y.2.2) xs vs/\h.DictOfH (HN<|ZF P w) a vs:=by
 obtain⟨⟨z,y,vs,r,o,n,s,A,v,u,k,j⟩,d⟩:=(show Z4 P w H h a (pdO P w a xs) from f a _ e);refine⟨z,y,vs,r,o,n,s,A,v,u,k,?_,j⟩;clear j k z e d;induction r with
 |nil=>intro x c;exact nomatch c
 |@cons p q C B g t l =>
   intro x c;rcases Xg.mp c with rfl|c
   .have:=BP f (i p Xb)
    rw[g.1,g.2.1]at this;exact this
   .exact l (fun z m=>i z<|Xe _ m) x c
end
noncomputable def Yi (xs:List (KK×Addr×V))(k:KK):Option V:=(xs.find? fun x=>decide (x.1=k)).map (·.2.2)
abbrev RPD:=Paired (fun(x:KK×Addr×V) (y:KK×Addr×Value)=>x.1=y.1/\x.2.1=y.2.1/\QK x.2.2 y.2.2)
def RPD.val (k:KK)  (r:RPD xs vs):ZM (Yi xs k) ((atKey vs k).map (·.2)):=by
 induction r with
 |nil=>exact True.intro
 |@cons p q b a c t g =>
   by_cases e:p.1=k
   .have f:Yi (p::b) k=some p.2.2:=by simp[Yi,Xz,e]
    have d:(atKey (q::a) k).map (·.2)=some q.2.2:=by simp[atKey,Xz,<- c.1,e]
    rw[f,d];exact c.2.2
   .have f:Yi (p::b) k=Yi b k:=by simp[Yi,Xz,e]
    have d:(atKey (q::a) k).map (·.2)=(atKey a k).map (·.2):=by simp[atKey,Xz,<- c.1,e]
    rw[f,d];exact g
noncomputable def Ja (xs:List (KK×Addr×V))(k:KK)(b:Addr)(v:V):List (KK×Addr×V):=if (Yi xs k).isSome=true then xs.map (fun x=>if x.1=k then (x.1,x.2.1,v) else x) else xs++[(k,b,v)]
def RPD.repl (k:KK)  (b:QK v u)  (r:RPD xs vs):RPD (xs.map fun x=>if x.1=k then (x.1,x.2.1,v) else x) (vs.map<|putAt k u):=by
 induction r with
 |nil=>exact .nil
 |@cons p q f d a t c =>
   rw[Xx,Xx];refine .cons ?_ c;unfold putAt;by_cases e:p.1=k
   .rw[Xd e,Xd<|a.1▸e]
    exact⟨a.1,a.2.1,b⟩
   .rw[Xa e,Xa<|a.1▸e]
    exact a
theorem ZM.some_eq:∀{x:Option V} {y:Qf},ZM x y->x.isSome=y.isSome
 |none,none,_=>rfl
 |some _,some _,_=>rfl
 |none,some _,h=>by cases h
 |some _,none,h=>by cases h
def RPD.put (k:KK)(b:Addr)  (a:QK v u)  (r:RPD xs vs):RPD (Ja xs k b v) (storedH vs k b u):=by
 have e:=ZM.some_eq (r.val k);rw[J9]at e;unfold Ja storedH;rw[e];split
 .exact r.repl k a
 .exact Paired.snoc r ⟨rfl,rfl,a⟩
def OO (xs:List (KK×Addr×V))(k:KK)(b:Addr)(v:V):(Ja xs k b v).length<=xs.length+1:=by
 unfold Ja;split<;>simp
section
variable {X:Cx}{XaV:Qc}{σ:St}{H:Hp}{s:Shared}{a b:Addr}{v:V}{r:Value}{A:Around}{E:Qb}{xs:List (KK×Addr×V)}{k:KK}
def E2 (G:A.units+6<cLine)(I:Qr X XaV σ H s)(e:H a=some (pdO X.prog X.w a xs))(o:∀x∈xs,Vp H x.1 x.2.1)(t:Vp H k b)(l:xs.length<sizeLine)(j:QK v r)
 (h:∀f,Qr X XaV σ (upd H a<|pdO X.prog X.w a<|Ja xs k b v) f->Q () f):wpAny (model X.prog X.w) A (setItem (.ref a) (.ref b) r) Q E s:=by
 obtain⟨z,p,i,c,F⟩:=Di I.hok e o;have m:i.length<=sizeLine:=by rw[<- Paired.length c];exact z
 refine wpAny_setItem_heap (hsz:=m) (show A.units+1+5<cLine by omega) (BP I.hok t) F fun J d n=>h _ ?_;obtain⟨q,C,D,g,B,y,w,_,u⟩:=d;exact GG I (by rw[e];exact True.intro) n ⟨q,g⟩ (Jg.ok ⟨by have:=OO xs k b v;omega,p,_,RPD.put k b j c,q,C,D,g,B,y,w,u⟩)
def EU (o:A.units+6<cLine)(I:Qr X XaV σ H s)(e:H a=some (pdO X.prog X.w a xs))(l:∀x∈xs,Vp H x.1 x.2.1)(m:Vp H k b)(j:Yi xs k=some v)
 (h:∀u g,Qr X XaV σ H g->QK v u->Q u g):wpAny (model X.prog X.w) A (getItem (.ref a)<|.ref b) Q E s:=by
 obtain⟨z,q,i,d,n⟩:=Di I.hok e l;have c:=RPD.val k d;rw[j]at c;cases f:atKey i k with
 |none=>rw[f]at c;cases c
 |some p =>
   rw[f]at c;exact wpAny_getItem_heap (show A.units+1+5<cLine by omega) (BP I.hok m) n f (h _ _ (I.tok _) c)
def FX (n:A.units+6<cLine)(I:Qr X XaV σ H s)(e:H a=some (pdO X.prog X.w a xs))(g:∀x∈xs,Vp H x.1 x.2.1)(j:Vp H k b)
 (h:∀d,Qr X XaV σ H d->Q (.bool<|!(Yi xs k).isSome) d):wpAny (model X.prog X.w) A (compareOp .NotIn (.ref b)<|.ref a) Q E s:=by
 obtain⟨z,i,m,c,l⟩:=Di I.hok e g;have f:=ZM.some_eq (RPD.val k c);rw[J9]at f;refine wpAny_notIn_heap (show A.units+1+5<cLine by omega) (BP I.hok j) i l ?_;rw[<- f];exact h _ (I.tok _)
end
section
variable {X:Cx}{XaV:Qc}{σ:St}{H:Hp}{s:Shared}{a b:Addr}{d:V}{r:Value}{A:Around}{E:Qb}{kvs:List (List Key×V)}{k:List Key}
def Er (C:A.units+1<cLine)(I:Qr X XaV σ H s)(e:H a=some (.dT kvs))(w:H b=some (.tup<|k.map kV))(l:kvs.length<sizeLine)(y:QK d r)
 (L:∀v u i,Z1 kvs k=some v->Qr X XaV σ H i->QK v u->Q u i) (J:Z1 kvs k=none->∀i,Qr X XaV σ (upd H a<|.dT<|kvs++[(k,d)]) i->Q r i) :
 wpAny (model X.prog X.w) A (call (.builtin "dict.setdefault") [.ref a,.ref b,r]) Q E s:=by
 obtain⟨z,t,j,g,x⟩:=Dq I.hok e;have B:j.length<=sizeLine:=by rw[<- Paired.length g];exact z
 have f:=g.val k
 refine call_meetsIn PySem.F.slot_dict_setdefault x.typeIs PySem.F.entry_dict_setdefault (PySem.F.args_dict_setdefault_3 _ _ _) (ZdC (tupleKind<|ZF X.prog X.w) a b t r)
  ⟨tupleKind_room_in1 C,k,j,Wm I.hok w,x,B,fun p F=>?_,fun G U n D=>?_⟩
 .rw[F]at f
  cases h:Z1 kvs k with
  |none=>rw[h]at f;cases f
  |some v=>rw[h]at f;exact L v _ _ h (I.tok _) f
 .have h:Z1 kvs k=none:=by
   rw[G]at f;cases h:Z1 kvs k with
   |none=>rfl
   |some v=>rw[h]at f;cases f
  refine J h _ ?_;obtain⟨q,R,S,o,P,O,N,_,M⟩:=n;refine GG I (by rw[e];exact True.intro) D ⟨q,o⟩ ⟨by simp;omega,t,_,(show KT H (kvs++[(k,d)]) (j++[(k,b,r)]) from Paired.snoc g ⟨rfl,w,y⟩).keeps fun c T m=>?_,q,R,S,o,P,O,N,M⟩;rw[Qt fun z=>by subst z;rw[e]at m;cases m];exact m
end
def R7 (i g h:TE):TE:=fun e H Q=>i e H fun x f=>∃a,x=.ref a/\IsD f a/\g e f fun y j=>h e j fun z d=>∃c k b,y=.ref b/\d a=some (.dT c)/\d b=some (.tup<|k.map kV)/\c.length<sizeLine /\
 (∀v,Z1 c k=some v->Q v d)/\(Z1 c k=none->Q z (upd d a<|.dT<|c++[(k,z)]))
section
variable {X:Cx}{o e f value:Expr}{apos cpos pos pos':Pos}{td ty tx tv:TE}
def Ae (N:X.A.units+1<cLine) (O:PE X o td) (R:PE X e ty) (P:PE X f tx) (m:M2 X o "setdefault" apos e f cpos):PE X (.Call (.Attribute o "setdefault" apos) [e,f] [] cpos) (R7 td ty tx):=by
 intro c s g H Q I h;refine wpAny_Call_method m.base m.few m.line PySem.F.plainAttrs_dict PySem.F.slot_dict_setdefault PySem.F.type_dict_setdefault (Q9 (O c s g H _ I h) ?_);rintro u w ⟨x,H1,p,C,a,T,d,J⟩;subst T;obtain rfl:u=Value.ref a:=C;obtain⟨r,q,_⟩:=Ri p d;refine⟨r,q,?_⟩
 rw[m.trees];refine Calls.callWith_builtin rfl (Calls.evalArgs_plain (Calls.spliced_cons (Q9 (R c w g H1 _ p J) fun M t ⟨y,H2,Z,B,G⟩ =>
  Calls.spliced_cons (Q9 (P c t g H2 _ Z G) fun fv s3 ⟨z,H3,Y,n,L,k,b,S,W,U,l,F,E⟩=>Calls.spliced_nil ?_))))
 subst S;cases (show M=Value.ref b from B);exact Er N Y W U l n (fun v u A i j D=>⟨v,H3,j,D,F v i⟩) (fun i A j=>⟨z,_,j,n,E i⟩)
def Rb (P:Program)(w:World)(td ty:TE):TE:=fun g H Q=>td g H fun x h=>ty g h fun y c=>∃a b d k v,x=.ref a/\y=.ref b/\c a=some (pdO P w a d)/\(∀x∈d,Vp c x.1 x.2.1)/\Vp c k b/\Yi d k=some v/\Q v c
def RX (P:Program)(w:World)(ty td:TE):TE:=fun g H Q=>ty g H fun y h=>td g h fun x c=>∃a b d k,x=.ref a/\y=.ref b/\c a=some (pdO P w a d)/\(∀x∈d,Vp c x.1 x.2.1)/\Vp c k b/\Q (.bl<|!(Yi d k).isSome) c
def NT (P:Program)(w:World)(td ty tv:TE):TS:=fun D c H=>tv c H fun v i=>td c i fun x h=>ty c h fun y g=>∃a b d k,x=.ref a/\y=.ref b/\g a=some (pdO P w a d)/\(∀x∈d,Vp g x.1 x.2.1)/\Vp g k b/\d.length<sizeLine /\
 D.nx c (upd g a<|pdO P w a<|Ja d k b v)
def Of {b:Qc} {c:St} {H:Hp} {s:Shared} {a:Addr} {xs:List (KK×Addr×V)} (I:Qr X b c H s) (e:H a=some (pdO X.prog X.w a xs)):s.TypeIs (.ref a) "dict" := by
 obtain⟨⟨_,_,h,_,o,i,j,g,d,_⟩,_⟩:=(show Z4 X.prog X.w H s.heap a (pdO X.prog X.w a xs) from I.hok a _ e)
 exact⟨o,g,d.1⟩
def Cf (t:X.A.units+6<cLine)(z:PE X o td)(A:PE X e ty)(w:MN e):PE X (.Subscript o e pos) (Rb X.prog X.w td ty):=by
 intro c s g H Q I h;refine Sq PySem.F.slot_dict_getitem.lookup w (Q9 (z c s g H _ I h) ?_);rintro u l ⟨x,M,J,n,q⟩;refine Q9 (A c l g M _ J q) ?_;rintro r R ⟨y,L,j,m,a,b,N,k,v,C,B,i,F,E,D,p⟩;subst C B;obtain rfl:u=Value.ref a:=n;obtain rfl:r=Value.ref b:=m
 exact⟨Of j i,EU t j i F E D fun O P G d=>⟨v,L,G,d,p⟩⟩
def E8 (q:X.A.units+6<cLine)(t:PE X e ty)(r:PE X o td):PC X .NotIn e o (RX X.prog X.w ty td):=by
 intro c s d H Q I h;refine Q9 (t c s d H _ I h) ?_;rintro p i ⟨y,G,E,j,n⟩;refine Q9 (r c i d G _ E n) ?_;rintro u L ⟨x,F,D,l,a,b,g,k,w,v,B,A,z,m⟩;subst w v;obtain rfl:u=Value.ref a:=l;obtain rfl:p=Value.ref b:=j;exact FX q D B A z fun J C=>⟨.bl<|!(Yi g k).isSome,F,C,rfl,m⟩
def Cl (A:X.A.units+6<cLine)(C:PE X o td)(E:PE X e ty)(z:PE X value tv)(B:swapsWith value (some<|.Subscript o e pos') pos.line X.env=pure false) :
 PS X (.Assign [.Subscript o e pos'] value pos) (NT X.prog X.w td ty tv):=by
 intro c s d H D I h;refine wpAny_Assign_Subscript (Q9 (z c s d H _ I h) ?_) B;rintro r i ⟨v,S,Q,n,t⟩;refine Q9 (C c i d S _ Q t) ?_;rintro u g ⟨x,R,P,m,q⟩;refine Q9 (E c g d R _ P q) ?_;rintro w W ⟨y,Y,O,j,a,b,T,k,G,F,M,L,J,l,p⟩;subst G F;obtain rfl:u=Value.ref a:=m;obtain rfl:w=Value.ref b:=j;exact E2 A O M L J l n fun U N=>⟨d,_,N,p⟩
end
def Lo (P:Program)(w:World):TE:=fun _ H Q=>∀p,H p=none->Q (.ref p) (upd H p<|pdO P w p [])
def Ek  : PE X (.Dict [] [] pos) (Lo X.prog X.w):=fun b s c H Q I h =>
 wpAny_Dict_empty ⟨.ref s.heap.objs.size,_,I.laid (a:=s.heap.objs.size) (o:=pdO X.prog X.w s.heap.objs.size []) (t':=s.toks) (fun _ _ q=>Xi _ q) (Xv _)
  (Jg.ok ⟨XQ _,beq_eq_false_iff_ne.mpr<|Ne.symm<|Xu I.big,[],.nil,_,#[],0,XF _ rfl,⟨rfl,rfl,rfl⟩,rfl,rfl,JD⟩),rfl,h _<|I.hok.fresh<|Xv _⟩
structure Q7 where
 ends:List (List Key)
 rooms:Ql
 leav:List (List Key×Ql)
 laid:List (KK×Int)
inductive LaidD (F:Hp):List (KK×Addr×V)->List (KK×Int)->Prop
 |nil:LaidD F [] []
 |cons {k:KK} {b:Addr} {n:Int} {xs:List (KK×Addr×V)} {ls:List (KK×Int)}:Vp F k b->LaidD F xs ls->LaidD F ((k,b,.int n)::xs) ((k,n)::ls)
theorem LaidD.mono {F a:Hp}(s:Q5 F a):∀{xs:List (KK×Addr×V)} {ls:List (KK×Int)},LaidD F xs ls->LaidD a xs ls
 |_,_,.nil=>.nil
 |_,_,.cons h t=>.cons (h.mono fun b c e=>s _ _ e) (t.mono s)
theorem LaidD.at {F H:Hp}(s:Q5 F H):∀{xs:List (KK×Addr×V)} {ls:List (KK×Int)},LaidD F xs ls->∀x∈xs,Vp H x.1 x.2.1
 |_,_,.nil,x,a=>nomatch a
 |_,_,.cons h t,x,a=>by
   rcases Xg.mp a with rfl|a
   .exact h.mono fun b c e=>s _ _ e
   .exact t.at s x a
inductive LeavD (F H:Hp):List (List Key×V)->List (List Key×Ql)->Qg->Prop
 |nil:LeavD F H [] [] []
 |cons {k:List Key} {a:Addr} {ns:Ql} {xs:List (List Key×V)} {ls:List (List Key×Ql)} {as:Qg}:Vm F H a (ns.map PyData.int)->LeavD F H xs ls as->LeavD F H ((k,.ref a)::xs) ((k,ns)::ls) (a::as)
theorem LeavD.mem {F H:Hp}:∀{xs:List (List Key×V)} {ls:List (List Key×Ql)} {as:Qg},LeavD F H xs ls as->∀a∈as,F a=none/\H a≠none
 |_,_,_,.nil,a,b=>nomatch b
 |_,_,_,.cons h t,a,b=>by
   rcases Xg.mp b with rfl|b
   .obtain⟨d,xs,c,_⟩:=h
    exact⟨d,Zt c⟩
   .exact t.mem a b
theorem LeavD.mono {F c H f:Hp}(s:Q5 F c):∀{xs:List (List Key×V)} {ls:List (List Key×Ql)} {as:Qg},(∀a∈as,c a=none)->(∀a∈as,f a=H a)->LeavD F H xs ls as->LeavD c f xs ls as
 |_,_,_,_,_,.nil=>.nil
 |_,_,_,e,d,.cons h t=>by
   obtain⟨j,xs,i,g⟩:=h;exact .cons ⟨e _ Xb,xs,by rw[d _ Xb];exact i,g.mono s⟩ (t.mono s (fun a b=>e a<|Xe _ b) fun a b=>d a<|Xe _ b)
theorem LeavD.addrs {F d H c:Hp}:∀{xs:List (List Key×V)} {ls a:List (List Key×Ql)} {as bs:Qg},LeavD F H xs ls as->LeavD d c xs a bs->as=bs
 |_,_,_,_,_,.nil,.nil=>rfl
 |_,_,_,_,_,.cons _ t,.cons _ b=>by rw[t.addrs b]
structure NetOk (P:Program)(w:World)(C:Addr)(N:Q7)(F H:Hp)(a dx e r l d:Addr)(xs:List (List Key×V))(ys:List (KK×Addr×V))(as:Qg):Prop where
 nd:(a::dx::e::r::l::d::as).Nodup
 ins:F a=none/\H a=some (.ins C dx [("ends",.ref e),("rooms",.ref r),("leaving",.ref l),("laid",.ref d)])
 own:F dx=none/\H dx=some (.own a)
 ends:Vm F H e (N.ends.map QR)
 rooms:Vm F H r (N.rooms.map PyData.int)
 leav:F l=none/\H l=some (.dT xs)/\LeavD F H xs N.leav as
 laid:F d=none/\H d=some (pdO P w d ys)/\LaidD F ys N.laid
noncomputable def Zh (P:Program)(w:World)(C:Addr)(N:Q7):OwnP where
 ok K F H v p := ∃a m e r l d u t n,v=.ref a/\p=a::m::e::r::l::d::n/\NetOk P w C N F H a m e r l d u t n
 there:=by
  rintro K F H v p ⟨a,m,e,r,l,d,u,t,n,rfl,rfl,o⟩ b f
  obtain⟨_,⟨x,k⟩,⟨I,z⟩,⟨J,ex,B,_⟩,⟨G,E,y,_⟩,⟨l1,l2,l3⟩,⟨L,D,_⟩⟩:=o;simp only[Xg]at f;rcases f with rfl|rfl|rfl|rfl|rfl|rfl|f
  .exact⟨x,Zt k⟩
  .exact⟨I,Zt z⟩
  .exact⟨J,Zt B⟩
  .exact⟨G,Zt y⟩
  .exact⟨l1,Zt l2⟩
  .exact⟨L,Zt D⟩
  .exact l3.mem b f
 mono:=by
  rintro K F F' H H' v p s h g ⟨a,m,e,r,l,d,u,t,n,rfl,rfl,o⟩
  obtain⟨nd,⟨x,k⟩,⟨I,z⟩,⟨J,ex,B,S⟩,⟨G,E,y,Q⟩,⟨l1,l2,l3⟩,⟨L,D,U⟩⟩:=o
  refine⟨a,m,e,r,l,d,u,t,n,rfl,rfl,nd,⟨h _<|by simp,by rw[g _<|by simp];exact k⟩,⟨h _<|by simp,by rw[g _<|by simp];exact z⟩,⟨h _<|by simp,ex,by rw[g _<|by simp];exact B,S.mono s⟩,
   ⟨h _<|by simp,E,by rw[g _<|by simp];exact y,Q.mono s⟩,⟨h _<|by simp,by rw[g _<|by simp];exact l2,l3.mono s (fun b f=>h b<|by simp[f]) fun b f=>g b<|by simp[f]⟩,⟨h _<|by simp,by rw[g _<|by simp];exact D,U.mono s⟩⟩
 uniq:=by
  rintro K F H v p q ⟨a,m,e,r,l,d,u,t,n,rfl,rfl,o⟩ ⟨a',T,Z,X,Y,d',O,M,W,ev,rfl,A⟩ c R
  cases ev
  have i:=o.ins.2.symm.trans A.ins.2;injection i with i;injection i with _ x k;subst x;simp only[List.cons.injEq,Prod.mk.injEq,true_and,and_true,V.ref.injEq]at k;obtain⟨rfl,rfl,rfl,rfl⟩:=k;have j:=o.leav.2.1.symm.trans A.leav.2.1;injection j with j;injection j with j;subst j;rw[o.leav.2.2.addrs A.leav.2.2];exact R
structure NetC (K:W.Frag)(C:Addr):Prop where
 cl:Cls K C
 ends:VB K C "ends"
 rooms:VB K C "rooms"
 leav:VB K C "leaving"
 laid:VB K C "laid"
section
variable {K:W.Frag}{ρ:QF}{tb te:TE}{D:PEnds}{i:Nat}{v:V}{P:Program}{w:World}{C:Addr}{N:Q7}
def QB.net  (S:QB K H0 F ρ σ H)(e:ρ[i]?=some (some<|.own v<|Zh P w C N)) :
 ∃a j el r l d xs ys as,v=.ref a/\σ[i]?=some (some<|.ref a)/\NetOk P w C N F H a j el r l d xs ys as/\(∀b∈a::j::el::r::l::d::as,H0 b=none/\F b=none/\H b≠none) /\
  ∀(k:Hp) (n:Q7) (g:List (List Key×V)) (f:List (KK×Addr×V)) (c:Qg),Q5 F k->(∀b,b∉a::j::el::r::l::d::as->H b≠none->k b=H b)->(∀b,H b≠none->k b≠none) ->
   NetOk P w C n F k a j el r l d g f c->(∀b∈c,b∈as\/(H b=none/\H0 b=none))->QB K H0 F (ρ.set i<|some<|.own v<|Zh P w C n) σ k:=by
 obtain⟨B,p,⟨a,j,el,r,l,d,xs,ys,as,rfl,rfl,q⟩,s,o⟩:=S.writeOwn e;refine⟨a,j,el,r,l,d,xs,ys,as,rfl,B,q,s,fun k n g f c A y x u t=>o k _ _ A y x ⟨a,j,el,r,l,d,g,f,c,rfl,rfl,u⟩ fun b m=>?_⟩;simp only[Xg]at m ⊢;rcases m with h|h|h|h|h|h|m
 .exact .inl (.inl h)
 .exact .inl (.inr<|.inl h)
 .exact .inl (.inr<|.inr<|.inl h)
 .exact .inl (.inr<|.inr<|.inr<|.inl h)
 .exact .inl (.inr<|.inr<|.inr<|.inr<|.inl h)
 .exact .inl (.inr<|.inr<|.inr<|.inr<|.inr<|.inl h)
 .rcases t b m with z|z
  .exact .inl (.inr<|.inr<|.inr<|.inr<|.inr<|.inr z)
  .exact .inr z
def LeavD.other    (h:LeavD F H xs ls as)(n:b∉as):LeavD F (upd H b o) xs ls as :=
 h.mono (Q5.refl _) (fun a c=>(h.mem a c).1) (fun a c=>Qt fun z=>n<|z▸c)
def NetOk.setRooms   (f:NetOk P w C N F H a dx el r l d xs ys as){ns:Ql}(p:Qy F zs (ns.map PyData.int)) :
 NetOk P w C { N with rooms:=ns } F (upd H r<|.lst zs) a dx el r l d xs ys as:=by
 obtain⟨c,⟨o,n⟩,⟨h,g⟩,⟨z,u,y,x⟩,⟨e,L,O,M⟩,⟨m,k,j⟩,⟨E,B,A⟩⟩:=f;have b:=c;simp only[Xt,Xg,not_or]at b;obtain⟨⟨S,R,J,_⟩,⟨Q,I,_⟩,⟨G,_⟩,⟨t,s,q⟩,_⟩:=b
 exact⟨c,⟨o,by rw[Qt J];exact n⟩,⟨h,by rw[Qt I];exact g⟩,⟨z,u,by rw[Qt G];exact y,x⟩,⟨e,zs,QC,p⟩,⟨m,by rw[Qt<|Ne.symm t];exact k,j.other q⟩,⟨E,by rw[Qt<|Ne.symm s];exact B,A⟩⟩
def VD  : ∀b,H b≠none->upd H a o b≠none:=fun b c=>by
 by_cases z:b=a
 .subst z;rw[QC];rintro⟨⟩
 .rw[Qt z];exact c
def Po (c:NetC K C)(e:ρ[i]?=some (some<|.own v<|Zh P w C N))(hi:Qu K tb ρ (.int k))(h0:0<=k)(T:N.rooms[k.toNat]?=some m)(h:Qu K te ρ (.int n))
 (hn:D.nx (ρ.set i<|some<|.own v<|Zh P w C { N with rooms:=N.rooms.set k.toNat (f m n) })):Q1 K (Bt (Va K (Q8 i) "rooms") tb te (Bo K) (ipI f) JO) ρ D:=fun F0 U F t H E x S C'=>by
 obtain⟨a,dx,el,r,l,d,xs,ys,as,rfl,e1,I,_⟩:=S.net e;refine⟨_,e1,a,C,dx,_,.ref r,rfl,I.ins.2,c.cl,c.rooms,rfl,hi U F t H _ S fun F1 H1 y g r1=>?_⟩
 cases r1
 obtain⟨_,rx,r2,r3⟩:=I.rooms;have J:(N.rooms.map PyData.int)[k.toNat]?=some (.int m):=by rw[Xn,T];rfl
 obtain⟨z,Z,Y⟩:=(r3.mono g.ff).get J;refine⟨r,rx,k,z,rfl,rfl,SqL.of<|g.hh _ _ r2,h0,Z,h U F1 t H1 _ (S.ext g) fun X H2 u s G=>?_⟩
 cases G
 cases Y
 refine⟨m,n,rfl,rfl,?_⟩;obtain⟨a',dx',el',O,l',d',B,A,M,ea,g1,j,hp,wr⟩:=(S.ext<|g.trans s).net e
 cases ea
 have p:=j.ins.2.symm.trans ((g.trans s).hh _ _ I.ins.2);injection p with p;injection p with _ _ q;simp only[List.cons.injEq,Prod.mk.injEq,true_and,and_true,V.ref.injEq]at q;obtain⟨rfl,rfl,rfl,rfl⟩:=q;obtain⟨q1,Q,q2,R⟩:=j.rooms;have hlt:k.toNat<N.rooms.length:=(Xf.mp T).1
 have hr:Qy X (Q.set k.toNat<|.int<|f m n) ((N.rooms.set k.toNat<|f m n).map PyData.int):=by
  rw[List.map_set];exact R.set (.int _) _
 refine⟨O,Q,k,k.toNat,rfl,rfl,q2,?_,?_⟩
 .rw[R.length,Xl]
  unfold ixN;rw[Xd h0,Xd<|by omega]
 .have o:=hp O (by simp)
  exact C'.nx X t _ _ ((x.trans<|g.trans s).wr o.1 o.2.1) (wr _ { N with rooms:=N.rooms.set k.toNat (f m n) } B A M ((S.ext<|g.trans s).sub.upd o.2.1) (fun b L _=>Qt fun z=>L<|by rw[z];simp) VD (j.setRooms hr) fun b L=>.inl L) hn
end
section
variable {K:W.Frag}{ρ:QF}{te:TE}{D:PEnds}{i:Nat}{v:V}{P:Program}{w:World}{C:Addr}{N:Q7}
def NetOk.same
 (k:NetOk P w C N F H a dx el r l d xs ys as) (b:NetOk P w C N' F' H' a dx' el' r' l' d' xs' ys' as') (s:H' a=H a):dx'=dx/\el'=el/\r'=r/\l'=l/\d'=d:=by
 have h:=b.ins.2;rw[s,k.ins.2]at h;injection h with h;injection h with _ m c;simp only[List.cons.injEq,Prod.mk.injEq,true_and,and_true,V.ref.injEq]at c;obtain⟨j,g,f,e⟩:=c
 exact⟨m.symm,j.symm,g.symm,f.symm,e.symm⟩
def NetOk.setEnds   (j:NetOk P w C N F H a dx el r l d xs ys as){ns:List (List Key)}(t:Qy F zs (ns.map QR)) :
 NetOk P w C { N with ends:=ns } F (upd H el<|.lst zs) a dx el r l d xs ys as:=by
 obtain⟨c,⟨s,q⟩,⟨m,k⟩,⟨u,L,O,M⟩,⟨h,e,g,f⟩,⟨p,o,n⟩,⟨z,y,x⟩⟩:=j;have b:=c;simp only[Xt,Xg,not_or]at b;obtain⟨⟨S,J,R,_⟩,⟨I,Q,_⟩,⟨G,E,B,A⟩,_⟩:=b
 exact⟨c,⟨s,by rw[Qt J];exact q⟩,⟨m,by rw[Qt I];exact k⟩,⟨u,zs,QC,t⟩,⟨h,e,by rw[Qt<|Ne.symm G];exact g,f⟩,⟨p,by rw[Qt<|Ne.symm E];exact o,n.other A⟩,⟨z,by rw[Qt<|Ne.symm B];exact y,x⟩⟩
def Iz (c:NetC K C)(e:ρ[i]?=some (some<|.own v<|Zh P w C N))(h:Qu K te ρ (.int n))(hl:N.rooms.length<1000)
 (hn:D.nx (ρ.set i<|some<|.own v<|Zh P w C { N with rooms:=N.rooms++[n] })):Q1 K (Vt<|tBM K "list" VV (Va K (Q8 i) "rooms")<|QI te QQ) ρ D:=fun F0 T F s H E x S X=>by
 obtain⟨a,R,el,r,l,d,Z,Y,as,rfl,O,j,_⟩:=S.net e;refine⟨_,O,a,C,R,_,.ref r,rfl,j.ins.2,c.cl,c.rooms,rfl,.inl ⟨rfl,_,SqL.of j.rooms.2.choose_spec.1⟩,h T F s H _ S fun U H1 u k B=>?_⟩
 cases B
 obtain⟨a',Q,L,t,l',d',o,m,q,M,g1,f,J,A⟩:=(S.ext k).net e
 cases M
 obtain⟨rfl,rfl,rfl,rfl,rfl⟩:=j.same f ((k.hh _ _ j.ins.2).trans j.ins.2.symm);obtain⟨q1,G,I,y⟩:=f.rooms;have g:=J t (by simp);refine⟨t,G,.int n,rfl,rfl,I,by rw[y.length,Xl];exact Vg<|by omega,?_⟩;exact X.nx U s _ _ ((x.trans k).wr g.1 g.2.1) (A _ { N with rooms:=N.rooms++[n] } o m q ((S.ext k).sub.upd g.2.1) (fun b p _=>Qt fun z=>p<|by rw[z];simp) VD (f.setRooms<|by rw[XB];exact y.snoc<|.int n) fun b p=>.inl p) hn
def On (c:NetC K C)(e:ρ[i]?=some (some<|.own v<|Zh P w C N))(h:Qu K te ρ (QR n))(hl:N.ends.length<1000)
 (hn:D.nx (ρ.set i<|some<|.own v<|Zh P w C { N with ends:=N.ends++[n] })):Q1 K (Vt<|tBM K "list" VV (Va K (Q8 i) "ends")<|QI te QQ) ρ D:=fun F0 T F t H E x S X=>by
 obtain⟨a,R,L,r,l,d,Z,Y,as,rfl,O,j,_⟩:=S.net e;refine⟨_,O,a,C,R,_,.ref L,rfl,j.ins.2,c.cl,c.ends,rfl,.inl ⟨rfl,_,SqL.of j.ends.2.choose_spec.1⟩,h T F t H _ S fun U H1 u m B=>?_⟩;obtain⟨a',Q,k,r',l',d',p,o,s,M,g1,f,J,A⟩:=(S.ext m).net e
 cases M
 obtain⟨rfl,rfl,rfl,rfl,rfl⟩:=j.same f ((m.hh _ _ j.ins.2).trans j.ins.2.symm);obtain⟨q1,G,I,y⟩:=f.ends;have g:=J k (by simp);refine⟨k,G,u,rfl,rfl,I,by rw[y.length,Xl];exact Vg<|by omega,?_⟩;exact X.nx U t _ _ ((x.trans m).wr g.1 g.2.1) (A _ { N with ends:=N.ends++[n] } p o s ((S.ext m).sub.upd g.2.1) (fun b q _=>Qt fun z=>q<|by rw[z];simp) VD (f.setEnds<|by rw[XB];exact y.snoc B) fun b q=>.inl q) hn
def PR (c:NetC K C) (e:ρ[i]?=some (some<|.own v<|Zh P w C N)):Qu K (tCB (Jf K)<|QI (Va K (Q8 i) "ends") QQ) ρ (.int (N.ends.length:Int)):=fun t F n H Q S q=>by
 obtain⟨a,m,g,r,l,d,p,o,s,rfl,k,b,_⟩:=S.net e;obtain⟨_,f,j,h⟩:=b.ends;refine⟨_,k,a,C,m,_,.ref g,rfl,b.ins.2,c.cl,c.ends,rfl,g,f,rfl,.inl<|SqL.of j,?_⟩
 have:f.length=N.ends.length:=by rw[h.length,Xl]
 rw[this];exact q F H _ (Q0.refl S.sub) (.int _)
end
noncomputable def ZL (ls:List (KK×Int))(k:KK):Option Int:=(ls.find? fun x=>decide (x.1=k)).map (·.2)
noncomputable def Yx (ls:List (KK×Int))(k:KK)(n:Int):List (KK×Int):=if (ZL ls k).isSome=true then ls.map (fun x=>if x.1=k then (x.1,n) else x) else ls++[(k,n)]
theorem LaidD.val {F:Hp}(k:KK):∀{xs:List (KK×Addr×V)} {ls:List (KK×Int)},LaidD F xs ls->Yi xs k=(ZL ls k).map V.int
 |_,_,.nil=>rfl
 |_,_,.cons (k:=k') h t=>by
   by_cases e:k'=k
   .simp[Yi,ZL,Xz,e]
   .have:=t.val k
    simpa [Yi,ZL,Xz,e] using this
theorem LaidD.length {F:Hp}:∀{xs:List (KK×Addr×V)} {ls:List (KK×Int)},LaidD F xs ls->xs.length=ls.length
 |_,_,.nil=>rfl
 |_,_,.cons h t=>by simp[t.length]
theorem LaidD.repl {F:Hp}(k:KK)(n:Int):∀{xs:List (KK×Addr×V)} {ls:List (KK×Int)},LaidD F xs ls->LaidD F (xs.map fun x=>if x.1=k then (x.1,x.2.1,.int n) else x) (ls.map fun x=>if x.1=k then (x.1,n) else x)
 |_,_,.nil=>.nil
 |_,_,.cons (k:=k') h t=>by
   rw[Xx,Xx];by_cases e:k'=k
   .simp only[e,if_true]
    exact .cons (e▸h) (t.repl k n)
   .simp only[e,if_false]
    exact .cons h (t.repl k n)
theorem LaidD.snoc {F:Hp}{k:KK}{b:Addr}(n:Int)(a:Vp F k b):∀{xs:List (KK×Addr×V)} {ls:List (KK×Int)},LaidD F xs ls->LaidD F (xs++[(k,b,.int n)]) (ls++[(k,n)])
 |_,_,.nil=>.cons a .nil
 |_,_,.cons h t=>.cons h (t.snoc n a)
def LaidD.put  (n:Int)(a:Vp F k b)  (t:LaidD F xs ls):LaidD F (Ja xs k b<|.int n) (Yx ls k n):=by
 unfold Ja Yx;rw[t.val k,J9];split
 .exact t.repl k n
 .exact t.snoc n a
def HE  (r:Rep F y (.tuple [QR k1,QR k2])):∃b,y=.ref b/\Vp F (k1,k2) b:=by
 cases r with
 |tup h a =>
   cases a with
   |cons d a =>
     cases a with
     |cons c a =>
       cases a
       obtain⟨p,rfl,f⟩:=Wy d;obtain⟨q,rfl,e⟩:=Wy c
       exact⟨_,rfl,p,q,h,f,e⟩
section
variable {K:W.Frag}{ρ:QF}{ty tv:TE}{D:PEnds}{i:Nat}{v:V}{P:Program}{w:World}{C:Addr}{N:Q7}{k1 k2:List Key}
def NetOk.setLaid   (j:NetOk P w C N F H a dx el r l d xs ys as)(t:LaidD F ys' ls) :
 NetOk P w C { N with laid:=ls } F (upd H d<|pdO P w d ys') a dx el r l d xs ys' as:=by
 obtain⟨c,⟨s,q⟩,⟨m,k⟩,⟨E,z,B,A⟩,⟨h,e,g,f⟩,⟨p,o,n⟩,⟨G,S,R⟩⟩:=j;have b:=c;simp only[Xt,Xg,not_or]at b;obtain⟨⟨a1,a2,a3,a4,L,_⟩,⟨b1,Z,Y,J,_⟩,⟨X,U,I,T⟩,⟨Q,x,O⟩,⟨u,M⟩,y,_⟩:=b
 exact⟨c,⟨s,by rw[Qt L];exact q⟩,⟨m,by rw[Qt J];exact k⟩,⟨E,z,by rw[Qt I];exact B,A⟩,⟨h,e,by rw[Qt x];exact g,f⟩,⟨p,by rw[Qt u];exact o,n.other y⟩,⟨G,QC,t⟩⟩
def IP (c:NetC K C)(e:ρ[i]?=some (some<|.own v<|Zh P w C N))(Q:Qu K tv ρ (.int n))(O:Qu K ty ρ (.tuple [QR k1,QR k2]))(hl:N.laid.length<1000)
 (hn:D.nx (ρ.set i<|some<|.own v<|Zh P w C { N with laid:=Yx N.laid (k1,k2) n })):Q1 K (NT P w (Va K (Q8 i) "laid") ty tv) ρ D:=fun F0 I F o H E x S C' =>
 Q I F o H _ S fun F1 H1 u j M=>by
  cases M
  obtain⟨a,dx,el,r,l,d,xs,ys,as,rfl,Y,k,_⟩:=(S.ext j).net e;refine⟨_,Y,a,C,dx,_,.ref d,rfl,k.ins.2,c.cl,c.laid,rfl,O I F1 o H1 _ (S.ext j) fun F2 H2 y s L=>?_⟩;have m:=S.ext (j.trans s);obtain⟨a',Z,U,r',l',G,q,p,A,X,g1,f,R,J⟩:=m.net e
  cases X
  obtain⟨rfl,rfl,rfl,rfl,rfl⟩:=k.same f ((s.hh _ _ k.ins.2).trans k.ins.2.symm);obtain⟨b,rfl,B⟩:=HE L;obtain⟨d1,d2,t⟩:=f.laid;refine⟨G,b,p,(k1,k2),rfl,rfl,d2,t.at m.sub,B.mono fun c' z T=>m.sub _ _ T,by rw[t.length];exact Vg<|by omega,?_⟩;have g:=R G (by simp);exact C'.nx F2 o _ _ ((x.trans<|j.trans s).wr g.1 g.2.1) (J _ { N with laid:=Yx N.laid (k1,k2) n } q _ A (m.sub.upd g.2.1) (fun b' h _=>Qt fun z=>h<|by rw[z];simp) VD (f.setLaid<|t.put n B) fun b' h=>.inl h) hn
end
noncomputable def QP (ls:List (List Key×Ql))(k:List Key):Option (Ql):=(ls.find? fun x=>decide (x.1=k)).map (·.2)
noncomputable def VS:List (List Key×Ql)->List Key->Int->List (List Key×Ql)
 |[],_,_=>[]
 |(a,b)::r,k,n=>if a=k then (a,b++[n])::r else (a,b)::VS r k n
theorem LeavD.val {F H:Hp}(k:List Key):∀{xs:List (List Key×V)} {ls:List (List Key×Ql)} {as:Qg},LeavD F H xs ls as->(Z1 xs k=none/\QP ls k=none) \/
 ∃a ns,Z1 xs k=some (.ref a)/\QP ls k=some ns/\a∈as/\Vm F H a (ns.map PyData.int)
 |_,_,_,.nil=>.inl ⟨rfl,rfl⟩
 |_,_,_,.cons (k:=k') (a:=a) (ns:=ns) (xs:=xs) (ls:=ls) h t=>by
   by_cases e:k'=k
   .exact .inr ⟨a,ns,Y5 e,by simp[QP,Xz,e],Xb,h⟩
   .have q:QP ((k',ns)::ls) k=QP ls k:=by simp[QP,Xz,e]
    rw[Y4 (p:=(k',V.ref a)) e,q]
    rcases t.val k with z|⟨i,b,g,f,d,c⟩
    .exact .inl z
    .exact .inr ⟨i,b,g,f,Xe _ d,c⟩
theorem LeavD.app {F H:Hp}(k:List Key){a:Addr}{n:Int}{zs:List V}:∀{xs:List (List Key×V)} {ls:List (List Key×Ql)} {as:Qg} {ns:Ql},LeavD F H xs ls as->as.Nodup->Z1 xs k=some (.ref a)->QP ls k=some ns ->
 Qy F zs ((ns++[n]).map PyData.int)->LeavD F (upd H a<|.lst zs) xs (VS ls k n) as
 |_,_,_,_,.nil,_,h,_,_=>by cases h
 |_,_,_,ns,.cons (k:=k') (a:=a') (ns:=ns') (xs:=xs) (ls:=ls) (as:=as) h t,o,b,c,i=>by
   obtain⟨g,r⟩:=Xt.mp o;unfold VS;by_cases e:k'=k
   .rw[Y5 (p:=(k',V.ref a')) e]at b
    have q:QP ((k',ns')::ls) k=some ns':=by simp[QP,Xz,e]
    rw[q]at c;cases b
    cases c
    rw[Xd e];exact .cons ⟨h.1,zs,QC,i⟩ (t.other g)
   .rw[Y4 (p:=(k',V.ref a')) e]at b
    have q:QP ((k',ns')::ls) k=QP ls k:=by simp[QP,Xz,e]
    rw[q]at c;rw[Xa e];have s:a∈as:=by
     rcases t.val k with z|⟨A,l,f,y,j,x⟩
     .rw[b]at z;cases z.1
     .rw[b]at f;cases f;exact j
    refine .cons ?_ (t.app k r b c i);obtain⟨w,d,v,u⟩:=h;have m:a'≠a:=fun z=>g (by rw[z];exact s)
    exact⟨w,d,by rw[Qt m];exact v,u⟩
theorem LeavD.snoc {F H:Hp}(k:List Key){a:Addr}(o:Vm F H a []):∀{xs:List (List Key×V)} {ls:List (List Key×Ql)} {as:Qg},LeavD F H xs ls as->LeavD F H (xs++[(k,.ref a)]) (ls++[(k,[])]) (as++[a])
 |_,_,_,.nil=>.cons o .nil
 |_,_,_,.cons h t=>.cons h (t.snoc k o)
theorem LeavD.length {F H:Hp}:∀{xs:List (List Key×V)} {ls:List (List Key×Ql)} {as:Qg},LeavD F H xs ls as->xs.length=ls.length
 |_,_,_,.nil=>rfl
 |_,_,_,.cons h t=>by simp[t.length]
noncomputable def VQ (ls:List (List Key×Ql))(k:List Key):List (List Key×Ql):=if (QP ls k).isSome=true then ls else ls++[(k,[])]
section
variable {P:Program}{w:World}{C:Addr}{N:Q7}{k:List Key}
def NetOk.appLeav   (o:NetOk P w C N F H a dx el r l d xs ys as)
 (A:Z1 xs k=some (.ref b)) (D:QP N.leav k=some ns) (E:b∈as) (B:Qy F zs ((ns++[n]).map PyData.int)):NetOk P w C { N with leav:=VS N.leav k n } F (upd H b<|.lst zs) a dx el r l d xs ys as:=by
 obtain⟨f,⟨y,v⟩,⟨q,p⟩,⟨R,M,Q,O⟩,⟨m,g,j,i⟩,⟨u,t,s⟩,⟨U,T,S⟩⟩:=o;have e:=f;simp only[Xt,Xg,not_or]at e;obtain⟨⟨a1,a2,a3,a4,a5,Y⟩,⟨b1,b2,b3,b4,X⟩,⟨c1,c2,c3,W⟩,⟨g1,g2,I⟩,⟨Z,G⟩,L,J⟩:=e;have c:∀{x:Addr},x∉as->x≠b:=fun h z=>h (by rw[z];exact E)
 exact⟨f,⟨y,by rw[Qt<|c Y];exact v⟩,⟨q,by rw[Qt<|c X];exact p⟩,⟨R,M,by rw[Qt<|c W];exact Q,O⟩,⟨m,g,by rw[Qt<|c I];exact j,i⟩,⟨u,by rw[Qt<|c G];exact t,s.app k J A D B⟩,⟨U,by rw[Qt<|c L];exact T,S⟩⟩
end
section
variable {K:W.Frag}{ρ:QF}{te ty:TE}{D:PEnds}{i:Nat}{v:V}{P:Program}{w:World}{C:Addr}{N:Q7}{k:List Key}
def RK (c:NetC K C)(e:ρ[i]?=some (some<|.own v<|Zh P w C N))(h:Qu K te ρ (.int n))(M:QP N.leav k=some ns)(hz:ns.length<1000)
 (hn:D.nx (ρ.set i<|some<|.own v<|Zh P w C { N with leav:=VS N.leav k n }))  (x:Q0 F0 H0 F H) (S:QB K H0 F ρ σ H) (C':Cnv K F0 H0 D E)
  (m:NetOk P w C N F H a Q el r l d xs ys as) (ev:v=.ref a) (p:Z1 xs k=some (.ref al)) :
 tyV K "list" (.ref al) H/\QI te QQ σ H fun vs H2=>VV (.ref al) vs H2 fun _ H3=>E.nx σ H3:=by
 have j:∀{F H:Hp} {a Q el r l d:Addr} {xs:List (List Key×V)} {ys:List (KK×Addr×V)} {as:Qg},NetOk P w C N F H a Q el r l d xs ys as->Z1 xs k=some (.ref al)->al∈as/\Vm F H al (ns.map PyData.int):=fun m p=>by
  rcases m.leav.2.2.val k with z|⟨a2,Z,J,I,T,R⟩
  .rw[p]at z;cases z.1
  .rw[p]at J
   rw[M]at I;cases J
   cases I
   exact⟨T,R⟩
 obtain⟨_,_,zs,A,_⟩:=j m p;refine⟨.inl ⟨rfl,_,SqL.of A⟩,h H0 F σ H _ S fun F1 H1 u q Y=>?_⟩
 cases Y
 obtain⟨a',dx',el',r',l',d',U,t,G,O,g1,g,hp,X⟩:=(S.ext q).net e;rw[ev]at O;cases O;obtain⟨rfl,rfl,rfl,rfl,rfl⟩:=m.same g ((q.hh _ _ m.ins.2).trans m.ins.2.symm);have f:=g.leav.2.1.symm.trans (q.hh _ _ m.leav.2.1);injection f with f;injection f with f;subst f;obtain⟨y,m2,s,m3,L⟩:=j g p;have o:=hp al (by simp[y]);refine⟨al,s,.int n,rfl,rfl,m3,by rw[L.length,Xl];exact Vg<|by omega,?_⟩
 exact C'.nx F1 σ _ _ ((x.trans q).wr o.1 o.2.1) (X _ { N with leav:=VS N.leav k n } _ t G ((S.ext q).sub.upd o.2.1) (fun b B _=>Qt fun z=>B<|by rw[z];simp[y]) VD
  (g.appLeav p M y<|by rw[XB];exact L.snoc<|.int n) (fun b B=>.inl B)) hn
def P2 (ls:List (List Key×Ql))(h:QP ls k=none):QP (ls++[(k,[])]) k=some []:=by
 induction ls with
 |nil=>simp[QP]
 |cons x ls d =>
   obtain⟨a,b⟩:=x
   by_cases e:a=k
   .simp[QP,Xz,e]at h
   .have q:QP ((a,b)::ls) k=QP ls k:=by simp[QP,Xz,e]
    rw[q]at h;have c:QP ((a,b)::ls++[(k,[])]) k=QP (ls++[(k,[])]) k:=by simp[QP,Xz,e]
    rw[c];exact d h
def Ow (c:NetC K C)(e:ρ[i]?=some (some<|.own v<|Zh P w C N))(hy:Qu K ty ρ (QR k))(hl:N.leav.length<1000)(hz:∀ns,QP (VQ N.leav k) k=some ns->ns.length<1000)
 (h:Qu K te (ρ.set i<|some<|.own v<|Zh P w C { N with leav:=VQ N.leav k }) (.int n)) (hn:D.nx (ρ.set i<|some<|.own v<|Zh P w C { N with leav:=VS (VQ N.leav k) k n })) :
 Q1 K (Vt<|tBM K "list" VV (R7 (Va K (Q8 i) "leaving") ty<|JF QQ)<|QI te QQ) ρ D:=fun F0 H0 F σ H E x S C'=>by
 obtain⟨a,dx,el,r,l,d,xs,ys,as,rfl,e1,ok,hp0,_⟩:=S.net e;refine⟨_,e1,a,C,dx,_,.ref l,rfl,ok.ins.2,c.cl,c.leav,rfl,l,rfl,.inr ⟨xs,Rd.of ok.leav.2.1⟩,hy H0 F σ H _ S fun F1 O y x1 r1=>⟨XQ _,fun p L=>?_⟩⟩;have Z:=S.ext x1;have x2:Q0 F1 O F1 (upd O p<|.lst []):=Q0.own Z.sub L;obtain⟨a',o,m,R,s,Y,f,J,g,ea,g1,G,hp',wr⟩:=Z.net e
 cases ea
 obtain⟨rfl,rfl,rfl,rfl,rfl⟩:=ok.same G ((x1.hh _ _ ok.ins.2).trans ok.ins.2.symm);have hlt:i<ρ.length:=(Xf.mp e).1;obtain⟨b,rfl,hb⟩:=Wy r1;obtain⟨l1,l2,l3⟩:=G.leav;have I:∀q∈a::o::m::R::s::Y::g,q≠p:=fun q hq z=>by rw[z]at hq;exact(hp' p hq).2.2 L
 have lp:s≠p:=I s (by simp);have bp:b≠p:=fun z=>by rw[z]at hb;rw[Z.sub _ _ hb]at L;cases L
 have h0p:H0 p=none:=(x.trans x1).hh.free L;refine⟨f,k,b,rfl,by rw[Qt lp];exact l2,by rw[Qt bp];exact Z.sub _ _ hb,by rw[l3.length];exact Vg<|by omega,fun v0 A=>?_,fun A=>?_⟩
 .rcases l3.val k with z|⟨al,ns,z1,M,z3,z4⟩
  .rw[A]at z;cases z.1
  .rw[A]at z1
   cases z1
   have U:VQ N.leav k=N.leav:=by unfold VQ;rw[M];rfl
   rw[U]at h hn hz;have S3:=Z.ext x2
   have B:NetOk P w C N F1 (upd O p<|.lst []) a o m R s Y f J g:=by
    obtain⟨q0,q1,q2,q3,q4,q5,T⟩:=G;obtain⟨X,ex,e2,e3⟩:=q3;obtain⟨Q,rx,r2,r3⟩:=q4
    exact⟨q0,⟨q1.1,by rw[Qt<|I a<|by simp];exact q1.2⟩,⟨q2.1,by rw[Qt<|I o<|by simp];exact q2.2⟩,⟨X,ex,by rw[Qt<|I m<|by simp];exact e2,e3⟩,⟨Q,rx,by rw[Qt<|I R<|by simp];exact r2,r3⟩,
     ⟨q5.1,by rw[Qt lp];exact q5.2.1,q5.2.2.other fun z=>I p (by simp[z]) rfl⟩,⟨T.1,by rw[Qt<|I Y<|by simp];exact T.2.1,T.2.2⟩⟩
   have S4:QB K H0 F1 (ρ.set i<|some<|.own (.ref a)<|Zh P w C N) σ (upd O p<|.lst []):=wr _ N f J g S3.sub (fun b' _ j=>Qt fun z=>j<|by rw[z];exact L) VD B (fun b' j=>.inl j);exact RK (N:=N) c (Xj hlt) h M (hz ns M) (by rw[List.set_set];exact hn) (x.trans<|x1.trans x2) S4 C' B rfl A
 .have M:QP N.leav k=none:=by
   rcases l3.val k with z|⟨al,ns,z1,M,z3,z4⟩
   .exact z.2
   .rw[A]at z1;cases z1
  have U:VQ N.leav k=N.leav++[(k,[])]:=by unfold VQ;rw[M];rfl
  rw[U]at h hn hz;have fp:F1 p=none:=Z.sub.free L
  have B:NetOk P w C { N with leav:=N.leav++[(k,[])] } F1 (upd (upd O p<|.lst []) s<|.dT<|f++[(k,.ref p)]) a o m R s Y (f++[(k,.ref p)]) J (g++[p]):=by
   have ok2:=G;obtain⟨q0,q1,q2,q3,q4,q5,T⟩:=G;obtain⟨X,ex,e2,e3⟩:=q3;obtain⟨Q,rx,r2,r3⟩:=q4;have nd':=q0;simp only[Xt,Xg,not_or]at nd';obtain⟨⟨a1,a2,a3,a4,a5,a6⟩,⟨b1,b2,b3,b4,b5⟩,⟨c1,c2,c3,c4⟩,⟨g1',g2,g3⟩,⟨h1,h2⟩,f1,f2⟩:=nd';have up:∀{q:Addr},q∈a::o::m::R::s::Y::g->q≠s->upd (upd O p<|.lst []) s (.dT<|f++[(k,.ref p)]) q=O q:=fun hq ne=>by rw[Qt ne,Qt<|I _ hq]
   refine⟨?_,⟨q1.1,by rw[up (by simp) a4];exact q1.2⟩,⟨q2.1,by rw[up (by simp) b3];exact q2.2⟩,⟨X,ex,by rw[up (by simp) c2];exact e2,e3⟩,⟨Q,rx,by rw[up (by simp) g1'];exact r2,r3⟩,⟨l1,QC,?_⟩,⟨T.1,by rw[up (by simp)<|Ne.symm h1];exact T.2.1,T.2.2⟩⟩
   .have:(a::o::m::R::s::Y::(g++[p]))=(a::o::m::R::s::Y::g)++[p]:=by simp
    rw[this,WZ];refine⟨q0,by simp,fun u hu t ht=>?_⟩
    cases Xh.mp ht
    exact I u hu
   .refine LeavD.snoc k ⟨fp,[],by rw[Qt<|Ne.symm lp,QC],.nil⟩ ?_
    exact(l3.other fun z=>I p (by simp[z]) rfl).other h2
  have S4:QB K H0 F1 (ρ.set i<|some<|.own (.ref a)<|Zh P w C { N with leav:=N.leav++[(k,[])] }) σ (upd (upd O p<|.lst []) s<|.dT<|f++[(k,.ref p)]) :=
   wr _ _ _ J (g++[p]) ((Z.sub.upd fp).upd l1) (fun b' hb1 hb2=>by rw[Qt (fun z=>hb1<|by rw[z];simp),Qt fun z=>hb2<|by rw[z];exact L]) (fun b' j=>VD b'<|VD b' j) B (fun b' j=>by
    rcases Xy.mp j with z|z
    .exact .inl z
    .cases Xh.mp z;exact .inr ⟨L,h0p⟩)
  have hl0:=hp' s (by simp)
  exact RK (N:={ N with leav:=N.leav++[(k,[])] }) c (Xj hlt) h (P2 _ M) (hz []<|P2 _ M) (by rw[List.set_set];exact hn) ((x.trans<|x1.trans x2).wr hl0.1 hl0.2.1) S4 C' B rfl (by
   rw[Pv k k (.ref p) f A,Xd rfl])
end
end L2
section
namespace L2
open PySem PySem.Spec PyProof.Rows
structure KTup (K:W.Frag)(g:Addr)(x:Str):Prop where
 ex:∃(d:Qj) (t:Nat) (n:Nat) (sl:Array (Qf)),K.lookup g=some ⟨.type "tuple",d,.seq #[.str x t] n,sl⟩
def Ib {P:Program}{w:World}{K:W.Frag}{R mb:Str->Qf}{k:Nat}{fa a i j:Addr}{fd:FuncData}{x:Str}{sp:Sp}{c:Shared}{vs:Qe}{ns:Ql}
 (KX:K.In c.heap) (Y:c.heap.Ns mainGlobals R) (l:c.heap.Ns builtinsNs mb) (hbb:∀x:Str,x ≠ "__name__" -> mb x=bootBuiltins x) (Z:c.heap.NoLimit) (hg:c.gens=#[])
 (M:c.heap.get? a=some { cls:=.type "list",data:=.seq vs.toArray }) (hi:IntsAre vs ns) (hl:ns.length<=sizeLine) (hr:Room k callerA) (tS:KTup K i "start") (tE:KTup K j "end")
 (F:∀base:Heap,K.In base->base.Ns mainGlobals R->FnOk P w K R base CX0 k fa fd [x] sp) (I:∀(s:Shared) (u:Value),BindsTo s fd ⟨[u],[]⟩ [(x,u)])
 (hsp:∀H:Hp,SqL K H a (ns.map V.int)->H i=some (.tup [.str "start"])->H j=some (.tup [.str "end"])->sp [.ref a] H (fun v _=>v=.bl true) fun _ _ _=>False) :
 codeAny (model P w) callerA (.call (.ref fa) ⟨[.ref a],[]⟩) (fun r D=>r=.ok (.ret<|.bool true)/\OldK c.heap D.heap/\D.os=c.os/\AllBare D.gens) c:=by
 have rv:=PX hi;have S:=hi.length;obtain⟨dS,kS,cS,slS,lS⟩:=tS.ex;obtain⟨dE,kE,cE,slE,lE⟩:=tE.ex;have J:=KX i _ lS;have L:=KX j _ lE
 have naS:i≠a:=fun z=>by
  rw[z,M]at J;injection J with O;injection O with G;injection G with N;exact Xm N (by decide)
 have naE:j≠a:=fun z=>by
  rw[z,M]at L;injection L with O;injection O with G;injection G with N;exact Xm N (by decide)
 have nSE:j≠i:=fun z=>by
  rw[z,lS]at lE;injection lE with O;injection O with _ _ G _;injection G with N _;have z4:=X5 Array.toList N;simp only[List.cons.injEq,Value.str.injEq,and_true]at z4;exact Xm z4.1 (by decide)
 have E:∀f:Hp,Ld f->SqL K f a (ns.map V.int)->HOk P w f c.heap->(∀b,f b≠none->b=a)->(f a≠none->K.lookup a=none) ->
  codeAny (model P w) callerA (.call (.ref fa) ⟨[.ref a],[]⟩) (fun r D=>r=.ok (.ret<|.bool true)/\OldK c.heap D.heap/\D.os=c.os/\AllBare D.gens) c:=by
  intro f hO hSq X hA hK;have fS:f i=none:=by
   cases q:f i with
   |none=>rfl
   |some u=>exact Xm (hA i<|by rw[q];simp) naS
  have fE:f j=none:=by
   cases q:f j with
   |none=>rfl
   |some u=>exact Xm (hA j<|by rw[q];simp) naE
  have g:∀{b:Addr} {o:Obj},c.heap.get? b=some o->f b=none->(WF c.heap f).get? b=some o:=fun e n=>A7 e n
  have noA:∀{b:Addr} {o:Obj} {es:Array DictEntry} {ep:Nat},c.heap.get? b=some o->o.data=.dict es ep->f b=none:=fun{b o es ep} e d=>by
   cases q:f b with
   |none=>rfl
   |some u =>
     have e':b=a:=hA b (by rw[q];simp);subst e';rw[M]at e;cases e;have d':Data.seq vs.toArray _=Data.dict es ep:=d
     cases d'
  have A:∀{b:Addr} {m:Str->Qf},c.heap.Ns b m->(WF c.heap f).Ns b m:=fun{b m} ⟨o,es,ep,e,d,r⟩=>⟨o,es,ep,g e<|noA e d,d,r⟩
  have hKb:K.In (WF c.heap f):=fun b o e=>g (KX b o e) (by
   cases q:f b with
   |none=>rfl
   |some u =>
     have e':b=a:=hA b (by rw[q];simp);subst e';rw[hK<|by rw[q];simp]at e;cases e)
  have hM:Mod K R (WF c.heap f):=⟨hKb,A Y,⟨mb,A l,hbb⟩,let ⟨mc,t,p⟩:=Z;⟨mc,A t,p⟩⟩
  let H:Hp:=upd (upd f i<|.tup [.str "start"]) j (.tup [.str "end"])
  have B:H i=some (.tup [.str "start"]):=by show upd _ _ _ i=_;rw[Qt<|Ne.symm nSE,QC]
  have C:H j=some (.tup [.str "end"]):=QC;have y:∀b,b≠i->b≠j->H b=f b:=fun b t p=>by show upd _ _ _ b=_;rw[Qt p,Qt t]
  have sm:Q5 f H:=fun b u e=>by
   rw[y b (fun z=>by rw[z,fS]at e;cases e) fun z=>by rw[z,fE]at e;cases e];exact e
  have l1:∀x:Str,[V.str x].length<=sizeLine:=fun _=>YI (Vg Jb)
  have T:HOk P w H c.heap:=fun b u e=>by
   by_cases t:b=i
   .subst t
    rw[B]at e;cases e
    exact⟨l1 _,[.str "start" kS],.cons ⟨kS,rfl⟩ .nil,⟨_,J,rfl,_,rfl⟩⟩
   .by_cases p:b=j
    .subst p
     rw[C]at e;cases e
     exact⟨l1 _,[.str "end" kE],.cons ⟨kE,rfl⟩ .nil,⟨_,L,rfl,_,rfl⟩⟩
    .rw[y b t p]at e
     rcases hO b with z|⟨o,xs,z⟩
     .rw[z]at e;cases e
     .rw[z]at e
      cases e
      obtain⟨q1,q2⟩:=X b _ z
      exact⟨q1,q2⟩
  have e0:Env0 P w K R (WF c.heap f) callerA [] c H:=⟨rfl,hM,fun b o e=>by
   obtain⟨e1,e2⟩:=FK e;refine⟨e1,?_⟩
   by_cases t:b=i
   .exact .inr ⟨_,by rw[t];exact B⟩
   .by_cases p:b=j
    .exact .inr ⟨_,by rw[p];exact C⟩
    .exact .inl (by rw[y b t p];exact e2),Nat.le_of_eq<|IQ _ _,trivial,fun b l=>Xm (show b∈([]:Qg) from l)<|by simp,T,.of_eq hg⟩
  refine codeAny_mono ((F _ hKb<|A Y).run callerA [] c H ⟨[.ref a],[]⟩ [.ref a] [.ref a] _ _ hr e0 (I c<|.ref a) (.cons rfl .nil) (hsp H (sm.seq hSq) B C)) fun r D h=>?_
  cases r with
  |error e=>exact False.elim h
  |ok fl =>
    cases fl with
    |next=>exact False.elim h
    |brk=>exact False.elim h
    |cont=>exact False.elim h
    |ret u =>
      obtain⟨v,H',os,bare,un,U,r',q⟩:=h;have q':v=.bl true:=q;subst q';obtain rfl:u=Value.bool true:=r';refine⟨rfl,OldK.of_keep fun b o e=>?_,os,bare⟩
      by_cases t:b=i
      .subst t
       exact un.tupo b _ o B e (by simp)
      .by_cases p:b=j
       .subst p
        exact un.tupo b _ o C e (by simp)
       .rcases hO b with z|⟨ob,xs,z⟩
        .exact un.keep b o e (by rw[y b t p];exact z) (by intro z;exact Xm (show b∈([]:Qg) from z)<|by simp) (by simp)
        .have G:=un.frzs b ob _ (by rw[y b t p];exact z)
         obtain⟨e1,_⟩:=X b _ z;obtain⟨e2,_⟩:=U b _ G;rw[e]at e1;cases e1;exact e2
 cases hk:K.lookup a with
 |some o =>
   have e:=KX a o hk;rw[M]at e;cases e;refine E (fun _=>none) (fun _=>.inl rfl) (.inr ⟨_,vs.toArray,_,hk,rfl,rfl,rfl,by rw[XD,S];exact hl,by simpa using rv⟩) (fun b u z=>by have Q:(none:Option HO)=some u:=z;cases Q) (fun b z=>Xm rfl z) fun z=>Xm rfl z
 |none =>
   refine E (fun b=>if b=a then some (.frz { cls:=.type "list",data:=.seq vs.toArray }<|.lst<|ns.map V.int) else none) (fun b=>?_) (.inl<|.inr ⟨{ cls:=.type "list",data:=.seq vs.toArray },Xd rfl⟩) (fun b u z=>?_) (fun b z=>?_) fun _=>hk
   .by_cases l:b=a
    .exact .inr ⟨_,_,Xd l⟩
    .exact .inl (Xa l)
   .by_cases l:b=a
    .have Q:=(Xd l).symm.trans z
     cases Q
     subst l;exact⟨M,by rw[Xl];exact hl,vs,_,rv,M⟩
    .have Q:=(Xa l).symm.trans z
     cases Q
   .by_cases l:b=a
    .exact l
    .exact Xm (Xa l) z
def Znu {l:W.OpenLaw}{k:Nat}{q:Program}{c:Qh}{U:(Str->Qf)->Heap->Prop}{z:World->Heap->Prop}{d:DefRec}{K:Params->W.Frag}{x:Str}
 (hn:l.most=some 63) (t:d.params.defaults=[]) (J:Room k callerA)
 (O:∀(w:World) (h:Heap),z w h->(K w.params).In h)
 (F:∀(w:World) (i:Str->Qf) (p:Addr) (h:Heap),(K w.params).In h->h.Ns mainGlobals i->i d.name=some (.ref p) ->
  (∃m n,W.nsIn (K w.params) mainGlobals "START"=some (some<|.ref m)/\W.nsIn (K w.params) mainGlobals "END"=some (some<|.ref n)/\KTup (K w.params) m "start" /\ KTup (K w.params) n "end") /\
  ∃v:FuncData,(∀(s:Shared) (u:Value),BindsTo s v ⟨[u],[]⟩ [(x,u)]) /\
   ∀base:Heap,(K w.params).In base->base.Ns mainGlobals i->FnOk l.prog w (K w.params) i base CX0 k p v [x] (B3<|K w.params)) :
 W.WalkO q c U z l.row.toRowW d [] (fun f vs=>PySem.call f vs):=by
 refine Att.attach_callW hn t fun w y b6 i Z p o X cd T a vs D G Y ho hd M r j e b g L=>?_
 have A:=O w _ Y;obtain⟨⟨m,n,I,E,C,B⟩,v,N,Q⟩:=F w i p _ A G.T.g r;exact Ib A G.T.g G.T.b G.T.builtins G.T.nolimit L j e (X4 b<|by decide) J C B Q N (fun H P S R=>⟨a,D,rfl,⟨m,n,I,E,S,R⟩,⟨P,b,g⟩,fun _=>rfl⟩)
def HD {K:W.Frag} {ρ:QF} {g:Addr} (a:W.nsIn K mainGlobals "START"=some (some<|.ref g)):Qu K (tC<|.ref g) ρ (QR [.inr "start"]):=fun j F d H Q S q=>by
 obtain⟨h,i,c,f,b,e⟩:=S.kt;rw[c]at a;cases a;exact q F H _ (Q0.refl S.sub) (.tup b<|.cons (.str _) .nil)
def Rn {K:W.Frag} {ρ:QF} {g:Addr} (a:W.nsIn K mainGlobals "END"=some (some<|.ref g)):Qu K (tC<|.ref g) ρ (QR [.inr "end"]):=fun j F d H Q S q=>by
 obtain⟨h,i,f,c,e,b⟩:=S.kt;rw[c]at a;cases a;exact q F H _ (Q0.refl S.sub) (.tup b<|.cons (.str _) .nil)
def Du  (a:Room k A):A.units+6<cLine:=M9 (Nat.add_le_add_left (by decide:6<=64) _) a.units
def R1 (e d:TE):TE:=fun c H Q=>∀p,H p=none->e c (upd H p<|.dT []) fun x f=>d c f fun y a=>∃k b,x=.ref b/\a p=some (.dT [])/\a b=some (.tup<|k.map kV)/\Q (.ref p) (upd a p<|.dT [(k,y)])
def Eg   (hu:X.A.units+1<cLine)(J:PE X ke tk)(E:PE X ve tv):PE X (.Dict [some ke] [ve] pos) (R1 tk tv):=by
 intro d s j H Q I q;have G:=I.hok.fresh (Xv s.heap.objs.size);have Y:=I.laid (a:=s.heap.objs.size) (o:=.dT []) (h':=s.heap.push { cls:=.type "dict",data:=.dict #[] }) (t':=s.toks) (fun _ _ q=>Xi _ q) (Xv _) (SD s.heap I.big);refine wpAny_Dict_any rfl rfl (by simp) (by show(1:Nat)<=15;decide) (pairTrees_cons_walk<|Q9 (J d _ j _ _ Y<|q _ G) ?_);rintro C u ⟨x,Z,W,w,B⟩;refine Q9 (E d u j Z _ W B) ?_;rintro t s2 ⟨y,p,i,v,k,b,R,e,n,A⟩;refine pairTrees_nil_walk ?_;subst R;obtain rfl:C=Value.ref b:=w;obtain⟨z,L,r,f,U⟩:=Dq i.hok e;have D:r=[]:=by cases f;rfl
 subst D;unfold storeAll;rw[List.forIn_cons];refine Xc (Xc<|wpAny_dictSet_heap (hsz:=XQ _) (knd:=tupleKind (ZF X.prog X.w)) (show X.A.units<cLine by omega) (Wm i.hok n) U fun h' h F=>Xq ?_);obtain⟨l,S,T,m,P,O,N,_,M⟩:=h;show wpAny _ _ (forIn [] PUnit.unit _) _ _ _;rw[List.forIn_nil];refine Xq ⟨.ref s.heap.objs.size,upd p s.heap.objs.size<|.dT [(k,y)],GG (ob:=.dT [(k,y)]) i (by rw[e];exact True.intro) F ⟨l,m⟩ ⟨YI<|Vg Jb,L,_,(show KT p [(k,y)] [(k,b,t)] from .cons ⟨rfl,n,v⟩ .nil).keeps fun c ys g=>?_,l,S,T,m,P,O,N,M⟩,rfl,A⟩;rw[Qt fun z=>by subst z;rw[e]at g;cases g];exact g
def Ep {K:W.Frag}{ρ:QF}{m l:TE}{k:List Key}{d:PyData}(u:Qu K m ρ (QR k))(t:Qu K l ρ d):EvX K (R1 m l) ρ (V6 [(k,d)]):=fun n F h H Q S q=>fun p e=>by
 have f:Q0 F H F (upd H p<|.dT []):=Q0.own S.sub e;have A:F p=none:=S.sub.free e;refine u n F h _ _ (S.ext f) fun E D x j s=>t n E h D _ (S.ext<|f.trans j) fun o C y i r=>?_;obtain⟨b,rfl,v⟩:=Wy s;have X:=j.trans i;have g:C p=some (.dT []):=X.hh _ _ QC;have c:o p=none:=X.free A (by rw[QC];rintro⟨⟩);have B:=f.trans X;refine⟨k,b,rfl,g,X.fh _ _<|i.ff _ _ v,q o _ (.ref p) [p] (B.wr e c) (fun a w=>by cases Xh.mp w;exact e) ⟨p,_,rfl,rfl,c,QC,.cons r .nil⟩⟩
inductive LeavZ (F:Hp):List (List Key×V)->List (List Key×Ql)->Prop
 |nil:LeavZ F [] []
 |cons {k:List Key} {a:Addr} {ns:Ql} {zs:List V} {xs:List (List Key×V)} {ls:List (List Key×Ql)}:F a=some (.lst zs)->Qy F zs (ns.map PyData.int)->LeavZ F xs ls->LeavZ F ((k,.ref a)::xs) ((k,ns)::ls)
theorem LeavZ.mono {F a:Hp}(s:Q5 F a):∀{xs:List (List Key×V)} {ls:List (List Key×Ql)},LeavZ F xs ls->LeavZ a xs ls
 |_,_,.nil=>.nil
 |_,_,.cons h r t=>.cons (s _ _ h) (r.mono s) (t.mono s)
theorem LeavZ.val {F:Hp}(k:List Key):∀{xs:List (List Key×V)} {ls:List (List Key×Ql)},LeavZ F xs ls->(Z1 xs k=none/\QP ls k=none)\/∃a ns zs,Z1 xs k=some (.ref a)/\QP ls k=some ns/\F a=some (.lst zs)/\Qy F zs (ns.map PyData.int)
 |_,_,.nil=>.inl ⟨rfl,rfl⟩
 |_,_,.cons (k:=k') (a:=a) (ns:=ns) (zs:=zs) (xs:=xs) (ls:=ls) h r t=>by
   by_cases e:k'=k
   .exact .inr ⟨a,ns,zs,Y5 e,by simp[QP,Xz,e],h,r⟩
   .have q:QP ((k',ns)::ls) k=QP ls k:=by simp[QP,Xz,e]
    rw[Y4 (p:=(k',V.ref a)) e,q];exact t.val k
theorem LeavD.fz {F a H:Hp}(s:Q5 F a):∀{xs:List (List Key×V)} {ls:List (List Key×Ql)} {as:Qg},LeavD F H xs ls as->(∀b∈as,a b=H b)->LeavZ a xs ls
 |_,_,_,.nil,_=>.nil
 |_,_,_,.cons h t,c=>by
   obtain⟨g,xs,f,e⟩:=h;exact .cons (by rw[c _ Xb];exact f) (e.mono s) (t.fz s fun b d=>c b<|Xe _ d)
structure NetFz (P:Program)(w:World)(C:Addr)(N:Q7)(F:Hp)(a dx e r l d:Addr)(xs:List (List Key×V))(ys:List (KK×Addr×V)):Prop where
 ins:F a=some (.ins C dx [("ends",.ref e),("rooms",.ref r),("leaving",.ref l),("laid",.ref d)])
 ends:∃ex,F e=some (.lst ex)/\Qy F ex (N.ends.map QR)
 rooms:∃rx,F r=some (.lst rx)/\Qy F rx (N.rooms.map PyData.int)
 leav:F l=some (.dT xs)/\LeavZ F xs N.leav
 laid:F d=some (pdO P w d ys)/\LaidD F ys N.laid
def NetFz.mono     (s:Q5 F F')(h:NetFz P w C N F a dx e r l d xs ys):NetFz P w C N F' a dx e r l d xs ys:=by
 obtain⟨o,⟨p,n,m⟩,⟨b,k,j⟩,⟨i,g⟩,⟨f,c⟩⟩:=h
 exact⟨s _ _ o,⟨p,s _ _ n,m.mono s⟩,⟨b,s _ _ k,j.mono s⟩,⟨s _ _ i,g.mono s⟩,⟨s _ _ f,c.mono s⟩⟩
noncomputable def ZZ (P:Program)(w:World)(C:Addr)(N:Q7):ZP where
 ok K F v := ∃a f e r l d c b,v=.ref a/\NetFz P w C N F a f e r l d c b
 mono:=by
  rintro K F g v s ⟨a,f,e,r,l,d,c,b,rfl,h⟩
  exact⟨a,f,e,r,l,d,c,b,rfl,h.mono s⟩
def NetOk.fz     (h:NetOk P w C N F H a dx el r l d xs ys as)(s:Q5 F F')(c:∀b∈a::dx::el::r::l::d::as,F' b=H b) :
 NetFz P w C N F' a dx el r l d xs ys:=by
 obtain⟨y,⟨A,k⟩,⟨x,v⟩,⟨B,n,p,o⟩,⟨u,e,g,f⟩,⟨z,j,i⟩,⟨D,t,q⟩⟩:=h
 exact⟨by rw[c _<|by simp];exact k,⟨n,by rw[c _<|by simp];exact p,o.mono s⟩,⟨e,by rw[c _<|by simp];exact g,f.mono s⟩,⟨by rw[c _<|by simp];exact j,i.fz s fun b m=>c b<|by simp[m]⟩,⟨by rw[c _<|by simp];exact t,q.mono s⟩⟩
def Zh.fz {P:Program}{w:World}{C:Addr}{N:Q7}{K:W.Frag}{F c H:Hp}{v:V}{p:Qg}(h:(Zh P w C N).ok K F H v p)(s:Q5 F c)(i:∀b∈p,c b=H b):(ZZ P w C N).ok K c v:=by
 obtain⟨a,j,e,r,l,d,g,f,k,rfl,rfl,o⟩:=h
 exact⟨a,j,e,r,l,d,g,f,rfl,o.fz s i⟩
noncomputable def JL (kvs:VE):ZP where
 ok K F v := ∃a b,v=.ref a/\F a=some (.dT b)/\PairD F b kvs
 mono:=by
  rintro K F e v s ⟨a,b,rfl,d,c⟩
  exact⟨a,b,rfl,s _ _ d,c.mono s⟩
def V6.fz {kvs:VE}{K:W.Frag}{F c H:Hp}{v:V}{p:Qg}(h:(V6 kvs).ok K F H v p)(s:Q5 F c)(e:∀b∈p,c b=H b):(JL kvs).ok K c v:=by
 obtain⟨a,d,rfl,rfl,i,g,f⟩:=h
 exact⟨a,d,rfl,by rw[e a Xb];exact g,f.mono s⟩
section
variable {K:W.Frag}{ρ:QF}{D:PEnds}
def QB.freezeZ    (s:QB K H0 F ρ σ H)(e:ρ[i]?=some (some<|.own v Φ))
 (hz:∀{F q H:Hp} {u:V} {p:Qg},Φ.ok K F H u p->Q5 F q->(∀b∈p,q b=H b)->Ψ.ok K q u) :
 ∃p,(∀a∈p,F a=none/\H a≠none/\H0 a=none)/\QB K H0 (frF F H p) (ρ.set i<|some<|.zow Ψ) σ H:=by
 obtain⟨C,G,E,o,y,x,w⟩:=s;obtain⟨u,L,rfl,r⟩:=y i _ e;have m:=(Xf.mp e).1;have h:=fun a f=>Φ.there r a f;have l:Q5 F (frF F H<|o i):=W3 fun a f=>(h a f).1;refine⟨o i,fun a f=>⟨(h a f).1,(h a f).2,(w i a f).1⟩,C.mono l,GE G,by simp[E],fun j=>if j=i then [] else o j,fun j B g=>?_,fun j k b d n=>?_,fun j b d=>?_⟩
 .by_cases c:j=i
  .subst c
   rw[Xj m]at g;cases g;refine⟨_,L,?_,hz r l fun b d=>Jt d⟩;dsimp only;rw[Xd rfl]
  .rw[Xo<|Ne.symm c]at g
   obtain⟨A,J,I⟩:=y j B g;refine⟨A,J,?_⟩;dsimp only;rw[Xa c];exact I.frOther l fun a f z=>c (x j i a f z)
 .by_cases c:j=i
  .simp[c]at d
  .by_cases t:k=i
   .simp[t]at n
   .simp only[Xa c]at d
    simp only[Xa t]at n;exact x j k b d n
 .by_cases c:j=i
  .simp[c]at d
  .simp only[Xa c]at d
   exact w j b d
def DL (i:Nat)  (e:ρ[i]?=some (some<|.own v Φ))(hz:∀{F d H:Hp} {u:V} {p:Qg},Φ.ok K F H u p->Q5 F d->(∀b∈p,d b=H b)->Ψ.ok K d u)
 (h:Q1 K t (ρ.set i<|some<|.zow Ψ) D):Q1 K t ρ D:=fun l k F j H E x S C=>by
 obtain⟨p,f,g⟩:=S.freezeZ e hz;refine h l k _ j H E ⟨x.hh,x.ff.trans<|W3 fun a c=>(f a c).1,g.sub,fun a c=>?_⟩ g C
 by_cases z:a∈p
 .exact .inr (f a z).2.2
 .rw[YV z]at c;exact x.fr a c
def AS    (i:Nat)(e:ρ[i]?=some (some<|.own v<|Zh P w C N))(h:Q1 K t (ρ.set i<|some<|.zow<|ZZ P w C N) D):Q1 K t ρ D:=DL i e (fun a b c=>Zh.fz a b c) h
def SY  (i:Nat)(e:ρ[i]?=some (some<|.own v<|V6 kvs))(h:Q1 K t (ρ.set i<|some<|.zow<|JL kvs) D):Q1 K t ρ D:=DL i e (fun a b c=>V6.fz a b c) h
def ZA (K:W.Frag)(t:TE)(ρ:QF)(Φ:OT->Prop):Prop := ∀(e F:Hp) (c:St) (H:Hp) (Q:VK),QB K e F ρ c H->(∀d b v p r,Φ r->Q0 F H d b->(∀a∈p,H a=none)->Zs K d b v r p->Q v b)->t c H Q
def EvO.d  (h:EvO K t ρ r)(c:Φ r):ZA K t ρ Φ:=fun e F a H Q S q=>h e F a H Q S fun g f v p x d b=>q g f v p r c x d b
def ZA.o  (h:ZA K t ρ (fun a=>a=r)):EvO K t ρ r:=fun f F b H Q S q=>h f F b H Q S fun i g v p a e x d c=>by subst e;exact q i g v p x d c
def EvX.d  (h:EvX K t ρ Φ0)(c:∀v,Φ<|.own v Φ0):ZA K t ρ Φ:=fun e F a H Q S q=>h e F a H Q S fun g f v p x d b=>q g f v p (.own v Φ0) (c v) x d ⟨rfl,b⟩
def WQ  (h:ZA K te ρ Φ)(hn:∀r,Φ r->D.nx (ρ.set i<|some r)):Q1 K (Vb te<|Vc i) ρ D:=fun M A F g H E x S C =>
 h A F g H _ S fun G B v p r m b e l=>by
  refine C.nx G _ B _ (x.trans b) ((S.ext b).set l (fun a d=>x.hh.free<|e a d) (hn:=fun a d j w k q z y c=>?_)) (hn r m);obtain⟨L,s,J,o⟩:=S.fp;obtain⟨I,f,u⟩:=s j k z;intro n;have t:=u.ext b;rw[y]at f;cases f
  exact(o j a<|US (K:=K) t c a n).2 (e a d)
def DW  (h:ZA K te ρ Φ)(f:∀r,Φ r->D.rt r):Q1 K (Y9 te) ρ D:=fun m j F b H E x S C =>
 h j F b H _ S fun l k v p r e c g d=>C.rt l k v r p (x.trans c) (fun a i=>x.hh.free<|g a i) d (f r e)
def Hh  (e:ρ[i]?=some (some<|.own v Φ))(b:D.rt (.own v Φ)):Q1 K (Y9<|Q8 i) ρ D:=fun m l F k H E x S C=>by
 obtain⟨f,h,_,d⟩:=S.fp;obtain⟨u,j,g⟩:=h i _ e
 exact⟨_,j,C.rt F H u (.own v Φ) (f i) x (fun a c=>(d i a c).1) g b⟩
def JI (r:OT):Prop := ∀(K:W.Frag) (F b H:Hp) (v:V) (p:Qg),(∀a∈p,b a=none)->Zs K F H v r p->Zs K b H v r p
def Rep.thin  (r:Rep F v d)(h:ZR d=some w):Rep F' v d:=by
 cases r<;>simp[ZR]at h
 .exact .non
 .exact .bl _
 .exact .int _
 .exact .str _
def GT  (h:ZR d=some w):JI (.fz d):=fun K F b H v p _ a=>⟨a.1,a.2.thin h⟩
def RU (h:JZ ds):JI (.ol ds):=fun K F i H v p d c=>by
 obtain⟨a,rfl,rfl,g,b,f,e⟩:=c
 exact⟨a,rfl,rfl,d a Xb,b,f,e.flats h⟩
def D0 (kvs:VE):Prop := ∀x∈kvs,∃w,ZR x.2=some w
theorem PairD.flats {F b:Hp}:∀{xs:List (List Key×V)} {kvs:VE},D0 kvs->PairD F xs kvs->PairD b xs kvs
 |_,_,_,.nil=>.nil
 |_,_,h,.cons r t=>by
   obtain⟨w,e⟩:=h _ Xb;exact .cons (r.thin e) (t.flats fun x a=>h x<|Xe _ a)
def Al  (h:D0 kvs):JI (.own v<|V6 kvs):=fun K F j H u p d c=>by
 obtain⟨e,a,b,rfl,rfl,i,g,f⟩:=c
 exact⟨e,a,b,rfl,rfl,d a Xb,g,f.flats h⟩
def SB   (i:Nat)(e:ρ[i]?=some (some<|.own v Φ0))(hz:∀{F c H:Hp} {u:V} {p:Qg},Φ0.ok K F H u p->Q5 F c->(∀b∈p,c b=H b)->Ψ.ok K c u)
 (o:∀r,Φ r->JI r) (h:ZA K t (ρ.set i<|some<|.zow Ψ) Φ):ZA K t ρ Φ:=fun w F n H Q S q=>by
 obtain⟨p,l,s⟩:=S.freezeZ e hz;refine h w _ n H Q s fun c m u g r k x f j=>?_;refine q _ m u g r k (WU (fun a d=>⟨(l a d).1,(l a d).2.1⟩) x) f (o r k K c _ m u g (fun a d=>?_) j)
 by_cases z:a∈p
 .show(if a∈p then none else c a)=none
  rw[Xd z]
 .show(if a∈p then none else c a)=none
  rw[Xa z];exact(j.there a d).1
def Kn    (i:Nat)(e:ρ[i]?=some (some<|.own v<|Zh P w C N))(d:∀r,Φ r->JI r)(h:ZA K t (ρ.set i<|some<|.zow<|ZZ P w C N) Φ):ZA K t ρ Φ :=
 SB i e (fun a b c=>Zh.fz a b c) d h
def IE     (i:Nat)(e:ρ[i]?=some (some<|.own v<|Zh P w C N))(b:ZR d=some u)(h:Qu K t (ρ.set i<|some<|.zow<|ZZ P w C N) d):Qu K t ρ d :=
 EvO.e (ZA.o<|Kn (Φ:=fun r=>r=.fz d) i e (fun r a=>by subst a;exact GT b)<|h.o.d rfl)
section
variable {tb ty:TE}{i:Nat}{P:Program}{w:World}{C:Addr}{N:Q7}{k:List Key}
def QB.netz  (S:QB K H0 F ρ σ H)(e:ρ[i]?=some (some<|.zow<|ZZ P w C N)):∃a b el r l d xs ys,σ[i]?=some (some<|.ref a)/\NetFz P w C N F a b el r l d xs ys:=by
 obtain⟨g,h,_⟩:=S.fp;obtain⟨v,f,_,a,b,el,r,l,d,xs,ys,rfl,c⟩:=h i _ e
 exact⟨a,b,el,r,l,d,xs,ys,f,c⟩
def Hl (c:NetC K C) (e:ρ[i]?=some (some<|.zow<|ZZ P w C N)) {k m:Int} (u:Qu K tb ρ (.int k)) (t:atI (N.rooms.map PyData.int) k=some (.int m)):Qu K (tOp (rIx K) (Va K (Q8 i) "rooms") tb) ρ (.int m):=fun B F g H Q S q=>by
 obtain⟨a,x,J,r,l,d,I,G,v,f⟩:=S.netz e;refine⟨_,v,a,C,x,_,.ref r,rfl,S.sub _ _ f.ins,c.cl,c.rooms,rfl,u B F g H _ S fun E A y b s=>?_⟩
 cases s
 obtain⟨n,p,o⟩:=f.rooms;obtain⟨z,j,h⟩:=UG (o.mono b.ff) t;exact .inl ⟨r,n,k,z,rfl,rfl,SqL.of<|b.fh _ _<|b.ff _ _ p,j,q E A z b h⟩
def RL (c:NetC K C) (e:ρ[i]?=some (some<|.zow<|ZZ P w C N)) {k:Int} {n:PyData} (v:Qu K tb ρ (.int k)) (u:atI (N.ends.map QR) k=some n):Qu K (tOp (rIx K) (Va K (Q8 i) "ends") tb) ρ n:=fun E F h H Q S q=>by
 obtain⟨a,A,g,r,l,d,J,I,x,f⟩:=S.netz e;refine⟨_,x,a,C,A,_,.ref g,rfl,S.sub _ _ f.ins,c.cl,c.ends,rfl,v E F h H _ S fun G B y b t=>?_⟩
 cases t
 obtain⟨o,s,p⟩:=f.ends;obtain⟨z,m,j⟩:=UG (p.mono b.ff) u;exact .inl ⟨g,o,k,z,rfl,rfl,SqL.of<|b.fh _ _<|b.ff _ _ s,m,q G B z b j⟩
def Af (c:NetC K C) (e:ρ[i]?=some (some<|.zow<|ZZ P w C N)) (B:Qu K ty ρ (QR k)):Qu K (Rt (Va K (Q8 i) "leaving") ty<|JF QQ) ρ (.list<|((QP N.leav k).getD []).map PyData.int):=fun O F u H Q S q=>by
 obtain⟨a,J,X,r,l,d,n,T,I,g⟩:=S.netz e;refine⟨_,I,a,C,J,_,.ref l,rfl,S.sub _ _ g.ins,c.cl,c.leav,rfl,l,rfl,.inr ⟨n,Rd.of<|S.sub _ _ g.leav.1⟩,B O F u H _ S fun t h y s z=>⟨XQ _,fun p E=>?_⟩⟩;obtain⟨b,rfl,G⟩:=Wy z;have M:=S.ext s;have o:Q0 t h (upd t p<|.lst []) (upd h p<|.lst []):=Q0.new M.sub E;have f:=s.trans o;have A:upd h p (.lst []) l=some (.dT n):=f.fh _ _ (f.ff _ _ g.leav.1);have L:upd h p (.lst []) b=some (.tup<|k.map kV):=o.fh _ _ (o.ff _ _ G);refine⟨Z1 n k,V4.t A L,?_⟩
 rcases g.leav.2.val k with ⟨m,j⟩|⟨Y,U,R,m,j,x,v⟩
 .rw[m]
  exact q _ _ _ f (by rw[j];exact .lst QC .nil)
 .rw[m]
  exact q _ _ _ f (by rw[j];exact .lst (f.ff _ _ x)<|v.mono f.ff)
def CU (c:NetC K C) (e:ρ[i]?=some (some<|.zow<|ZZ P w C N))  (s:Qu K ty ρ (.tuple [QR k1,QR k2])) (hn:ZL N.laid (k1,k2)=some n):Qu K (Rb P w (Va K (Q8 i) "laid") ty) ρ (.int n):=fun B F m H Q S q=>by
 obtain⟨a,x,I,r,l,d,G,o,v,g⟩:=S.netz e;refine⟨_,v,a,C,x,_,.ref d,rfl,S.sub _ _ g.ins,c.cl,c.laid,rfl,s B F m H _ S fun E A y f p=>?_⟩;obtain⟨b,rfl,t⟩:=HE p;have j:=S.ext f;have h:=g.laid.2.mono f.ff
 exact⟨d,b,o,(k1,k2),.int n,rfl,rfl,f.fh _ _<|f.ff _ _ g.laid.1,h.at j.sub,t.mono fun J z u=>j.sub _ _ u,by rw[h.val,hn];rfl,q E A _ f<|.int n⟩
def ED (c:NetC K C) (p:Qu K ty ρ (.tuple [QR k1,QR k2])) (e:ρ[i]?=some (some<|.zow<|ZZ P w C N)):Qu K (RX P w ty<|Va K (Q8 i) "laid") ρ (.bool<|!(ZL N.laid (k1,k2)).isSome):=fun A F m H Q S q =>
 p A F m H _ S fun B x y h o=>by
  have f:=S.ext h;obtain⟨a,v,G,r,l,d,E,n,u,g⟩:=f.netz e;obtain⟨b,rfl,s⟩:=HE o;have j:=g.laid.2;refine⟨_,u,a,C,v,_,.ref d,rfl,f.sub _ _ g.ins,c.cl,c.laid,rfl,d,b,n,(k1,k2),rfl,rfl,f.sub _ _ g.laid.1,j.at f.sub,s.mono fun I z t=>f.sub _ _ t,q B x _ h ?_⟩;rw[j.val,J9];exact .bl _
def QB.dctz  (S:QB K H0 F ρ σ H)(e:ρ[i]?=some (some<|.zow<|JL kvs)):∃a xs,σ[i]?=some (some<|.ref a)/\F a=some (.dT xs)/\PairD F xs kvs:=by
 obtain⟨f,h,_⟩:=S.fp;obtain⟨v,d,_,a,xs,rfl,c,b⟩:=h i _ e
 exact⟨a,xs,d,c,b⟩
def RO  (e:ρ[i]?=some (some<|.zow<|JL kvs))(r:Qu K ty ρ (QR k))(h:VX kvs k=some d):Qu K (Dn (Q8 i) ty) ρ d:=fun A F l H Q S q=>by
 obtain⟨a,E,j,_⟩:=S.dctz e;refine⟨_,j,r A F l H _ S fun B v y f p=>?_⟩;obtain⟨I,o,c,u,t⟩:=(S.ext f).dctz e;rw[j]at c;cases c;obtain⟨b,rfl,s⟩:=Wy p
 rcases t.val k with ⟨_,z⟩|⟨x,G,n,g,m⟩
 .rw[h]at z;cases z
 .rw[h]at g
  cases g
  exact⟨a,x,rfl,n▸V4.t (f.fh _ _ u) (f.fh _ _ s),q B v x f m⟩
def Fm (g:Qu K ty ρ (QR k))(e:ρ[i]?=some (some<|.zow<|JL kvs)):Qu K (Bf ty<|Q8 i) ρ (.bool (VX kvs k).isSome):=fun o F d H Q S q =>
 g o F d H _ S fun p n y c f=>by
  obtain⟨a,r,m,l,j⟩:=(S.ext c).dctz e;obtain⟨b,rfl,h⟩:=Wy f
  exact⟨_,m,a,_,rfl,V4.t (c.fh _ _ l)<|c.fh _ _ h,q p n _ c<|by rw[Kp j];exact .bl _⟩
end
end
def Zk (K:W.Frag)(R:List OT->(OT->Prop)->Prop):Sp:=fun f H Q _=>∃F d c,KTs K F/\Q5 F H/\Args K F f d/\R d c/\∀e b v p r,c r->Q0 F H e b->(∀a∈p,H a=none)->Zs K e b v r p->Q v b
def Bh (K:W.Frag)(t:TA)(ρ:QF)(Φ:List OT->Prop):Prop := ∀(f F:Hp) (a:St) (H:Hp) (Q:List V->Hp->Prop),QB K f F ρ a H->(∀e d b c,Φ c->Q0 F H e d->Args K e b c->Q b d)->t a H Q
section
variable {K:W.Frag}{ρ:QF}{D:PEnds}
def Wx   (h:Z0 K t ρ ts)(k:R ts Φ):ZA K (Yk (Zk K R) [] E t) ρ Φ:=fun m F c H Q S q =>
 h m F c H _ S fun o u s b e=>⟨o,ts,Φ,(S.ext b).kt,b.fh,by rw[XG];exact e,k,fun n l v p r g d i f=>q n l v p r g (b.trans d) (fun a j=>b.hh.free<|i a j) f⟩
def WO  (h:Z0 K t ρ ts)(c:Φ ts):Bh K t ρ Φ:=fun d F a H Q S q=>h d F a H Q S fun f e b x r=>q f e b ts c x r
def LK  (h:ZA K ta ρ Φ)(l:∀r,Φ r->∃ds,r=.ol ds/\Φ' [.fz<|.list ds]):Bh K (QI ta QQ) ρ Φ':=fun n F d H Q S q =>
 h n F d H _ S fun o m v p r j x k i=>by
  obtain⟨ds,rfl,b⟩:=l r j;obtain⟨a,rfl,rfl,c,e,g,f⟩:=i;exact q (upd o a<|.lst e) m [.ref a] _ b (x.freeze c g<|k a Xb) (.fz (.lst QC<|f.mono<|Q5.new c) .nil)
section
variable {P:Program}{w:World}{C:Addr}{N:Q7}{i:Nat}{m:Str}
def NoF (m:Str):Prop := ∀e r l d:Addr,([("ends",V.ref e),("rooms",V.ref r),("leaving",V.ref l),("laid",V.ref d)]:List (Str×V)).lookup m=none
def Ht   (A:NoF m)(e:ρ[i]?=some (some<|.zow<|ZZ P w C N))(h:Z0 K t ρ ts)(G:R (.zow (ZZ P w C N)::ts) Φ) :
 ZA K (Vs C m (Zk K R) [] E (Q8 i) t) ρ Φ:=fun M F k H Q S q=>by
 obtain⟨a,j,I,r,l,d,o,n,J,g⟩:=S.netz e;refine⟨_,J,a,j,_,rfl,S.sub _ _ g.ins,A _ _ _ _,h M F k H _ S fun T X U c u=>?_⟩;refine⟨T,_,Φ,(S.ext c).kt,c.fh,.zow (Ψ:=ZZ P w C N) ⟨a,j,I,r,l,d,o,n,rfl,g.mono c.ff⟩<|by rw[XG];exact u,G,fun O L v p x y s z f=>q O L v p x y (c.trans s) (fun b B=>c.hh.free<|z b B) f⟩
def CN    (hm:NoF m)(h1:ZA K ta ρ Φ1)(hz:∀r,Φ1 r->∃v N,r=.own v (Zh P w C N)/\∃c,R (.zow (ZZ P w C N)::ts) c/\∀r,c r->Φ r)
 (h:Z0 K t ρ ts):ZA K (Vs C m (Zk K R) [] E ta t) ρ Φ:=fun L F B H Q S q =>
 h1 L F B H _ S fun A n v p r Z j hp k=>by
  obtain⟨v0,N,rfl,c,hR,hi⟩:=hz r Z;obtain⟨rfl,k⟩:=k;have U:=fun a f=>(Zh P w C N).there k a f;have G:Q5 A (frF A n p):=W3 fun a f=>(U a f).1
  have e:Q0 F H (frF A n p) n:=⟨j.hh,j.ff.trans G,GE j.fh,fun a f=>by
   by_cases z:a∈p
   .exact .inr (hp a z)
   .rw[YV z]at f;exact j.fr a f⟩
  obtain⟨a,J,el,r,l,d,O,M,as,rfl,rfl,o⟩:=k;refine⟨a,J,_,rfl,o.ins.2,hm _ _ _ _,h L _ B n _ (S.ext e) fun F2 H2 vs g X=>?_⟩;have z:=o.fz G (fun b y=>Jt y)
  exact⟨F2,_,c,(S.ext<|e.trans g).kt,g.fh,.zow (Ψ:=ZZ P w C N) ⟨a,J,el,r,l,d,O,M,rfl,z.mono g.ff⟩<|by rw[XG];exact X,hR,fun F3 H3 v Y I u T x s=>q F3 H3 v Y I (hi I u) ((e.trans g).trans T) (fun b y=>(e.trans g).hh.free (x b y)) s⟩
structure ExtN (p:Qg)(F H F' H':Hp):Prop where
 hh:∀b o,b∉p->H b=some o->H' b=some o
 ff:Q5 F F'
 fh:Q5 F' H'
 fr:∀b,F' b≠none->F b≠none\/H b=none\/b∈p
def spN (K:W.Frag)(P:Program)(w:World)(C:Addr)(R:Q7->List OT->(Q7->Prop)->Prop):Sp:=fun k H Q _=>∃F a c p f N e,k=.ref a::c/\KTs K F/\Q5 F H/\Args K F c f/\(Zh P w C N).ok K F H (.ref a) p/\R N f e /\
 ∀j d g h,e h->ExtN p F H j d->(Zh P w C h).ok K j d (.ref a) g->(∀b∈g,b∈p\/H b=none)->Q .non d
theorem Zp.move {F e H j:Hp}(s:Q5 F e):∀{as:Qg} {c:List (Qd)},(∀a∈as,e a=none)->(∀a∈as,j a=H a)->Zp F H as c->Zp e j as c
 |[],[],_,_,_=>trivial
 |a::as,_::_,g,f,o=>by
   obtain⟨⟨q,k,p,n⟩,l⟩:=o
   exact⟨⟨g a Xb,k,by rw[f a Xb];exact p,n.mono s⟩,Zp.move s (fun b d=>g b<|Xe _ d) (fun b d=>f b<|Xe _ d) l⟩
 |[],_::_,_,_,h=>False.elim h
 |_::_,[],_,_,h=>False.elim h
def Zs.move   (s:Q5 F F')(f:∀a∈p,F' a=none)(e:∀a∈p,H' a=H a)(h:Zs K F H v t p):Zs K F' H' v t p:=by
 cases t with
 |fz d=>exact⟨h.1,h.2.mono s⟩
 |zow l=>exact⟨h.1,l.mono s h.2⟩
 |ol z =>
   obtain⟨a,rfl,rfl,j,o,g,c⟩:=h
   exact⟨a,rfl,rfl,f a Xb,o,by rw[e a Xb];exact g,c.mono s⟩
 |oll r =>
   obtain⟨a,u,rfl,rfl,j,g,c,q⟩:=h
   exact⟨a,u,rfl,rfl,j,f a Xb,by rw[e a Xb];exact c,q.move s (fun b k=>f b<|Xe _ k) fun b k=>e b<|Xe _ k⟩
 |scr y=>obtain⟨j,a,g,c⟩:=h;exact⟨j,a,g,c.mono s⟩
 |own x n=>exact⟨h.1,n.mono s f e h.2⟩
def SQ {F0 H0 F H:Hp}{L:St}{E:Ends}{v:V}{Ψ:Q7->Prop}(S:QB K H0 F ρ L H)(x:Q0 F0 H0 F H)(e:ρ[i]?=some (some<|.own v<|Zh P w C N))(hn:∀h,Ψ h->D.nx (ρ.set i<|some<|.own v<|Zh P w C h))(C':Cnv K F0 H0 D E) :
 ∃a p,v=.ref a/\(Zh P w C N).ok K F H (.ref a) p/\∀B q G h,Ψ h->ExtN p F H B q->(Zh P w C h).ok K B q (.ref a) G->(∀b∈G,b∈p\/H b=none)->E.nx L q:=by
 obtain⟨Z,h1,h2,A,T,I,g⟩:=S;obtain⟨u,e1,rfl,O⟩:=T i _ e;obtain⟨a,_,_,_,_,_,_,_,_,rfl,_⟩:=id O;have M:=(Xf.mp e).1;refine⟨a,A i,rfl,O,fun B q G h hN f s l=>?_⟩;have r:∀j,j≠i->∀b∈A j,b∉A i:=fun j d b c z=>d (I j i b c z)
 have R:∀j,j≠i->∀b∈A j,q b=H b:=fun j d b c=>by
  obtain⟨o,Q⟩:=U9 (g j b c).2;rw[f.hh b o (r j d b c) Q,Q]
 refine C'.nx B L q _ ⟨fun b o c=>f.hh b o (fun z=>by rw[(g i b z).1]at c;cases c)<|x.hh b o c,x.ff.trans f.ff,f.fh,fun b c=>?_⟩ ⟨Z.mono f.ff,f.fh,by simp[h2],fun j=>if j=i then G else A j,fun j Y J=>?_,fun j k b c n=>?_,fun j b c=>?_⟩ (hn h hN)
 .rcases f.fr b c with z|z|z
  .exact x.fr b z
  .exact .inr (x.hh.free z)
  .exact .inr (g i b z).1
 .by_cases d:j=i
  .subst d
   rw[Xj M]at J;cases J;refine⟨_,e1,rfl,?_⟩;simp only[if_true];exact s
  .rw[Xo<|Ne.symm d]at J
   obtain⟨X,f1,U⟩:=T j Y J;refine⟨X,f1,?_⟩;simp only[Xa d];refine U.move f.ff (fun b c=>?_) (R j d)
   cases z:B b with
   |none=>rfl
   |some o =>
     rcases f.fr b (Zt z) with y|y|y
     .exact Xm (U.there b c).1 y
     .exact Xm y (g j b c).2
     .exact Xm y (r j d b c)
 .by_cases d:j=i
  .by_cases t:k=i
   .omega
   .simp only[Xd d]at c
    simp only[Xa t]at n;rcases l b c with z|z
    .exact Xm (I k i b n z) t
    .exact Xm z (g k b n).2
  .simp only[Xa d]at c
   by_cases t:k=i
   .simp only[Xd t]at n
    rcases l b n with z|z
    .exact Xm (I j i b c z) d
    .exact Xm z (g j b c).2
   .simp only[Xa t]at n
    exact I j k b c n
 .by_cases d:j=i
  .simp only[Xd d]at c
   refine⟨?_,((Zh P w C h).there s b c).2⟩
   rcases l b c with z|z
   .exact(g i b z).1
   .exact x.hh.free z
  .simp only[Xa d]at c
   exact⟨(g j b c).1,by rw[R j d b c];exact(g j b c).2⟩
def J4   (u:NoF m)(e:ρ[i]?=some (some<|.own v<|Zh P w C N))(z:Bh K t ρ ΦA)
 (y:∀ts,ΦA ts->∃Ψ,R N ts Ψ/\∀h,Ψ h->D.nx (ρ.set i<|some<|.own v<|Zh P w C h)):Q1 K (Vt<|Vs C m (spN K P w C R) [] E' (Q8 i) t) ρ D:=fun Y I F j H E x S L=>by
 obtain⟨a,G,Q,r,l,d,O,M,T,rfl,B,o,_⟩:=S.net e;refine⟨_,B,a,G,_,rfl,o.ins.2,u _ _ _ _,z I F j H _ S fun J X k ts q b n=>?_⟩;obtain⟨Ψ,f,s⟩:=y ts q;obtain⟨U,p,A,c,g⟩:=SQ (S.ext b) (x.trans b) e s L
 cases A
 exact⟨J,a,k++[],p,ts,N,Ψ,rfl,(S.ext b).kt,b.fh,by rw[XG];exact n,c,f,g⟩
def ST   (e:ρ[i]?=some (some<|.own v<|Zh P w C N))(u:Bh K t ρ ΦA)
 (s:∀ts,ΦA ts->∃Ψ,R N ts Ψ/\∀h,Ψ h->D.nx (ρ.set i<|some<|.own v<|Zh P w C h)):Q1 K (Vt<|Yk (spN K P w C R) [] E'<|QI (Q8 i) t) ρ D:=fun X A F j H E x S G=>by
 obtain⟨a,O,M,r,l,d,J,I,Q,rfl,z,L,_⟩:=S.net e;refine⟨_,z,u A F j H _ S fun B U k ts o b n=>?_⟩;obtain⟨Ψ,f,q⟩:=s ts o;obtain⟨T,p,y,c,g⟩:=SQ (S.ext b) (x.trans b) e q G
 cases y
 exact⟨B,a,k++[],p,ts,N,Ψ,rfl,(S.ext b).kt,b.fh,by rw[XG];exact n,c,f,g⟩
def spI (P:Program)(w:World)(C:Addr):Sp:=fun f H Q _=>∃x c,f=[.ref x]/\H x=some (.ins C c [])/\∀e r l d a,H e=none->H r=none->H l=none->H d=none->[x,e,r,l,d].Nodup ->
 a x=some (.ins C c [("ends",.ref e),("rooms",.ref r),("leaving",.ref l),("laid",.ref d)])->a e=some (.lst [])->a r=some (.lst [])->a l=some (.dT [])->a d=some (pdO P w d [])->(∀b,b∉[x,e,r,l,d]->a b=H b)->Q .non a
def F8:EvX K (Uu C (spI P w C) [] E QQ) ρ (Zh P w C ⟨[],[],[],[]⟩):=fun H0 F σ H Q S q=>fun x f s j u=>by
 refine⟨x,f,rfl,QC,fun e r l d B Z X Y hd I h1 h2 h3 h4 h5 R=>⟨rfl,?_⟩⟩
 have p:∀{b:Addr},upd (upd H f<|.own x) x (.ins C f []) b=none->H b=none/\b≠x/\b≠f:=fun{b} a=>by
  have L:b≠x:=fun z=>by rw[z,QC]at a;cases a
  rw[Qt L]at a;have J:b≠f:=fun z=>by rw[z,QC]at a;cases a
  rw[Qt J]at a;exact⟨a,L,J⟩
 obtain⟨y,e2,T⟩:=p Z;obtain⟨t,r2,G⟩:=p X;obtain⟨v,l2,M⟩:=p Y;obtain⟨A,d2,U⟩:=p hd
 have n:B f=some (.own x):=by
  rw[R f<|by simp only[Xg,XT,or_false,not_or];exact⟨u,Ne.symm T,Ne.symm G,Ne.symm M,Ne.symm U⟩,Qt u,QC]
 have O:∀b o,H b=some o->B b=some o:=fun b o a=>by
  have g:∀{c:Addr},H c=none->b≠c:=fun hc z=>by rw[z,hc]at a;cases a
  rw[R b<|by simp only[Xg,XT,or_false,not_or];exact⟨g s,g y,g t,g v,g A⟩,Qt<|g s,Qt<|g j];exact a
 have k:∀{b:Addr},H b=none->F b=none:=fun a=>S.sub.free a;refine q F B (.ref x) [x,f,e,r,l,d] ⟨O,Q5.refl _,fun b o a=>O b o<|S.sub b o a,fun _ h=>.inl h⟩ (fun b a=>?_) ⟨x,f,e,r,l,d,[],[],[],rfl,rfl,?_,⟨k s,h1⟩,⟨k j,n⟩,⟨k y,[],h2,.nil⟩,⟨k t,[],h3,.nil⟩,⟨k v,h4,.nil⟩,⟨k A,h5,.nil⟩⟩
 .simp only[Xg,XT,or_false]at a
  rcases a with rfl|rfl|rfl|rfl|rfl|rfl
  .exact s
  .exact j
  .exact y
  .exact t
  .exact v
  .exact A
 .simp only[Xt,Xg,XT,or_false,not_or,not_false_eq_true,JD,and_true]at I ⊢
  obtain⟨⟨a1,a2,a3,a4⟩,b1,c1,f1⟩:=I
  exact⟨⟨Ne.symm u,a1,a2,a3,a4⟩,⟨Ne.symm T,Ne.symm G,Ne.symm M,Ne.symm U⟩,b1,c1,f1⟩
end
end
section
variable {P:Program}{w:World}{K:W.Frag}{mg:Str->Qf}{base:Heap}
def Fun.evD {x c:Str}{st:Stmt}{f:Addr}{I:FuncData}{N ps:Qh}{k:Nat}{R:List OT->(OT->Prop)->Prop}(F:Fun K x c st f I)(S:Qp N ps (Q2 st))(o:∀ts Φ,R ts Φ->ts.length=ps.length)
 (y:∀(d:Value) (A:Around) (b:List Env) (s:Shared) (H:Hp) (E:XK) (ts:List OT) (Φ:OT->Prop),Room k (A.deeper<|envOfC c (Q2 st) s.heap.objs.size f d)->R ts Φ ->
  ∃t,PSs (Vz CX0 P w K mg base N c (Q2 st) f d A b s H E).nox (Z9 st) t/\Q1 K t (ts.map some++List.replicate (N.length-ts.length) none) { nx:=fun _=>Φ<|.fz .none,rt:=Φ }):FnOk P w K mg base CX0 (k+1) f I ps (Zk K R):=by
 refine F.ok S (by rintro n H Q E ⟨F,ts,Φ,_,_,l,u,_⟩;exact l.length.trans<|o ts Φ u) ?_;rintro d A b s H n Q E U ⟨F,ts,Φ,T,G,l,u,q⟩;obtain⟨t,Z,Y⟩:=y d A b s H E ts Φ U u;refine⟨t,Z,Y F H F (start N n) H _ (Q0.refl G) ⟨T,G,?_,fun _=>[],fun i D e=>?_,fun i j a h=>(nomatch h),fun i a h=>(nomatch h)⟩ ⟨fun C J B L m _ e=>?_,fun C B v M p m X O e=>q C B v p M e m X O,fun _ _ _ _ _ _ z=>False.elim z,fun _ _ _ _ _ _ z=>False.elim z⟩⟩
 .unfold start
  simp[l.length]
 .have g:i<ts.length:=by
   by_cases z:i<ts.length
   .exact z
   .rw[X9<|by simpa using z]at e
    have:=List.mem_of_getElem? e
    simp at this
  rw[XN<|by simpa using g,Xn]at e;have e':ts[i]?=some D:=by
   cases z:ts[i]? with
   |none=>rw[z]at e;simp at e
   |some w=>rw[z]at e;simp at e;rw[e]
  obtain⟨v,e1,e2⟩:=l.get (H:=H) i D e';refine⟨v,?_,e2⟩;unfold start;have r:i<n.length:=by rw[l.length];exact g
  rw[XN<|by simpa using r,Xn,e1];rfl
 .exact q C B _ [] _ e m (by rintro _ ⟨⟩) ⟨rfl,.non⟩
def Fun.evN {C:Addr}{x g:Str}{st:Stmt}{f:Addr}{fd:FuncData}{N ps:Qh}{k:Nat}{R:Q7->List OT->(Q7->Prop)->Prop}(F:Fun K x g st f fd)(S:Qp N ps (Q2 st))(L:∀M ts Ψ,R M ts Ψ->ts.length+1=ps.length)
 (U:∀(l:Value) (A:Around) (d:List Env) (s:Shared) (H:Hp) (E:XK) (v:V) (M:Q7) (ts:List OT) (Ψ:Q7->Prop),Room k (A.deeper<|envOfC g (Q2 st) s.heap.objs.size f l)->R M ts Ψ ->
  ∃t,PSs (Vz CX0 P w K mg base N g (Q2 st) f l A d s H E).nox (Z9 st) t/\Q1 K t (some (.own v<|Zh P w C M)::(ts.map some++List.replicate (N.length-(ts.length+1)) none)) { nx:=fun n=>∃G,Ψ G/\n[0]?=some (some<|.own v<|Zh P w C G),rt:=fun _=>False }) :
 FnOk P w K mg base CX0 (k+1) f fd ps (spN K P w C R):=by
 refine F.ok S (by rintro vs H Q E ⟨F,a,m,p,ts,M,Ψ,e,_,_,D,_,T,_⟩;rw[e,XS,D.length];exact L _ _ _ T) ?_;rintro l A d s H vs Q E hr ⟨F,a,m,p,ts,M,Ψ,e,kt,Y,D,J,T,q⟩;subst e;obtain⟨t,h1,h2⟩:=U l A d s H E (.ref a) M ts Ψ hr T
 have h0:∀b,(fun b=>if b∈p then none else H b:Hp) b=none->b∈p\/H b=none:=fun b c=>by
  by_cases z:b∈p
  .exact .inl z
  .simp only[Xa z]at c;exact .inr c
 have th:=fun b c=>(Zh P w C M).there J b c
 refine⟨t,h1,h2 F (fun b=>if b∈p then none else H b) F (start N (.ref a::m)) H _ ⟨fun b o c=>?_,Q5.refl _,Y,fun _ h=>.inl h⟩ ⟨kt,Y,?_,fun j=>if j=0 then p else [],fun j X e=>?_,fun j k' b c hc=>?_,fun j b c=>?_⟩
  ⟨fun F' σ' H' n r S' ⟨G,hM,e0⟩=>?_,fun F' H' v r' p r hp J e=>False.elim e,fun _ _ _ _ _ _ z=>False.elim z,fun _ _ _ _ _ _ z=>False.elim z⟩⟩
 .by_cases z:b∈p
  .simp[z]at c
  .simp only[Xa z]at c;exact c
 .unfold start
  simp[D.length]
 .cases j with
  |zero =>
    simp at e
    subst e;refine⟨.ref a,?_,rfl,?_⟩
    .unfold start
     simp
    .simp only[if_true]
     exact J
  |succ i =>
    rw[UW]at e;have y:i<ts.length:=by
     by_cases z:i<ts.length
     .exact z
     .rw[X9<|by simpa using z]at e
      have:=List.mem_of_getElem? e
      simp at this
    rw[XN<|by simpa using y,Xn]at e;have e':ts[i]?=some X:=by
     cases z:ts[i]? with
     |none=>rw[z]at e;simp at e
     |some w=>rw[z]at e;simp at e;rw[e]
    obtain⟨v,e1,e2⟩:=D.get (H:=H) i X e';refine⟨v,?_,?_⟩
    .unfold start
     have O:i<m.length:=by rw[D.length];exact y
     rw[Xx,J8,UW,XN<|by simpa using O,Xn,e1];rfl
    .simp only[Nat.add_one_ne_zero,if_false]
     exact e2
 .by_cases B:j=0
  .by_cases Z:k'=0
   .rw[B,Z]
   .simp[Z]at hc
  .simp[B]at c
 .by_cases B:j=0
  .simp only[Xd B]at c
   exact⟨by simp[c],(th b c).2⟩
  .simp[B]at c
 .obtain⟨fp,g1,g2,g3⟩:=S'.fp
  obtain⟨u,u1,rfl,I⟩:=g1 0 _ e0;refine q F' H' (fp 0) G hM ⟨fun b o nb c=>r.hh b o<|by simp only[Xa nb];exact c,r.ff,r.fh,fun b c=>?_⟩ I (fun b c=>h0 b (g3 0 b c).1)
  rcases r.fr b c with z|z
  .exact .inl z
  .exact .inr ((h0 b z).symm)
structure Mf (K:W.Frag)(C:Addr)(m qual:Str)(st:Stmt)(ps:Qh):Prop where
 ex:∃f fd,Fun K m qual st f fd/\Meth K C m f/\Vu K fd ps []
def Zu (P:Program)(w:World)(K:W.Frag)(mg:Str->Qf)(base:Heap)(C:Addr)(m:Str)(ps:Qh)(k:Nat)(b:Sp):Prop :=
 ∃f a,Meth K C m f/\Vu K a ps []/\FnOk P w K mg base CX0 k f a ps b
def Mf.evD {C:Addr}{m b:Str}{st:Stmt}{N ps:Qh}{k:Nat}{R:List OT->(OT->Prop)->Prop}(D:Mf K C m b st ps)(S:Qp N ps (Q2 st))(d:∀ts Φ,R ts Φ->ts.length=ps.length)
 (e:∀(f:Addr) (c:Value) (A:Around) (a:List Env) (s:Shared) (H:Hp) (E:XK) (ts:List OT) (Φ:OT->Prop),Room k (A.deeper<|envOfC b (Q2 st) s.heap.objs.size f c)->R ts Φ ->
  ∃t,PSs (Vz CX0 P w K mg base N b (Q2 st) f c A a s H E).nox (Z9 st) t/\Q1 K t (ts.map some++List.replicate (N.length-ts.length) none) { nx:=fun _=>Φ<|.fz .none,rt:=Φ }):Zu P w K mg base C m ps (k+1) (Zk K R):=by
 obtain⟨f,i,F,g,h⟩:=D.ex
 exact⟨f,i,g,h,F.evD S d fun c A a s H E ts Φ=>e f c A a s H E ts Φ⟩
def Mf.evN {C:Addr}{m b:Str}{st:Stmt}{N ps:Qh}{k:Nat}{R:Q7->List OT->(Q7->Prop)->Prop}(D:Mf K C m b st ps)(S:Qp N ps (Q2 st))(e:∀M ts Ψ,R M ts Ψ->ts.length+1=ps.length)
 (g:∀(f:Addr) (c:Value) (A:Around) (a:List Env) (s:Shared) (H:Hp) (E:XK) (v:V) (M:Q7) (ts:List OT) (Ψ:Q7->Prop),Room k (A.deeper<|envOfC b (Q2 st) s.heap.objs.size f c)->R M ts Ψ ->
  ∃t,PSs (Vz CX0 P w K mg base N b (Q2 st) f c A a s H E).nox (Z9 st) t/\Q1 K t (some (.own v<|Zh P w C M)::(ts.map some++List.replicate (N.length-(ts.length+1)) none)) { nx:=fun d=>∃h,Ψ h/\d[0]?=some (some<|.own v<|Zh P w C h),rt:=fun _=>False }) :
 Zu P w K mg base C m ps (k+1) (spN K P w C R):=by
 obtain⟨f,l,F,i,j⟩:=D.ex
 exact⟨f,l,i,j,F.evN S e fun c A a s H E v M ts Ψ=>g f c A a s H E v M ts Ψ⟩
def Df.evD {x:Str}{st:Stmt}{N ps:Qh}{k:Nat}{R:List OT->(OT->Prop)->Prop}(D:Df K mg x st ps)(S:Qp N ps (Q2 st))(c:∀ts Φ,R ts Φ->ts.length=ps.length)
 (d:∀(f:Addr) (b:Value) (A:Around) (a:List Env) (s:Shared) (H:Hp) (E:XK) (ts:List OT) (Φ:OT->Prop),Room k (A.deeper<|envOfC x (Q2 st) s.heap.objs.size f b)->R ts Φ ->
  ∃t,PSs (Vz CX0 P w K mg base N x (Q2 st) f b A a s H E).nox (Z9 st) t/\Q1 K t (ts.map some++List.replicate (N.length-ts.length) none) { nx:=fun _=>Φ<|.fz .none,rt:=Φ }):QG P w K mg base x ps (k+1) (Zk K R):=by
 obtain⟨f,h,F,e,g⟩:=D.ex
 exact⟨f,h,e,F.kp,g,F.evD S c fun b A a s H E ts Φ=>d f b A a s H E ts Φ⟩
def Df.evN {C:Addr}{x:Str}{st:Stmt}{N ps:Qh}{k:Nat}{R:Q7->List OT->(Q7->Prop)->Prop}(D:Df K mg x st ps)(S:Qp N ps (Q2 st))(d:∀M ts Ψ,R M ts Ψ->ts.length+1=ps.length)
 (e:∀(f:Addr) (b:Value) (A:Around) (a:List Env) (s:Shared) (H:Hp) (E:XK) (v:V) (M:Q7) (ts:List OT) (Ψ:Q7->Prop),Room k (A.deeper<|envOfC x (Q2 st) s.heap.objs.size f b)->R M ts Ψ ->
  ∃t,PSs (Vz CX0 P w K mg base N x (Q2 st) f b A a s H E).nox (Z9 st) t/\Q1 K t (some (.own v<|Zh P w C M)::(ts.map some++List.replicate (N.length-(ts.length+1)) none)) { nx:=fun c=>∃g,Ψ g/\c[0]?=some (some<|.own v<|Zh P w C g),rt:=fun _=>False }) :
 QG P w K mg base x ps (k+1) (spN K P w C R):=by
 obtain⟨f,j,F,h,i⟩:=D.ex
 exact⟨f,j,h,F.kp,i,F.evN S d fun b A a s H E v M ts Ψ=>e f b A a s H E v M ts Ψ⟩
def MO (P:Program)(w:World)(K:W.Frag)(mg:Str->Qf)(base:Heap)(x:Str)(C:Addr)(k:Nat):Prop :=
 ∃f a,Mk K C f/\mg x=some (.ref C)/\Vu K a Zam []/\FnOk P w K mg base CX0 k f a Zam (spI P w C)
end
section
variable {X:Cx}
noncomputable def Y3 {C:Addr}{m:Str}{a b:Pos}{o e:Expr}{es:Qi}{h:TE}{t:TA}{ps:Qh}{j k:Nat}{i:Sp}{pl:Sem Bool}(M:Zu X.prog X.w X.K X.mg X.base C m ps j i)(c:NetC X.K C)(p:Room k X.A)(s:PE X o h)(v:PA X (e::es) t)(r:j<=k:=by walk_at"j")
 (d:starEach (e::es) X.env=(false,eval e X.env)::starEach es X.env:=by rfl) (g:(backTo a<|starEach es X.env).any (·.1)=false:=by rfl)
 (n:eval (.Call (.Attribute o m b) (e::es) [] a) X.env=(do
  let l <- eval o X.env
  standAt b.atName
  let (f,first) <- holding [l] (getMethod l m pl)
  callWith a f first (backTo a<|starEach (e::es) X.env)<|backToKw a<|keywordEach [] X.env):=by rfl) :
 PE X (.Call (.Attribute o m b) (e::es) [] a) (Vs C m i [] E0 h t):=by
 obtain⟨f,w,q,u,F⟩:=M;exact Hd (pl:=pl) s c.cl q F (p.mono r) u .nil JT v d g n
def FA {C:Addr} {x:Str} {p a:Pos} {j k:Nat} (M:MO X.prog X.w X.K X.mg X.base x C j) (c:Room k X.A) (e:j+1<=k:=by walk_at"j") (g:Gl X x:=by rfl) (b:(x==("__debug__" : Str))=false:=by decide +kernel) :
 PE X (.Call (.Name x p) [] [] a) (Uu C (spI X.prog X.w C) [] E0 QQ):=by
 obtain⟨f,i,M,d,h,F⟩:=M;exact Em M F (c.mono e) g d h .nil JT b
end
end L2
end
section
namespace Mir
open PySem L2
noncomputable def nk:Nd->List Key
 |.start=>[.inr "start"]
 |.fin=>[.inr "end"]
 |.guest k=>[.inr "guest",.inl (k:Int)]
 |.line l t=>[.inr "line",.inl (l:Int),.inl (t:Int)]
theorem JX:∀{a b:Nd},nk a=nk b->a=b
 |.start,.start,_=>rfl
 |.fin,.fin,_=>rfl
 |.start,.fin,h=>Xm h (by decide)
 |.fin,.start,h=>Xm h (by decide)
 |.guest a,.guest b,h=>by
   injection h with _ h;injection h with h _;injection h with h
   have:a=b:=by omega
   rw[this]
 |.line a b,.line c d,h=>by
   injection h with _ h;injection h with f h;injection h with e _;injection f with f;injection e with e;have i:a=c:=by omega
   have g:b=d:=by omega
   rw[i,g]
 |.start,.guest _,h=>by have q:=X5 List.length h;simp[nk]at q
 |.start,.line _ _,h=>by have q:=X5 List.length h;simp[nk]at q
 |.fin,.guest _,h=>by have q:=X5 List.length h;simp[nk]at q
 |.fin,.line _ _,h=>by have q:=X5 List.length h;simp[nk]at q
 |.guest _,.start,h=>by have q:=X5 List.length h;simp[nk]at q
 |.guest _,.fin,h=>by have q:=X5 List.length h;simp[nk]at q
 |.guest _,.line _ _,h=>by have q:=X5 List.length h;simp[nk]at q
 |.line _ _,.start,h=>by have q:=X5 List.length h;simp[nk]at q
 |.line _ _,.fin,h=>by have q:=X5 List.length h;simp[nk]at q
 |.line _ _,.guest _,h=>by have q:=X5 List.length h;simp[nk]at q
def LM:nk a=nk b↔a=b:=⟨JX,fun h=>by rw[h]⟩
def Us:Option Nat->PyData
 |none=>.none
 |some e=>.int (e:Int)
noncomputable def kvG (es:Got Nd):VE:=es.map fun x=>(nk x.1,Us x.2)
theorem Hw (n:Nd):∀es:Got Nd,VX (kvG es) (nk n)=(Jl es n).map Us
 |[]=>rfl
 |(k,v)::es=>by
   have a:=Hw n es;unfold Jl at a ⊢;rw[XM];unfold kvG VX at a ⊢;rw[Xx,Xz];by_cases e:k=n
   .subst e
    simp
   .have c:¬nk k=nk n:=fun z=>e (JX z)
    have b:(n==k)=false:=by rw[beq_eq_false_iff_ne];exact fun z=>e z.symm
    rw[b];simp only[c,decide_false];exact a
def O8 {es:Got Nd}:(es.lookup n).isSome=decide (n∈QT es):=by
 induction es with
 |nil=>rfl
 |cons p es a =>
   obtain⟨k,v⟩:=p;rw[XM];by_cases e:n=k
   .subst e
    simp[QT]
   .have b:(n==k)=false:=by rw[beq_eq_false_iff_ne];exact e
    rw[b];have:decide (n∈QT ((k,v)::es))=decide (n∈QT es):=by
     apply decide_eq_decide.mpr
     unfold QT;rw[Xx,Xg];exact⟨fun z=>z.resolve_left e,.inr⟩
    rw[this];exact a
def G7 (n:Nd)(es:Got Nd):(VX (kvG es)<|nk n).isSome=decide (n∈QT es):=by
 rw[Hw,J9];exact O8
def Av (es:Got Nd):D0 (kvG es):=fun x a=>by
 obtain⟨y,_,rfl⟩:=XO.mp a
 cases h:y.2 with
 |none=>exact⟨.non,by simp[h,Us,ZR]⟩
 |some e=>exact⟨.int (e:Int),by simp[h,Us,ZR]⟩
def AA {es:Got Nd}{n:Nd}{e:Nat}(h:n∉QT es):Up (kvG es) (nk n) (.int (e:Int))=kvG (es++[(n,some e)]):=by
 unfold Up;have:¬((kvG es).any fun a=>decide (a.1=nk n))=true:=fun z=>by
  obtain⟨x,d,b⟩:=List.any_eq_true.mp z;obtain⟨y,c,rfl⟩:=XO.mp d;have q:y.1=n:=JX (XW b);exact h (by rw[<- q];exact XO.mpr ⟨y,c,rfl⟩)
 rw[Xa this];unfold kvG;rw[XB];rfl
structure NetR (N:Q7)(L:Lay Nd)(φ:Zg Nd):Prop where
 ends:N.ends=(Wg L).map nk
 rooms:N.rooms=VA L φ
 leav:∀(n:Nd) (e:Int),e∈(QP N.leav<|nk n).getD [] ↔ ∃j:Nat,e=(j:Int)/\tlE L j=some n
 laid:∀(i:Nat) (x:Nd×Nd×Int),L[i]?=some x->ZL N.laid (nk x.1,nk x.2.1)=some ((2*i:Nat):Int)
 laid0:∀p q:Nd,(p,q)∉L.map (fun x=>(x.1,x.2.1))->ZL N.laid (nk p,nk q)=none
 l1:N.leav.length<=2*L.length
 l2:N.laid.length<=L.length
 l3:∀k ns,QP N.leav k=some ns->ns.length<=2*L.length
theorem TM (φ:Zg Nd):NetR ⟨[],[],[],[]⟩ [] φ where
 ends:=rfl
 rooms:=rfl
 leav n e:=by
  constructor
  .intro h;simp[QP]at h
  .rintro⟨j,_,h⟩;simp[tlE]at h
 laid i x h:=by simp at h
 laid0 p q _:=rfl
 l1:=XQ _
 l2:=XQ _
 l3 k ns h:=by simp[QP]at h
def W6  : QP ((k',ns)::ls) k=if k'=k then some ns else QP ls k:=by
 by_cases e:k'=k
 .simp[QP,Xz,e]
 .simp[QP,Xz,e]
theorem Pe (k k':List Key)(x:Int):∀ls:List (List Key×Ql),QP (VS ls k x) k'=if k'=k then (QP ls k).map (· ++ [x]) else QP ls k'
 |[]=>by
   unfold VS;by_cases e:k'=k
   .rw[Xd e];simp[QP]
   .rw[Xa e]
 |(j,c)::ls=>by
   unfold VS;have b:=Pe k k' x ls
   by_cases e:j=k
   .rw[Xd e,W6,W6,W6,Xd e]
    by_cases a:k'=k
    .rw[Xd a,Xd<|e.trans a.symm];rfl
    .rw[Xa a,Xa fun z=>a<|z.symm.trans e,Xa fun z=>a<|z.symm.trans e]
   .rw[Xa e,W6,W6,W6,Xa e,b]
    by_cases a:k'=k
    .rw[Xd a,Xa fun z=>e<|z.trans a,Xd a]
    .rw[Xa a,Xa a]
theorem BK (k:List Key)(x:Int):∀ls:List (List Key×Ql),(VS ls k x).length=ls.length
 |[]=>rfl
 |(j,a)::ls=>by
   unfold VS;split
   .simp
   .simp[BK k x ls]
theorem Tk (k k':List Key):∀ls:List (List Key×Ql),QP ls k=none->QP (ls++[(k,[])]) k'=if k'=k then some [] else QP ls k'
 |[],_=>by
   rw[List.nil_append,W6];by_cases e:k'=k
   .rw[Xd e,Xd e.symm]
   .rw[Xa e,Xa fun z=>e z.symm]
 |(j,b)::ls,h=>by
   rw[W6]at h;by_cases e:j=k
   .rw[Xd e]at h;cases h
   .rw[Xa e]at h
    rw[J8,W6,W6,Tk k k' ls h];by_cases a:k'=k
    .rw[Xd a,Xa fun z=>e<|z.trans a,Xd a]
    .rw[Xa a,Xa a]
def Ho (ls:List (List Key×Ql))(k k':List Key):QP (VQ ls k) k'=if k'=k then some ((QP ls k).getD []) else QP ls k':=by
 unfold VQ;cases h:QP ls k with
 |some a =>
   rw[Xd<|by rfl];by_cases e:k'=k
   .rw[Xd e,e,h];rfl
   .rw[Xa e]
 |none =>
   rw[Xa<|by simp,Tk k k' ls h];rfl
def DQ (ls:List (List Key×Ql))(k:List Key):(VQ ls k).length<=ls.length+1:=by
 unfold VQ;split
 .omega
 .simp
noncomputable def Uq (N:Q7)(s e:List Key)(r:Int):Q7:={ N with ends:=N.ends++[e],rooms:=N.rooms++[r],leav:=VS (VQ N.leav s) s (N.ends.length:Int) }
noncomputable def JJ (N:Q7)(s e:List Key)(r:Int):Q7:=Uq (Uq { N with laid:=Yx N.laid (s,e) (N.ends.length:Int) } s e r) e s 0
def UP (N:Q7)(s e:List Key)(r:Int)(k:List Key):QP (Uq N s e r).leav k=if k=s then some ((QP N.leav s).getD []++[(N.ends.length:Int)]) else QP N.leav k:=by
 show QP (VS (VQ N.leav s) s _) k=_;rw[Pe,Ho,Xd rfl,Ho];by_cases e:k=s
 .rw[Xd e,Xd e];rfl
 .rw[Xa e,Xa e,Xa e]
def W7  : ZL ((k',n)::ls) k=if k'=k then some n else ZL ls k:=by
 by_cases e:k'=k
 .simp[ZL,Xz,e]
 .simp[ZL,Xz,e]
theorem SL (k k':KK)(n:Int):∀ls:List (KK×Int),ZL (ls.map fun x=>if x.1=k then (x.1,n) else x) k'=if k'=k then (ZL ls k).map fun _=>n else ZL ls k'
 |[]=>by
   by_cases e:k'=k
   .rw[Xd e];rfl
   .rw[Xa e];rfl
 |(j,m)::ls=>by
   rw[Xx];have b:=SL k k' n ls
   by_cases e:j=k
   .simp only[e,if_true]
    rw[W7,W7,W7,b];by_cases a:k'=k
    .simp[a]
    .have:¬k=k':=fun z=>a z.symm
     simp[a,this]
   .simp only[e,if_false]
    rw[W7,W7,W7,b];by_cases a:k'=k
    .simp[a,e]
    .simp[a]
theorem PH (k k':KK)(n:Int):∀ls:List (KK×Int),ZL ls k=none->ZL (ls++[(k,n)]) k'=if k'=k then some n else ZL ls k'
 |[],_=>by
   rw[List.nil_append,W7];by_cases e:k'=k
   .rw[Xd e,Xd e.symm]
   .rw[Xa e,Xa fun z=>e z.symm]
 |(j,m)::ls,h=>by
   rw[W7]at h;by_cases e:j=k
   .rw[Xd e]at h;cases h
   .rw[Xa e]at h
    rw[J8,W7,W7,PH k k' n ls h];by_cases a:k'=k
    .rw[Xd a,Xa fun z=>e<|z.trans a,Xd a]
    .rw[Xa a,Xa a]
def SU (ls:List (KK×Int))(k k':KK)(n:Int):ZL (Yx ls k n) k'=if k'=k then some n else ZL ls k':=by
 unfold Yx;cases h:ZL ls k with
 |some m=>rw[Xd<|by rfl,SL,h];rfl
 |none=>rw[Xa<|by simp,PH k k' n ls h]
def Ad (ls:List (KK×Int))(k:KK)(n:Int):(Yx ls k n).length<=ls.length+1:=by
 unfold Yx;split
 .simp
 .simp
def P0 {a:Type} [DecidableEq a] (L:Lay a):(Wg L).length=2*L.length:=by
 unfold Wg;induction L with
 |nil=>rfl
 |cons x L b=>rw[M8,Xs,b,XS];simp;omega
def NetR.elen  (h:NetR N L φ):N.ends.length=2*L.length:=by rw[h.ends,Xl,P0]
def Kz {a:Type} [DecidableEq a] (L:Lay a)(φ:Zg a):(VA L φ).length=2*L.length:=by
 unfold VA;induction L with
 |nil=>rfl
 |cons x L b=>rw[M8,Xs,b,XS];simp;omega
def Me {x:Nd×Nd×Int}  : tlE (L++[x]) j=some n↔tlE L j=some n\/(j=2*L.length/\n=x.1)\/(j=2*L.length+1/\n=x.2.1):=by
 unfold tlE;by_cases h:j/2<L.length
 .rw[XN h]
  constructor
  .exact .inl
  .rintro(z|⟨z,_⟩|⟨z,_⟩)
   .exact z
   .omega
   .omega
 .rw[X9<|by omega,Nh.mpr (show L.length<=j/2 by omega)]
  by_cases a:j/2=L.length
  .rw[a,Nat.sub_self]
   simp only[List.getElem?_cons_zero,YJ,Option.map_none,Option.some.injEq];by_cases p:j%2=0
   .rw[Xd p]
    constructor
    .intro z;exact .inr (.inl ⟨by omega,z.symm⟩)
    .rintro(z|⟨_,z⟩|⟨z,_⟩)
     .cases z
     .exact z.symm
     .omega
   .rw[Xa p]
    constructor
    .intro z;exact .inr (.inr ⟨by omega,z.symm⟩)
    .rintro(z|⟨z,_⟩|⟨_,z⟩)
     .cases z
     .omega
     .exact z.symm
  .have:([x]:Lay Nd)[j/2-L.length]?=none:=Nh.mpr (by simp;omega)
   rw[this];constructor
   .intro z;cases z
   .rintro(z|⟨z,_⟩|⟨z,_⟩)
    .cases z
    .omega
    .omega
theorem Aj  (h:NetR N L φ)  (h0:φ s e=0)(new:(s,e)∉L.map (fun x=>(x.1,x.2.1))):NetR (JJ N (nk s) (nk e) r) (L++[(s,e,r)]) φ where
 ends:=by
  show(N.ends++[nk e])++[nk s]=_
  unfold Wg;rw[Ui,XB,h.ends];simp[Wg]
 rooms:=by
  show(N.rooms++[r])++[0]=_
  unfold VA;rw[Ui,h.rooms];simp[VA,h0]
 leav n e':=by
  have v:=h.elen
  have l1:(Uq { N with laid:=Yx N.laid (nk s,nk e) (N.ends.length:Int) } (nk s) (nk e) r).ends.length=2*L.length+1:=by
   show(N.ends++[nk e]).length=_
   rw[Xs,v];rfl
  have q:(QP (JJ N (nk s) (nk e) r).leav (nk n)).getD []=((QP N.leav<|nk n).getD []++(if n=s then [((2*L.length:Nat):Int)] else []))++(if n=e then [((2*L.length+1:Nat):Int)] else []):=by
   unfold JJ;rw[UP,l1,UP,UP];show Option.getD (if nk n=nk e then some ((if nk e=nk s then some ((QP N.leav<|nk s).getD []++[(N.ends.length:Int)]) else QP N.leav<|nk e).getD []++[((2*L.length+1:Nat):Int)]) else if nk n=nk s then some ((QP N.leav<|nk s).getD []++[(N.ends.length:Int)]) else QP N.leav<|nk n) []=_;rw[v];simp only[LM];by_cases u:n=e
   .subst u
    by_cases c:n=s
    .subst c;simp
    .simp[c]
   .by_cases c:n=s
    .subst c;simp[u]
    .simp[u,c]
  rw[q,Xy,Xy,h.leav n e'];constructor
  .rintro((⟨j,rfl,o⟩|z)|z)
   .exact⟨j,rfl,Me.mpr<|.inl o⟩
   .by_cases c:n=s
    .rw[Xd c]at z
     exact⟨2*L.length,Xh.mp z,Me.mpr<|.inr<|.inl ⟨rfl,c⟩⟩
    .rw[Xa c]at z;cases z
   .by_cases c:n=e
    .rw[Xd c]at z
     exact⟨2*L.length+1,Xh.mp z,Me.mpr<|.inr<|.inr ⟨rfl,c⟩⟩
    .rw[Xa c]at z;cases z
  .rintro⟨j,rfl,o⟩
   rcases Me.mp o with z|⟨rfl,z⟩|⟨rfl,z⟩
   .exact .inl (.inl ⟨j,rfl,z⟩)
   .exact .inl (.inr<|by rw[Xd z];exact Xh.mpr rfl)
   .exact .inr (by rw[Xd z];exact Xh.mpr rfl)
 laid i x hx:=by
  show ZL (Yx N.laid (nk s,nk e) (N.ends.length:Int)) (nk x.1,nk x.2.1)=_;rw[SU,h.elen];by_cases y:i<L.length
  .rw[XN y]at hx
   have ne:¬(nk x.1,nk x.2.1)=(nk s,nk e):=fun z=>new (by
    injection z with l f;exact XO.mpr ⟨x,List.mem_of_getElem? hx,by rw[JX l,JX f]⟩)
   rw[Xa ne];exact h.laid i x hx
  .rw[X9<|by omega]at hx
   have t:i=L.length:=by
    have:=(Xf.mp hx).1
    simp at this
    omega
   subst t;rw[Nat.sub_self]at hx;cases hx;rw[Xd rfl]
 laid0 p q hn:=by
  show ZL (Yx N.laid (nk s,nk e) (N.ends.length:Int)) (nk p,nk q)=_;rw[XB,Xy,not_or]at hn;rw[SU,Xa fun z=>?_]
  .exact h.laid0 p q hn.1
  .injection z with l f
   exact hn.2 (by rw[JX l,JX f];simp)
 l1:=by
  have a:=h.l1
  have b:(JJ N (nk s) (nk e) r).leav.length<=N.leav.length+2:=by
   unfold JJ;show(VS (VQ (VS (VQ N.leav<|nk s) (nk s) _)<|nk e) (nk e) _).length<=_;rw[BK];refine X4 (DQ _ _) ?_;rw[BK];have:=DQ N.leav (nk s);omega
  rw[Xs];simp;omega
 l2:=by
  have a:=h.l2;have b:(JJ N (nk s) (nk e) r).laid.length<=N.laid.length+1:=Ad _ _ _;rw[Xs];simp;omega
 l3 k ns hk:=by
  have g:∀d,((QP N.leav d).getD []).length<=2*L.length:=fun d=>by
   cases z:QP N.leav d with
   |none=>exact XQ _
   |some m=>exact h.l3 d m z
  have w:∀d,((QP (Uq { N with laid:=Yx N.laid (nk s,nk e) (N.ends.length:Int) } (nk s) (nk e) r).leav d).getD []).length<=2*L.length+1:=fun d=>by
   rw[UP];by_cases z:d=nk s
   .rw[Xd z]
    have:=g (nk s)
    simpa using this
   .rw[Xa z]
    have:=g d
    show((QP N.leav d).getD []).length<=_
    omega
  unfold JJ at hk;rw[UP]at hk;rw[Xs];by_cases z:k=nk e
  .rw[Xd z]at hk
   cases hk
   have:=w (nk e)
   simp at this ⊢
   omega
  .rw[Xa z]at hk
   have:=w k
   rw[hk]at this;simp at this ⊢;omega
def Ox {L:Lay Nd}(A:Dis L){φ:Zg Nd}{a r k:Int}{e:Nat}(b:(VA L φ)[e]?=some r)(c:(VA L φ)[ZeJ e]?=some k):VA L (Ya L a φ e)=((VA L φ).set e (r-a)).set (ZeJ e) (k+a):=by
 have D:ZeJ e≠e:=by unfold ZeJ;split<;>omega
 have m:ZeJ e/2=e/2:=by unfold ZeJ;split<;>omega
 rw[UJ]at b c;have B:=b;unfold rmE at b c;rw[m]at c;cases d:L[e/2]? with
 |none=>rw[d]at b;cases b
 |some x =>
   rw[d]at b c;simp only[YJ,Option.some.injEq]at b c;have w:Ya L a φ e=VR φ x.1 x.2.1 (if e%2=0 then a else -a):=by unfold Ya;rw[d]
   have o:VR φ x.1 x.2.1 (if e%2=0 then a else -a) x.1 x.2.1=φ x.1 x.2.1+(if e%2=0 then a else -a):=by unfold VR;rw[Xd ⟨rfl,rfl⟩]
   have F:e/2<L.length:=(Xf.mp d).1;have E:=Kz L φ;have h:e<(VA L φ).length:=by omega
   have v:ZeJ e<(VA L φ).length:=by omega
   refine List.ext_getElem? fun i=>?_;rw[UJ,List.getElem?_set,List.getElem?_set,UJ,w];by_cases f:ZeJ e=i
   .subst f
    rw[Xd rfl,Xd (show ZeJ e<((VA L φ).set e (r-a)).length by simpa using v)]
    unfold rmE;rw[m,d];simp only[YJ,Option.some.injEq];rw[o];have l:(ZeJ e%2=0)=¬(e%2=0):=by
     apply propext
     unfold ZeJ;split<;>omega
    by_cases p:e%2=0
    .have g:¬ZeJ e%2=0:=by rw[l];exact fun z=>z p
     rw[Xa g]at c ⊢;rw[Xd p];omega
    .have g:ZeJ e%2=0:=by rw[l];exact p
     rw[Xd g]at c ⊢;rw[Xa p];omega
   .rw[Xa f]
    by_cases n:e=i
    .subst n
     rw[Xd rfl,Xd h];unfold rmE;rw[d];simp only[YJ,Option.some.injEq];rw[o];by_cases p:e%2=0
     .rw[Xd p]at b ⊢
      rw[Xd p];omega
     .rw[Xa p]at b ⊢
      rw[Xa p];omega
    .rw[Xa n]
     unfold rmE;cases C:L[i/2]? with
     |none=>rfl
     |some y =>
       have u:¬(y.1=x.1/\y.2.1=x.2.1):=fun⟨t,s⟩=>by
        have q:=DZ A C d t s;unfold ZeJ at f;split at f<;>omega
       have j:VR φ x.1 x.2.1 (if e%2=0 then a else -a) y.1 y.2.1=φ y.1 y.2.1:=by unfold VR;rw[Xa u]
       simp only[YJ,j]
def JK (L:Lay Nd)(φ:Zg Nd)(es:Got Nd)(U:List Nd):Prop := ∀e m n r,tlE L e=some m->hdE L e=some n->rmE L φ e=some r->0<r->m∈QT es->m∉U->n∈QT es
def JK.closed  (h:JK L φ es []):Ye L φ es:=fun e m n r f d c b a=>h e m n r f d c b a (by rintro⟨⟩)
def Jz {x:Nd×Option Nat}:n∈QT (es++[x])↔n∈QT es\/n=x.1:=by
 unfold QT;rw[XB,Xy];simp
def JK.add  {U V:List Nd}(h:JK L φ es (U++V))(n:Nd)(o:Option Nat):JK L φ (es++[(n,o)]) (U++(V++[n])):=fun e m k r i g f d c a=>by
 rw[<- Ga,Xy,not_or]at a;have b:m≠n:=fun z=>a.2 (by simp[z])
 rcases Jz.mp c with z|z
 .exact Jz.mpr (.inl<|h e m k r i g f d z a.1)
 .exact Xm z b
theorem Tree.inClosed {L:Lay Nd}{φ:Zg Nd}{s:Nd}{c:Got Nd}(b:Ye L φ c)(a:s∈QT c):∀{es:Got Nd},Tree L φ s es->∀n∈QT es,n∈QT c
 |_,.root,n,d=>by
   have e:n=s:=by simpa [QT] using d
   rw[e];exact a
 |_,.add t d j g i h k,n,f=>by
   rcases Jz.mp f with z|z
   .exact t.inClosed b a n z
   .rw[z]
    exact b _ _ _ _ g j h k (t.inClosed b a _ i)
end Mir
end
section
namespace L2
open PySem PySem.Spec PyProof.Rows
section
variable {K:W.Frag}
theorem Ty {F f H:Hp}:∀{as:Qg} {c:List (Qd)},(∀ds∈c,JZ ds)->(∀a∈as,f a=none)->Zp F H as c->Zp f H as c
 |[],[],_,_,_=>trivial
 |a::as,ds::c,h,e,o=>by
   obtain⟨⟨_,g,m,l⟩,i⟩:=o
   exact⟨⟨e a Xb,g,m,l.flats<|h ds Xb⟩,Ty (fun d j=>h d<|Xe _ j) (fun b k=>e b<|Xe _ k) i⟩
 |[],_::_,_,_,o=>False.elim o
 |_::_,[],_,_,o=>False.elim o
def A2 (h:∀ds∈dss,JZ ds):JI (.oll dss):=fun K F l H v p c d=>by
 obtain⟨a,j,rfl,rfl,i,k,g,f⟩:=d
 exact⟨a,j,rfl,rfl,i,c a Xb,g,Ty h (fun b e=>c b<|Xe _ e) f⟩
end
end L2
end
namespace L2
open PySem
section
variable {prog:Program}{w:World}{A:Around}{E:Qb}{h:Heap}{g:Array GenState}{d:Drawn}{t:Nat}{os:OsState}
variable {nm q:Str}{C N:Addr}{bs bm bmB:Qe}{hdct:Bool}{sn:Qh}{sub:Qe}{ab:Bool}{col:Option Bool}{dd:Qj}{k0 k1 k2 k3 k5:Qf}{B newId initId:String}
noncomputable abbrev B4 (C a:Addr):Obj:={ cls:=.ref C,data:=.fields #[.ref a,.none,.none,.none,.bool false,.none] }
noncomputable abbrev Lv (vs:Qe):Obj:={ cls:=.type "tuple",data:=.seq vs.toArray }
noncomputable def VG (h:Heap)(C:Addr)(vs:Qe):Heap:=(h.push<|Lv vs).push (B4 C h.objs.size)
def Cd (F:ExcBaseFacts B newId initId bmB)(T:OwnTail h bmB bm)
 (i:h.get? C=some (excClassObj nm q C N bs bm hdct sn sub ab col dd k0 k1 k2 k3 k5 newId)) (hn:h.Ns N mN)
 (v:mN "__init__"=some (.ref f)) (x:h.get? f=some fo) (y:fo.cls=.type "function") (a:rest.length<=sizeLine)
 (u:wpAny (model prog w) A (call (.ref f) (.ref (h.objs.size+1)::rest)) (fun r n=>r=.none/\Q (.done<|.ret<|.ref<|h.objs.size+1) n) E ⟨VG h C rest,g,d,t,os⟩) :
 wpAny (model prog w) A (Builtin.«type.__call__» ⟨.ref C::rest,[]⟩) Q E ⟨h,g,d,t,os⟩:=by
 have j:∀b o,h.get? b=some o->(VG h C rest).get? b=some o:=fun b o e=>Xi _ (Xi _ e)
 repeat (first
  |with_reducible refine wpAny_loadPart_at i ?_
  |with_reducible refine wpAny_madeBy_exc i ?_
  |wp_step)
 refine codeAny_call_builtin_code (Code.quiet_builtin _ F.quiet)
  (wpAny_check_new_subT F T i ?_)
 refine codeAny_exc_new_subT F T i ?_ a;show wpAny _ _ _ _ _ ⟨VG h C rest,g,d,t,os⟩
 have p:(VG h C rest).get? (h.objs.size+1)=some (B4 C h.objs.size):=by
  unfold VG;exact M7 (by rw[W9]) rfl
 have c:=j _ _ i;have m:(VG h C rest).Ns N mN:=hn.keeps j;have D:=T.keeps j;have k:(Value.ref C::bm).contains (.ref C)=true:=by simp
 unfold isInstance;repeat (first
  |with_reducible refine wpAny_loadPart_at p ?_
  |(with_reducible refine wpAny_isSubtype_exc c ?_;rw[k])
  |wp_step)
 show wpAny _ _ (typeLookup (.ref C) _) _ _ _;refine wpAny_typeLookup_tail c m D F.mroIs F.init.lookup ?_;rw[v];refine wpAny_holding (Xc<|wpAny_bindSpecial_def (s:=⟨VG h C rest,g,d,t,os⟩) (j _ _ x) y ?_);refine Xc (wpAny_mono u (fun r n l=>?_) fun _ _ z=>z);obtain⟨rfl,l⟩:=l
 wp_walk
 exact l
def Fl (F:ExcBaseFacts B newId initId bmB)(T:OwnTail h bmB bm)
 (b:h.get? C=some (excClassObj nm q C N bs bm hdct sn sub ab col dd k0 k1 k2 k3 k5 newId)) (hn:h.Ns N mN)
 (i:mN "__init__"=some (.ref f)) (j:h.get? f=some fo) (k:fo.cls=.type "function") (a:rest.length<=sizeLine)
 (e:wpAny (model prog w) (A.under<|.builtin "type.__call__" ⟨.ref C::rest,[]⟩) (call (.ref f) (.ref (h.objs.size+1)::rest)) (fun r c=>r=.none/\Q (.ref<|h.objs.size+1) c) E ⟨VG h C rest,g,d,t,os⟩) :
 wpAny (model prog w) A (call (.ref C) rest) Q E ⟨h,g,d,t,os⟩:=by
 have n:=tc_lookup;have m:=tc_bind (.ref C);have l:(⟨h,g,d,t,os⟩:Shared).TypeIs (.ref C) "type" := ⟨_,b,rfl⟩;refine wpAny_call (codeAny_of_tree ?_);show wpAny _ _ (callAny (.ref C) _) _ _ _
 repeat (any_goals (first
  |assumption
  |with_reducible refine wpAny_loadPart_at b ?_
  |wp_step))
 refine⟨rfl,?_⟩;refine codeAny_call_builtin_at (Code.quiet_builtin _<|by decide +kernel) entry_typeCall (wpAny_check_type_call_sub b ?_);refine Cd F T b hn i j k a ?_;exact wpAny_mono e (fun r c z=>z) fun _ _ z=>z
end
end L2
namespace L2
open PySem PySem.Spec PyProof.Rows
def phX (C e:Addr)(a:Qj):Heap->Prop:=fun h=>∃(t:Addr) (b:Array (Qf)),h.get? e=some { cls:=.ref C,dict:=a,data:=.fields #[.ref t,.none,.none,.none,.bool false,.none],slots:=b }
def B6    (p:phX C e dct h):Z4 P w H h e (.ext<|phX C e dct):=⟨p,by obtain⟨t,a,q⟩:=p;exact⟨_,q⟩,fun d c b k=>by obtain⟨t,a,q⟩:=b;exact⟨t,a,k _ q⟩⟩
section
variable {prog:Program}{w:World}{A:Around}{E:Qb}{h:Heap}{g:Array GenState}{d:Drawn}{t:Nat}{os:OsState}
variable {nm q:Str}{C N:Addr}{bs bm bmB:Qe}{hdct:Bool}{sn:Qh}{sub:Qe}{ab:Bool}{col:Option Bool}{dd:Qj}{k0 k1 k2 k3 k5:Qf}{B newId initId:String}
def Fn (F:ExcBaseFacts B newId initId bmB)(T:OwnTail h bmB bm)
 (j:h.get? C=some (excClassObj nm q C N bs bm hdct sn sub ab col dd k0 k1 k2 k3 k5 newId))
 (c:h.get? e=some { cls:=.ref C,dict:=dct,data:=.fields #[.ref a,.none,.none,.none,.bool false,.none],slots:=sl })
 (f:∀h',(∀b o,b≠e->h.get? b=some o->h'.get? b=some o)->phX C e dct h'->Q .none ⟨h',g,d,t,os⟩) :
 wpAny (model prog w) A (call (.builtin initId) [.ref e,v]) Q E ⟨h,g,d,t,os⟩:=by
 refine wpAny_call (codeAny_call_builtin F.init.plain F.initEntry<|wpAny_check_init_subT F T j c rfl ?_)
 wp_walk using AutoSeq1.wpAny_loadPart' c
 refine f _ (fun b o i z=>?_) ⟨h.objs.size,sl,?_⟩
 .rw[XU _ _<|Ne.symm i]
  exact Xi _ z
 .rw[X8 _ (Xi _ c) rfl]
  rfl
end
structure Uo (K:W.Frag)(Y C f:Addr):Prop where
 ga:W.specialIn K (.ref Y) "__getattribute__"=some (some<|.builtin "type.__getattribute__")
 rd:W.readsIn K Y (.type "type")=true
 ini:W.findCls K (.ref Y) (.type "type") "__init__"=some (.val<|.builtin "ValueError.__init__")
 cls:∀h:Heap,K.In h->∃(bmB bm:Qe) (nm q:Str) (N:Addr) (bs:Qe) (hdct:Bool) (sn:Qh) (sub:Qe) (ab:Bool) (col:Option Bool) (dd:Qj) (k0 k1 k2 k3 k5:Qf),
  ExcBaseFacts "ValueError" "ValueError.__new__" "ValueError.__init__" bmB/\OwnTail h bmB bm/\h.get? C=some (excClassObj nm q C N bs bm hdct sn sub ab col dd k0 k1 k2 k3 k5 "ValueError.__new__") /\
  ∃(mN:Str->Qf) (fo:Obj),h.Ns N mN/\mN "__init__"=some (.ref f)/\h.get? f=some fo/\fo.cls=.type "function"
def tXI (C:Addr)(i:Nat):TE:=fun b H Q=>∃e a,b[i]?=some (some<|.ref e)/\H e=some (.ext<|phX C e a)/\Q .non H
noncomputable def A0 {X:Cx}{Y C f:Addr}(c:Uo X.K Y C f){x y:Str}{i:Nat}{t p m l d:Pos}{a:Str}{n:Nat}(hg:Gl X x)(hm:X.mg x=some (.ref Y))(hN:X.N[i]?=some y)(hv:Vis X.env.scope y)
 (u:(x==("__debug__" : Str))=false:=by decide) (hd:(y==("__debug__" : Str))=false:=by decide) (v:(y==("__classdict__" : Str))=false:=by decide) {pl:Sem Bool}
 (ht:eval (.Call (.Attribute (.Name x t) "__init__" p) [.Name y m,.Constant (.str a) n l] [] d) X.env=(do
  let G <- eval (.Name x t) X.env
  standAt p.atName
  let (f,first) <- holding [G] (getMethod G "__init__" pl)
  callWith d f first (backTo d<|starEach [.Name y m,.Constant (.str a) n l] X.env)<|backToKw d<|keywordEach [] X.env):=by rfl) :
 PE X (.Call (.Attribute (.Name x t) "__init__" p) [.Name y m,.Constant (.str a) n l] [] d) (tXI C i):=by
 intro A s M H Q I h;obtain⟨e,j,e1,w,q⟩:=h;refine W.methodCall_KW (pl:=pl) (Jw I hg hm ?_ u) ht;refine W.method_cls I.kIn c.ga (W.cls_value I.kIn c.rd c.ini (by decide +kernel) ?_);have I1:=I.tok (s.toks+1);have k:PA X [.Name y m,.Constant (.str a) n l] (QI (Q8 i)<|QI (tC<|.str a) QQ):=Qo (RE hN hv hd v) (Qo Yc Qs);refine PyProof.Rows.callWith_builtin1 (Q9 (k d A _ M H (fun D g=>D=[.ref e,.str a]/\g=H) I1 ⟨_,e1,rfl,rfl⟩) ?_) rfl rfl;rintro us P ⟨D,g,B,r,ev,eH⟩;subst ev eH;cases r with
 |cons S r =>
 cases r with
 |cons R r =>
 cases r
 cases S
 obtain⟨tk,rfl⟩:=R;have hx:=B.hok e _ w;obtain⟨⟨ta,sl,he⟩,_,_⟩:=hx;obtain⟨bmB,bm,nm,qn,N,bs,J,sn,O,ab,col,dd,k0,k1,k2,k3,k5,F,T,hC,_⟩:=c.cls _ B.kIn;refine Fn F T hC he fun h' Z E=>?_;have U:Mut (g e):=by rw[w];trivial
 have W:=B.write (h':=h') (t':=P.toks) (o:=.ext (phX C e j)) U Qa Z (by obtain⟨_,_,z⟩:=E;exact⟨_,z⟩) (B6 E)
 have eu:upd g e (.ext<|phX C e j)=g:=by
  funext b
  by_cases L:b=e
  .subst L;simp[upd,w]
  .simp[upd,L]
 rw[eu]at W;exact⟨.non,g,W,rfl,q⟩
noncomputable def WM:Qe->Bool
 |.ref _::r=>WM r
 |l=>l==[.type "ValueError",.type "Exception",.type "BaseException",.type "object"]
theorem P7 (a:Value):∀{l:Qe},WM l=true->refuseLoop a "__setattr__" l=pure ()
 |.ref c::r,e=>by rw[refuseLoop_ref];exact P7 a (by simpa [WM] using e)
 |[],e=>by cases e
 |.type n::r,e=>by rw[show(Value.type n::r)=_ from beq_iff_eq.mp e];exact PySem.F.store_ValueError.passes a
theorem Ru:∀{l:Qe},WM l=true->l.contains (.type "object")=true
 |.ref c::r,e=>by rw[List.contains_cons,Ru (l:=r)<|by simpa [WM] using e,Bool.or_true]
 |[],e=>by cases e
 |.type n::r,e=>by rw[show(Value.type n::r)=_ from beq_iff_eq.mp e];decide
section
open PySem.W
variable {prog:Program}{w:World}{A:Around}{R:Result->Shared->Prop}{K:Frag}{s:Shared}{x C:Addr}
def LA    (X:K.In s.heap)(I:W.InstAt s.heap x ox C od)(p:((clsIn K C).any fun d=>WM d.mro)=true)(o:takerIn K C name=some r)
 (h:∀b,wpAny (model prog w) A.in1 (match r with|some a=>Builtin.ObjectAttr.setByDescriptor a (.ref x) v|none=>Builtin.ObjectAttr.storeInOwnDict (.ref x) (.ref C) (.str name tk) name v b)
  (fun fin i=>match fin with|.done f=>R (.ok f) i|.again c'=>c'.quiet=true/\codeAny (model prog w) A c' R i) (fun e i=>R (.error e) i) s) :
 codeAny (model prog w) A (.call (.builtin "object.__setattr__") ⟨[.ref x,.str name tk,v],[]⟩) R s:=by
 have g:=PySem.F.store_object;obtain⟨d,m,j⟩:=any_some p;have n:d.mro.isEmpty=false:=by cases q:d.mro with|nil=>rw[q]at j;cases j|cons _ _=>rfl
 have k:Looks (model prog w) s.heap (isInstance (.ref x)<|.type "object") true:=I.type.andThen (looks_mroIn X<|by unfold mroIn;rw[m,Option.bind_some,Xa<|by rw[n];decide,Ru j]);refine codeAny_call_builtin g.slot.plain g.entry (@check_slot (model prog w) _ _ s "object.__setattr__" "object" "__setattr__" (.ref x) [.str name tk,v] [] _ g.kind g.split k (g.args (.ref x) (.str name tk) v) ?_);obtain⟨c,y,l⟩:=Option.bind_eq_some_iff.mp o;have t:Looks (model prog w) s.heap (mroOf<|.ref C) d.mro:=(looks_clsIn X m).andThen .now
 have z:Looks (model prog w) s.heap (Builtin.ObjectAttr.storeTaker? c) r:=by
  cases c with
  |none=>cases l;exact .now
  |some a =>
    obtain⟨b,u,rfl⟩:=Option.map_eq_some_iff.mp l;refine(looks_takesIn X u).andThen ?_
    cases b<;>exact .now
 rw[osa_eq,refuse_eq];refine Xc (Xc<|I.type.here<|Xc<|t.here ?_);rw[P7 _ j];refine Xq (Xc<|I.type.here<|Xc<|(looks_findIn X y).here (Xc<|z.here ?_));exact h _
def LB    (X:K.In s.heap)
 (f:findIn K (.ref C) "__setattr__"=some (some<|.builtin "object.__setattr__")) (z:((clsIn K C).any fun t=>WM t.mro)=true) (u:takerIn K C name=some none) (B:hasDictIn K C=true)
 (d:s.heap.get? x=some { cls:=.ref C,dict:=none,data:=.fields fs,slots:=sl })
 (h:∀h' t',(∀b o,b≠x->s.heap.get? b=some o->h'.get? b=some o)->h'.get? x=some { cls:=.ref C,dict:=some s.heap.objs.size,data:=.fields fs,slots:=sl } ->
  h'.Ns1 s.heap.objs.size (fun y=>if y=name then some v else none)->Q () { s with heap:=h',toks:=t' }) :
 wpAny (model prog w) A (setAttr (.ref x) name v) Q E s:=by
 have J:W.InstAt s.heap x _ C none:=⟨d,rfl,rfl,trivial⟩;refine W.set_plain X J f (LA (s:={ s with toks:=s.toks+1 }) (r:=none) X J z u fun b=>?_);obtain⟨t,F,l⟩:=W.any_some B;refine Xc (Xq<|Xc<|Xc<|wpAny_loadPart d<|Xc<|W.Looks.here (s:={ s with toks:=s.toks+1 }) (W.looks_clsIn X F) ?_);rw[l];have q:(s.heap.push { cls:=.type "dict",data:=.dict #[] }).get? x=_:=Xi _ d;have a:x≠s.heap.objs.size:=Xu (Xk d);rw[Xa<|by decide];dsimp only;rw[Xa<|by simp[typeHasDict]];refine Xc (wpAny_alloc' ?_);refine Xc (wpAny_update' q ?_);refine Xq ?_
 have j:((s.heap.push { cls:=.type "dict",data:=.dict #[] }).update x fun o=>{ cls:=o.cls,dict:=some s.heap.objs.size,data:=o.data,slots:=o.slots }).get? s.heap.objs.size
  = some { cls:=.type "dict",data:=.dict #[] } :=
  (Heap.get?_update_ne _ _ _ _ a.symm).trans (M7 rfl rfl)
 have i:((s.heap.push { cls:=.type "dict",data:=.dict #[] }).update x fun o=>{ cls:=o.cls,dict:=some s.heap.objs.size,data:=o.data,slots:=o.slots }).Ns s.heap.objs.size (fun _=>none) :=
  ⟨_,#[],_,j,rfl,fun e D=>Xm D<|by simp,fun _=>rfl⟩
 show wpAny _ _ (Builtin.ObjectAttr.storeInDict s.heap.objs.size (.str name s.toks) name v) _ _ _;unfold Builtin.ObjectAttr.storeInDict Builtin.ObjectAttr.newKeyGuard;refine Xc (Xq<|Xc<|wpAny_nsSet1 (Heap.Ns1.of_empty i) fun h' c f=>?_);obtain⟨L,G,H,g,k,m⟩:=c.count (Within.cons name v Within.nil);refine Xc (wpAny_lookBehind g (by rw[k];exact pastItsLine_dict<|X4 m<|by rw[XS,List.length_nil,sizeLine_eq];omega) ?_);refine Xq (h _ _ (fun b I n p=>?_) ?_ c)
 .exact(f.2 b<|Xu<|Xk p).trans ((Heap.get?_update_ne _ _ _ _ n).trans (Xi _ p))
 .exact(f.2 x a).trans (X8 _ q rfl)
end
structure TB (K:W.Frag)(C:Addr):Prop where
 sa:W.findIn K (.ref C) "__setattr__"=some (some<|.builtin "object.__setattr__")
 ov:((W.clsIn K C).any fun cd=>WM cd.mro)=true
 hd:W.hasDictIn K C=true
def sXF (C:Addr)(g d:TE)(f:Str):TS:=fun D b H=>d b H fun y h=>g b h fun x c=>∃e,x=.ref e/\c e=some (.ext<|phX C e none) /\
 ∀a,c a=none->a≠e->D.nx b (upd (upd c e<|.ext<|phX C e<|some a) a<|.xd [(f,y)])
section
variable {X:Cx}{o value:Expr}{f:Str}{pos pos':Pos}{ta tv:TE}{C:Addr}
def FS (c:TB X.K C)(Q:W.takerIn X.K C f=some none)(Y:PE X o ta)(n:PE X value tv)(R:swapsWith value (some<|.Attribute o f pos') pos.line X.env=pure false):PS X (.Assign [.Attribute o f pos'] value pos) (sXF C ta tv f):=by
 intro j s l H D I h;refine plainObj_wpAny_Assign_Attribute (Q9 (n j s l H _ I h) ?_) R;rintro u G ⟨y,H1,I1,J,q⟩;refine Q9 (Y j G l H1 _ I1 q) ?_;rintro N k ⟨x,E,b,L,e,Z,B,M⟩;subst Z;obtain rfl:N=Value.ref e:=L;obtain⟨⟨ta,F,A⟩,_,_⟩:=b.hok e _ B;refine LB b.kIn c.sa c.ov Q c.hd A fun h' t' P w T=>?_;have O:Mut (E e):=by rw[B];trivial
 have W:=b.write (h':=h') (t':=t') (o:=.ext (phX C e<|some k.heap.objs.size)) O Qa P ⟨_,w⟩ (B6 ⟨ta,F,w⟩);have d:k.heap.objs.size≠e:=(Xu<|Xk A).symm;have i:E k.heap.objs.size=none:=b.fresh;refine⟨l,_,W.track (a:=k.heap.objs.size) (o:=.xd [(f,y)]) (by rw[Qt d];exact i) b.sz (Yh b.lt) (fun z c U m=>?_) (fun p S m=>?_) ⟨_,T,fun g=>?_⟩,M _ i d⟩
 .obtain⟨v,n⟩:=b.cell z c U
  subst m;obtain⟨oc,t,_⟩:=n;exact Xm (Xk t) (Yv _)
 .have:=(b.pin p S).1
  rw[m]at this;exact Xm (Xk this) (Yv _)
 .show ZM (List.lookup g [(f,y)]) (if g=f then some u else none)
  by_cases r:g=f
  .subst r;simp[List.lookup];exact J
  .rw[Xa r]
   have:(g==f)=false:=by simpa using r
   simp[List.lookup,this]
   trivial
end
def MU (C:Addr)(d:Sp)(E:XK)(t:TA):TE:=fun c H Q=>t c H fun a b=>a.length<=1000/\∀x,b x=none ->
 d (.ref x::a) (upd b x<|.ext<|phX C x none) (fun v e=>v=.non/\Q (.ref x) e) E
section
variable {X:Cx}{CX:CXT}{k:Nat}{f C Y:Addr}{fd:FuncData}{ps:Qh}{sp:Sp}{E:XK}{x:Str}{p pos:Pos}{e:Expr}{es:Qi}{t:TA}
def Ie {j:Qc}{l:St}{H:Hp}{s:Shared}{Q:VK}{us:Qe}{vs:List V}(c:Uo X.K Y C f)(F:FnOk X.prog X.w X.K X.mg X.base CX k f fd ps sp)(S:Room (k+1) X.A)(Z:Vu X.K fd ps [])
 (R:Yf CX X E) (I:Qr X j l H s) (r:QS vs us) (hl:vs.length<=1000)
 (h:∀x,H x=none->sp (.ref x::vs) (upd H x<|.ext<|phX C x none) (fun v H2=>v=.non/\Q (.ref x) H2) E) :
 wpAny (model X.prog X.w) X.A (call (.ref C) us) (EP X j l Q) X.xe s:=by
 obtain⟨bmB,bm,nm,qn,N,bs,B,sn,D,ab,col,dd,k0,k1,k2,k3,k5,FB,T,hC,mN,fo,hN,U,W,w⟩:=c.cls _ I.kIn;have A:=h (s.heap.objs.size+1) (I.hok.fresh<|Nat.le_succ _);obtain⟨a,g,d,y,M⟩:=s;have P:∀b o,a.get? b=some o->(VG a C us).get? b=some o:=fun b o e=>Xi _ (Xi _ e)
 have O:(VG a C us).get? (a.objs.size+1)=some (B4 C a.objs.size):=by
  unfold VG;exact M7 (by rw[W9]) rfl
 have m:Qr X j l (upd H (a.objs.size+1)<|.ext<|phX C (a.objs.size+1) none) ⟨VG a C us,g,d,y,M⟩:=I.laid (t':=y) P (Nat.le_succ _) (B6 ⟨_,_,O⟩);have z:QS (V.ref (a.objs.size+1)::vs) (Value.ref (a.objs.size+1)::us):=.cons rfl r
 have q:(Value.ref (a.objs.size+1)::us++[]).length=ps.length:=by
  have e:=z.length;rw[F.len _ _ _ _ A]at e;simpa using e.symm
 refine Fl FB T hC hN U W w (by rw[<- r.length,sizeLine_eq];omega) ?_;have n:=F.run _ X.stack _ _ ⟨Value.ref (a.objs.size+1)::us,[]⟩ (Value.ref (a.objs.size+1)::us) _ _ E (S.make C us []) (m.env0.make C us []) (by simpa using Z _ (Value.ref (a.objs.size+1)::us) m.kIn q) z A;refine wpAny_call (codeAny_mono n fun r G i=>?_)
 cases r with
 |error e=>exact R j l _ _ e G m i
 |ok fl =>
   cases fl with
   |ret u =>
     obtain⟨v,H',I3,J,ev,L⟩:=m.after i;subst ev;exact⟨J,⟨V.ref<|a.objs.size+1,H',I3,rfl,L⟩⟩
   |next=>exact False.elim i
   |brk=>exact False.elim i
   |cont=>exact False.elim i
def AC (c:Uo X.K Y C f)(j:W.keepIn X.K (.ref C)=true)(F:FnOk X.prog X.w X.K X.mg X.base CX k f fd ps sp)(m:Room (k+1) X.A)(o:Gl X x)(n:X.mg x=some (.ref C))(v:Vu X.K fd ps [])(l:Yf CX X E)
 (w:PA X (e::es) t) (b:(x==("__debug__" : Str))=false:=by decide) (u:starEach (e::es) X.env=(false,eval e X.env)::starEach es X.env:=by rfl) (a:(backTo pos<|starEach es X.env).any (·.1)=false:=by rfl) :
 PE X (.Call (.Name x p) (e::es) [] pos) (MU C sp E t):=by
 intro d s i H Q I h;refine wpAny_Call_Name_kw (Jw I o n ?_ b);refine W.callWith_K (h₀:=X.base) I.ok.mod.kin j (Q9 (w pos d s i H _ I h) ?_) u a;rintro z A ⟨y,B,g,r,q⟩;refine⟨g.kIn,?_⟩;exact Ie c F m v l g r q.1 q.2
end
def sXR (C:Addr)(d:TE)(R:Addr->Qj->Hp->Prop):TS:=fun D c H=>d c H fun v b=>∃e a,v=.ref e/\b e=some (.ext<|phX C e a)/\R e a b
section
variable {M:Model}{A:Around}{E:Qb}{env:Env}
variable {nm q:Str}{C N:Addr}{bs bm:Qe}{hdct:Bool}{sn:Qh}{sub:Qe}{ab:Bool}{col:Option Bool}{dd:Qj}{k0 k1 k2 k3 k5:Qf}{newId:String}
def RW  (k:A.handled=none)
 (h:wpAny M A x (fun v c=>∃e t b i bm nm q N bs hdct sn sub ab col dd k0 k1 k2 k3 k5 newId,v=.ref e/\bm.contains (Value.type "BaseException")=true/\c.heap.get? C=some (excClassObj nm q C N bs bm hdct sn sub ab col dd k0 k1 k2 k3 k5 newId) /\
  c.heap.get? e=some { cls:=.ref C,dict:=b,data:=.fields #[.ref t,.none,.none,.none,.bool false,.none],slots:=i }/\E (.ref e) c) E s) :
 wpAny M A (raiseStmt env (some x) none) Q E s:=by
 unfold raiseStmt;refine Xc (wpAny_mono h (fun v c n=>?_) fun _ _ x=>x);obtain⟨e,t,b,i,bm,nm,q,N,bs,hdct,sn,sub,ab,col,dd,k0,k1,k2,k3,k5,newId,rfl,a,j,l,m⟩:=n;have f:(Value.ref C::bm).contains (.type "BaseException")=true:=by rw[List.contains_cons,a,Bool.or_true]
 obtain⟨r,g,d,o,p⟩:=c
 repeat (first|with_reducible refine wpAny_loadPart_at l ?_|with_reducible refine wpAny_loadPart_at j ?_|(with_reducible refine wpAny_isSubtype_exc j ?_;rw[f])|wp_step)
 exact wpAny_raiseNew_none k m
end
end L2
namespace L2
open PySem
section
variable {M:Model}{A:Around}{E:Qb}{s:Shared}
structure Leaves (l:List Env)(e:Addr)(oe:Obj)(h h':Heap)(T:Addr):Prop where
 keep:∀b o,b∉l.filterMap (·.frame)->b≠e->h.get? b=some o->h'.get? b=some o
 slot:∀b o,b∈l.filterMap (·.frame)->h.get? b=some o->∃sl,h'.get? b=some { o with slots:=sl }
 new:h.objs.size<=T
 exc:h'.get? e=some (Obj.mapFields (·.setIfInBounds 1 (Value.ref T)) oe)
 tb:∃oT ts,h'.get? T=some oT/\oT.data=.fields ts/\ts[3]?=some .none
def Px
 (r:A.frames=some (env::outer)) (v:s.heap.FunFrames base (env::outer)) (J:env.frame=some L)
 (w:s.heap.get? e=some oe) (t:oe.data=.fields vs) (hsz:1<vs.size)
 (h:∀h' T,Leaves (env::outer) e oe s.heap h' T->Q () { s with heap:=h' }) :
 wpAny M A (do let a <- frameOf env;let pl <- entryPlaceOf L hadNext;let b <- EntryCells.newEntry head a .none (rawInt L) .none pl;setField (.ref e) 1 b) (fun _ G=>wpAny M A (setFlight (.ref e) none) Q E G) E s:=by
 have i:e∉(env::outer).filterMap (·.frame):=fun I=>by
  obtain⟨_,o,g,p⟩:=v.mem I;rw[w]at g;injection g with g;subst g;exact p vs t
 refine Xc (wpAny_frameOf_fun r v J fun c n=>?_);refine Xc (wpAny_entryPlaceOf fun pl l=>?_);unfold EntryCells.newEntry newFields;refine Xc (wpAny_newObj_type ?_<|l.sizeOk5 _ _ _ _ _);have C:c.get? e=some oe:=(n.2.1 e i).trans w;have D:=Xi (h:=c) { cls:=.type "traceback",dict:=none,data:=.fields ([head,.ref L,.none,rawInt L,.none]++(if pl.isEmpty then List.replicate 6 Value.none else pl)).toArray } C;refine wpAny_setField D t hsz ?_;have m:c.objs.size≠e:=Yh (Xk C);have B:=Obj.data_mapFields t (·.setIfInBounds 1 (Value.ref c.objs.size));have z:=X8 (Obj.mapFields (·.setIfInBounds 1 (Value.ref c.objs.size))) D (Obj.isFreed_of_fields B)
 have y:=(XU (c.push { cls:=.type "traceback",dict:=none,data:=.fields ([head,.ref L,.none,rawInt L,.none]++(if pl.isEmpty then List.replicate 6 Value.none else pl)).toArray })
  (Obj.mapFields (·.setIfInBounds 1 (Value.ref c.objs.size))) (Ne.symm m)).trans (XF c rfl)
 unfold setFlight;refine Xc (JC z B (x:=.ref c.objs.size) (by simp[hsz]) ?_);rw[Xd (show(Value.ref c.objs.size != Value.none)=true from by simp)];refine wpAny_setField y rfl (by simp only[XD,Xs,XS,List.length_nil]<;>omega) (h _ c.objs.size ?_)
 have d:∀b o,b≠e->c.get? b=some o ->
  (((c.push { cls:=.type "traceback",dict:=none,data:=.fields ([head,.ref L,.none,rawInt L,.none]++(if pl.isEmpty then List.replicate 6 Value.none else pl)).toArray }).update e (Obj.mapFields (·.setIfInBounds 1 (Value.ref c.objs.size)))).update c.objs.size
    (Obj.mapFields (·.setIfInBounds 3 ((none:Qj).elim Value.none fun f=>rawInt f)))).get? b=some o:=fun b o j k=>by
  have u:c.objs.size≠b:=Yh (Xk k);rw[XU _ _ u,XU _ _<|Ne.symm j];exact Xi _ k
 refine⟨fun b o k j g=>d b o j<|(n.2.1 b k).trans g,fun b o k g=>?_,?_,?_,?_⟩
 .obtain⟨F,H⟩:=n.2.2 b o g
  exact⟨F,d b _ (fun q=>i<|q▸k) H⟩
 .exact Nat.le_of_eq n.1.symm
 .rw[XU _ _ m];exact z
 .exact⟨_,_,X8 _ y<|Obj.isFreed_of_fields<|Obj.data_mapFields rfl _,Obj.data_mapFields rfl _,by first|(simp;done)|(rcases l with rfl|⟨_,_,_,_,_,_,_,rfl⟩<;>simp)⟩
def O7
 (a:A.frames=some (env::outer)) (g:s.heap.FunFrames base (env::outer)) (b:env.frame=some L)
 (c:s.heap.get? e=some oe) (d:oe.data=.fields vs) (f:vs[1]?=some .none)
 (h:∀h' T,Leaves (env::outer) e oe s.heap h' T->Q () { s with heap:=h' }):wpAny M A (leaving env<|.ref e) Q E s:=by
 unfold leaving noteFrame;simp only[b];refine Xc (Xc<|JC c d f ?_);rw[Xa<|by decide];exact Px a g b c d (Array.getElem?_eq_some_iff.mp f).1 h
def Tq {env:Env}
 (p:A.frames=some (env::outer)) (B:s.heap.FunFrames base (env::outer)) (t:env.frame=some L)
 (u:s.heap.get? e=some oe) (v:oe.data=.fields vs) (w:vs[1]?=some (.ref T0)) (C:T0≠e) (hT:s.heap.get? T0=some oT) (a:oT.data=.fields ts) (l:ts[3]?=some .none)
 (h:∀h' T,Leaves (env::outer) e oe s.heap h' T->Q () { s with heap:=h' }):wpAny M A (noteFrame (.ref e) env) (fun _ y=>wpAny M A (setFlight (.ref e) none) Q E y) E s:=by
 unfold noteFrame;simp only[t];refine Xc (JC u v w ?_);rw[Xd (show(Value.ref T0 != Value.none)=true from by simp)];refine Xc (JC hT a l ?_);rw[Xa (show ¬((Value.none==rawInt L)=true) from by simp[rawInt])];refine Xc (wpAny_setField hT a (Array.getElem?_eq_some_iff.mp l).1 ?_);have j:3<ts.size:=(Array.getElem?_eq_some_iff.mp l).1
 have g:Obj.mapFields (·.setIfInBounds 3 Value.none) oT=oT:=by
  obtain⟨c,d,F,D⟩:=oT
  subst a;have:ts.setIfInBounds 3 Value.none=ts:=by
   apply Array.ext_getElem?
   intro i;rw[Array.getElem?_setIfInBounds];by_cases r:3=i
   .subst r;rw[Xd rfl,Xd j,l]
   .rw[Xa r]
  unfold Obj.mapFields;simp[this]
 have f:∀b o,s.heap.get? b=some o->(s.heap.update T0<|Obj.mapFields (·.setIfInBounds 3 Value.none)).get? b=some o:=fun b o k=>by
  by_cases q:b=T0
  .subst q
   rw[hT]at k;cases k;rw[X8 _ hT<|Obj.isFreed_of_fields<|Obj.data_mapFields a _,g]
  .rw[XU _ _<|Ne.symm q];exact k
 refine Px (s:={ s with heap:=_ }) p (B.of_keeps fun b o k z=>⟨o,f b o k,rfl⟩) t (f e _ u) v (Array.getElem?_eq_some_iff.mp w).1 fun h' T Z=>h h' T ?_
 exact⟨fun b o n m x=>Z.keep b o n m<|f b o x,fun b o n m=>Z.slot b o n<|f b o m,by have:=Z.new;simpa only [Heap.size_update] using this,Z.exc,Z.tb⟩
def Oo
 (a:A.frames=some (env::outer)) (d:s.heap.FunFrames base (env::outer)) (f:env.frame=some L)
 (g:s.heap.get? e=some oe) (i:oe.data=.fields vs) (k:vs[1]?=some (.ref T0)) (c:T0≠e) (hT:s.heap.get? T0=some oT) (b:oT.data=.fields ts) (j:ts[3]?=some .none)
 (h:∀h' T,Leaves (env::outer) e oe s.heap h' T->Q () { s with heap:=h' }):wpAny M A (leaving env<|.ref e) Q E s:=Xc (Tq a d f g i k c hT b j h)
end
end L2
namespace L2
open PySem PySem.Spec PyProof.Rows
def phT (T:Addr):Heap->Prop:=fun h=>∃b a,h.get? T=some b/\b.data=.fields a/\a[3]?=some .none
def phF (C e:Addr)(b:Qj)(T:Addr):Heap->Prop:=fun h=>∃(a:Array Value) (c:Array (Qf)),h.get? e=some { cls:=.ref C,dict:=b,data:=.fields a,slots:=c }/\a[1]?=some (.ref T)/\a[2]?=some .none
def LH   (p:phT T h):Z4 P w H h T (.ext<|phT T):=⟨p,by obtain⟨o,_,q,_⟩:=p;exact⟨_,q⟩,fun d c b k=>by obtain⟨o,a,q,r⟩:=b;exact⟨o,a,k _ q,r⟩⟩
def Lz    (p:phF C e dct T h):Z4 P w H h e (.ext<|phF C e dct T):=⟨p,by obtain⟨o,_,q,_⟩:=p;exact⟨_,q⟩,fun d c b k=>by obtain⟨o,a,q,r⟩:=b;exact⟨o,a,k _ q,r⟩⟩
noncomputable abbrev left (C e:Addr)(dct:Qj)(T:Addr)(H:Hp):Hp:=upd (upd H e<|.ext<|phF C e dct T) T (.ext<|phT T)
section
variable {X:Cx}{XaV:Qc}{σ:St}{H:Hp}{s:Shared}
def Ki   (I:Qr X XaV σ H s)(r:Mut (H e))
 (F:s.heap.get? e=some { cls:=.ref C,dict:=dct,data:=.fields vs,slots:=D }) (hsz:1<vs.size) (A:vs[2]?=some .none)
 (Z:Leaves X.stack e { cls:=.ref C,dict:=dct,data:=.fields vs,slots:=D } s.heap h' T):Qr X XaV σ (left C e dct T H) { s with heap:=h' }:=by
 have G:T≠e:=Yh (Xr (Xk F) Z.new);have h:∀b,H b=none->b≠e:=fun b a q=>by subst q;rw[a]at r;exact r
 have y:∀b o,H b=some o->b≠T:=fun b o a=>Xu (Xr (I.hok.lt a) Z.new)
 have i:∀b o,H b=some o->b≠e->left C e dct T H b=some o:=fun b o a q=>by
  unfold left;rw[Qt<|y b o a,Qt q];exact a
 have k:∀b o,H b=some o->b∉frs X.stack:=fun b o a q=>by rw[I.stkFree b q]at a;cases a
 have f:∀b o,H b=some o->¬Mut (some o)->b≠e:=fun b o a n q=>by subst q;rw[a]at r;exact n r
 have U:Un (frs X.stack) [] H (left C e dct T H) s.heap h' :=
  { keep:=fun b o j a m _=>Z.keep b o m (h b a) j
    slot:=fun b o j a m _=>Z.slot b o m j
    free:=fun b o j a _=>by
     unfold left;rw[Qt<|Xu<|Xr (Xk j) Z.new,Qt<|h b a];exact a
    there:=fun b o j _=>by
     by_cases m:b∈frs X.stack
     .obtain⟨D,z⟩:=Z.slot b o m j;exact⟨_,z⟩
     .by_cases q:b=e
      .subst q;exact⟨_,Z.exc⟩
      .exact⟨_,Z.keep b o m q j⟩
    tups:=fun b B a=>i b _ a (f b _ a fun z=>z)
    frzs:=fun b o u a=>i b _ a (f b _ a fun z=>z)
    tupo:=fun b B o a j _=>Z.keep b o (k b _ a) (f b _ a fun z=>z) j
    tbls:=fun b J a=>⟨#[],by rw[i b _ a<|f b _ a fun z=>z];simp⟩ }
 have x:HOk X.prog X.w (left C e dct T H) h':=fun b u a=>by
  by_cases q:b=T
  .subst q
   unfold left at a;rw[QC]at a;cases a;exact LH Z.tb
  .by_cases w:b=e
   .subst w
    unfold left at a;rw[Qt q,QC]at a;cases a;exact Lz ⟨_,_,Z.exc,by simp[hsz],by rw[Array.getElem?_setIfInBounds_ne<|by decide];exact A⟩
   .have p:H b=some u:=by unfold left at a;rw[Qt q,Qt w]at a;exact a
    refine(I.hok b u p).stay (fun c v l E=>?_) (fun c l=>?_) fun c B l=>?_
    .rcases l with z|z
     .subst z;exact Z.keep c v (k c _ p) w E
     .exact Z.keep c v (k c _ z) (f c _ z fun z=>z) E
    .exact i c _ l (f c _ l fun z=>z)
    .exact i c _ l (f c _ l fun z=>z)
 obtain⟨M,g,d,t,L⟩:=s;exact I.call (h':=h') (g':=g) (d':=d) (t':=t) (ch:=[]) U x I.bare<|by rintro b ⟨⟩
end
def Fly (C e:Addr)(a:Qj)(H:Hp):Prop := ∃T,T≠e/\H e=some (.ext<|phF C e a T)/\H T=some (.ext<|phT T)
def XE (C:Addr)(R:Addr->Qj->Hp->Prop):XK:=fun v a H=>∃e,v=.ref e/\Fly C e a H/\R e a H
def CX1 (P:Program)(w:World):CXT:=fun a H s E v b=>∃c d,b.os=s.os/\AllBare b.gens/\Un (frs a) [] H d s.heap b.heap/\HOk P w d b.heap/\E v c d
def ZS (C:Addr)(R:Addr->Qj->Hp->Prop):Prop := ∀e a H T,R e a H->H T=none->T≠e->R e a (left C e a T H)
section
variable {P:Program}{w:World}{K:W.Frag}{mg:Str->Qf}{base:Heap}{N:Qh}{qual:Str}{scope:Scope}{f:Addr}{cd:Value}{A:Around}{outer:List Env}{s0:Shared}{H0:Hp}{C:Addr}{R:Addr->Qj->Hp->Prop}
noncomputable abbrev cx1 (P:Program)(w:World)(K:W.Frag)(mg:Str->Qf)(base:Heap)(N:Qh)(qual:Str)(scope:Scope)(f:Addr)(cd:Value)(A:Around)(outer:List Env)(s0:Shared)(H0:Hp)(E:XK):Cx:=Vz (CX1 P w) P w K mg base N qual scope f cd A outer s0 H0 E
variable {XaV:Qc}{σ:St}{H:Hp}{s:Shared}
def Ej  (h:T≠e):Fly C e dct (left C e dct T H):=⟨T,h,by unfold left;rw[Qt<|Ne.symm h,QC],by unfold left;rw[QC]⟩
def Rj   (b:ZS C R)(I:Qr (cx1 P w K mg base N qual scope f cd A outer s0 H0<|XE C R) XaV σ (left C e dct T H) { s with heap:=h' })(hT:H T=none)(a:T≠e)(r:R e dct H) :
 CX1 P w outer H0 s0 (XE C R) (.ref e) { s with heap:=h' }:=⟨dct,_,I.os,I.bare,I.base,I.hok,e,rfl,Ej a,b e dct H T r hT a⟩
def SC  (c:ZS C R)(I:Qr (cx1 P w K mg base N qual scope f cd A outer s0 H0<|XE C R) XaV σ H s)(b:H e=some (.ext<|phX C e dct))(r:R e dct H) :
 (cx1 P w K mg base N qual scope f cd A outer s0 H0<|XE C R).xe (.ref e) s:=by
 obtain⟨⟨t,d,a⟩,_,_⟩:=I.hok e _ b;refine O7 I.ok.frames I.stack rfl a rfl rfl fun g T Z=>?_;exact Rj c (Ki I (by rw[b];trivial) a (by simp) rfl Z) (I.hok.fresh Z.new) (Yh<|Xr (Xk a) Z.new) r
def Bu (B:ZS C R):Yf (CX1 P w) (cx1 P w K mg base N qual scope f cd A outer s0 H0<|XE C R) (XE C R):=by
 intro XaV σ H s v u I h;obtain⟨F,Q,x,c,q,l,e,rfl,⟨G,m,o,hT⟩,r⟩:=h;obtain⟨y,g,d,t,i⟩:=u;obtain rfl:i=s.os:=x;have a:=I.call (h':=y) (g':=g) (d':=d) (t':=t) (ch:=[]) q l c (by rintro b ⟨⟩);obtain⟨⟨J,M,k,p,n⟩,_,_⟩:=a.hok e _ o;obtain⟨⟨O,L,j,E,D⟩,_,_⟩:=a.hok G _ hT;refine Oo a.ok.frames a.stack rfl k rfl p m j E D fun h' T Z=>?_;exact Rj B (Ki a (by rw[o];trivial) k (Array.getElem?_eq_some_iff.mp p).1 n Z) (a.hok.fresh Z.new) (Yh<|Xr (Xk k) Z.new) r
end
section
variable {X:Cx}{C Y f:Addr}{e:Expr}{te:TE}{pos:Pos}{R:Addr->Qj->Hp->Prop}
def Ak (c:Uo X.K Y C f)(i:X.calm=true)(J:PE X e te)(G:∀d j H s a b,Qr X d j H s->H a=some (.ext<|phX C a b)->R a b H->X.xe (.ref a) s):PS X (.Raise (some e) none pos) (sXR C te R):=by
 intro d s j H D I h;rw[arm_exec_Raise];simp only[evalOpt,Option.map];refine Xc (wpAny_standAt<|RW (C:=C) (I.ok.hd i)<|Xc<|Q9 (J d s j H _ I h) ?_);rintro u Z ⟨v,H1,n,r,a,b,M,o,q⟩;refine Xc<|wpAny_standAt<|Xq ?_;subst M;obtain rfl:u=Value.ref a:=r;obtain⟨⟨t,w,l⟩,_,_⟩:=n.hok a _ o;obtain⟨Q,S,y,x,N,P,g,p,k,U,m,O,F,E,B,A,z,W,T,L,_⟩:=c.cls _ n.kIn
 exact⟨a,t,b,w,S,y,x,N,P,g,p,k,U,m,O,F,E,B,A,z,_,rfl,T.hasType W.hasBase,L,l,G _ _ _ _ _ _ n o q⟩
end
inductive Lefts (C e:Addr)(dct:Qj):Hp->Hp->Prop
 |nil {H}:Lefts C e dct H H
 |step {H H' T}:Lefts C e dct H H'->H' T=none->T≠e->Lefts C e dct H (left C e dct T H')
def Lefts.head   (hT:H T=none)(d:T≠e)(h:Lefts C e dct (left C e dct T H) H'):Lefts C e dct H H':=by
 induction h with
 |nil=>exact .step .nil hT d
 |step _ a b c=>exact .step c a b
noncomputable abbrev WR (X:Cx)(e:Addr)(pn:Qc):Cx:={ X with pn:=pn,A:=X.A.mark (some<|.ref e),calm:=false,xe:=fun _ _=>False }
section
variable {X:Cx}{XaV:Qc}{σ:St}{H:Hp}{s:Shared}{D:Ends}
def Qr.toPn (I:Qr X XaV σ H s):Qr { X with pn:=X.pn++XaV } [] σ H s :=
 ⟨⟨I.ok.mod,I.ok.kind,I.ok.glob,I.ok.blt,I.ok.above,I.ok.inj,I.ok.has,I.ok.cab,I.ok.hd,I.ok.frames,I.ok.stk,I.ok.exf,I.ok.bs,I.ok.bsz,I.ok.noex,I.ok.exfs,I.ok.funs,I.ok.frf⟩,I.os,I.bare,I.base,I.loc,I.cell,I.free,I.freeC,fun p a=>I.pin p<|by simpa using a,I.hok,I.len⟩
def Qr.ofPn (I:Qr { X with pn:=X.pn++XaV } pins' σ H s):Qr X XaV σ H s :=
 ⟨⟨I.ok.mod,I.ok.kind,I.ok.glob,I.ok.blt,I.ok.above,I.ok.inj,I.ok.has,I.ok.cab,I.ok.hd,I.ok.frames,I.ok.stk,I.ok.exf,I.ok.bs,I.ok.bsz,I.ok.noex,I.ok.exfs,I.ok.funs,I.ok.frf⟩,I.os,I.bare,I.base,I.loc,I.cell,I.free,I.freeC,fun p a=>I.pin p<|Uj _ a,I.hok,I.len⟩
def Qr.toHandler  (I:Qr { X with pn:=pn } XaV σ H s):Qr (WR X e pn) XaV σ H s :=
 ⟨⟨I.ok.mod,I.ok.kind,I.ok.glob,I.ok.blt,I.ok.above,I.ok.inj,I.ok.has,I.ok.cab,(fun z=>by cases z),I.ok.frames,I.ok.stk,I.ok.exf,I.ok.bs,I.ok.bsz,I.ok.noex,I.ok.exfs,I.ok.funs,I.ok.frf⟩,I.os,I.bare,I.base,I.loc,I.cell,I.free,I.freeC,I.pin,I.hok,I.len⟩
def Qr.ofHandler  (a:X.Ok)(I:Qr (WR X e pn) XaV σ H s):Qr { X with pn:=pn } XaV σ H s :=
 ⟨⟨I.ok.mod,I.ok.kind,I.ok.glob,I.ok.blt,I.ok.above,I.ok.inj,I.ok.has,I.ok.cab,a.hd,a.frames,I.ok.stk,I.ok.exf,I.ok.bs,I.ok.bsz,I.ok.noex,I.ok.exfs,I.ok.funs,I.ok.frf⟩,I.os,I.bare,I.base,I.loc,I.cell,I.free,I.freeC,I.pin,I.hok,I.len⟩
def SP.ofPn   (h:SP { X with pn:=X.pn++XaV,xe:=E } pins' D f s'):SP X XaV D f s':=by
 have o:∀{a b},Qr { X with pn:=X.pn++XaV,xe:=E } pins' a b s'->Qr X XaV a b s':=fun I=>Qr.ofPn (I.unwish (X:={ X with pn:=X.pn++XaV }))
 cases f with
 |next=>obtain⟨a,b,I,q⟩:=h;exact⟨a,b,o I,q⟩
 |brk=>obtain⟨a,b,I,q⟩:=h;exact⟨a,b,o I,q⟩
 |cont=>obtain⟨a,b,I,q⟩:=h;exact⟨a,b,o I,q⟩
 |ret u=>obtain⟨v,a,b,I,r,q⟩:=h;exact⟨v,a,b,o I,r,q⟩
end
def O4    (u:phF C e dct T s.heap)(hT:phT T s.heap)
 (h:∀h',(∀b o,s.heap.get? b=some o->h'.get? b=some o)->Q () { s with heap:=h' }):wpAny M A (setFlight (.ref e) none) Q E s:=by
 obtain⟨w,r,t,v,_⟩:=u;obtain⟨l,k,f,g,p⟩:=hT;have a:3<k.size:=(Array.getElem?_eq_some_iff.mp p).1
 have j:Obj.mapFields (·.setIfInBounds 3 Value.none) l=l:=by
  obtain⟨c,d,x,r⟩:=l
  subst g;have:k.setIfInBounds 3 Value.none=k:=by
   apply Array.ext_getElem?
   intro i;rw[Array.getElem?_setIfInBounds];by_cases n:3=i
   .subst n;rw[Xd rfl,Xd a,p]
   .rw[Xa n]
  unfold Obj.mapFields;simp[this]
 refine wpAny_setFlight_none t rfl v f g a (h _ fun b o m=>?_)
 by_cases q:b=T
 .subst q
  rw[f]at m;cases m;rw[X8 _ f<|Obj.isFreed_of_fields<|Obj.data_mapFields g _,j]
 .rw[XU _ _<|Ne.symm q];exact m
def Bg (b:Ends->TS):TS:=fun D a H=>b D D a H
end L2
namespace L2
open PySem PySem.Spec PyProof.Rows PySem.W
noncomputable abbrev Bk:Qe:=[.type "ValueError",.type "Exception",.type "BaseException",.type "object"]
def Iv {K:Frag}{h:Heap}{N:Addr}{a:Str->Qf}{n:Str}{v:Value}(X:K.In h)(G:h.Ns N a)(e:nsIn K N n=some (some v)):a n=some v:=by
 obtain⟨o,m,p,b,i,_,f⟩:=G;unfold nsIn at e;split at e
 .rename_i c d j l k q
  have:=X _ _ q
  rw[b]at this;cases this
  cases i
  split at e
  .rename_i g
   cases e
   rw[<- f];unfold nsFind findBy;rw[<- Array.find?_toList,g];rfl
  .split at e<;>cases e
 .cases e
noncomputable def D6 (K:Frag)(C f:Addr):Bool:=match K.lookup C with
 |some ⟨.type "type",_,.cls a,b⟩=>(match a.mro,b.toList with
   |.ref d::c,[_,_,_,_,some<|.builtin n,_]=>d==C&&n == "ValueError.__new__" && !a.hasDel&&tailIn K Bk c&&nsOkIn K a.ns&&nsIn K a.ns "__init__" == some (some<|.ref f)
   |_,_=>false)
 |_=>false
theorem LY {K:Frag} {d:Obj} (q:D6 K C f=true) (u:K.lookup f=some d) (x:d.cls=.type "function")
 (ga:specialIn K (.ref Y) "__getattribute__"=some (some<|.builtin "type.__getattribute__")) (rd:readsIn K Y (.type "type")=true) (ini:findCls K (.ref Y) (.type "type") "__init__"=some (.val<|.builtin "ValueError.__init__")):Uo K Y C f where
 ga:=ga
 rd:=rd
 ini:=ini
 cls:=fun h X=>by
  unfold D6 at q;split at q
  .rename_i z A g w
   split at q
   .rename_i E B k k1 k2 j n i o m
    simp only[WB,beq_iff_eq,Bool.not_eq_true']at q;obtain⟨⟨⟨⟨⟨rfl,rfl⟩,a⟩,v⟩,hok⟩,b⟩:=q;obtain⟨s,bs,t,ns,r,hd,p,sub,D,e,y⟩:=A
    dsimp only at o a hok b;subst o a;have c:g=#[k,k1,k2,j,some<|.builtin "ValueError.__new__",i]:=by
     obtain⟨l⟩:=g
     simp only at m
     rw[m]
    subst c;have G:h.Ns ns _:=.of_isNs (isNs_of_in X hok)
    exact⟨Bk,B,s,r,ns,bs,hd,p,sub,D,e,z,k,k1,k2,j,i,PySem.F.excBase_ValueError,tail_of_in X v,X _ _ w,_,d,G,Iv X G b,X _ _ u,x⟩
   .cases q
  .cases q
end L2
namespace L2
open PySem PySem.Spec PyProof.Rows
def Gf (P:Program)(w:World)(K:W.Frag)(a:Str->Qf)(base:Heap)(x:Str)(ps:Qh)(k:Nat)(c:Sp):Prop :=
 ∃f b,a x=some (.ref f)/\W.keepIn K (.ref f)=true/\Vu K b ps []/\FnOk P w K a base (CX1 P w) k f b ps c
section
variable {P:Program}{w:World}{K:W.Frag}{mg:Str->Qf}{base:Heap}
def Fun.okX {x b:Str}{st:Stmt}{f:Addr}{j:FuncData}{N ps:Qh}{k:Nat}{d:Sp}(F:Fun K x b st f j)(S:Qp N ps (Q2 st))(e:∀vs H Q E,d vs H Q E->vs.length=ps.length)
 (i:∀(c:Value) (A:Around) (a:List Env) (s:Shared) (H:Hp) (vs:List V) (Q:VK) (E:XK),Room k (A.deeper<|envOfC b (Q2 st) s.heap.objs.size f c)->d vs H Q E ->
  ∃t,PSs (cx1 P w K mg base N b (Q2 st) f c A a s H E) (Z9 st) t/\t { nx:=fun _ p=>Q .non p,rt:=Q } (start N vs) H):FnOk P w K mg base (CX1 P w) (k+1) f j ps d:=by
 obtain⟨u,r,kV,o,q,y,c,v,l,rfl,m,h⟩:=F.ex;exact Rf m h S e fun A a s H vs Q E n g=>i c A a s H vs Q E n g
def Df.calX {x:Str}{st:Stmt}{N ps:Qh}{k:Nat}{c:Sp}(D:Df K mg x st ps)(S:Qp N ps (Q2 st))(d:∀vs H Q E,c vs H Q E->vs.length=ps.length)
 (e:∀(f:Addr) (b:Value) (A:Around) (a:List Env) (s:Shared) (H:Hp) (vs:List V) (Q:VK) (E:XK),Room k (A.deeper<|envOfC x (Q2 st) s.heap.objs.size f b)->c vs H Q E ->
  ∃t,PSs (cx1 P w K mg base N x (Q2 st) f b A a s H E) (Z9 st) t/\t { nx:=fun _ m=>Q .non m,rt:=Q } (start N vs) H):Gf P w K mg base x ps (k+1) c:=by
 obtain⟨f,l,F,i,j⟩:=D.ex
 exact⟨f,l,i,F.kp,j,F.okX S d fun b A a s H vs Q E g h=>e f b A a s H vs Q E g h⟩
end
section
variable {X:Cx}
def Sm {x:Str}{p a:Pos}{e:Expr}{es:Qi}{t:TA}{ps:Qh}{j k:Nat}{d:Sp}{E:XK}(C:Gf X.prog X.w X.K X.mg X.base x ps j d)(h:Room k X.A)(g:Yf (CX1 X.prog X.w) X E)(r:PA X (e::es) t)(m:j<=k:=by walk_at"j")(n:Gl X x:=by rfl)
 (c:(x==("__debug__" : Str))=false:=by decide +kernel)
 (o:starEach (e::es) X.env=(false,eval e X.env)::starEach es X.env:=by rfl) (b:(backTo a<|starEach es X.env).any (·.1)=false:=by rfl):PE X (.Call (.Name x p) (e::es) [] a) (Yk d [] E t):=by
 obtain⟨f,s,i,l,q,F⟩:=C;exact RM F (h.mono m) n i l q .nil g r c o b
end
def G9 (K:W.Frag)(C:Addr)(f:Str):Sp:=fun c H Q _=>∃(e p:Addr) (b:List V),c=[.ref e,.ref p]/\H e=some (.ext<|phX C e none)/\SqL K H p b /\
 ∀q a,H q=none->H a=none->a≠q->a≠e->q≠e->Q .non (upd (upd (upd H q<|.lst b) e<|.ext<|phX C e<|some a) a<|.xd [(f,.ref q)])
def AQ {K:W.Frag}{C:Addr}{f:Str}{n:Nat}{vs:List V}{H:Hp}{Q:VK}{E:XK}(h:G9 K C f vs H Q E) :
 WH (Vt<|tXI C 0) (sXF C (Q8 0) (tCB (DN K)<|QI (Q8 1) QQ) f) { nx:=fun _ o=>Q .non o,rt:=Q } (vs.map some++List.replicate n none) H:=by
 obtain⟨e,p,k,rfl,g,m,l⟩:=h;refine⟨e,none,rfl,g,?_⟩;refine⟨.ref p,rfl,?_⟩;refine⟨p,k,rfl,.inl m,fun q b=>?_⟩;have c:q≠e:=fun z=>by subst z;rw[g]at b;cases b
 refine⟨.ref e,rfl,e,rfl,by rw[Qt<|Ne.symm c];exact g,fun j a i=>?_⟩;have d:j≠q:=fun z=>by subst z;rw[QC]at a;cases a
 exact l q j b (by rw[Qt d]at a;exact a) d i c
structure FldL (f:Str)(e:Addr)(F H H0:Hp)(ds:Qd)(dx q:Addr)(xs:List V):Prop where
 hd:H dx=some (.xd [(f,.ref q)])
 hq:H q=some (.lst xs)
 fq:F q=none
 rp:Qy F xs ds
 nd:dx≠e
 nq:q≠e
 dq:dx≠q
 fe:F e=none
 fd:F dx=none
 q0:H0 q=none
 d0:H0 dx=none
def Fld (f:Str)(e:Addr)(F H H0:Hp)(a:Qj)(ds:Qd):Prop := ∃b q c,a=some b/\FldL f e F H H0 ds b q c
def Fld.back   (h:Fld f e F H H1 dct ds)(s:Q5 H0 H1):Fld f e F H H0 dct ds:=by
 obtain⟨d,q,c,a,b⟩:=h
 exact⟨d,q,c,a,b.hd,b.hq,b.fq,b.rp,b.nd,b.nq,b.dq,b.fe,b.fd,s.free b.q0,s.free b.d0⟩
def Wf (K:W.Frag)(C:Addr){j:Type}(n:Addr->Hp->Hp->Hp->Qj->j->Prop)(R:List OT->(OT->Prop)->Prop)(m:List OT->(j->Prop)->Prop):Sp:=fun l H Q E=>∃F h,KTs K F/\Q5 F H/\Args K F l h/\∃i,E=XE C i/\ZS C i /\
 ((∃k,R h k/\∀g b v p r,k r->Q0 F H g b->(∀a∈p,H a=none)->Zs K g b v r p->Q v b)\/(∃c,m h c/\∀g b e f d,c d->Q0 F H g b->H e=none->n e g b H f d->i e f b))
abbrev spX (K:W.Frag)(C:Addr)(f:Str)(R:List OT->(OT->Prop)->Prop)(Rx:List OT->(Qd->Prop)->Prop):Sp:=Wf K C (Fld f) R Rx
def EvZ (K:W.Frag)(F0 H0:Hp)(t:TS)(ρ:QF):Prop := ∀(F:Hp) (a:St) (H:Hp) (E:Ends),Q0 F0 H0 F H->QB K H0 F ρ a H->t E a H
section
variable {P:Program}{w:World}{K:W.Frag}{mg:Str->Qf}{base:Heap}
def UQ {ps:Qh}  (k:KTs K F)(g:Q5 F H)(d:Args K F vs ts)(o:ts.length<=N.length):QB K H F (ts.map some++List.replicate (N.length-ts.length) none) (start N vs) H:=by
 refine⟨k,g,?_,fun _=>[],fun i f e=>?_,fun i j a h=>(nomatch h),fun i a h=>(nomatch h)⟩
 .unfold start
  simp[d.length]
 .have b:i<ts.length:=by
   by_cases z:i<ts.length
   .exact z
   .rw[X9<|by simpa using z]at e
    have:=List.mem_of_getElem? e
    simp at this
  rw[XN<|by simpa using b,Xn]at e;have n:ts[i]?=some f:=by
   cases z:ts[i]? with
   |none=>rw[z]at e;simp at e
   |some w=>rw[z]at e;simp at e;rw[e]
  obtain⟨v,m,l⟩:=d.get (H:=H) i f n;refine⟨v,?_,l⟩;unfold start;have c:i<vs.length:=by rw[d.length];exact b
  rw[XN<|by simpa using c,Xn,m];rfl
def Df.evZ {x:Str}{st:Stmt}{N ps:Qh}{k:Nat}{C:Addr}{G:Type}{X:Addr->Hp->Hp->Hp->Qj->G->Prop}{R:List OT->(OT->Prop)->Prop}{O:List OT->(G->Prop)->Prop}(D:Df K mg x st ps)(S:Qp N ps (Q2 st))(l:∀ts Φ,R ts Φ->ts.length=ps.length)(h:∀ts Φ,O ts Φ->ts.length=ps.length)
 (n:ps.length<=N.length)
 (m:∀(f:Addr) (b:Value) (A:Around) (a:List Env) (s:Shared) (H:Hp) RR (ts:List OT) (Φ:OT->Prop),Room k (A.deeper<|envOfC x (Q2 st) s.heap.objs.size f b)->ZS C RR->R ts Φ ->
  ∃t,PSs (cx1 P w K mg base N x (Q2 st) f b A a s H<|XE C RR) (Z9 st) t/\Q1 K t (ts.map some++List.replicate (N.length-ts.length) none) { nx:=fun _=>Φ<|.fz .none,rt:=Φ })
 (o:∀(f:Addr) (b:Value) (A:Around) (a:List Env) (s:Shared) (F H:Hp) RR (ts:List OT) (c:G->Prop),Room k (A.deeper<|envOfC x (Q2 st) s.heap.objs.size f b)->ZS C RR->(∀j i e y d,c d->Q0 F H j i->H e=none->X e j i H y d->RR e y i)->O ts c ->
  ∃t,PSs (cx1 P w K mg base N x (Q2 st) f b A a s H<|XE C RR) (Z9 st) t/\EvZ K F H t (ts.map some++List.replicate (N.length-ts.length) none)) :
 Gf P w K mg base x ps (k+1) (Wf K C X R O):=by
 refine D.calX S (fun J H Q E ⟨F,ts,_,_,u,RR,_,_,q⟩=>?_) fun f b A a s H J Q E U ⟨F,ts,T,B,u,RR,eE,st,q⟩=>?_
 .rcases q with ⟨r,g,_⟩|⟨r,g,_⟩
  .exact u.length.trans (l ts r g)
  .exact u.length.trans (h ts r g)
 .subst eE
  rcases q with ⟨Φ,g,q⟩|⟨c,g,q⟩
  .obtain⟨t,M,L⟩:=m f b A a s H RR ts Φ U st g
   refine⟨t,M,L F H F (start N J) H _ (Q0.refl B) (UQ (ps:=ps) T B u<|by rw[l ts Φ g];exact n) ⟨fun j Y i Z I _ e=>?_,fun j i v r' p I hp ok e=>?_,fun _ _ _ _ _ _ z=>False.elim z,fun _ _ _ _ _ _ z=>False.elim z⟩⟩
   .exact q j i _ [] _ e I (by rintro _ ⟨⟩) ⟨rfl,.non⟩
   .exact q j i v p r' e I hp ok
  .obtain⟨t,M,L⟩:=o f b A a s F H RR ts c U st q g
   exact⟨t,M,L F (start N J) H _ (Q0.refl B)<|UQ (ps:=ps) T B u<|by rw[h ts c g];exact n⟩
end
section
variable {K:W.Frag}{ρ:QF}{ta:TE}{C:Addr}{f:Str}{F0 H0:Hp}{RR:Addr->Qj->Hp->Prop}{ds:Qd}{E:XK}
def AE {r:Qd->Prop}(h:Qu K ta ρ (.list ds))(hd:r ds)(Z:∀P L e w d,r d->Q0 F0 H0 P L->H0 e=none->Fld f e P L H0 w d->RR e w L):EvZ K F0 H0 (sXR C (MU C (G9 K C f) E<|QI ta QQ) RR) ρ:=by
 intro F Q H D x S;refine h H0 F Q H _ S fun M p v A R=>⟨by simp,fun e y=>?_⟩
 cases R with
 |@lst a i _ U T =>
 have J:p a=some (.lst i):=A.fh a _ U;have I:a≠e:=fun z=>by subst z;rw[y]at J;cases J
 refine⟨e,a,i,rfl,QC,SqL.of<|by rw[Qt I];exact J,fun q c s u t l j=>⟨rfl,e,some c,rfl,?_,?_⟩⟩
 .rw[Qt<|Ne.symm l,QC]
 .have k:p q=none:=by rw[Qt j]at s;exact s
  have m:p c=none:=by rw[Qt l]at u;exact u
  have G:M q=none:=A.fh.free k
  have N:Q5 p (upd (upd (upd (upd p e<|.ext<|phX C e none) q<|.lst i) e<|.ext<|phX C e<|some c) c<|.xd [(f,.ref q)]):=fun b o g=>by
   have O:b≠e:=fun z=>by subst z;rw[y]at g;cases g
   have Y:b≠q:=fun z=>by subst z;rw[k]at g;cases g
   have X:b≠c:=fun z=>by subst z;rw[m]at g;cases g
   rw[Qt X,Qt O,Qt Y,Qt O];exact g
  have n:=x.trans A
  have B:upd (upd (upd (upd p e<|.ext<|phX C e none) q<|.lst i) e<|.ext<|phX C e<|some c) c (.xd [(f,.ref q)]) q=some (.lst i):=by
   rw[Qt<|Ne.symm t,Qt j,QC]
  have X2:Q0 F0 H0 M (upd (upd (upd (upd p e<|.ext<|phX C e none) q<|.lst i) e<|.ext<|phX C e<|some c) c<|.xd [(f,.ref q)]):=n.trans ⟨N,Q5.refl _,n.fh.trans N,fun b g=>.inl g⟩;exact Z M _ e (some c) ds hd X2 (n.hh.free y) ⟨c,q,i,rfl,QC,B,G,T,l,j,t,n.fh.free y,n.fh.free m,n.hh.free k,n.hh.free m⟩
def Fe (M:QF->Prop)(h:Q1 K t ρ { nx:=M,rt:=fun _=>False })(g:∀a,M a->EvZ K F0 H0 u a):EvZ K F0 H0 (WH t u) ρ:=fun F c H E x S =>
 h F0 H0 F c H _ x S ⟨fun k b j a d i e=>g a e k b j E d i,fun _ _ _ _ _ _ _ _ z=>z.elim,fun _ _ _ _ _ _ z=>False.elim z,fun _ _ _ _ _ _ z=>False.elim z⟩
def LD (i:Nat)(e:ρ[i]?=some (some<|.ol ds))(h:EvZ K F0 H0 t (ρ.set i<|some<|.fz<|.list ds)):EvZ K F0 H0 t ρ:=fun F b H E x S=>by
 obtain⟨a,k,g,d,c,_,_,j⟩:=S.freeze e;exact h _ b H E (x.freeze g d c) j
def RB  (h:Q1 K t ρ { nx:=fun a=>a=ρ1,rt:=fun _=>False })(g:EvZ K F0 H0 u ρ1):EvZ K F0 H0 (WH t u) ρ:=fun F c H E x S =>
 h F0 H0 F c H _ x S ⟨fun k b j a d i e=>by subst e;exact g k b j E d i,fun _ _ _ _ _ _ _ _ z=>z.elim,fun _ _ _ _ _ _ z=>False.elim z,fun _ _ _ _ _ _ z=>False.elim z⟩
def R5 (h:EvZ K F0 H0 t ρ):EvZ K F0 H0 (WH t u) ρ:=fun F a H E x S=>h F a H _ x S
def NK  (h:Za K tA ρ b)(i:b=true->EvZ K F0 H0 t ρ)(g:b=false->EvZ K F0 H0 u ρ):EvZ K F0 H0 (Gc tA t u) ρ:=fun F c H E x S =>
 h H0 F c H _ S fun e d a=>by
  cases b with
  |true=>rw[Xd rfl];exact i rfl e c d E (x.trans a) (S.ext a)
  |false=>rw[Xa<|by decide];exact g rfl e c d E (x.trans a) (S.ext a)
def AR    (o:Z0 K t ρ ts)(n:Rx ts Φx)(st:ZS C RR)(j:∀g c e a d,Φx d->Q0 F0 H0 g c->H0 e=none->Fld f e g c H0 a d->RR e a c)  (x:Q0 F0 H0 F H)(S:QB K H9 F ρ σ H) :
 Yk (spX K C f R Rx) [] (XE C RR) t σ H Q:=o H9 F σ H _ S fun p r q b i =>
 ⟨p,ts,(S.ext b).kt,b.fh,by rw[XG];exact i,RR,rfl,st,.inr ⟨Φx,n,fun g c e a d m h l k=>j g c e a d m ((x.trans b).trans h) ((x.trans b).hh.free l)<|k.back (x.trans b).hh⟩⟩
def CD   (i:Z0 K t ρ ts)(h:Rx ts Φx)(st:ZS C RR)(g:∀c b e a d,Φx d->Q0 F0 H0 c b->H0 e=none->Fld f e c b H0 a d->RR e a b) :
 EvZ K F0 H0 (Vt<|Yk (spX K C f R Rx) [] (XE C RR) t) ρ:=fun F j H E x S=>AR i h st g x S
def Ed   (l:Z0 K t ρ ts)(k:R ts Φ)(st:ZS C RR):ZA K (Yk (spX K C f R Rx) [] (XE C RR) t) ρ Φ:=fun H0 F c H Q S q =>
 l H0 F c H _ S fun o u s b e =>
  ⟨o,ts,(S.ext b).kt,b.fh,by rw[XG];exact e,RR,rfl,st,.inl ⟨Φ,k,fun n m v p r h d i g=>q n m v p r h (b.trans d) (fun a j=>b.hh.free<|i a j) g⟩⟩
def UL  (h:ZA K t ρ Φ)(hn:D.nx ρ):Q1 K (Vt t) ρ D:=fun F0 H0 F a H E x S c =>
 h H0 F a H _ S fun e d v p r _ b _ _=>c.nx e a d ρ (x.trans b) (S.ext b) hn
end
section
variable {K:W.Frag}{ρ:QF}{C:Addr}{tb:Ends->TS}{D:PEnds}
def Mr  (h:Lefts C e dct H H')(s:Q5 G H)(i:G e=none):Q5 G H':=by
 induction h with
 |nil=>exact s
 |@step l T k hT j g =>
   intro b o c;have f:b≠e:=fun z=>by subst z;rw[i]at c;cases c
   have a:=g b o c;have d:b≠T:=fun z=>by subst z;rw[hT]at a;cases a
   unfold left;rw[Qt d,Qt f];exact a
def Ca (h:∀E,Q1 K (tb E) ρ D):Q1 K (Bg tb) ρ D:=fun d b F a H E x S c=>h E d b F a H E x S c
end
structure XC (K:W.Frag)(mg:Str->Qf)(x:Str)(Y C f:Addr):Prop where
 cl:Uo K Y C f
 kp:W.keepIn K (.ref C)=true
 m:mg x=some (.ref C)
def De (P:Program)(w:World)(K:W.Frag)(c:Str->Qf)(base:Heap)(f:Addr)(ps:Qh)(k:Nat)(b:Sp):Prop := ∃a,Vu K a ps []/\FnOk P w K c base CX0 k f a ps b
section
variable {P:Program}{w:World}{K:W.Frag}{mg:Str->Qf}{base:Heap}{N:Qh}{qual:Str}{scope:Scope}{f f0:Addr}{cd:Value}{A:Around}{outer:List Env}{s0:Shared}{H0:Hp}{Y C:Addr}{RR:Addr->Qj->Hp->Prop}
noncomputable def P8 {x:Str}{p d b:Pos}{e:Expr}{es:Qi}{t:TA}{ps:Qh}{j k:Nat}{m:Sp}(c:XC K mg x Y C f)(z:De P w K mg base f ps j m)(g:ZS C RR)(n:Room k (cx1 P w K mg base N qual scope f0 cd A outer s0 H0<|XE C RR).A)
 (v:PA (cx1 P w K mg base N qual scope f0 cd A outer s0 H0<|XE C RR) (e::es) t) (o:j+1<=k:=by walk_at"j") (q:Gl (cx1 P w K mg base N qual scope f0 cd A outer s0 H0<|XE C RR) x:=by rfl)
 (l:(x==("__debug__" : Str))=false:=by decide) (i:starEach (e::es) (cx1 P w K mg base N qual scope f0 cd A outer s0 H0<|XE C RR).env=(false,eval e (cx1 P w K mg base N qual scope f0 cd A outer s0 H0<|XE C RR).env)::starEach es (cx1 P w K mg base N qual scope f0 cd A outer s0 H0<|XE C RR).env:=by rfl)
 (h:(backTo d<|starEach es (cx1 P w K mg base N qual scope f0 cd A outer s0 H0<|XE C RR).env).any (·.1)=false:=by rfl) :
 PS (cx1 P w K mg base N qual scope f0 cd A outer s0 H0<|XE C RR) (.Raise (some<|.Call (.Name x p) (e::es) [] d) none b) (sXR C (MU C m E0 t) RR):=by
 obtain⟨E,u,F⟩:=z;exact Ak c.cl rfl (AC c.cl c.kp F (n.mono o) q c.m u JT v l i h) (fun B D H s a y I i r=>SC g I i r)
end
noncomputable def Dh (D:Ends)(j:Nat):Ends:={ nx:=fun a H=>D.nx (a.set j none) H,rt:=fun _ _=>False }
def XWg (X:Cx)(E:XK)(pn:Qc)(v:Value)(s:Shared):Prop := ∃(b:St) (H:Hp) (a:Qj),Qr { X with pn:=pn } [] b H s/\E v a H
noncomputable abbrev D9 (X:Cx)(E:XK)(pn:Qc):Cx:={ X with pn:=pn,xe:=XWg X E pn }
section
variable {X:Cx}{XaV:Qc}{σ:St}{H:Hp}{s:Shared}
def HQ  : Yf (CX1 X.prog X.w) (D9 X E pn) E:=by
 intro XaV σ H s v j I h;obtain⟨f,q,k,a,i,e,n⟩:=h;obtain⟨m,g,d,t,c⟩:=j;obtain rfl:c=s.os:=k;have o:=I.call (h':=m) (g':=g) (d':=d) (t':=t) (ch:=[]) i e a (by rintro b ⟨⟩)
 exact⟨σ,q,f,(o.unwish (X:={ X with pn:=pn })).pins_of (fun p l=>by cases l),n⟩
def EL    (I:Qr X XaV σ H s)(hN:X.N.Nodup)(T:X.N[i]?=some x)(hk:X.env.scope.names.lookup x=some .local)
 (h:∀P,Qr X XaV (σ.set i none) H P->Q () P):wpAny M A (do bindName X.env x .none;unbindBehindTheSuite X.env x pos) Q E s:=by
 obtain⟨m,S,hl⟩:=id I.loc;have w:(X.env.scope.kind==.class||(X.env.scope.kind==.module&&X.env.locals != X.env.globals))=false:=by rw[I.ok.kind];rfl
 have u:i<σ.length:=by rw[I.len];exact(Xf.mp T).1
 have B:=I.cne
 have f:∀{a:Addr} {D:Heap},(∃o,s.heap.get? a=some o/\H a=none)->Heap.SameBut a s.heap D->HOk X.prog X.w H D:=fun{a D} ha l b ob e=>by
  obtain⟨_,_,g⟩:=ha;refine(I.hok b ob e).stay (fun c O C q=>(l.2 c ?_).trans q) (fun _ q=>q) fun _ _ q=>q
  rintro rfl
  rcases C with rfl|C
  .rw[g]at e;cases e
  .rw[g]at C;cases C
 refine wpAny_nameGoes_keeps (m:=m) (by exact hk) S w fun D v J l=>?_;obtain⟨oL,_,_,G,_⟩:=id S;refine h _ ⟨I.ok,I.os,I.bare,⟨fun b o e n N r=>?_,fun b o e n N r=>?_,I.base.free,fun b o e r=>?_,I.base.tups,I.base.frzs,fun b U o q e r=>(l.2 b<|Xu<|Xr (Xk e) I.ok.above).trans (I.base.tupo b U o q e r),I.base.tbls⟩,⟨_,J,fun j y W t F e3=>?_⟩,fun y c e=>?_,I.free,I.freeC,fun p hp=>?_,f ⟨oL,G,I.free⟩ l,by simpa using I.len⟩
 .exact(l.2 b<|Xu<|Xr (Xk e) I.ok.above).trans (I.base.keep b o e n N r)
 .obtain⟨Z,t⟩:=I.base.slot b o e n N r
  exact⟨Z,(l.2 b<|Xu<|Xr (Xk e) I.ok.above).trans t⟩
 .obtain⟨o',t⟩:=I.base.there b o e r
  exact⟨o',(l.2 b<|Xu<|Xr (Xk e) I.ok.above).trans t⟩
 .by_cases L:j=i
  .subst L
   rw[Xj u]at F;cases F
  .rw[Xo<|Ne.symm L]at F
   obtain⟨Y,r',q⟩:=hl j y W t F e3;refine⟨Y,r',?_⟩
   rcases q with ⟨k,e⟩|⟨k,c,e,z⟩
   .refine .inl ⟨k,?_⟩
    have:y≠x:=fun e=>L (Mc hN t<|e▸T)
    simp[this,e]
   .exact .inr ⟨k,c,e,z.sameBut l<|B y c e⟩
 .obtain⟨O,z⟩:=I.cell y c e
  exact⟨O,z.sameBut l<|B y c e⟩
 .obtain⟨e,n,R,nf,d⟩:=I.pin p hp
  exact⟨(l.2 p.1 R).trans e,n,R,nf,d⟩
end
end L2
section
namespace L2
open PySem PySem.Spec PyProof.Rows
section
variable {K:W.Frag}{ρ:QF}
def QB.setN  (u:Option V)(s:QB K H0 F ρ σ H):QB K H0 F (ρ.set r none) (σ.set r u) H:=by
 obtain⟨a,g,f,h,d,c,b⟩:=s;refine⟨a,g,by simp[f],h,fun j t e=>?_,c,b⟩
 by_cases z:r=j
 .subst z
  by_cases l:r<ρ.length
  .rw[Xj l]at e;cases e
  .rw[Nh.mpr<|by simp;omega]at e;cases e
 .rw[Xo z]at e ⊢
  exact d j t e
end
end L2
end
namespace L2
open PySem PySem.Spec PyProof.Rows
section
open PySem.W
variable {prog:Program}{w:World}{A:Around}{E:Qb}{s:Shared}{K:Frag}{x C:Addr}{ox:Obj}{od:Option Obj}{name:Str}{tk:Tok}{fill expr:Bool}
structure Um (K:Frag)(C:Addr):Prop where
 ga:findIn K (.ref C) "__getattribute__"=some (some<|.builtin "BaseException.__getattribute__")
 gt:findIn K (.ref C) "__getattr__"=some none
 mb:mroIn K C (.type "BaseException")=some true
def PM  (c:Um K C) (X:K.In s.heap) (I:InstAt s.heap x ox C od) (i:Q () s):wpAny M A (checkBuiltinCall "BaseException.__getattribute__" ⟨[.ref x,nameV],[]⟩) Q E s:=by
 have b:builtinKind "BaseException.__getattribute__"=some .slot:=by decide +kernel
 have a:splitId "BaseException.__getattribute__"=some ("BaseException","__getattribute__"):=by decide +kernel
 have k:=F.args_bexc_ga (.ref x) nameV;have f:=I.type (M:=M);have e:=looks_mroIn (M:=M) X c.mb;simp only[checkBuiltinCall,b,a];obtain⟨j,g,d,t,h⟩:=s;refine Xc ((f.andThen e).at ?_)
 repeat (any_goals (first|assumption|wp_step))
def S7 (c:Um K C)(X:K.In s.heap)(I:InstAt s.heap x ox C od)
 (h:codeAny (model prog w) A (.call (.builtin "BaseException.__getattribute__") ⟨[.ref x,.str name tk],[]⟩) (fun r i=>∃v,r=.ok (.ret v)/\wpAny (model prog w) A (handedOut v) Q E i) s) :
 wpAny (model prog w) A (getAttrBy (.ref x) (.str name tk) fill expr) Q E s:=by
 have j:=F.excAttr_ValueError.ga.bind (.ref x);have e:(expr&&onTheHeap (Value.builtin "BaseException.__getattribute__"))=false:=by cases expr<;>rfl
 have a:(Value.builtin "BaseException.__getattribute__" == Value.builtin "object.__getattribute__")=false:=by decide +kernel
 have b:(onTheHeap (Value.ref C)&&Value.builtin "BaseException.__getattribute__" == Value.builtin "object.__getattribute__")=false:=by rw[a];rfl
 obtain⟨o,g,d,t,n⟩:=s;have m:=I.type (M:=model prog w);have l:=looks_findIn (M:=model prog w) X c.ga;have k:=looks_findIn (M:=model prog w) X c.gt;unfold getAttrBy;refine wpAny_holding (Xc<|m.at<|Xc<|l.at ?_);dsimp only;rw[b,Xa Xw];unfold getAttrByItsOwn;refine Xc (k.at ?_);refine Xc (wpAny_attempt<|wpAny_holding ?_);unfold callGetattribute;rw[e,Xa Xw];unfold boundAndCalled;rw[j];refine Xc (Xq ?_);refine wpAny_call (codeAny_mono h fun r i f=>?_);obtain⟨v,rfl,f⟩:=f;exact f
def Iq  (c:Um K C)(X:K.In s.heap)(I:InstAt s.heap x ox C od)(e:findObj K C od name=some (.value v))(b:handedIn v=true)(h:Q v { s with toks:=s.toks+1 }):wpAny (model prog w) A (getAttr (.ref x) name expr) Q E s:=by
 unfold getAttr;refine Xc (wpAny_mkText<|S7 (s:={ s with toks:=s.toks+1 }) c X I<|codeAny_call_builtin F.excAttr_ValueError.ga.plain F.entry_bexc_ga<|PM c X I ?_);obtain⟨a,g,d,t,j⟩:=s;have i:=I.type (M:=model prog w);have f:=looks_find (M:=model prog w) X I e;refine Xc (Xq<|Xc<|Xq<|Xc<|i.at<|Xc<|f.at ?_);refine Xq ⟨v,rfl,?_⟩;rw[handedOut_of b];exact Xq h
def Ex (c:Um K C) (a:hasDictIn K C=true) (l:findIn K (.ref C) "__class__"=some (some<|.builtin "object.__class__"))
 (hn:specialIn K (.builtin "object.__class__") "__get__"=some (some<|.builtin "getset_descriptor.__get__")) (b:takesIn K (.builtin "object.__class__")=some true) (i:mroIn K C (.type "object")=some true)
 (X:K.In s.heap) (I:InstAt s.heap x ox C od) (h:Q (some<|.ref C) { s with toks:=s.toks+1 }):wpAny (model prog w) A (getAttr? (.ref x) "__class__") Q E s:=by
 have j:findObj K C od "__class__"=some (.bind (.builtin "getset_descriptor.__get__")<|.builtin "object.__class__"):=by
  obtain⟨o,k,_⟩:=any_some a;unfold findObj;rw[k,Option.bind_some,l,Option.bind_some];simp[hn,b]
 unfold getAttr? getAttrBy?;refine Xc (wpAny_mkText<|Xc<|wpAny_attempt<|S7 (s:={ s with toks:=s.toks+1 }) c X I<|codeAny_call_builtin F.excAttr_ValueError.ga.plain F.entry_bexc_ga<|PM c X I ?_);obtain⟨e,g,d,t,f⟩:=s;have n:=I.type (M:=model prog w);have m:=looks_find (M:=model prog w) X I j;refine Xc (Xq<|Xc<|Xq<|Xc<|n.at<|Xc<|m.at ?_);show wpAny _ _ (holding [_] (call _ [_,_,_]) >>= ret) _ _ _;refine Xc (wpAny_holding<|wpAny_call<|class_get (s:=⟨e,g,d,t+1,f⟩) (ox:=ox) (od:=od) X I i ?_);exact Xq ⟨_,rfl,Xq<|Xq h⟩
theorem SS (c:Um K C) (b:hasDictIn K C=true) (r:findIn K (.ref C) "__class__"=some (some<|.builtin "object.__class__"))
 (hn:specialIn K (.builtin "object.__class__") "__get__"=some (some<|.builtin "getset_descriptor.__get__")) (g:takesIn K (.builtin "object.__class__")=some true) (p:mroIn K C (.type "object")=some true) :
 KitX K (.ref x) (.ref C) (fun h=>InstAt h x ox C od) where
 ty:=fun _ _ _ I=>I.type
 it:=fun _ _ X _=>by
  obtain⟨j,a,_⟩:=any_some b;unfold clsIn at a;split at a
  .rename_i u t l d i
   intro G D F y k q;unfold isType loadHead;exact Xc (wpAny_loadPart (k _ _<|X _ _ i)<|Xq q)
  .cases a
 ne:=fun h m B o n v X f=>by
  obtain⟨j,a,_⟩:=any_some b;refine Bool.eq_false_iff.mpr fun q=>?_;have e:C=m:=Value.ref.inj (beq_iff_eq.mp q);subst e;unfold clsIn at a;split at a
  .rename_i u t l d i
   have z:=(X _ _ i).symm.trans f
   cases z
  .cases a
 ca:=fun X I k=>Ex c b r hn g p X I k
end
def tXG (C:Addr)(d:TE)(f:Str):TE:=fun c H Q=>d c H fun x a=>∃e b T v,x=.ref e/\a e=some (.ext<|phF C e (some b) T)/\a b=some (.xd [(f,v)])/\Q v a
structure TC (K:W.Frag)(C:Addr):Prop where
 ga:Um K C
 hd:W.hasDictIn K C=true
section
variable {X:Cx}{e:Expr}{ta:TE}{f:Str}{C:Addr}{pos:Pos}
def R0 {H:Hp}{g:Qc}{h:St}{s:Shared}(I:Qr X g h H s){a c T:Addr}{d:List (Str×V)}(m:H a=some (.ext<|phF C a (some c) T))(l:H c=some (.xd d)) :
 ∃(b:Str->Qf) (ox od:Obj),W.InstAt s.heap a ox C (some od)/\(∀name,W.lookIn name od=some (b name))/\∀f,ZM (d.lookup f) (b f):=by
 obtain⟨⟨o,p,i,_⟩,_,_⟩:=I.hok a _ m;obtain⟨b,n,r⟩:=(show Z4 X.prog X.w H s.heap c (.xd d) from I.hok c _ l);obtain⟨od,j,k⟩:=PU n
 exact⟨b,_,od,⟨i,rfl,rfl,j⟩,k,r⟩
def Sk (c:TC X.K C)(n:VB X.K C f)(p:PE X e ta)(t:attributeBase e f X.env (eval e X.env)=eval e X.env:=by rfl):PE X (.Attribute e f pos) (tXG C ta f):=by
 intro b s i H Q I h;refine Sa t (Q9 (p b s i H _ I h) ?_);rintro u B ⟨x,A,d,j,a,F,T,v,w,z,y,q⟩;subst w;obtain rfl:u=Value.ref a:=j;obtain⟨k,D,E,J,m,r⟩:=R0 d z y;obtain⟨u,l,g⟩:=ZM.some_of (v:=v) (o:=k f) (by have:=r f;simpa [List.lookup] using this);exact Iq c.ga d.kIn J (W.findObj_own c.hd n rfl (by rw[m,l])) (Py g) ⟨v,A,d.tok _,g,q⟩
noncomputable def Gg:V->Qf
 |.ref a=>some (.ref a)
 |.ty t=>some (.type t)
 |_=>none
structure Ni (K:W.Frag)(C:Addr):Prop where
 ga:Um K C
 hd:W.hasDictIn K C=true
 fc:W.findIn K (.ref C) "__class__"=some (some<|.builtin "object.__class__")
 sp:W.specialIn K (.builtin "object.__class__") "__get__"=some (some<|.builtin "getset_descriptor.__get__")
 tk:W.takesIn K (.builtin "object.__class__")=some true
 mo:W.mroIn K C (.type "object")=some true
def Yr (K:W.Frag)(C:Addr):List V->Hp->VK->Prop:=fun g H Q=>∃x c a b,g=[x,c]/\Gg c=some a /\
 ((∃e d T h,x=.ref e/\H e=some (.ext<|phF C e (some d) T)/\H d=some (.xd h)/\W.kitOne K (.ref C) a=some b)\/(∃e T,x=.ref e/\H e=some (.ext<|phF C e none T)/\W.kitOne K (.ref C) a=some b)\/(x=.non/\W.kitOne K (.type "NoneType") a=some b))/\Q (.bl b) H
def Wk (c:Ni X.K C):Z7 X (.builtin "isinstance") (Yr X.K C):=by
 intro t s v H y B Q I r h;obtain⟨x,p,o,b,rfl,a,k,q⟩:=h;obtain⟨u,w,rfl,j,g⟩:=Gk r
 have n:w=o:=by
  cases p<;>simp[Gg]at a
  .subst a;exact g
  .subst a;exact g
 subst n;rcases k with ⟨e,L,T,G,rfl,l,m,i⟩|⟨e,T,rfl,l,i⟩|⟨rfl,i⟩
 .obtain rfl:u=Value.ref e:=j
  obtain⟨F,E,od,J,_⟩:=R0 I l m;exact W.kia_one (SS c.ga c.hd c.fc c.sp c.tk c.mo) I.kIn J i (by intro z;cases z) fun d=>⟨.bl b,H,I.tok d,rfl,q⟩
 .obtain rfl:u=Value.ref e:=j
  obtain⟨⟨A,D,k,_⟩,_,_⟩:=I.hok e _ l;exact W.kia_one (SS (od:=none) c.ga c.hd c.fc c.sp c.tk c.mo) I.kIn ⟨k,rfl,rfl,trivial⟩ i (by intro z;cases z) fun d=>⟨.bl b,H,I.tok d,rfl,q⟩
 .obtain rfl:u=Value.none:=j
  exact W.kia_one W.kitx_none I.kIn trivial i (by intro z;cases z) fun d=>⟨.bl b,H,I.tok d,rfl,q⟩
end
noncomputable def Jd (C:Addr)(f:Str)(ds:Qd)(e c q:Addr):OwnP where
 ok:=fun K F H v p=>p=[e,c,q]/\(F e=none/\F c=none/\F q=none)/\(∃T,H e=some (.ext<|phF C e (some c) T))/\H c=some (.xd [(f,.ref q)])/\∃d,H q=some (.lst d)/\Qy F d ds
 there:=fun{K F H v p} h a b=>by
  obtain⟨rfl,⟨t,o,n⟩,⟨T,l⟩,k,d,j,_⟩:=h
  rcases Xg.mp b with rfl|b
  .exact⟨t,Zt l⟩
  .rcases Xg.mp b with rfl|b
   .exact⟨o,Zt k⟩
   .rcases Xg.mp b with rfl|b
    .exact⟨n,Zt j⟩
    .cases b
 mono:=fun{K F y H x v p} s i g h=>by
  obtain⟨rfl,⟨t,o,n⟩,⟨T,l⟩,k,d,j,r⟩:=h;have m1:e∈[e,c,q]:=Xb;have m2:c∈[e,c,q]:=Xe _ Xb;have m:q∈[e,c,q]:=Xe _ (Xe _ Xb)
  exact⟨rfl,⟨i _ m1,i _ m2,i _ m⟩,⟨T,(g _ m1).trans l⟩,(g _ m2).trans k,d,(g _ m).trans j,r.mono s⟩
 uniq:=fun{K F H v p w} h u a b=>by
  obtain⟨rfl,_⟩:=h;obtain⟨rfl,_⟩:=u;exact b
def Pi  (h:Lefts C e dct H H')  (f:b≠e)(d:H b=some o):H' b=some o:=by
 induction h with
 |nil=>exact d
 |@step j T i hT g a =>
   have c:b≠T:=fun z=>by subst z;rw[hT]at a;cases a
   unfold left;rw[Qt c,Qt f];exact a
section
variable {K:W.Frag}{ρ:QF}{C:Addr}{f:Str}{i:Nat}
variable {ds:Qd}{e dx q:Addr}
def QB.exc  (S:QB K H0 F ρ σ H)(h:ρ[i]?=some (some<|.own v<|Jd C f ds e dx q)):σ[i]?=some (some v)/\(∃T,H e=some (.ext<|phF C e (some dx) T))/\H dx=some (.xd [(f,.ref q)])/\(∃xs,H q=some (.lst xs)/\Qy F xs ds)/\F q=none/\H0 q=none:=by
 obtain⟨m,p,o,r,j,n,g⟩:=S;obtain⟨u,l,a,c,⟨t,s,k⟩,hT,d,b⟩:=j i _ h;subst a;exact⟨l,hT,d,b,k,(g i q<|by rw[c];exact Xe _<|Xe _ Xb).1⟩
def D8  (h:ρ[i]?=some (some<|.own (.ref e)<|Jd C f ds e dx q))(d:Gg c=some cv)(a:W.kitOne K (.ref C) cv=some b):Qu K (tCB (Yr K C)<|QI (Q8 i)<|QI (tC c) QQ) ρ (.bool b):=fun n F m H Q S k=>by
 obtain⟨l,⟨T,j⟩,g,_⟩:=S.exc h
 exact⟨.ref e,l,.ref e,c,cv,b,rfl,d,.inl ⟨e,dx,T,_,rfl,j,g,a⟩,k F H _ (Q0.refl S.sub)<|.bl b⟩
end
end L2
section
namespace L2
open PySem PySem.Spec PyProof.Rows
def QS.at  (r:QS xs us):∀i:Nat,(xs[i]?=none/\us[i]?=none)\/∃x u,xs[i]?=some x/\us[i]?=some u/\QK x u:=by
 induction r with
 |nil=>intro i;exact .inl ⟨rfl,rfl⟩
 |cons a b c =>
   intro i;cases i with
   |zero=>exact .inr ⟨_,_,rfl,rfl,a⟩
   |succ i=>exact c i
end L2
end
set_option maxHeartbeats 8000000
set_option maxHeartbeats 8000000
set_option maxHeartbeats 8000000
set_option maxHeartbeats 8000000
set_option maxHeartbeats 8000000
namespace L2
open PySem PySem.Spec PyProof.Rows
def KS:bootBuiltins "ValueError"=some (.type "ValueError"):=by decide +kernel
def Dm {X:Cx}:Yf (CX1 X.prog X.w) X (XE C fun _ _ _=>False):=fun _ _ _ _ _ _ _ h=>by
 obtain⟨_,_,_,_,_,_,_,_,_,z⟩:=h;exact z.elim
def DX:ZS C fun _ _ _=>False:=fun _ _ _ _ z=>z.elim
end L2
section
namespace L2
open PySem PySem.Spec PyProof.Rows
abbrev Zb:=List (Key×PyData)
noncomputable def VY (kvs:Zb)(k:Key):Option PyData:=(kvs.find? fun a=>decide (a.1=k)).map (·.2)
noncomputable def Uw (kvs:Zb)(k:Key)(d:PyData):Zb:=if (kvs.any fun a=>decide (a.1=k))=true then kvs.map (fun a=>if a.1=k then (a.1,d) else a) else kvs++[(k,d)]
inductive PairK (F:Hp):List (Key×V)->Zb->Prop
 |nil:PairK F [] []
 |cons {k:Key} {x:V} {d:PyData} {xs:List (Key×V)} {kvs:Zb}:Rep F x d->PairK F xs kvs->PairK F ((k,x)::xs) ((k,d)::kvs)
theorem PairK.mono {F a:Hp}(s:Q5 F a):∀{xs:List (Key×V)} {kvs:Zb},PairK F xs kvs->PairK a xs kvs
 |_,_,.nil=>.nil
 |_,_,.cons r t=>.cons (r.mono s) (t.mono s)
theorem PairK.length {F:Hp}:∀{xs:List (Key×V)} {kvs:Zb},PairK F xs kvs->xs.length=kvs.length
 |_,_,.nil=>rfl
 |_,_,.cons _ t=>by simp[t.length]
theorem PairK.val {F:Hp}(k:Key):∀{xs:List (Key×V)} {kvs:Zb},PairK F xs kvs->(Z1 xs k=none/\VY kvs k=none)\/∃x d,Z1 xs k=some x/\VY kvs k=some d/\Rep F x d
 |_,_,.nil=>.inl ⟨rfl,rfl⟩
 |_,_,.cons (k:=k') (x:=x) (d:=d) (xs:=xs) (kvs:=kvs) r t=>by
   by_cases e:k'=k
   .exact .inr ⟨x,d,Y5 e,by simp[VY,Xz,e],r⟩
   .have q:VY ((k',d)::kvs) k=VY kvs k:=by simp[VY,Xz,e]
    rw[Y4 (p:=(k',x)) e,q];exact t.val k
theorem PairK.any {F:Hp}(k:Key):∀{xs:List (Key×V)} {kvs:Zb},PairK F xs kvs->(xs.any fun a=>decide (a.1=k))=(kvs.any fun a=>decide (a.1=k))
 |_,_,.nil=>rfl
 |_,_,.cons _ t=>by simp[t.any k]
theorem PairK.mapP {F:Hp}(k:Key){y:V}{d:PyData}(r:Rep F y d):∀{xs:List (Key×V)} {kvs:Zb},PairK F xs kvs->PairK F (xs.map fun a=>if a.1=k then (a.1,y) else a) (kvs.map fun a=>if a.1=k then (a.1,d) else a)
 |_,_,.nil=>.nil
 |_,_,.cons (k:=k') b t=>by
   rw[Xx,Xx];by_cases e:k'=k
   .simp only[e,if_true]
    exact .cons r (t.mapP k r)
   .simp only[e,if_false]
    exact .cons b (t.mapP k r)
theorem PairK.snoc {F:Hp}(k:Key){y:V}{d:PyData}(r:Rep F y d):∀{xs:List (Key×V)} {kvs:Zb},PairK F xs kvs->PairK F (xs++[(k,y)]) (kvs++[(k,d)])
 |_,_,.nil=>.cons r .nil
 |_,_,.cons a t=>.cons a (t.snoc k r)
def PairK.put (k:Key)  (r:Rep F y d)  (t:PairK F xs kvs):PairK F (VZ xs k y) (Uw kvs k d):=by
 unfold VZ Uw;rw[t.any k];split
 .exact t.mapP k r
 .exact t.snoc k r
def dkP (kvs:Zb):OwnP where
 ok K F H v p := ∃a d,v=.ref a/\p=[a]/\F a=none/\H a=some (.dK d)/\PairK F d kvs
 there:=by
  rintro K F H v p ⟨a,d,rfl,rfl,h,f,g⟩ b j
  cases Xh.mp j
  exact⟨h,Zt f⟩
 mono:=by
  rintro K F o H n v p s l k ⟨a,d,rfl,rfl,h,f,g⟩
  exact⟨a,d,rfl,rfl,l a Xb,by rw[k a Xb];exact f,g.mono s⟩
 uniq:=by
  rintro K F H v p q ⟨a,d,rfl,rfl,_⟩ ⟨b,m,e,rfl,_⟩ c i
  cases e
  exact i
section
variable {K:W.Frag}{ρ:QF}{ty tv:TE}{D:PEnds}{i:Nat}{v:V}{kvs:Zb}{k:Key}{d:PyData}
def QB.dk  (S:QB K H0 F ρ σ H)(e:ρ[i]?=some (some<|.own v<|dkP kvs)) :
 ∃a xs,v=.ref a/\σ[i]?=some (some<|.ref a)/\F a=none/\H0 a=none/\H a=some (.dK xs)/\PairK F xs kvs:=by
 obtain⟨h,p,⟨a,xs,rfl,rfl,g,f,c⟩,b,_⟩:=S.writeOwn e
 exact⟨a,xs,rfl,h,g,(b a Xb).1,f,c⟩
def Au (e:ρ[i]?=some (some<|.own v<|dkP kvs))(I:Qu K tv ρ d)(G:Qu K ty ρ (WI k))(hz:kvs.length<sizeLine)(hn:D.nx (ρ.set i<|some<|.own v<|dkP<|Uw kvs k d)):Q1 K (Dl (Q8 i) ty tv) ρ D:=fun Z r F g H E x S C =>
 I r F g H _ S fun Q O u f A=>by
  obtain⟨a,R,rfl,M,_⟩:=(S.ext f).dk e;refine⟨_,M,G r Q g O _ (S.ext f) fun P Y y h t=>?_⟩;have m:=S.ext (f.trans h);obtain⟨X,s,l,_,j,L,J,o⟩:=m.dk e
  cases l
  rw[Md t];refine⟨a,_,rfl,Jh.k J<|by rw[o.length];exact hz,?_⟩;obtain⟨_,p,B,T,w⟩:=m.writeOwn e;obtain⟨N,n,l,rfl,_,U,_⟩:=B
  cases l
  refine C.nx P g _ _ ((x.trans<|f.trans h).wr L j) (w _ (dkP<|Uw kvs k d) [a] (m.sub.upd j) (fun c b _=>Qt fun z=>b<|by rw[z];exact Xb) (fun c b=>?_) ⟨a,_,rfl,rfl,j,QC,o.put k<|A.mono h.ff⟩ fun c b=>.inl b) hn
  by_cases z:c=a
  .subst z;rw[QC];rintro⟨⟩
  .rw[Qt z];exact b
def Aw:EvX K Rl ρ (dkP []):=fun g F f H Q S q=>fun p b=>by
 have e:F p=none:=by
  cases z:F p with
  |none=>rfl
  |some o=>rw[S.sub _ _ z]at b;cases b
 refine q F _ (.ref p) [p] (Q0.own S.sub b) (fun a c=>by cases Xh.mp c;exact b) ⟨p,[],rfl,rfl,e,QC,.nil⟩
end
structure HandS where
 yard:PyData
 now:Int
 known:Qd
 given:Ql
 gone:Zb
 made:List Zb
inductive MadeD (F H:Hp):Qg->List Zb->Prop
 |nil:MadeD F H [] []
 |cons {a:Addr} {xs:List (Key×V)} {kvs:Zb} {as:Qg} {ms:List Zb}:F a=none->H a=some (.dK xs)->PairK F xs kvs->MadeD F H as ms->MadeD F H (a::as) (kvs::ms)
theorem MadeD.mem {F H:Hp}:∀{as:Qg} {ms:List Zb},MadeD F H as ms->∀a∈as,F a=none/\H a≠none
 |_,_,.nil,a,b=>nomatch b
 |_,_,.cons d c _ t,a,b=>by
   rcases Xg.mp b with rfl|b
   .exact⟨d,Zt c⟩
   .exact t.mem a b
theorem MadeD.mono {F c H f:Hp}(s:Q5 F c):∀{as:Qg} {ms:List Zb},(∀a∈as,c a=none)->(∀a∈as,f a=H a)->MadeD F H as ms->MadeD c f as ms
 |_,_,_,_,.nil=>.nil
 |_,_,e,d,.cons i h g t=>.cons (e _ Xb) (by rw[d _ Xb];exact h) (g.mono s) (t.mono s (fun a b=>e a<|Xe _ b) fun a b=>d a<|Xe _ b)
def MadeD.other   (h:MadeD F H as ms)(n:b∉as):MadeD F (upd H b o) as ms :=
 h.mono (Q5.refl _) (fun a c=>(h.mem a c).1) (fun a c=>Qt fun z=>n<|z▸c)
inductive MadeZ (F:Hp):Qg->List Zb->Prop
 |nil:MadeZ F [] []
 |cons {a:Addr} {xs:List (Key×V)} {kvs:Zb} {as:Qg} {ms:List Zb}:F a=some (.dK xs)->PairK F xs kvs->MadeZ F as ms->MadeZ F (a::as) (kvs::ms)
theorem MadeZ.mono {F a:Hp}(s:Q5 F a):∀{as:Qg} {ms:List Zb},MadeZ F as ms->MadeZ a as ms
 |_,_,.nil=>.nil
 |_,_,.cons c b t=>.cons (s _ _ c) (b.mono s) (t.mono s)
theorem MadeD.fz {F b H:Hp}(s:Q5 F b):∀{as:Qg} {ms:List Zb},(∀a∈as,b a=H a)->MadeD F H as ms->MadeZ b as ms
 |_,_,_,.nil=>.nil
 |_,_,c,.cons _ f e t=>.cons (by rw[c _ Xb];exact f) (e.mono s) (t.fz s fun a d=>c a<|Xe _ d)
noncomputable abbrev hfs (y:V) (n:Int) (k g d m:Addr):List (Str×V):=[("yard",y),("present",.int n),("known",.ref k),("given",.ref g),("gone",.ref d),("made",.ref m)]
structure HandOk (C:Addr)(N:HandS)(F H:Hp)(a dx k g d m:Addr)(y:V)(xs:List (Key×V))(as:Qg):Prop where
 nd:(a::dx::k::g::d::m::as).Nodup
 ins:F a=none/\H a=some (.ins C dx<|hfs y N.now k g d m)
 own:F dx=none/\H dx=some (.own a)
 yd:Rep F y N.yard
 known:Vm F H k N.known
 given:Vm F H g (N.given.map PyData.int)
 gone:F d=none/\H d=some (.dK xs)/\PairK F xs N.gone
 made:F m=none/\H m=some (.lst<|as.map V.ref)/\MadeD F H as N.made
def HandOk.mono    (o:HandOk C N F H a dx k g d m y xs as)(s:Q5 F F')(e:∀b∈a::dx::k::g::d::m::as,F' b=none)(c:∀b∈a::dx::k::g::d::m::as,H' b=H b):HandOk C N F' H' a dx k g d m y xs as:=by
 obtain⟨j,⟨E,t⟩,⟨A,i⟩,h,⟨D,p,r,q⟩,⟨G,u,w,v⟩,⟨I,z,x⟩,⟨B,n,l⟩⟩:=o
 exact⟨j,⟨e _<|by simp,by rw[c _<|by simp];exact t⟩,⟨e _<|by simp,by rw[c _<|by simp];exact i⟩,h.mono s,⟨e _<|by simp,p,by rw[c _<|by simp];exact r,q.mono s⟩,⟨e _<|by simp,u,by rw[c _<|by simp];exact w,v.mono s⟩,
  ⟨e _<|by simp,by rw[c _<|by simp];exact z,x.mono s⟩,⟨e _<|by simp,by rw[c _<|by simp];exact n,l.mono s (fun b f=>e b<|by simp[f]) fun b f=>c b<|by simp[f]⟩⟩
def Zc (C:Addr)(N:HandS):OwnP where
 ok K F H v p := ∃a e k g d m y h f,v=.ref a/\p=a::e::k::g::d::m::f/\HandOk C N F H a e k g d m y h f
 there:=by
  rintro K F H v p ⟨a,e,k,g,d,m,y,h,f,rfl,rfl,o⟩ b n
  obtain⟨_,⟨r,l⟩,⟨x,w⟩,_,⟨k1,Q,k2,_⟩,⟨G,S,E,_⟩,⟨L,J,_⟩,⟨m1,m2,z⟩⟩:=o;simp only[Xg]at n;rcases n with rfl|rfl|rfl|rfl|rfl|rfl|n
  .exact⟨r,Zt l⟩
  .exact⟨x,Zt w⟩
  .exact⟨k1,Zt k2⟩
  .exact⟨G,Zt E⟩
  .exact⟨L,Zt J⟩
  .exact⟨m1,Zt m2⟩
  .exact z.mem b n
 mono:=by
  rintro K F Y H X v p s D B ⟨a,e,k,g,d,m,y,h,f,rfl,rfl,o⟩
  exact⟨a,e,k,g,d,m,y,h,f,rfl,rfl,o.mono s D B⟩
 uniq:=by
  rintro K F H v p q ⟨a,e,k,g,d,m,y,h,f,rfl,rfl,o⟩ ⟨W,I,R,T,U,P,O,u,M,ev,rfl,t⟩ c A
  cases ev
  have i:=o.ins.2.symm.trans t.ins.2;injection i with i;injection i with _ r l;subst r;simp only[hfs,List.cons.injEq,Prod.mk.injEq,true_and,and_true,V.ref.injEq]at l;obtain⟨rfl,rfl,rfl,rfl,rfl⟩:=l;have j:=o.made.2.1.symm.trans t.made.2.1;injection j with j;injection j with j;rw[BH j];exact A
structure HandFz (C:Addr)(N:HandS)(F:Hp)(a dx k g d m:Addr)(y:V)(ks gs:List V)(xs:List (Key×V))(as:Qg):Prop where
 ins:F a=some (.ins C dx<|hfs y N.now k g d m)
 yd:Rep F y N.yard
 known:F k=some (.lst ks)/\Qy F ks N.known
 given:F g=some (.lst gs)/\Qy F gs (N.given.map PyData.int)
 gone:F d=some (.dK xs)/\PairK F xs N.gone
 made:F m=some (.lst<|as.map V.ref)/\MadeZ F as N.made
def QY (C:Addr)(N:HandS):ZP where
 ok K F v := ∃a h k g d m y c f b i,v=.ref a/\HandFz C N F a h k g d m y c f b i
 mono:=by
  rintro K F w v s ⟨a,h,k,g,d,m,y,c,f,b,i,rfl,⟨u,t,⟨r,q⟩,⟨p,o⟩,⟨n,l⟩,⟨j,e⟩⟩⟩
  exact⟨a,h,k,g,d,m,y,c,f,b,i,rfl,s _ _ u,t.mono s,⟨s _ _ r,q.mono s⟩,⟨s _ _ p,o.mono s⟩,⟨s _ _ n,l.mono s⟩,⟨s _ _ j,e.mono s⟩⟩
def Zc.fz {C:Addr}{N:HandS}{K:W.Frag}{F e H:Hp}{v:V}{p:Qg}(h:(Zc C N).ok K F H v p)(s:Q5 F e)(c:∀b∈p,e b=H b):(QY C N).ok K e v:=by
 obtain⟨a,A,k,g,d,m,y,i,E,rfl,rfl,o⟩:=h;obtain⟨J,⟨O,t⟩,⟨I,G⟩,f,⟨M,n,r,q⟩,⟨P,w,z,x⟩,⟨Q,D,B⟩,⟨L,l,j⟩⟩:=o
 exact⟨a,A,k,g,d,m,y,n,w,i,E,rfl,by rw[c _<|by simp];exact t,f.mono s,⟨by rw[c _<|by simp];exact r,q.mono s⟩,⟨by rw[c _<|by simp];exact z,x.mono s⟩,⟨by rw[c _<|by simp];exact D,B.mono s⟩,⟨by rw[c _<|by simp];exact l,j.fz s fun b u=>c b<|by simp[u]⟩⟩
structure HandC (K:W.Frag)(C:Addr):Prop where
 cl:Cls K C
 yd:VB K C "yard"
 pr:VB K C "present"
 kn:VB K C "known"
 gv:VB K C "given"
 go:VB K C "gone"
 md:VB K C "made"
def NoH (m:Str):Prop := ∀(y:V) (n:Int) (k g d e:Addr),(hfs y n k g d e).lookup m=none
section
variable {K:W.Frag}{ρ:QF}{ty:TE}{D:PEnds}{i:Nat}{C:Addr}{N:HandS}{m:Str}
def QB.hz  (S:QB K H0 F ρ σ H)(e:ρ[i]?=some (some<|.zow<|QY C N)):∃a c k g d m y b gs xs as,σ[i]?=some (some<|.ref a)/\HandFz C N F a c k g d m y b gs xs as:=by
 obtain⟨l,h,_⟩:=S.fp;obtain⟨v,j,_,a,c,k,g,d,m,y,b,gs,xs,as,rfl,f⟩:=h i _ e
 exact⟨a,c,k,g,d,m,y,b,gs,xs,as,j,f⟩
def Jy (c:HandC K C) (e:ρ[i]?=some (some<|.zow<|QY C N)):Qu K (Va K (Q8 i) "yard") ρ N.yard:=fun r F h H Q S q=>by
 obtain⟨a,f,k,g,d,m,y,l,n,j,p,b,o⟩:=S.hz e
 exact⟨_,b,a,C,f,_,y,rfl,S.sub _ _ o.ins,c.cl,c.yd,rfl,q F H y (Q0.refl S.sub) o.yd⟩
def GL (c:HandC K C) (e:ρ[i]?=some (some<|.zow<|QY C N)):Qu K (Va K (Q8 i) "present") ρ (.int N.now):=fun r F h H Q S q=>by
 obtain⟨a,f,k,g,d,m,y,l,n,j,p,b,o⟩:=S.hz e
 exact⟨_,b,a,C,f,_,.int N.now,rfl,S.sub _ _ o.ins,c.cl,c.pr,rfl,q F H _ (Q0.refl S.sub)<|.int _⟩
def GQ (c:HandC K C) (e:ρ[i]?=some (some<|.zow<|QY C N)):Qu K (Va K (Q8 i) "known") ρ (.list N.known):=fun r F h H Q S q=>by
 obtain⟨a,f,k,g,d,m,y,l,n,j,p,b,o⟩:=S.hz e
 exact⟨_,b,a,C,f,_,.ref k,rfl,S.sub _ _ o.ins,c.cl,c.kn,rfl,q F H _ (Q0.refl S.sub)<|.lst o.known.1 o.known.2⟩
def Ta (c:HandC K C) (e:ρ[i]?=some (some<|.zow<|QY C N)):Qu K (Va K (Q8 i) "given") ρ (.list<|N.given.map PyData.int):=fun r F h H Q S q=>by
 obtain⟨a,f,k,g,d,m,y,l,n,j,p,b,o⟩:=S.hz e
 exact⟨_,b,a,C,f,_,.ref g,rfl,S.sub _ _ o.ins,c.cl,c.gv,rfl,q F H _ (Q0.refl S.sub)<|.lst o.given.1 o.given.2⟩
def EW (c:HandC K C) (p:Qu K ty ρ (WI k)) (e:ρ[i]?=some (some<|.zow<|QY C N)):Qu K (Bf ty<|Va K (Q8 i) "gone") ρ (.bool (VY N.gone k).isSome):=fun v F j H Q S q =>
 p v F j H _ S fun w u y b n=>by
  obtain⟨a,t,B,g,d,m,z,A,E,l,I,s,o⟩:=(S.ext b).hz e;refine⟨_,s,a,C,t,_,.ref d,rfl,b.fh _ _ o.ins,c.cl,c.go,rfl,?_⟩;rw[Md n];refine⟨d,_,rfl,V4.k<|b.fh _ _ o.gone.1,?_⟩
  have r:(Z1 l k).isSome=(VY N.gone k).isSome:=by
   rcases o.gone.2.val k with ⟨h,f⟩|⟨x,G,h,f,_⟩
   .rw[h,f];rfl
   .rw[h,f];rfl
  rw[r];exact q w u _ b (.bl _)
def J1   (B:NoH m)(e:ρ[i]?=some (some<|.zow<|QY C N))(h:Z0 K t ρ ts)(I:R (.zow (QY C N)::ts) Φ) :
 ZA K (Vs C m (Zk K R) [] E (Q8 i) t) ρ Φ:=fun P F n H Q S q=>by
 obtain⟨a,l,k,g,d,w,y,x,J,o,M,L,j⟩:=S.hz e;refine⟨_,L,a,l,_,rfl,S.sub _ _ j.ins,B _ _ _ _ _ _,h P F n H _ S fun U Y X c s=>?_⟩
 exact⟨U,_,Φ,(S.ext c).kt,c.fh,.zow (Ψ:=QY C N) ((QY C N).mono (K:=K) c.ff ⟨a,l,k,g,d,w,y,x,J,o,M,rfl,j⟩)<|by rw[XG];exact s,I,fun T O v p u z r A f=>q T O v p u z (c.trans r) (fun b G=>c.hh.free<|A b G) f⟩
def UF   (a:NoH m)(e:ρ[i]?=some (some<|.zow<|QY C N))(h:Z0 K t ρ ts)(b:R (.zow (QY C N)::ts) (fun r=>r=.fz d)):Qu K (Vs C m (Zk K R) [] E (Q8 i) t) ρ d:=EvO.e (ZA.o<|J1 a e h b)
def GJ  (i:Nat)(e:ρ[i]?=some (some<|.own v<|Zc C N))(d:∀r,Φ r->JI r)(h:ZA K t (ρ.set i<|some<|.zow<|QY C N) Φ):ZA K t ρ Φ :=
 SB i e (fun a b c=>Zc.fz a b c) d h
def BL   (i:Nat)(e:ρ[i]?=some (some<|.own v<|Zc C N))(b:ZR d=some u)(h:Qu K t (ρ.set i<|some<|.zow<|QY C N) d):Qu K t ρ d :=
 EvO.e (ZA.o<|GJ (Φ:=fun r=>r=.fz d) i e (fun r a=>by subst a;exact GT b)<|h.o.d rfl)
def BR  (i:Nat)(e:ρ[i]?=some (some<|.own v<|Zc C N))(h:Za K t (ρ.set i<|some<|.zow<|QY C N) b):Za K t ρ b:=fun k F g H Q S q=>by
 obtain⟨p,d,j⟩:=S.freezeZ e (fun a b c=>Zc.fz a b c);exact h k _ g H Q j fun n l x=>q _ l (WU (fun a f=>⟨(d a f).1,(d a f).2.1⟩) x)
def QB.hand  (S:QB K H0 F ρ σ H)(e:ρ[i]?=some (some<|.own v<|Zc C N)) :
 ∃a j k g d m y xs as,v=.ref a/\σ[i]?=some (some<|.ref a)/\HandOk C N F H a j k g d m y xs as/\(∀b∈a::j::k::g::d::m::as,H0 b=none/\F b=none/\H b≠none) /\
  ∀(l:Hp) (q:HandS) (o:V) (f:List (Key×V)) (c:Qg),Q5 F l->(∀b,b∉a::j::k::g::d::m::as->H b≠none->l b=H b)->(∀b,H b≠none->l b≠none) ->
   HandOk C q F l a j k g d m o f c->(∀b∈c,b∈as\/(H b=none/\H0 b=none))->QB K H0 F (ρ.set i<|some<|.own v<|Zc C q) σ l:=by
 obtain⟨E,p,⟨a,j,k,g,d,m,y,xs,as,rfl,rfl,s⟩,t,r⟩:=S.writeOwn e;refine⟨a,j,k,g,d,m,y,xs,as,rfl,E,s,t,fun l q o f c B A x w u=>r l _ _ B A x ⟨a,j,k,g,d,m,o,f,c,rfl,rfl,w⟩ fun b n=>?_⟩;simp only[Xg]at n ⊢;rcases n with h|h|h|h|h|h|n
 .exact .inl (.inl h)
 .exact .inl (.inr<|.inl h)
 .exact .inl (.inr<|.inr<|.inl h)
 .exact .inl (.inr<|.inr<|.inr<|.inl h)
 .exact .inl (.inr<|.inr<|.inr<|.inr<|.inl h)
 .exact .inl (.inr<|.inr<|.inr<|.inr<|.inr<|.inl h)
 .rcases u b n with z|z
  .exact .inl (.inr<|.inr<|.inr<|.inr<|.inr<|.inr z)
  .exact .inr z
def HandOk.same {x:HandS}{F H z o:Hp}{a n k g d m b k' g' d' m':Addr}{y j:V}{xs c:List (Key×V)}{as f:Qg}
 (v:HandOk C N F H a n k g d m y xs as) (e:HandOk C x z o a b k' g' d' m' j c f) (s:o a=H a):b=n/\k'=k/\g'=g/\d'=d/\m'=m/\j=y:=by
 have h:=e.ins.2;rw[s,v.ins.2]at h;injection h with h;injection h with _ w l;simp only[hfs,List.cons.injEq,Prod.mk.injEq,true_and,and_true,V.ref.injEq]at l;obtain⟨u,_,t,r,q,p⟩:=l
 exact⟨w.symm,t.symm,r.symm,q.symm,p.symm,u.symm⟩
def HandOk.setKnown {F H:Hp}{a e k g d m:Addr}{y:V}{xs:List (Key×V)}{as:Qg}(h:HandOk C N F H a e k g d m y xs as){ns:Qd}{zs:List V}(t:Qy F zs ns) :
 HandOk C { N with known:=ns } F (upd H k<|.lst zs) a e k g d m y xs as:=by
 obtain⟨c,⟨s,r⟩,⟨l,j⟩,f,⟨q,O,Q,P⟩,⟨x,u,w,v⟩,⟨B,A,z⟩,⟨p,o,n⟩⟩:=h;have b:=c;simp only[Xt,Xg,not_or]at b;obtain⟨⟨R,M,_⟩,⟨L,_⟩,⟨J,I,G,E⟩,_⟩:=b
 exact⟨c,⟨s,by rw[Qt M];exact r⟩,⟨l,by rw[Qt L];exact j⟩,f,⟨q,zs,QC,t⟩,⟨x,u,by rw[Qt<|Ne.symm J];exact w,v⟩,⟨B,by rw[Qt<|Ne.symm I];exact A,z⟩,⟨p,by rw[Qt<|Ne.symm G];exact o,n.other E⟩⟩
def HandOk.setGiven {F H:Hp}{a e k g d m:Addr}{y:V}{xs:List (Key×V)}{as:Qg}(h:HandOk C N F H a e k g d m y xs as){ns:Ql}{zs:List V}(w:Qy F zs (ns.map PyData.int)) :
 HandOk C { N with given:=ns } F (upd H g<|.lst zs) a e k g d m y xs as:=by
 obtain⟨c,⟨v,u⟩,⟨l,j⟩,f,⟨t,q,s,r⟩,⟨x,O,Q,P⟩,⟨I,G,E⟩,⟨p,o,n⟩⟩:=h;have b:=c;simp only[Xt,Xg,not_or]at b;obtain⟨⟨T,S,M,_⟩,⟨R,L,_⟩,⟨J,_⟩,⟨B,A,z⟩,_⟩:=b
 exact⟨c,⟨v,by rw[Qt M];exact u⟩,⟨l,by rw[Qt L];exact j⟩,f,⟨t,q,by rw[Qt J];exact s,r⟩,⟨x,zs,QC,w⟩,⟨I,by rw[Qt<|Ne.symm B];exact G,E⟩,⟨p,by rw[Qt<|Ne.symm A];exact o,n.other z⟩⟩
variable {te:TE}{v:V}
def Ik (c:HandC K C)(e:ρ[i]?=some (some<|.own v<|Zc C N))(h:Qu K te ρ n)(hl:N.known.length<1000)
 (hn:D.nx (ρ.set i<|some<|.own v<|Zc C { N with known:=N.known++[n] })):Q1 K (Vt<|tBM K "list" VV (Va K (Q8 i) "known")<|QI te QQ) ρ D:=fun F0 R F s H E x S U=>by
 obtain⟨a,Q,k,g,d,m,y,X,as,rfl,O,l,_⟩:=S.hand e;refine⟨_,O,a,C,Q,_,.ref k,rfl,l.ins.2,c.cl,c.kn,rfl,.inl ⟨rfl,_,SqL.of l.known.2.choose_spec.1⟩,h R F s H _ S fun T H1 u o G=>?_⟩;obtain⟨a',P,w,g',d',Z,A,p,r,M,g1,f,L,B⟩:=(S.ext o).hand e
 cases M
 obtain⟨rfl,rfl,rfl,rfl,rfl,rfl⟩:=l.same f ((o.hh _ _ l.ins.2).trans l.ins.2.symm);obtain⟨Y,I,J,t⟩:=f.known;have j:=L w (by simp);refine⟨w,I,u,rfl,rfl,J,by rw[t.length];exact Vg<|by omega,?_⟩;exact U.nx T s _ _ ((x.trans o).wr j.1 j.2.1) (B _ { N with known:=N.known++[n] } A p r ((S.ext o).sub.upd j.2.1) (fun b q _=>Qt fun z=>q<|by rw[z];simp) VD (f.setKnown<|t.snoc G) fun b q=>.inl q) hn
def Ia (c:HandC K C)(e:ρ[i]?=some (some<|.own v<|Zc C N))(h:Qu K te ρ (.int n))(hl:N.given.length<1000)
 (hn:D.nx (ρ.set i<|some<|.own v<|Zc C { N with given:=N.given++[n] })):Q1 K (Vt<|tBM K "list" VV (Va K (Q8 i) "given")<|QI te QQ) ρ D:=fun F0 R F s H E x S U=>by
 obtain⟨a,Q,k,g,d,m,y,X,as,rfl,O,l,_⟩:=S.hand e;refine⟨_,O,a,C,Q,_,.ref g,rfl,l.ins.2,c.cl,c.gv,rfl,.inl ⟨rfl,_,SqL.of l.given.2.choose_spec.1⟩,h R F s H _ S fun T H1 u o G=>?_⟩;obtain⟨a',P,k',w,d',Z,A,p,r,M,g1,f,L,B⟩:=(S.ext o).hand e
 cases M
 obtain⟨rfl,rfl,rfl,rfl,rfl,rfl⟩:=l.same f ((o.hh _ _ l.ins.2).trans l.ins.2.symm);obtain⟨Y,I,J,t⟩:=f.given;have j:=L w (by simp);refine⟨w,I,u,rfl,rfl,J,by rw[t.length,Xl];exact Vg<|by omega,?_⟩;exact U.nx T s _ _ ((x.trans o).wr j.1 j.2.1) (B _ { N with given:=N.given++[n] } A p r ((S.ext o).sub.upd j.2.1) (fun b q _=>Qt fun z=>q<|by rw[z];simp) VD (f.setGiven<|by rw[XB];exact t.snoc G) fun b q=>.inl q) hn
end
def spP (K:W.Frag){d:Type}(Φ:d->OwnP)(R:d->List OT->(OT->d->Prop)->Prop):Sp:=fun k H Q _=>∃F e a p i N h,k=e::a/\KTs K F/\Q5 F H/\Args K F a i/\(Φ N).ok K F H e p/\R N i h /\
 ∀g c f j v r q,h r j->ExtN p F H g c->(Φ j).ok K g c e f->(∀b∈f,b∈p\/H b=none)->Zs K g c v r q->(∀b∈q,(b∈p\/H b=none)/\b∉f)->Q v c
abbrev spH (K:W.Frag)(C:Addr)(R:HandS->List OT->(OT->HandS->Prop)->Prop):Sp:=spP K (Zc C) R
def JG (K:W.Frag)(C CR:Addr){a:Type}(e:Addr->Hp->Hp->Hp->Qj->a->Prop)(R:HandS->List OT->(OT->HandS->Prop)->Prop)(d:List OT->(a->Prop)->Prop):Sp:=fun b H Q E=>(∃c,E=XE CR c/\ZS CR c/\spH K C R b H Q E)\/Wf K CR e (fun _ _=>False) d b H Q E
abbrev Bd (K:W.Frag)(C CR:Addr)(f:Str)(R:HandS->List OT->(OT->HandS->Prop)->Prop)(Rx:List OT->(Qd->Prop)->Prop):Sp:=JG K C CR (Fld f) R Rx
def Bi (K:W.Frag)(C:Addr)(R:HandS->List OT->(OT->HandS->Prop)->Prop)(R2:List OT->(OT->Prop)->Prop):Sp:=fun a H Q E=>spH K C R a H Q E\/Zk K R2 a H Q E
def EvR (K:W.Frag)(t:TS)(ρ:QF)(Ψ:OT->QF->Prop):Prop := ∀(j d F:Hp) (g:St) (H:Hp) (E:Ends),Q0 j d F H->QB K d F ρ g H ->
 (∀f c e b v r q,Q0 j d f e->QB K d f b c e->Zs K f e v r q->(∀a∈q,d a=none)->(∀a∈q,∀u h i,b[0]?=some (some h)->c[0]?=some (some u)->Zs K f e u h i->a∉i)->Ψ r b->E.rt v e)->t E g H
section
variable {K:W.Frag}{ρ:QF}{te:TE}{t u:TS}{Ψ:OT->QF->Prop}
def ZV (M:QF->Prop)(i:Q1 K t ρ { nx:=M,rt:=fun _=>False })(h:∀a,M a->EvR K u a Ψ):EvR K (WH t u) ρ Ψ:=fun d c F f H E x S k =>
 i d c F f H _ x S ⟨fun m b l a g j e=>h a e d c m b l E g j k,fun _ _ _ _ _ _ _ _ z=>z.elim,fun _ _ _ _ _ _ z=>False.elim z,fun _ _ _ _ _ _ z=>False.elim z⟩
def Bx (h:Qu K te ρ d)(c:Ψ (.fz d) ρ):EvR K (Y9 te) ρ Ψ:=fun i e F a H E x S k =>
 h e F a H _ S fun g f v b r=>k g a f ρ v (.fz d) [] (x.trans b) (S.ext b) ⟨rfl,r⟩ (by rintro _ ⟨⟩) (by rintro _ ⟨⟩) c
def C1  (m:j≠0)(e:ρ[j]?=some (some r))(i:Ψ r ρ):EvR K (Y9<|Q8 j) ρ Ψ:=fun D C F f H E x S k=>by
 obtain⟨p,h,o,n⟩:=S.fp;obtain⟨v,y,g⟩:=h j _ e;refine⟨v,y,k F f H ρ v r (p j) x S g (fun a c=>(n j a c).1) (fun a c u A B w s b l=>?_) i⟩;obtain⟨z,d,q⟩:=h 0 _ w;rw[s]at d;cases d;exact m (o j 0 a c<|US (K:=K) q b a l)
variable {α:Type}{Φ:α->OwnP}{N:α}
def Ix    (q:KTs K F)(o:Q5 F H)(h:Args K F vs ts)(l:(Φ N).ok K F H f p) :
 QB K (fun b=>if b∈p then none else H b) F (some (.own f<|Φ N)::(ts.map some++List.replicate (L.length-(ts.length+1)) none)) (start L (f::vs)) H:=by
 have n:=fun b a=>(Φ N).there l b a;refine⟨q,o,?_,fun j=>if j=0 then p else [],fun j k e=>?_,fun j r b a s=>?_,fun j b a=>?_⟩
 .unfold start
  simp[h.length]
 .cases j with
  |zero =>
    simp at e
    subst e;refine⟨f,?_,rfl,?_⟩
    .unfold start
     simp
    .simp only[if_true]
     exact l
  |succ i =>
    rw[UW]at e;have c:i<ts.length:=by
     by_cases z:i<ts.length
     .exact z
     .rw[X9<|by simpa using z]at e
      have:=List.mem_of_getElem? e
      simp at this
    rw[XN<|by simpa using c,Xn]at e;have A:ts[i]?=some k:=by
     cases z:ts[i]? with
     |none=>rw[z]at e;simp at e
     |some w=>rw[z]at e;simp at e;rw[e]
    obtain⟨v,y,x⟩:=h.get (H:=H) i k A;refine⟨v,?_,?_⟩
    .unfold start
     have g:i<vs.length:=by rw[h.length];exact c
     rw[Xx,J8,UW,XN<|by simpa using g,Xn,y];rfl
    .simp only[Nat.add_one_ne_zero,if_false]
     exact x
 .by_cases d:j=0
  .by_cases m:r=0
   .rw[d,m]
   .simp[m]at s
  .simp[d]at a
 .by_cases d:j=0
  .simp only[Xd d]at a
   exact⟨by simp[a],(n b a).2⟩
  .simp[d]at a
def HI {L:Qh}{R:α->List OT->(OT->α->Prop)->Prop}{vs:List V}{ts:List OT}{F H:Hp}{e:V}{p:Qg}{Ψ:OT->α->Prop}{Q:VK}{t:TS}{B:St->Hp->Prop}
 (h:EvR K t (some (.own e<|Φ N)::(ts.map some++List.replicate (L.length-(ts.length+1)) none)) (fun r d=>∃j,Ψ r j/\d[0]?=some (some<|.own e<|Φ j)))
 (E:KTs K F) (n:Q5 F H) (J:Args K F vs ts) (C:(Φ N).ok K F H e p)
 (q:∀g c l w v r q,Ψ r w->ExtN p F H g c->(Φ w).ok K g c e l->(∀b∈l,b∈p\/H b=none)->Zs K g c v r q->(∀b∈q,(b∈p\/H b=none)/\b∉l)->Q v c) :
 t { nx:=B,rt:=Q } (start L (e::vs)) H:=by
 have m:∀b,(fun b=>if b∈p then none else H b:Hp) b=none->b∈p\/H b=none:=fun b a=>by
  by_cases z:b∈p
  .exact .inl z
  .simp only[Xa z]at a;exact .inr a
 refine h F (fun b=>if b∈p then none else H b) F _ H _ ⟨fun b o a=>?_,Q5.refl _,n,fun _ h=>.inl h⟩ (Ix E n J C) fun g x c d v r A i T k G I ⟨j,M,s⟩=>?_
 .by_cases z:b∈p
  .simp[z]at a
  .simp only[Xa z]at a;exact a
 .obtain⟨S,P,U,O⟩:=T.fp
  obtain⟨u,y,rfl,f⟩:=P 0 _ s;refine q g c (S 0) j v r A M ⟨fun b o D a=>i.hh b o<|by simp only[Xa D];exact a,i.ff,i.fh,fun b a=>?_⟩ f (fun b a=>m b (O 0 b a).1) k (fun b a=>⟨m b<|G b a,I b a _ _ _ s y ⟨rfl,f⟩⟩)
  rcases i.fr b a with z|z
  .exact .inl z
  .exact .inr ((m b z).symm)
end
def YA (P:Program)(w:World)(K:W.Frag)(c:Str->Qf)(base:Heap)(C:Addr)(m:Str)(ps:Qh)(k:Nat)(b:Sp):Prop :=
 ∃f a,Meth K C m f/\Vu K a ps []/\FnOk P w K c base (CX1 P w) k f a ps b
section
variable {P:Program}{w:World}{K:W.Frag}{mg:Str->Qf}{base:Heap}{C CR:Addr}
def Mf.evHX {m b:Str}{st:Stmt}{L ps:Qh}{k:Nat}{G:Type}{FL:Addr->Hp->Hp->Hp->Qj->G->Prop}{R:HandS->List OT->(OT->HandS->Prop)->Prop}{Y:List OT->(G->Prop)->Prop}(D:Mf K C m b st ps)(S:Qp L ps (Q2 st))(J:∀M ts Ψ,R M ts Ψ->ts.length+1=ps.length)(i:∀ts Φ,Y ts Φ->ts.length=ps.length)(O:ps.length<=L.length)
 (o:∀(f:Addr) (c:Value) (A:Around) (a:List Env) (s:Shared) (H:Hp) RR (v:V) (M:HandS) (ts:List OT) (Ψ:OT->HandS->Prop),Room k (A.deeper<|envOfC b (Q2 st) s.heap.objs.size f c)->ZS CR RR->R M ts Ψ ->
  ∃t,PSs (cx1 P w K mg base L b (Q2 st) f c A a s H<|XE CR RR) (Z9 st) t/\EvR K t (some (.own v<|Zc C M)::(ts.map some++List.replicate (L.length-(ts.length+1)) none)) (fun r B=>∃M',Ψ r M'/\B[0]?=some (some<|.own v<|Zc C M')))
 (u:∀(f:Addr) (c:Value) (A:Around) (a:List Env) (s:Shared) (F H:Hp) RR (ts:List OT) (g:G->Prop),Room k (A.deeper<|envOfC b (Q2 st) s.heap.objs.size f c)->ZS CR RR->(∀F' Z e x d,g d->Q0 F H F' Z->H e=none->FL e F' Z H x d->RR e x Z)->Y ts g ->
  ∃t,PSs (cx1 P w K mg base L b (Q2 st) f c A a s H<|XE CR RR) (Z9 st) t/\EvZ K F H t (ts.map some++List.replicate (L.length-ts.length) none)) :
 YA P w K mg base C m ps (k+1) (JG K C CR FL R Y):=by
 obtain⟨f,fd,F,hm,hb⟩:=D.ex;refine⟨f,fd,hm,hb,F.okX S (fun vs H Q E h=>?_) fun c A a s H vs Q E hr h=>?_⟩
 .rcases h with ⟨RR,_,_,F,v0,I,p,ts,M,Ψ,e,_,_,n,_,j,_⟩|⟨F,ts,_,_,n,RR,_,_,q⟩
  .rw[e,XS,n.length];exact J _ _ _ j
  .rcases q with ⟨_,z,_⟩|⟨r,j,_⟩
   .exact z.elim
   .exact n.length.trans (i ts r j)
 .rcases h with ⟨RR,X,l,F,v0,I,p,ts,M,Ψ,e,N,y,n,ok,j,q⟩|⟨F,ts,N,y,n,RR,X,l,q⟩
  .subst e X
   obtain⟨t,U,T⟩:=o f c A a s H RR v0 M ts Ψ hr l j
   exact⟨t,U,HI (R:=R) T N y n ok q⟩
  .subst X
   rcases q with ⟨_,z,_⟩|⟨g,j,q⟩
   .exact z.elim
   .obtain⟨t,U,T⟩:=u f c A a s F H RR ts g hr l q j
    exact⟨t,U,T F (start L vs) H _ (Q0.refl y)<|UQ (ps:=ps) N y n<|by rw[i ts g j];exact O⟩
def Df.evH2 {x:Str}{st:Stmt}{L ps:Qh}{k:Nat}{R:HandS->List OT->(OT->HandS->Prop)->Prop}{R2:List OT->(OT->Prop)->Prop}(D:Df K mg x st ps)(S:Qp L ps (Q2 st))(u:∀M ts Ψ,R M ts Ψ->ts.length+1=ps.length)(c:∀ts Φ,R2 ts Φ->ts.length=ps.length)(B:ps.length<=L.length)
 (j:∀(f:Addr) (b:Value) (A:Around) (a:List Env) (s:Shared) (H:Hp) (E:XK) (v:V) (M:HandS) (ts:List OT) (Ψ:OT->HandS->Prop),Room k (A.deeper<|envOfC x (Q2 st) s.heap.objs.size f b)->R M ts Ψ ->
  ∃t,PSs (Vz CX0 P w K mg base L x (Q2 st) f b A a s H E).nox (Z9 st) t/\EvR K t (some (.own v<|Zc C M)::(ts.map some++List.replicate (L.length-(ts.length+1)) none)) (fun r i=>∃Y,Ψ r Y/\i[0]?=some (some<|.own v<|Zc C Y)))
 (J:∀(f:Addr) (b:Value) (A:Around) (a:List Env) (s:Shared) (H:Hp) (E:XK) (ts:List OT) (Φ:OT->Prop),Room k (A.deeper<|envOfC x (Q2 st) s.heap.objs.size f b)->R2 ts Φ ->
  ∃t,PSs (Vz CX0 P w K mg base L x (Q2 st) f b A a s H E).nox (Z9 st) t/\Q1 K t (ts.map some++List.replicate (L.length-ts.length) none) { nx:=fun _=>Φ<|.fz .none,rt:=Φ }):QG P w K mg base x ps (k+1) (Bi K C R R2):=by
 obtain⟨f,fd,F,hm,hb⟩:=D.ex;refine⟨f,fd,hm,F.kp,hb,F.ok S (fun T H Q E h=>?_) fun b A a s H T Q E X h=>?_⟩
 .rcases h with ⟨F,U,n,p,ts,M,Ψ,e,_,_,g,_,d,_⟩|⟨F,ts,Φ,_,_,g,d,_⟩
  .rw[e,XS,g.length];exact u _ _ _ d
  .exact g.length.trans (c ts Φ d)
 .rcases h with ⟨F,U,n,p,ts,M,Ψ,e,y,l,g,o,d,q⟩|⟨F,ts,Φ,y,l,g,d,q⟩
  .subst e
   obtain⟨t,I,G⟩:=j f b A a s H E U M ts Ψ X d
   exact⟨t,I,HI (R:=R) G y l g o q⟩
  .obtain⟨t,I,G⟩:=J f b A a s H E ts Φ X d
   refine⟨t,I,G F H F (start L T) H _ (Q0.refl l) (UQ (ps:=ps) y l g<|by rw[c ts Φ d];exact B) ⟨fun O Z N i m _ e=>?_,fun O N v r' p m hp o e=>q O N v p r' e m hp o,fun _ _ _ _ _ _ z=>False.elim z,fun _ _ _ _ _ _ z=>False.elim z⟩⟩;exact q O N _ [] _ e m (by rintro _ ⟨⟩) ⟨rfl,.non⟩
end
section
variable {X:Cx}
def U8 {C:Addr}{m:Str}{a b:Pos}{o e:Expr}{es:Qi}{h:TE}{t:TA}{ps:Qh}{j k:Nat}{i:Sp}{pl:Sem Bool}(M:Zu X.prog X.w X.K X.mg X.base C m ps j i)(c:HandC X.K C)(p:Room k X.A)(s:PE X o h)(v:PA X (e::es) t)(r:j<=k:=by walk_at"j")
 (d:starEach (e::es) X.env=(false,eval e X.env)::starEach es X.env:=by rfl) (g:(backTo a<|starEach es X.env).any (·.1)=false:=by rfl)
 (n:eval (.Call (.Attribute o m b) (e::es) [] a) X.env=(do
  let l <- eval o X.env
  standAt b.atName
  let (f,first) <- holding [l] (getMethod l m pl)
  callWith a f first (backTo a<|starEach (e::es) X.env)<|backToKw a<|keywordEach [] X.env):=by rfl) :
 PE X (.Call (.Attribute o m b) (e::es) [] a) (Vs C m i [] E0 h t):=by
 obtain⟨f,w,q,u,F⟩:=M;exact Hd (pl:=pl) s c.cl q F (p.mono r) u .nil JT v d g n
def WV {C:Addr}{m:Str}{a b:Pos}{o:Expr}{d:TE}{ps:Qh}{j k:Nat}{e:Sp}{pl:Sem Bool}(M:Zu X.prog X.w X.K X.mg X.base C m ps j e)(c:HandC X.K C)(i:Room k X.A)(p:PE X o d)(n:j<=k:=by walk_at"j")
 (h:eval (.Call (.Attribute o m b) [] [] a) X.env=(do
  let g <- eval o X.env
  standAt b.atName
  let (f,first) <- holding [g] (getMethod g m pl)
  callWith a f first (backTo a<|starEach [] X.env)<|backToKw a<|keywordEach [] X.env):=by rfl) :
 PE X (.Call (.Attribute o m b) [] [] a) (Vs C m e [] E0 d QQ):=by
 obtain⟨f,r,l,q,F⟩:=M;exact SK (pl:=pl) p c.cl l F (i.mono n) q .nil JT h
noncomputable def UE {C:Addr}{m:Str}{a b:Pos}{o e:Expr}{es:Qi}{h:TE}{t:TA}{ps:Qh}{j k:Nat}{i:Sp}{E:XK}{pl:Sem Bool}(M:YA X.prog X.w X.K X.mg X.base C m ps j i)(c:HandC X.K C)(q:Room k X.A)(n:Yf (CX1 X.prog X.w) X E)(u:PE X o h)(w:PA X (e::es) t)(s:j<=k:=by walk_at"j")
 (d:starEach (e::es) X.env=(false,eval e X.env)::starEach es X.env:=by rfl) (g:(backTo a<|starEach es X.env).any (·.1)=false:=by rfl)
 (p:eval (.Call (.Attribute o m b) (e::es) [] a) X.env=(do
  let l <- eval o X.env
  standAt b.atName
  let (f,first) <- holding [l] (getMethod l m pl)
  callWith a f first (backTo a<|starEach (e::es) X.env)<|backToKw a<|keywordEach [] X.env):=by rfl) :
 PE X (.Call (.Attribute o m b) (e::es) [] a) (Vs C m i [] E h t):=by
 obtain⟨f,x,r,v,F⟩:=M;exact Hd (pl:=pl) u c.cl r F (q.mono s) v .nil n w d g p
end
section
variable {K:W.Frag}{ρ:QF}{tx:TE}{t:TA}{D:PEnds}{i j:Nat}{v:V}{C CR:Addr}{N:HandS}{m f:Str}{RR:Addr->Qj->Hp->Prop}{ts:List OT}
def J0 {α:Type}{Φ:α->OwnP}{N:α}{F0 H0 F H:Hp}{Q:St}(S:QB K H0 F ρ Q H)(x:Q0 F0 H0 F H)(e:ρ[i]?=some (some<|.own v<|Φ N)) :
 ∃p,Q[i]?=some (some v)/\(Φ N).ok K F H v p/\∀l h I G,ExtN p F H l h->(Φ G).ok K l h v I->(∀b∈I,b∈p\/H b=none) ->
  Q0 F0 H0 l h/\QB K H0 l (ρ.set i<|some<|.own v<|Φ G) Q h/\∀(q:Qg),(∀b∈q,(b∈p\/H b=none)/\b∉I)->(∀b∈q,H0 b=none)/\∀b∈q,∀(j:Nat) (u:V) (t':OT) (Y:Qg),(ρ.set i<|some<|.own v<|Φ G)[j]?=some (some t')->Q[j]?=some (some u)->Zs K l h u t' Y->b∉Y:=by
 obtain⟨kt,h1,h2,B,h3,U,d⟩:=S;obtain⟨u,e1,rfl,ok⟩:=h3 i _ e;have L:=(Xf.mp e).1;refine⟨B i,e1,ok,fun l h I G g w r=>?_⟩;have s:∀j,j≠i->∀b∈B j,b∉B i:=fun j c b a z=>c (U j i b a z)
 have hH:∀j,j≠i->∀b∈B j,h b=H b:=fun j c b a=>by
  obtain⟨o,ho⟩:=U9 (d j b a).2;rw[g.hh b o (s j c b a) ho,ho]
 have mv:∀j t' n,j≠i->Zs K F H n t' (B j)->Zs K l h n t' (B j):=fun j t' n c E=>by
  refine E.move g.ff (fun b a=>?_) (hH j c)
  cases z:l b with
  |none=>rfl
  |some o =>
    rcases g.fr b (Zt z) with y|y|y
    .exact Xm (E.there b a).1 y
    .exact Xm y (d j b a).2
    .exact Xm y (s j c b a)
 refine⟨⟨fun b o a=>g.hh b o (fun z=>by rw[(d i b z).1]at a;cases a)<|x.hh b o a,x.ff.trans g.ff,g.fh,fun b a=>?_⟩,⟨kt.mono g.ff,g.fh,by simp[h2],fun j=>if j=i then I else B j,fun j t' X=>?_,fun j k b a A=>?_,fun j b a=>?_⟩,fun q Z=>⟨fun b a=>?_,fun b a j u t' Y T R J P=>?_⟩⟩
 .rcases g.fr b a with z|z|z
  .exact x.fr b z
  .exact .inr (x.hh.free z)
  .exact .inr (d i b z).1
 .by_cases c:j=i
  .subst c
   rw[Xj L]at X;cases X;refine⟨_,e1,rfl,?_⟩;simp only[if_true];exact w
  .rw[Xo<|Ne.symm c]at X
   obtain⟨n,f1,E⟩:=h3 j t' X;refine⟨n,f1,?_⟩;simp only[Xa c];exact mv j t' n c E
 .by_cases c:j=i
  .by_cases M:k=i
   .omega
   .simp only[Xd c]at a
    simp only[Xa M]at A;rcases r b a with z|z
    .exact Xm (U k i b A z) M
    .exact Xm z (d k b A).2
  .simp only[Xa c]at a
   by_cases M:k=i
   .simp only[Xd M]at A
    rcases r b A with z|z
    .exact Xm (U j i b a z) c
    .exact Xm z (d j b a).2
   .simp only[Xa M]at A
    exact U j k b a A
 .by_cases c:j=i
  .simp only[Xd c]at a
   refine⟨?_,((Φ G).there w b a).2⟩
   rcases r b a with z|z
   .exact(d i b z).1
   .exact x.hh.free z
  .simp only[Xa c]at a
   exact⟨(d j b a).1,by rw[hH j c b a];exact(d j b a).2⟩
 .rcases(Z b a).1 with z|z
  .exact(d i b z).1
  .exact x.hh.free z
 .by_cases c:j=i
  .subst c
   rw[Xj L]at T;cases T;rw[e1]at R;cases R
   exact(Z b a).2 ((Φ G).uniq w J.2 b P)
  .rw[Xo<|Ne.symm c]at T
   obtain⟨n,f1,E⟩:=h3 j t' T;rw[f1]at R;cases R;have O:=US (K:=K) (mv j t' u c E) J b P
   rcases(Z b a).1 with z|z
   .exact s j c b O z
   .exact(d j b O).2 z
def Zc.at  (h:(Zc C N).ok K F H v p):∃a b y n k g d e,v=.ref a/\H a=some (.ins C b<|hfs y n k g d e):=by
 obtain⟨a,b,k,g,d,m,y,c,l,rfl,_,o⟩:=h
 exact⟨a,b,y,_,k,g,d,m,rfl,o.ins.2⟩
def A9   (hm:NoH m)(e:ρ[i]?=some (some<|.own v<|Zc C N))(hx:Qu K tx ρ d0)(hf:ZR d0=some w0)(hA:Z0 K t ρ ts)(hR:R N ts Ψ)(st:ZS CR RR)
 (hn:∀r c,Ψ r c->∃d w,r=.fz d/\ZR d=some w/\D.nx ((ρ.set i<|some<|.own v<|Zc C c).set j (some<|.ol [d0,d]))) :
 Q1 K (Vb (JF<|QI tx<|QI (Vs C m (Bd K C CR f R Rx) [] (XE CR RR) (Q8 i) t) QQ)<|Vc j) ρ D:=fun F0 H0 F X H E x S C' =>
 hx H0 F X H _ S fun F1 H1 u a r1=>by
  obtain⟨p0,s0,L,_⟩:=J0 (S.ext a) (x.trans a) e;obtain⟨Z,dx,y,n,k,g,d,e',rfl,h1⟩:=Zc.at L;refine⟨.ref Z,s0,Z,dx,_,rfl,h1,hm _ _ _ _ _ _,hA H0 F1 X H1 _ (S.ext a) fun F2 H2 vs h r2=>.inl ⟨RR,rfl,st,?_⟩⟩;obtain⟨p,s1,I,T⟩:=J0 (S.ext<|a.trans h) (x.trans<|a.trans h) e;refine⟨F2,_,vs++[],p,ts,N,Ψ,rfl,(S.ext<|a.trans h).kt,h.fh,by rw[XG];exact r2,I,hR,fun A s p' c v' r q hr xn M B G hq=>?_⟩;obtain⟨d,w,rfl,hfd,O⟩:=hn r c hr;obtain⟨X',o,_⟩:=T A s p' c xn M B;refine⟨YI<|Vg Je,fun z hz=>?_⟩;have l:s z=none:=hz;have U:Q0 A s A (upd s z<|.lst [u,v']):=Q0.own o.sub l;have S2:=o.ext U;refine C'.nx A _ _ _ (X'.trans U) (S2.set (t:=.ol [d0,d]) (p:=[z]) ⟨z,rfl,rfl,o.sub.free l,_,QC,.cons (r1.thin hf)<|.cons G.2 .nil⟩ (fun b Q=>?_) (hn:=fun b Q k u' t' q' m1 Y J P=>?_)) O
  .cases Xh.mp Q
   exact X'.hh.free l
  .cases Xh.mp Q
   obtain⟨fp,g1,g2,g3⟩:=o.fp;obtain⟨u2,f1,f2⟩:=g1 k t' m1;rw[f1]at Y;cases Y
   exact(g3 k z<|US (K:=K) (f2.ext U) J z P).2 l
def CM    (I:NoH m)(e:ρ[i]?=some (some<|.zow<|QY C N))(B:Qu K tx ρ d0)(P:Z0 K t ρ ts)(O:Rx (.zow (QY C N)::ts) Φx)(st:ZS CR RR)
 (G:∀n h e b d,Φx d->Q0 F0 H0 n h->H0 e=none->Fld f e n h H0 b d->RR e b h)  (x:Q0 F0 H0 F H) (S:QB K H9 F ρ σ H) :
 Vb (JF<|QI tx<|QI (Vs C m (Bd K C CR f R Rx) [] (XE CR RR) (Q8 i) t) QQ) (Vc j) E σ H :=
 B H9 F σ H _ S fun Z X u c r1=>by
  obtain⟨a,q,k,g,d,z,y,A,Q,r,U,T,p⟩:=(S.ext c).hz e;refine⟨_,T,a,q,_,rfl,c.fh _ _ p.ins,I _ _ _ _ _ _,P H9 Z σ X _ (S.ext c) fun Y H2 vs l w=>.inr ?_⟩;have o:=x.trans (c.trans l)
  exact⟨Y,_,(S.ext<|c.trans l).kt,l.fh,.zow (Ψ:=QY C N) ((QY C N).mono (K:=K) l.ff ⟨a,q,k,g,d,z,y,A,Q,r,U,rfl,p⟩)<|by rw[XG];exact w,RR,rfl,st,.inr ⟨Φx,O,fun n h e b d M s L J=>G n h e b d M (o.trans s) (o.hh.free L)<|J.back o.hh⟩⟩
end
def Bj (C:Addr):Sp:=fun e H Q _=>∃x c y,e=[.ref x,y]/\H x=some (.ins C c [])/\∀k g d m a,H k=none->H g=none->H d=none->H m=none->[x,k,g,d,m].Nodup ->
 a x=some (.ins C c<|hfs y 0 k g d m)->a k=some (.lst [])->a g=some (.lst [])->a d=some (.dK [])->a m=some (.lst [])->(∀b,b∉[x,k,g,d,m]->a b=H b)->Q .non a
def Dc (P:Program)(w:World)(K:W.Frag)(a:Str->Qf)(base:Heap)(x:Str)(C:Addr)(ps:Qh)(k:Nat):Prop :=
 ∃f b,Mk K C f/\a x=some (.ref C)/\Vu K b ps []/\FnOk P w K a base CX0 k f b ps (Bj C)
noncomputable def A8 {X:Cx} {C:Addr} {x:Str} {p a:Pos} {e:Expr} {es:Qi} {t:TA} {ps:Qh} {j k:Nat} (M:Dc X.prog X.w X.K X.mg X.base x C ps j) (d:Room k X.A) (n:PA X (e::es) t) (h:j+1<=k:=by walk_at"j") (i:Gl X x:=by rfl) (c:(x==("__debug__" : Str))=false:=by decide +kernel)
 (l:starEach (e::es) X.env=(false,eval e X.env)::starEach es X.env:=by rfl) (b:(backTo a<|starEach es X.env).any (·.1)=false:=by rfl) :
 PE X (.Call (.Name x p) (e::es) [] a) (Uu C (Bj C) [] E0 t):=by
 obtain⟨f,o,M,g,m,F⟩:=M;exact FH M F (d.mono h) i g m .nil JT n c l b
def AB {K:W.Frag}{ρ:QF}{G:TE}{C:Addr}{E:XK}{D:PyData}(h:Qu K G ρ D):EvX K (Uu C (Bj C) [] E<|QI G QQ) ρ (Zc C ⟨D,0,[],[],[],[]⟩):=fun H0 F Y H Q U q=>h H0 F Y H _ U fun X n B t Z=>fun x f s j u=>by
 have S:=U.ext t;refine⟨x,f,B,rfl,QC,fun e r l d A he hr hl hd J h1 h2 h3 h4 h5 P=>⟨rfl,?_⟩⟩
 have p:∀{b:Addr},upd (upd n f<|.own x) x (.ins C f []) b=none->n b=none/\b≠x/\b≠f:=fun{b} a=>by
  have M:b≠x:=fun z=>by rw[z,QC]at a;cases a
  rw[Qt M]at a;have L:b≠f:=fun z=>by rw[z,QC]at a;cases a
  rw[Qt L]at a;exact⟨a,M,L⟩
 obtain⟨w,e2,R⟩:=p he;obtain⟨g,r2,I⟩:=p hr;obtain⟨v,l2,N⟩:=p hl;obtain⟨y,d2,T⟩:=p hd
 have m:A f=some (.own x):=by
  rw[P f<|by simp only[Xg,XT,or_false,not_or];exact⟨u,Ne.symm R,Ne.symm I,Ne.symm N,Ne.symm T⟩,Qt u,QC]
 have O:∀b o,n b=some o->A b=some o:=fun b o a=>by
  have i:∀{c:Addr},n c=none->b≠c:=fun hc z=>by rw[z,hc]at a;cases a
  rw[P b<|by simp only[Xg,XT,or_false,not_or];exact⟨i s,i w,i g,i v,i y⟩,Qt<|i s,Qt<|i j];exact a
 have k:∀{b:Addr},n b=none->X b=none:=fun a=>S.sub.free a;refine q X A (.ref x) [x,f,e,r,l,d] (t.trans ⟨O,Q5.refl _,fun b o a=>O b o<|S.sub b o a,fun _ h=>.inl h⟩) (fun b a=>?_) ⟨x,f,e,r,l,d,B,[],[],rfl,rfl,?_,⟨k s,h1⟩,⟨k j,m⟩,Z,⟨k w,[],h2,.nil⟩,⟨k g,[],h3,.nil⟩,⟨k v,h4,.nil⟩,⟨k y,h5,.nil⟩⟩
 .refine t.hh.free ?_
  simp only[Xg,XT,or_false]at a;rcases a with rfl|rfl|rfl|rfl|rfl|rfl
  .exact s
  .exact j
  .exact w
  .exact g
  .exact v
  .exact y
 .simp only[Xt,Xg,XT,or_false,not_or,not_false_eq_true,JD,and_true]at J ⊢
  obtain⟨⟨a1,a2,a3,a4⟩,b1,c1,f1⟩:=J
  exact⟨⟨Ne.symm u,a1,a2,a3,a4⟩,⟨Ne.symm R,Ne.symm I,Ne.symm N,Ne.symm T⟩,b1,c1,f1⟩
section
variable {X:Cx}{XaV:Qc}{σ:St}{H:Hp}{s:Shared}
def Om    (Z:Qr X XaV σ H s)(hN:X.N.Nodup)(O:X.N[i]?=some x)(G:X.env.scope.names.lookup x=some .cell)(t:X.fn x=true)
 (h:∀s',Qr X XaV (σ.set i none) H s'->Q () s'):wpAny M A (do bindName X.env x .none;unbindBehindTheSuite X.env x pos) Q E s:=by
 have B:i<σ.length:=by rw[Z.len];exact(Xf.mp O).1
 refine Xc (wpAny_bindName<|BI (v:=.non) Z hN O (.inr G) rfl (fun s I=>?_)<|.inl t);obtain⟨m,hn,hl⟩:=id I.loc;have hiσ:i<(σ.set i<|some V.non).length:=by simpa using B
 have Y:=I.cne;obtain⟨c,f⟩:=I.ok.has x (.inl G)
 have S:s.heap.IsCell c (some .none):=by
  obtain⟨u,ru,q⟩:=hl i x .non O (by rw[Xj B]) (.inr<|.inl G)
  cases ru
  rcases q with ⟨k,_⟩|⟨k,L,e,z⟩
  .have z:=G.symm.trans k;cases z
  .rw[f]at e;cases e;exact z
 have g:∀{a:Addr} {P:Heap},(∃o,s.heap.get? a=some o/\H a=none)->Heap.SameBut a s.heap P->HOk X.prog X.w H P:=fun{a P} ha l b ob e=>by
  obtain⟨_,_,r⟩:=ha;refine(I.hok b ob e).stay (fun c w' f q=>(l.2 c ?_).trans q) (fun _ q=>q) fun _ _ q=>q
  rintro rfl
  rcases f with rfl|f
  .rw[r]at e;cases e
  .rw[r]at f;cases f
 unfold unbindBehindTheSuite;refine wpAny_onRaise ?_;unfold unbindName;refine Xc (wpAny_point<|Xc ?_);unfold deleteName;have T:X.env.kindOf x=some .cell:=G;simp only[T];refine Xc (wpAny_cellOf f<|Xc<|wpAny_cellGet S ?_);simp only[Option.isSome_some,if_true];refine wpAny_cellSet S fun P U l=>?_;obtain⟨oc,F,D⟩:=id S;refine wpAny_point (h _ ⟨I.ok,I.os,I.bare,⟨fun b o e n W w=>?_,fun b o e n W w=>?_,I.base.free,fun b o e w=>?_,I.base.tups,I.base.frzs,fun b xs o q e w=>(l.2 b<|Xu<|Xr (Xk e)<|I.ok.cab x c t f).trans (I.base.tupo b xs o q e w),I.base.tbls⟩,⟨m,hn.sameBut l<|Ne.symm<|Y x c f,fun j y v' C R e3=>?_⟩,fun y L e=>?_,I.free,I.freeC,fun p hp=>?_,g ⟨oc,F,I.freeC x c f⟩ l,by simpa using Z.len⟩)
 .exact(l.2 b<|Xu<|Xr (Xk e)<|I.ok.cab x c t f).trans (I.base.keep b o e n W w)
 .obtain⟨sl,C⟩:=I.base.slot b o e n W w
  exact⟨sl,(l.2 b<|Xu<|Xr (Xk e)<|I.ok.cab x c t f).trans C⟩
 .obtain⟨o',C⟩:=I.base.there b o e w
  exact⟨o',(l.2 b<|Xu<|Xr (Xk e)<|I.ok.cab x c t f).trans C⟩
 .by_cases N:j=i
  .subst N
   rw[Xj B]at R;cases R
  .rw[Xo<|Ne.symm N]at R
   obtain⟨u',r',q⟩:=hl j y v' C (by rw[Xo<|Ne.symm N];exact R) e3;refine⟨u',r',?_⟩
   rcases q with q|⟨k,L,e,z'⟩
   .exact .inl q
   .refine .inr ⟨k,L,e,z'.sameBut l ?_⟩
    rintro rfl
    exact N (Mc hN C<|I.ok.inj _ _ _ e f▸O)
 .by_cases J:L=c
  .subst J;exact⟨_,U⟩
  .obtain⟨w2,z2⟩:=I.cell y L e
   exact⟨w2,z2.sameBut l J⟩
 .obtain⟨e,n,ne,nf,d⟩:=I.pin p hp
  refine⟨(l.2 p.1 ?_).trans e,n,ne,nf,d⟩;intro q;rw[q,F]at e;have q':oc=p.2:=Option.some.inj e;exact d _ (by rw[<- q'];exact D)
end
def EHc (C:Addr)(th:Addr->TS)(D:Ends)(n j:Nat):XK:=XE C fun e a H=>∀(b:St) H' T,b.length=n->Lefts C e a H H'->H' T=none->T≠e->th e (Dh D j) (b.set j<|some<|.ref e) (left C e a T H')
def HP {C:Addr}{th:Addr->TS}{D:Ends}{n j:Nat}:ZS C fun e a H=>∀(c:St) b T,c.length=n->Lefts C e a H b->b T=none->T≠e->th e (Dh D j) (c.set j<|some<|.ref e) (left C e a T b):=fun _ _ _ _ r hT d c b h f g=>r c b h f (.head hT d g)
section
variable {X:Cx}{C B:Addr}{th:Addr->TS}{tb:Ends->TS}{body suite:List Stmt}{b0:Stmt}{x n:Str}{j:Nat}{np hpos pos:Pos}{rest:List ExceptHandler}
def Ij   {g:St}  (cm:W.exmOne X.K (.ref C) (.ref B)=some true)(b:X.Ok)(a:X.stack=X.env::X.outer)(o:X.env.frame=some X.env.locals)(hg:Gl X x)(hm:X.mg x=some (.ref B))
 (w:X.N.Nodup) (m:X.N[j]?=some n) (c:X.env.scope.names.lookup n=some .local\/(X.env.scope.names.lookup n=some .cell/\X.fn n=true))
 (hh:∀e pn,PSs (WR X e pn) (b0::suite)<|th e) (I:Qr { X with pn:=X.pn++XaV } [] g H s) (t:T0≠e) (M:H e=some (.ext<|phF C e dct T0)) (hT:H T0=some (.ext<|phT T0))
 (hd:(x==("__debug__" : Str))=false)
 (hq:∀T,H T=none->T≠e->th e (Dh D j) (g.set j<|some<|.ref e) (left C e dct T H)) (N:∀f L,SP X XaV D f L->Q f L) :
 wpAny (model X.prog X.w) X.A (noteFrame (.ref e) X.env) (fun _ s2=>wpAny (model X.prog X.w) X.A (setFlight (.ref e) none) (fun _ i=>wpAny (model X.prog X.w) X.A (handleBy (.ref e) X.env (.ExceptHandler (some<|.Name x np) (some n) (b0::suite) hpos::rest)) Q E i) E s2) E s:=by
 obtain⟨⟨vs,sl,l,O,y⟩,_,_⟩:=I.hok e _ M;obtain⟨⟨oT,ts,k,A,h3⟩,_,_⟩:=I.hok T0 _ hT;have fr:X.A.frames=some (X.env::X.outer):=by rw[b.frames,a]
 have F:=I.stack;have F:s.heap.FunFrames X.base (X.env::X.outer):=by rw[<- a];exact F
 refine Tq fr F o l rfl O t k A h3 fun P T Z=>?_;have J:=Ki I (by rw[M];trivial) l (Array.getElem?_eq_some_iff.mp O).1 y (by show Leaves X.stack _ _ _ _ _;rw[a];exact Z);have r:H T=none:=I.hok.fresh Z.new;have d:T≠e:=Yh (Xr (Xk l) Z.new);have h:Qr (WR X e<|X.pn++XaV) [] g (left C e dct T H) { s with heap:=P }:=J.toHandler;refine wpAny_handleBy_cons (codeAny_handlers_test<|Jw h hg hm ?_ hd) (by intro q;cases q);have LT:W.Looks (model X.prog X.w) P (typeOf<|.ref e) (.ref C):=(W.Looks.ld Z.exc).andThen .now;refine(W.exm_one J.kIn LT cm).here (codeAny_handlers_suite_as ?_);have o1:left C e dct T H e=some (.ext<|phF C e dct T):=by unfold left;rw[Qt<|Ne.symm d,QC]
 have o2:left C e dct T H T=some (.ext<|phT T):=by unfold left;rw[QC]
 obtain⟨p1,_,_⟩:=h.hok e _ o1;obtain⟨p2,_,_⟩:=h.hok T _ o2;refine O4 p1 p2 fun A k2=>?_;have J2:Qr (WR X e<|X.pn++XaV) [] g (left C e dct T H) { s with heap:=A }:=h.kept (t':=s.toks) k2;refine BI (X:=WR X e (X.pn++XaV)) J2 w m (c.imp id And.left) (v:=.ref e) rfl (fun i J3=>?_) (c.symm.imp And.right id);refine wpAny_mono (hh e _ [] i _ _ (Dh D j) J3<|hq T r d) (fun fl s4 z=>?_) fun _ _ z=>False.elim z
 cases fl with
 |next =>
   obtain⟨U,S,R,q⟩:=z
   rcases c with c|⟨c,p⟩
   .exact EL (X:=WR X e (X.pn++XaV)) R w m c fun Y G=>N _ _ ⟨_,S,(G.ofHandler b).ofPn,q⟩
   .exact Om (X:=WR X e (X.pn++XaV)) R w m c p fun Y G=>N _ _ ⟨_,S,(G.ofHandler b).ofPn,q⟩
 |ret u=>obtain⟨_,_,_,_,_,z⟩:=z;exact False.elim z
 |brk=>obtain⟨_,_,_,z⟩:=z;exact False.elim z
 |cont=>obtain⟨_,_,_,z⟩:=z;exact False.elim z
def Ka (O:W.exmOne X.K (.ref C) (.ref B)=some true)(i:X.stack=X.env::X.outer)(k:X.env.frame=some X.env.locals)(E:Gl X x)(t:X.mg x=some (.ref B))
 (M:X.N.Nodup) (y:X.N[j]?=some n) (w:X.env.scope.names.lookup n=some .local\/(X.env.scope.names.lookup n=some .cell/\X.fn n=true))
 (L:∀D g,PSs (D9 X (EHc C th D X.N.length j) g) body<|tb D) (A:∀e g,PSs (WR X e g) (b0::suite)<|th e) (G:(x==("__debug__" : Str))=false:=by decide) :
 PS X (.Try body (.ExceptHandler (some<|.Name x np) (some n) (b0::suite) hpos::rest) [] [] pos) (Bg tb):=by
 intro c s m H D I h;have P:Qr (D9 X (EHc C th D X.N.length j)<|X.pn++c) [] m H s:=I.toPn.wish _;refine wpAny_Try_except (wpAny_mono (L D (X.pn++c) [] s m H D P h) (fun o p q=>?_) fun v p q=>?_)
 .have d:=SP.ofPn q
  cases o with
  |next=>exact wpAny_execs_nil d
  |ret u=>exact d
  |brk=>exact d
  |cont=>exact d
 .obtain⟨f,S,N,J,e,rfl,⟨R,l,F,hT⟩,r⟩:=q
  exact Ij O I.ok i k E t M y w A J l F hT G (fun T a b=>r f _ T J.len .nil a b) fun o Q z=>z
end
end L2
end
namespace L2
open PySem PySem.Spec PyProof.Rows
section
variable {K:W.Frag}{ρ:QF}{d:PyData}
def QB.freezeO   (hz:∀{p:Qg},Φ.ok K F H v p->Rep (frF F H p) v d)(s:QB K H0 F ρ σ H)(e:ρ[i]?=some (some<|.own v Φ)) :
 ∃p,(∀a∈p,F a=none/\H a≠none/\H0 a=none)/\QB K H0 (frF F H p) (ρ.set i<|some<|.fz d) σ H:=by
 obtain⟨C,E,D,o,y,x,w⟩:=s;obtain⟨u,J,rfl,r⟩:=y i _ e;have m:=(Xf.mp e).1;have l:=fun a f=>Φ.there r a f;have q:Q5 F (frF F H<|o i):=W3 fun a f=>(l a f).1;refine⟨o i,fun a f=>⟨(l a f).1,(l a f).2,(w i a f).1⟩,C.mono q,GE E,by simp[D],fun j=>if j=i then [] else o j,fun j B h=>?_,fun j k b g n=>?_,fun j b g=>?_⟩
 .by_cases c:j=i
  .subst c
   rw[Xj m]at h;cases h;refine⟨_,J,?_,hz r⟩;dsimp only;rw[Xd rfl]
  .rw[Xo<|Ne.symm c]at h
   obtain⟨A,I,G⟩:=y j B h;refine⟨A,I,?_⟩;dsimp only;rw[Xa c];exact G.frOther q fun a f z=>c (x j i a f z)
 .by_cases c:j=i
  .simp[c]at g
  .by_cases t:k=i
   .simp[t]at n
   .simp only[Xa c]at g
    simp only[Xa t]at n;exact x j k b g n
 .by_cases c:j=i
  .simp[c]at g
  .simp only[Xa c]at g
   exact w j b g
end
end L2
section
namespace L2
open PySem PySem.Spec PyProof.Rows
noncomputable def lsO (d0:PyData)(ds:Qd):OwnP where
 ok K F H v p := ∃a b x,v=.ref a/\p=[a,b]/\a≠b/\F a=none/\H a=some (.lst [x,.ref b])/\Rep F x d0/\Vm F H b ds
 there:=by
  rintro K F H v p ⟨a,b,x,rfl,rfl,_,m,d,_,l,i,g,_⟩ c f
  simp only[Xg,XT,or_false]at f;rcases f with rfl|rfl
  .exact⟨m,Zt d⟩
  .exact⟨l,Zt g⟩
 mono:=by
  rintro K F A H y v p s k j ⟨a,b,x,rfl,rfl,n,m,d,r,l,i,g,o⟩
  exact⟨a,b,x,rfl,rfl,n,k _<|by simp,by rw[j _<|by simp];exact d,r.mono s,k _<|by simp,i,by rw[j _<|by simp];exact g,o.mono s⟩
 uniq:=by
  rintro K F H v p q ⟨a,b,x,rfl,rfl,_,_,d,_⟩ ⟨w,u,t,e,rfl,_,_,h,_⟩ c f
  cases e
  have z:=d.symm.trans h;simp only[Option.some.injEq,HO.lst.injEq,List.cons.injEq,V.ref.injEq,and_true]at z;rw[z.2];exact f
section
variable {K:W.Frag}{ρ:QF}{D:PEnds}{i j:Nat}{d0:PyData}{ds:Qd}{C:Addr}{f:Str}
def AO (Q:i≠j)(hi:ρ[i]?=some (some<|.ol [d0]))(h:ρ[j]?=some (some<|.own (.ref e)<|Jd C f ds e dx q))(hn:∀v,D.nx<|(ρ.set j none).set i (some<|.own v<|lsO d0 ds)) :
 Q1 K (Vt<|tBM K "list" VV (Q8 i)<|QI (tXG C (Q8 j) f) QQ) ρ D:=fun F0 H0 F σ H E x S c=>by
 obtain⟨kt,s1,s2,I,U,p,M⟩:=id S;obtain⟨u,Z,a,rfl,ui,X,xs,R,ra⟩:=U i _ hi;obtain⟨w,w1,rfl,wp,⟨f1,f2,f3⟩,⟨T,hT⟩,hd,ys,hq,rq⟩:=U j _ h;have P:=(Xf.mp hi).1;have O:=(Xf.mp h).1;have J:a∈I i:=by rw[ui];exact Xb
 have L:q∈I j:=by rw[wp];simp
 have B:a≠q:=fun z=>Q (p i j a J<|z▸L);have a0:=(M i a J).1;have q0:=(M j q L).1
 obtain⟨A,rfl,r0⟩:∃A,xs=[A]/\Rep F A d0:=by
  cases ra with
  |cons r1 r2=>cases r2;exact⟨_,rfl,r1⟩
 refine⟨.ref a,Z,.inl ⟨rfl,_,SqL.of R⟩,.ref e,w1,e,dx,T,.ref q,rfl,hT,hd,a,[A],.ref q,rfl,rfl,R,Vg Jb,?_⟩;refine c.nx F σ _ _ (x.wr a0 X) ⟨kt,s1.upd X,by simp[s2],fun k=>if k=i then [a,q] else if k=j then [] else I k,fun k t r=>?_,fun k l b d hc=>?_,fun k b d=>?_⟩ (hn<|.ref a)
 .by_cases g:k=i
  .subst g
   rw[Xj<|by simpa using P]at r;cases r;refine⟨.ref a,Z,rfl,a,q,A,rfl,?_,B,X,QC,r0,f3,ys,by rw[Qt<|Ne.symm B];exact hq,rq⟩
   simp
  .rw[Xo<|Ne.symm g]at r
   by_cases o:k=j
   .subst o
    rw[Xj O]at r;cases r
   .rw[Xo<|Ne.symm o]at r
    obtain⟨v',g1,g2⟩:=U k t r;refine⟨v',g1,?_⟩;simp only[Xa g,Xa o];exact g2.other fun z=>g (p k i a z J)
 .have n:∀k b,b∈(if k=i then [a,q] else if k=j then [] else I k)->(k=i/\(b=a\/b=q))\/(k≠i/\k≠j/\b∈I k):=fun k b g=>by
   by_cases z:k=i
   .rw[Xd z]at g;exact .inl ⟨z,by simpa using g⟩
   .rw[Xa z]at g
    by_cases m:k=j
    .rw[Xd m]at g;cases g
    .rw[Xa m]at g;exact .inr ⟨z,m,g⟩
  rcases n k b d with ⟨N,G⟩|⟨N,z2,G⟩
  .rcases n l b hc with ⟨y,_⟩|⟨y,Y,s⟩
   .rw[N,y]
   .rcases G with rfl|rfl
    .exact Xm (p l i _ s J) y
    .exact Xm (p l j _ s L) Y
  .rcases n l b hc with ⟨y,s⟩|⟨y,Y,s⟩
   .rcases s with rfl|rfl
    .exact Xm (p k i _ G J) N
    .exact Xm (p k j _ G L) z2
   .exact p k l b G s
 .refine⟨?_,VD b ?_⟩
  .by_cases z:k=i
   .simp only[Xd z,Xg,XT,or_false]at d
    rcases d with rfl|rfl
    .exact a0
    .exact q0
   .simp only[Xa z]at d
    by_cases m:k=j
    .simp[m]at d
    .simp only[Xa m]at d
     exact(M k b d).1
  .by_cases z:k=i
   .simp only[Xd z,Xg,XT,or_false]at d
    rcases d with rfl|rfl
    .exact Zt R
    .exact Zt hq
   .simp only[Xa z]at d
    by_cases m:k=j
    .simp[m]at d
    .simp only[Xa m]at d
     exact(M k b d).2
structure TF (K:W.Frag)(mg:Str->Qf)(Y C cg ct:Addr):Prop where
 em:W.exmOne K (.ref C) (.ref Y)=some true
 my:mg "YardError"=some (.ref Y)
 gt:TC K C
 na:VB K C "some"
 is:Ni K C
 k1:W.kitOne K (.ref C) (.ref C)=some true
 k2:W.kitOne K (.ref C) (.type "ValueError")=some true
 kg:W.kitOne K (.ref C) (.ref cg)=some false
 kt:W.kitOne K (.ref C) (.ref ct)=some false
 m1:mg "NoGuest"=some (.ref cg)
 m2:mg "NoTime"=some (.ref ct)
end
end L2
end
section
set_option maxHeartbeats 400000
namespace L2
open PySem PySem.Spec PyProof.Rows
section
variable {X:Cx}
def NL (X:Cx):List V->Hp->VK->Prop:=fun c H Q=>X.calm=true/\∃(x:V) (b:Ql) (M:Int),c=[x]/\Rep H x (.list<|b.map PyData.int)/\M∈b/\(∀a∈b,a<=M)/\Q (.int M) H
def Cs:Z7 X (.builtin "max") (NL X):=by
 intro Y s Z H xs us Q I r h;obtain⟨R,x,c,M,rfl,N,B,d,q⟩:=h;obtain⟨u,rfl,G⟩:=YD r
 cases N with
 |@lst l ys _ S L =>
   cases G
   have U:=GV L;subst U;obtain⟨a,J,p,hz⟩:=I.list (SqL.of (K:=X.K) S);have o:=p.isList;have y:=Mp J;have E:a.length=c.length:=y.length;have D:0<c.length:=MA.mpr fun z=>by rw[z]at B;cases B
   have f:l<s.heap.objs.size:=by obtain⟨_,e,_⟩:=o;exact Xk e
   refine call_max_walk (wpAny_pyIter_list o ?_)
   refine⟨s.heap.objs.size,[s.heap.objs.size,l],[s.heap.objs.size],a.toArray.size,_,_,_,rfl,Walks.list (A:=X.A.in1) (I.ok.hd R) _ l (Xu f) a.toArray,
    ⟨⟨_,XF _ rfl,rfl,rfl⟩,o.push _⟩,fun b g=>?_,by simp only[XD];omega,CmpOf.ints_gt (fun i=>c.getD i 0) (fun i v m=>Jx y<|by simpa using m),fun v h' tk m O=>?_⟩
   .show b<(s.heap.push _).objs.size
    rw[W9];rcases Xg.mp g with rfl|g
    .exact WY _
    .rcases Xg.mp g with rfl|g
     .exact UZ f
     .cases g
   .rw[List.getElem?_toArray]at m
    obtain⟨t,rfl⟩:=Jx y m;obtain⟨F,C⟩:=argBest_gt (fun i=>c.getD i 0) (a.toArray.size-1);have n:a.toArray.size=a.length:=by simp
    generalize argBest (fun i j=>decide (c.getD i 0 > c.getD j 0)) (a.toArray.size-1)=k at F C ⊢;rw[n]at F C;have w:k<c.length:=by omega
    have W:c.getD k 0=M:=by
     have T:c.getD k 0∈c:=by simp[w]
     have h2:=d _ T;obtain⟨j,P,e⟩:=Gb.mp B;have h3:=C j (by omega);have h4:c.getD j 0=M:=by simp[P,e]
     omega
    exact⟨.int M,H,I.kept<|DR O,⟨t,by rw[W]⟩,q⟩
end
section
variable {K:W.Frag}{ρ:QF}{ta:TE}{D:PEnds}
def Cy {ns:Ql}(h:Qu K ta ρ (.list<|ns.map PyData.int))(f:X.calm=true)(g:M∈ns)(e:∀a∈ns,a<=M):Qu K (tCB (NL X)<|QI ta QQ) ρ (.int M):=fun j F c H Q S q =>
 h j F c H _ S fun k i v b d=>⟨f,v,ns,M,rfl,d.mono b.fh,g,e,q k i _ b<|.int _⟩
def LC (J:QF->Prop)(h:Q1 K t ρ { nx:=J,ct:=D.ct,bk:=D.bk,rt:=D.rt })(k:∀a,J a->D.nx a):Q1 K t ρ D:=fun j g F c H E x S C =>
 h j g F c H E x S ⟨fun l b i a d f e=>C.nx l b i a d f<|k a e,C.rt,C.bk,C.ct⟩
end
def olP (ds:Qd):OwnP where
 ok K F H v p := ∃a,v=.ref a/\p=[a]/\Vm F H a ds
 there:=by
  rintro K F H v p ⟨a,rfl,rfl,g,f,d,_⟩ c b
  cases Xh.mp b
  exact⟨g,Zt d⟩
 mono:=by
  rintro K F m H l v p s i h ⟨a,rfl,rfl,g,f,d,j⟩
  exact⟨a,rfl,rfl,i _<|by simp,f,by rw[h _<|by simp];exact d,j.mono s⟩
 uniq:=by
  rintro K F H v p q ⟨a,rfl,rfl,_⟩ ⟨k,e,rfl,_⟩ c b
  cases e
  exact b
def EvW (K:W.Frag)(t:TE)(ρ:QF)(i:Nat)(Θ:Int->OT->Prop):Prop := ∀(e a F:Hp) (b:St) (H:Hp) (Q:VK),Q0 e a F H->QB K a F ρ b H ->
 (∀d c n o,Θ n o->Q0 e a d c->Q5 F d->QB K a d (ρ.set i<|some o) b c->Q (.int n) c)->t b H Q
section
variable {K:W.Frag}{ρ:QF}{ta te tb:TE}{t:TA}{D:PEnds}{i j:Nat}{v:V}{ds:Qd}{ts:List OT}{Θ:Int->OT->Prop}
def olP.frz  (b:(olP ds).ok K F H v p):Rep (frF F H p) v (.list ds):=by
 have c:Q5 F (frF F H p):=W3 fun a d=>((olP ds).there b a d).1;obtain⟨a,rfl,rfl,h,g,f,e⟩:=b;exact .lst (by rw[Jt<|by simp];exact f) (e.mono c)
def S8  (i:Nat)(e:ρ[i]?=some (some<|.own v<|olP ds))(g:ZR d=some u)(h:Qu K te (ρ.set i<|some<|.fz<|.list ds) d):Qu K te ρ d:=fun l F f H Q S q=>by
 obtain⟨p,b,k⟩:=S.freezeO olP.frz e;exact h l _ f H Q k fun n m v x r=>q _ m v (WU (fun a c=>⟨(b a c).1,(b a c).2.1⟩) x) (r.thin g)
def Kc  (e:ρ[i]?=some (some<|.own v<|olP ds))(h:Qu K te ρ d)(J:Qu K tb ρ (.int k))(I:ixN ds.length k=some j)(hn:D.nx (ρ.set i<|some<|.own v<|olP<|ds.set j d)) :
 Q1 K (Vb te<|Bm (Q8 i) tb JO) ρ D:=fun F0 q F g H E x S C =>
 h q F g H _ S fun P N u b B=>by
  obtain⟨M,p,⟨a,rfl,rfl,Y,Q,X,U⟩,Z,_⟩:=(S.ext b).writeOwn e;refine⟨_,M,J q P g N _ (S.ext b) fun O H2 y f A=>?_⟩
  cases A
  obtain⟨_,T,⟨a',L,rfl,R,s,G,o⟩,m,w⟩:=(S.ext<|b.trans f).writeOwn e
  cases L
  obtain⟨r,l,_⟩:=m a Xb;refine⟨a,s,k,j,rfl,rfl,G,by rw[o.length];exact I,?_⟩;exact C.nx O g _ _ ((x.trans<|b.trans f).wr r l) (w _ (olP<|ds.set j d) [a] ((S.ext<|b.trans f).sub.upd l) (fun c n _=>Qt fun z=>n<|by rw[z];exact Xb) VD ⟨a,rfl,rfl,l,_,QC,o.set (B.mono f.ff) j⟩ fun c n=>.inl n) hn
def Cg {a:Type}{Φ:a->OwnP}{N:a}{R:a->List OT->(OT->a->Prop)->Prop}{Ψ:OT->a->Prop}{O:XK}(e:ρ[i]?=some (some<|.own v<|Φ N))(G:Z0 K t ρ ts)(E:R N ts Ψ)(hn:∀r c,Ψ r c->∃n,r=.fz (.int n)/\Θ n (.own v<|Φ c)) :
 EvW K (Yk (spP K Φ R) [] O<|QI (Q8 i) t) ρ i Θ:=fun F0 L F u H Q x S q=>by
 obtain⟨X,y,_⟩:=J0 S x e;refine⟨_,y,G L F u H _ S fun M Z w b A=>?_⟩;obtain⟨p,T,g,l⟩:=J0 (S.ext b) (x.trans b) e;refine⟨M,v,w++[],p,ts,N,Ψ,rfl,(S.ext b).kt,b.fh,by rw[XG];exact A,g,E,fun s o B c P r U C m h d f Y=>?_⟩;obtain⟨n,rfl,k⟩:=hn r c C;obtain⟨I,J,_⟩:=l s o B c m h d;obtain⟨_,z⟩:=f
 cases z
 exact q s o n _ k I (b.ff.trans m.ff) J
def G6 {s:TE->TS}(hw:EvW K te ρ i Θ)(h:∀(H0 F:Hp) (a:St) (H:Hp) (E:Ends),QB K H0 F ρ a H->(∀Q:VK,(∀n d,s (tC<|.int n) E a d->Q (.int n) d)->te a H Q)->s te E a H)
 (hn:∀n o,Θ n o->Q1 K (s<|tC<|.int n) (ρ.set i<|some o) D):Q1 K (s te) ρ D:=fun f H0 F a H E x S c =>
 h H0 F a H E S fun Q k=>hw f H0 F a H Q x S fun m e n o b g _ l=>k n e (hn n o b f H0 m a e E g l c)
def Pu (B:Qu K ta ρ (.list ds))(hw:EvW K te ρ i Θ)(hn:∀n o,Θ n o->∃d,atI ds n=some d/\D.nx ((ρ.set i<|some o).set j (some<|.fz d))):Q1 K (Vb (tOp (rIx K) ta te)<|Vc j) ρ D:=fun J m F g H E x S c =>
 B m F g H _ S fun I C u h w=>hw J m I g C _ (x.trans h) (S.ext h) fun L G n o b s k l=>by
  obtain⟨d,e,f⟩:=hn n o b
  cases w with
  |@lst a r _ A y =>
    obtain⟨z,q,p⟩:=UG (y.mono k) e;exact .inl ⟨a,r,n,z,rfl,rfl,SqL.of<|l.sub _ _<|k _ _ A,q,c.nx L _ G _ s (l.setF p) f⟩
end
section
variable {P:Program}{w:World}{K:W.Frag}{mg:Str->Qf}{base:Heap}
def Df.evP {c:Type}{Φ:c->OwnP}{x:Str}{st:Stmt}{L ps:Qh}{k:Nat}{R:c->List OT->(OT->c->Prop)->Prop}(D:Df K mg x st ps)(S:Qp L ps (Q2 st))(j:∀M ts Ψ,R M ts Ψ->ts.length+1=ps.length)
 (d:∀(f:Addr) (b:Value) (A:Around) (a:List Env) (s:Shared) (H:Hp) (E:XK) (v:V) (M:c) (ts:List OT) (Ψ:OT->c->Prop),Room k (A.deeper<|envOfC x (Q2 st) s.heap.objs.size f b)->R M ts Ψ ->
  ∃t,PSs (Vz CX0 P w K mg base L x (Q2 st) f b A a s H E).nox (Z9 st) t/\EvR K t (some (.own v<|Φ M)::(ts.map some++List.replicate (L.length-(ts.length+1)) none)) (fun r g=>∃o,Ψ r o/\g[0]?=some (some<|.own v<|Φ o))):QG P w K mg base x ps (k+1) (spP K Φ R):=by
 obtain⟨f,O,F,G,I⟩:=D.ex;refine⟨f,O,G,F.kp,I,F.ok S (fun u H Q E h=>?_) fun b A a s H u Q E C h=>?_⟩
 .obtain⟨F,n,i,p,ts,M,Ψ,e,_,_,l,_,m,_⟩:=h
  rw[e,XS,l.length];exact j _ _ _ m
 .obtain⟨F,n,i,p,ts,M,Ψ,e,B,y,l,z,m,q⟩:=h
  subst e;obtain⟨t,N,J⟩:=d f b A a s H E n M ts Ψ C m
  exact⟨t,N,HI (R:=R) J B y l z q⟩
end
section
variable {X:Cx}
def Rc (X:Cx):List V->Hp->VK->Prop:=fun c H Q=>X.calm=true/\∃(x:V) (b:Ql) (M:Int),c=[x]/\Rep H x (.tuple<|b.map PyData.int)/\M∈b/\(∀a∈b,a<=M)/\Q (.int M) H
def FU:Z7 X (.builtin "max") (Rc X):=by
 intro W s Y H xs us Q I r h;obtain⟨P,x,c,M,rfl,L,y,d,q⟩:=h;obtain⟨u,rfl,F⟩:=YD r
 cases L with
 |@tup l Z _ R J =>
   cases F
   have T:=GV J;subst T;obtain⟨a,G,o,hz⟩:=I.tuple (SqT.of (K:=X.K) R);have w:=Mp G;have D:a.length=c.length:=w.length;have C:0<c.length:=MA.mpr fun z=>by rw[z]at y;cases y
   have f:l<s.heap.objs.size:=by obtain⟨_,e,_⟩:=o;exact Xk e
   refine call_max_walk (wpAny_pyIter_tuple o ?_)
   refine⟨s.heap.objs.size,[s.heap.objs.size,l],[s.heap.objs.size],a.toArray.size,_,_,_,rfl,Walks.tuple (A:=X.A.in1) (I.ok.hd P) _ l (Xu f) a.toArray,
    ⟨⟨_,XF _ rfl,rfl,rfl⟩,o.push _⟩,fun b g=>?_,by simp only[XD];omega,CmpOf.ints_gt (fun i=>c.getD i 0) (fun i v m=>Jx w<|by simpa using m),fun v h' tk m N=>?_⟩
   .show b<(s.heap.push _).objs.size
    rw[W9];rcases Xg.mp g with rfl|g
    .exact WY _
    .rcases Xg.mp g with rfl|g
     .exact UZ f
     .cases g
   .rw[List.getElem?_toArray]at m
    obtain⟨t,rfl⟩:=Jx w m;obtain⟨E,B⟩:=argBest_gt (fun i=>c.getD i 0) (a.toArray.size-1);have n:a.toArray.size=a.length:=by simp
    generalize argBest (fun i j=>decide (c.getD i 0 > c.getD j 0)) (a.toArray.size-1)=k at E B ⊢;rw[n]at E B;have p:k<c.length:=by omega
    have U:c.getD k 0=M:=by
     have S:c.getD k 0∈c:=by simp[p]
     have h2:=d _ S;obtain⟨j,O,e⟩:=Gb.mp y;have h3:=B j (by omega);have h4:c.getD j 0=M:=by simp[O,e]
     omega
    exact⟨.int M,H,I.kept<|DR N,⟨t,by rw[U]⟩,q⟩
def C4 {K:W.Frag}{ρ:QF}{c:TE}{ns:Ql}{M:Int}(h:Qu K c ρ (.tuple<|ns.map PyData.int))(g:X.calm=true)(i:M∈ns)(f:∀a∈ns,a<=M):Qu K (tCB (Rc X)<|QI c QQ) ρ (.int M):=fun k F d H Q S q =>
 h k F d H _ S fun l j v b e=>⟨g,v,ns,M,rfl,e.mono b.fh,i,f,q l j _ b<|.int _⟩
end
def ZhN:entryFor table "proto.unchain"=some Builtin.«proto.unchain» := entryFor_of_tree (by kernel_rfl)
section
variable {prog:Program}{w:World}{A:Around}{E:Qb}{s:Shared}
def Ov {it e:Addr}{x left step:Int}{g:Obj}{vs:Array Value}{Q:Qf->Shared->Prop}(l:A.handled=some (.ref e))(c:IsRangeIter s.heap it x left step)(d:left<=0)(n:s.heap.get? e=some g)(r:g.data=.fields vs)(u:vs[2]?=some .none)
 (t:∀h',Heap.ExtBut it s.heap h'->Q none { s with heap:=h' }):wpAny (model prog w) A (pyNext<|.ref it) Q E s:=by
 have hT:s.TypeIs (.ref it) "range_iterator" := ⟨_,c,rfl⟩
 unfold pyNext;refine Xc (wpAny_attempt (wpAny_callSpecial?_slot (name:=Str.ofString "__next__") hT F.slot_range_iterator_next
  (wpAny_call_entry F.slot_range_iterator_next hT F.entry_range_iterator_next ?_<|F.args_range_iterator_next_1 _)))
 show wpAny _ _ (field (.ref it) 0 >>= _) _ _ s;refine Xc (JC c rfl (x:=rawInt x) rfl ?_);show wpAny _ _ (field (.ref it) 1 >>= _) _ _ s;refine Xc (JC c rfl (x:=rawInt left) rfl ?_);show wpAny _ _ (field (.ref it) 2 >>= _) _ _ s;refine Xc (JC c rfl (x:=rawInt step) rfl ?_);show wpAny _ _ (if left<=0 then _ else _) _ _ s;rw[Xd d];refine Xc (wpAny_rule ?_);refine Xc ?_;show wpAny _ _ (newExc (.type "StopIteration") [] >>= _) _ _ _;refine Xc ?_;simp only[newExc,newTuple];refine Xc (wpAny_newObj_type ?_<|by size_fits);refine Xc (m:=firstArgMember _ _) (wpAny_of_eq (a:=Value.none) (by first|rfl|(simp only[firstArgMember];rfl)) ?_);refine wpAny_newObj_type ?_ (by size_fits);simp only[raiseNew];refine Xc (wpAny_handled ?_)
 first|rw[show A.in1.handled=some (.ref e) from l]|rw[l]
 have i:e<s.heap.objs.size:=Xk n;have f:(s.heap.push { cls:=Value.type "tuple",data:=Data.seq #[] }).objs.size=s.heap.objs.size+1:=W9 _ _
 have h:(Value.ref e != Value.ref (s.heap.push { cls:=Value.type "tuple",data:=Data.seq #[] }).objs.size)=true:=by
  rw[f,bne_iff_ne];intro z;injection z with z;exact Xu (UZ i) z
 have j:((s.heap.push { cls:=Value.type "tuple",data:=Data.seq #[] }).push { cls:=Value.type "StopIteration",data:=Data.fields (#[Value.ref s.heap.objs.size,Value.none,Value.none,Value.none,Value.bool false,Value.none]++ownMembersOf (Value.type "StopIteration") []) }).get? e=some g:=Xi _ (Xi _ n);show wpAny _ _ (if (Value.ref e != Value.ref (s.heap.push { cls:=Value.type "tuple",data:=Data.seq #[] }).objs.size)=true then _ else _) _ _ _;rw[Xd h];refine Xc (wpAny_holding<|wpAny_runValue<|codeAny_builtin ZhN ?_);show wpAny _ _ (field (.ref e) 2 >>= _) _ _ _;refine Xc (JC j r u ?_);show wpAny _ _ (if (Value.none==Value.none)=true then _ else _) _ _ _;rw[Xd<|by decide];refine Xc (Xq ?_);refine Xq ?_;show wpAny _ _ (updateField (s.heap.push { cls:=Value.type "tuple",data:=Data.seq #[] }).objs.size 2 (.ref e) >>= _) _ _ _;refine Xc ?_;unfold updateField;refine Xc (wpAny_load (XF _ rfl) ?_);show wpAny _ _ (if 2<(#[Value.ref s.heap.objs.size,Value.none,Value.none,Value.none,Value.bool false,Value.none]++ownMembersOf (Value.type "StopIteration") []).size then _ else _) _ _ _;rw[Xd<|by rw[Array.size_append];show 2<6+_;omega];refine wpAny_update (XF _ rfl) (wpAny_throw ?_);refine Xc (wpAny_isInstance (T := "StopIteration") (b:=true) ⟨_,X8 _ (XF _ rfl) rfl,rfl⟩ isSubtype_stop ?_);refine Xq (t _ fun b o v p=>?_);have q:=Xi { cls:=Value.type "StopIteration",data:=Data.fields (#[Value.ref s.heap.objs.size,Value.none,Value.none,Value.none,Value.bool false,Value.none]++ownMembersOf (Value.type "StopIteration") []) } (Xi { cls:=Value.type "tuple",data:=Data.seq #[] } p)
 rw[XU _ _ (fun z=>by
  have:=Xk p
  have k:(s.heap.push { cls:=Value.type "tuple",data:=Data.seq #[] }).objs.size=b:=z;rw[f]at k;exact Xm this<|by rw[<- k];exact Nat.not_lt.mpr<|Nat.le_succ _)]
 exact q
end
noncomputable def MY (C e:Addr)(lo:Int)(n:Nat):It where
 go:=(Itr lo n).go
 stop:=fun i H=>(Itr lo n).stop i H/\∃dct T,H e=some (.ext<|phF C e dct T)
 yld:=(Itr lo n).yld
theorem O9  (hh:X.A.handled=some (.ref e))(it:Addr)(lo:Int)(n:Nat):TurnX X tg (MY C e lo n) [it] it (fun i h=>IsRangeIter h it (lo+(i:Nat)*1) ((n:Int)-(i:Nat)) 1) where
 mem:=by simp
 obj:=fun i h a b c=>by
  have e:b=it:=by simpa using c
  subst e;exact⟨_,a,fun v z=>by
   have D:Data.fields _=Data.cell v:=z
   cases D⟩
 keep:=fun i h q a k=>k it (by simp) _ a
 item:=by
  intro R p l L A _ i y s B H E I j a g;rw[<- p,<- l];obtain⟨x,w,N,u,t,r⟩:=j it (by simp);have G:i<n:=g;refine wpAny_pyNext_range_item a (by omega) fun q f m=>?_;have Q:lo+((i+1:Nat):Int)*1=lo+(i:Int)*1+1:=by push_cast;omega
  have P:(n:Int)-((i+1:Nat):Int)=(n:Int)-(i:Int)-1:=by push_cast;omega
  have d:IsRangeIter q it (lo+((i+1:Nat):Int)*1) ((n:Int)-((i+1:Nat):Int)) 1:=by rw[Q,P];exact f
  refine⟨_,rfl,?_⟩;refine Uy (n := "range_iterator") d rfl rfl (by decide) ⟨.int<|lo+i,H,I.turned (fun b o c e=>(m.2 b c).trans e) x w u t r,?_,⟨rfl,rfl⟩,d,fun b c=>(j b c).1⟩;have z:lo+(i:Int)=lo+(i:Int)*1:=by omega
  rw[z];exact⟨_,rfl⟩
 done:=by
  intro R p l L A _ i y s B H E I j a g;rw[<- p,<- l];obtain⟨x,w,N,u,t,r⟩:=j it (by simp);obtain⟨g,dct,T,J⟩:=g;obtain⟨⟨S,U,F,W,M⟩,_,_⟩:=I.hok e _ J;exact Ov (by rw[A];exact hh) a (by have:n<=i:=g;omega) F rfl M fun q O=>⟨rfl,I.turned (t':=s.toks) (fun b o c e=>O b o c e) x w u t r⟩
 self:=fun _ _ _ _ _ a h=>wpAny_pyIter_rangeiter a h
section
variable {X:Cx}{tg:Expr}
def NN (C e:Addr)(c:TA):TI:=fun a H R=>c a H fun b d=>∃j:Int,b=[.int j] /\ -(2^62)<=j/\j<2^62/\R (MY C e 0 j.toNat) d
def E7 {C e:Addr}{c:Qc}{d:St}{H:Hp}{s:Shared}{R:It->Hp->Prop}{E:Qb}{lo a:Int}{t u v:Tok}{f:Nat}(h:X.A.handled=some (.ref e))(I:Qr X c d H s)(h1 : -(2^62)<=lo)(k:lo<2^62)(h3 : -(2^62)<=a)(j:a<2^62)
 (q:R (MY C e lo (a-lo).toNat) H):wpAny (model X.prog X.w) X.A (pyIter<|.ref s.heap.objs.size) (N8 X c d tg R) E { s with heap:=s.heap.push { cls:=.type "range",data:=.fields #[.int lo t,.int a u,.int 1 v] },toks:=f }:=by
 refine wpAny_pyIter_range (IsRange.new ..) (small_one h1 k h3 j) ?_;have g:Qr X c d H { s with heap:=s.heap.push { cls:=.type "range",data:=.fields #[.int lo t,.int a u,.int 1 v] },toks:=f }:=I.kept fun b o e=>Xi _ e
 refine⟨(s.heap.push { cls:=.type "range",data:=.fields #[.int lo t,.int a u,.int 1 v] }).objs.size,[(s.heap.push { cls:=.type "range",data:=.fields #[.int lo t,.int a u,.int 1 v] }).objs.size],_,_,H,rfl,
  g.kept (t':=f) fun b o e=>Xi _ e,O9 h _ lo (a-lo).toNat,?_,fun b i=>?_,q⟩
 .have m:lo+((0:Nat):Int)*1=lo:=by simp
  have l:(((a-lo).toNat:Nat):Int)-((0:Nat):Int)=Builtin.Range.rangeSize lo a 1:=by rw[rangeSize_one];split<;>omega
  show IsRangeIter _ _ (lo+((0:Nat):Int)*1) ((((a-lo).toNat:Nat):Int)-((0:Nat):Int)) 1;rw[m,l];exact XF _ rfl
 .have e:b=(s.heap.push { cls:=.type "range",data:=.fields #[.int lo t,.int a u,.int 1 v] }).objs.size:=by simpa using i
  subst e;exact g.fpOk (Xv _) (g.hok.fresh<|Xv _)
def P6   (m:X.A.handled=some (.ref e)) (n:Gl X "range") (l:X.mg "range"=none) (o:PA X [a] ta) (k:starEach [a] X.env=[(false,eval a X.env)]:=by rfl):PIH X tg (.Call (.Name "range" p) [a] [] pos) (NN C e ta):=by
 intro c s d H R I h;refine Call_ (Jr I n l boot_range<|PyProof.Rows.callWith_type1 (Q9 (o pos c s d H _ I h) ?_) k rfl);rintro w x ⟨v,y,u,g,b⟩;obtain⟨j,e,b,i,q⟩:=b;subst e;cases g with
 |cons r f =>
   cases f
   obtain⟨t,rfl⟩:=r;exact call_range_1 (E7 m u (by omega) (by omega) b i<|by simpa using q)
end
noncomputable def Ge (C:Addr)(f:Str)(ds:Qd)(e b q:Addr):ZP where
 ok:=fun K F v=>v=.ref e/\(∃T,F e=some (.ext<|phF C e (some b) T))/\F b=some (.xd [(f,.ref q)])/\∃a,F q=some (.lst a)/\Qy F a ds
 mono:=by
  rintro K F i v s ⟨rfl,⟨T,h⟩,g,a,d,c⟩
  exact⟨rfl,⟨T,s _ _ h⟩,s _ _ g,a,s _ _ d,c.mono s⟩
section
variable {K:W.Frag}{ρ:QF}{C:Addr}{f:Str}{th:Addr->TS}{tb:Ends->TS}{D:PEnds}{n i j:Nat}{ds:Qd}{e dx q:Addr}
def Jd.fz  (h:(Jd C f ds e dx q).ok K F H (.ref e) p)(s:Q5 F F')(a:∀b∈p,F' b=H b):(Ge C f ds e dx q).ok K F' (.ref e):=by
 obtain⟨rfl,_,⟨T,l⟩,k,c,g,d⟩:=h
 exact⟨rfl,⟨T,by rw[a _<|by simp];exact l⟩,by rw[a _<|by simp];exact k,c,by rw[a _<|by simp];exact g,d.mono s⟩
def QB.excz  (S:QB K H0 F ρ σ H)(h:ρ[i]?=some (some<|.zow<|Ge C f ds e dx q)):σ[i]?=some (some<|.ref e)/\(∃T,F e=some (.ext<|phF C e (some dx) T))/\F dx=some (.xd [(f,.ref q)]):=by
 obtain⟨d,g,_⟩:=S.fp;obtain⟨v,c,_,rfl,b,a,_⟩:=g i _ h
 exact⟨c,b,a⟩
def L8  (h:ρ[i]?=some (some<|.zow<|Ge C f ds e dx q))(d:Gg c=some cv)(a:W.kitOne K (.ref C) cv=some b):Qu K (tCB (Yr K C)<|QI (Q8 i)<|QI (tC c) QQ) ρ (.bool b):=fun p F o H Q S k=>by
 obtain⟨m,⟨T,l⟩,g⟩:=S.excz h
 exact⟨.ref e,m,.ref e,c,cv,b,rfl,d,.inl ⟨e,dx,T,_,rfl,S.sub _ _ l,S.sub _ _ g,a⟩,k F H _ (Q0.refl S.sub)<|.bl b⟩
def E4  (h:ρ[i]?=some (some<|.zow<|Ge C f ds e dx q))(s:Z0 K t ρ [.fz<|.int k])(h1 : -(2^62)<=k)(w:k<2^62):EvI K (NN C e t) ρ (ZI 0 k.toNat):=fun A F l H R S r =>
 s A F l H _ S fun E z G c o=>by
  cases o with
  |fz a b =>
    cases b
    cases a
    obtain⟨_,⟨T,y⟩,_⟩:=(S.ext c).excz h;refine⟨k,rfl,h1,w,r E z _ c fun B J m g=>⟨⟨?_,_,T,g _ _<|m _ _ y⟩,fun i d v=>?_⟩⟩
    .rw[W0];exact Xv _
    .obtain⟨u,rfl⟩:=Y6 v
     exact⟨u,fun x I p=>by
      obtain⟨rfl,rfl⟩:=p
      exact⟨B,Q0.refl g,.int _⟩⟩
def QB.freezeZX    (s:QB K H0 F ρ σ H)(e:ρ[i]?=some (some<|.own v Φ))
 (hz:∀{F t H:Hp} {p:Qg},Φ.ok K F H v p->Q5 F t->(∀b∈p,t b=H b)->Ψ.ok K t v) :
 ∃p,(∀a∈p,F a=none/\H a≠none/\H0 a=none)/\QB K H0 (frF F H p) (ρ.set i<|some<|.zow Ψ) σ H:=by
 obtain⟨I,L,J,r,B,A,y⟩:=s;obtain⟨u,O,rfl,w⟩:=B i _ e;have m:=(Xf.mp e).1;have th:=fun a g=>Φ.there w a g;have l:Q5 F (frF F H<|r i):=W3 fun a g=>(th a g).1;refine⟨r i,fun a g=>⟨(th a g).1,(th a g).2,(y i a g).1⟩,I.mono l,GE L,by simp[J],fun j=>if j=i then [] else r j,fun j G h=>?_,fun j k b d o=>?_,fun j b d=>?_⟩
 .by_cases c:j=i
  .subst c
   rw[Xj m]at h;cases h;refine⟨_,O,?_,hz w l fun b d=>Jt d⟩;dsimp only;rw[Xd rfl]
  .rw[Xo<|Ne.symm c]at h
   obtain⟨E,N,M⟩:=B j G h;refine⟨E,N,?_⟩;dsimp only;rw[Xa c];exact M.frOther l fun a g z=>c (A j i a g z)
 .by_cases c:j=i
  .simp[c]at d
  .by_cases x:k=i
   .simp[x]at o
   .simp only[Xa c]at d
    simp only[Xa x]at o;exact A j k b d o
 .by_cases c:j=i
  .simp[c]at d
  .simp only[Xa c]at d
   exact y j b d
def Ai  (i:Nat)(h:ρ[i]?=some (some<|.own (.ref e)<|Jd C f ds e dx q))(y:JZ fs)(k:EvO K t (ρ.set i<|some<|.zow<|Ge C f ds e dx q) (.ol fs)):EvO K t ρ (.ol fs):=fun B F w H Q S r=>by
 obtain⟨p,s,A⟩:=S.freezeZX h (fun a b c=>Jd.fz a b c);refine k B _ w H Q A fun l v u m x g o=>?_;refine r _ v u m (WU (fun a d=>⟨(s a d).1,(s a d).2.1⟩) x) g (RU y K l _ v u m (fun a d=>?_) o)
 by_cases z:a∈p
 .show(if a∈p then none else l a)=none
  rw[Xd z]
 .show(if a∈p then none else l a)=none
  rw[Xa z];exact(o.there a d).1
def Oe (s:Qd->Prop)(hj:j<n)(hth:∀ds e dx q,s ds->Q1 K (th e) ((List.replicate n none).set j (some<|.own (.ref e)<|Jd C f ds e dx q)) { nx:=fun B=>D.nx<|B.set j none,rt:=fun _=>False })
 (hz:∀(E:Ends) (F0 H0 F:Hp) (w:St) (H:Hp),Q0 F0 H0 F H->QB K H0 F ρ w H->(∀r A e m ds,s ds->Q0 F H r A->H e=none->Fld f e r A H m ds->∀(h:St) b T,h.length=n->Lefts C e m A b->b T=none->T≠e->th e (Dh E j) (h.set j<|some<|.ref e) (left C e m T b))->tb E E w H):Q1 K (Bg tb) ρ D:=fun F0 H0 F w H E x S c=>by
 refine hz E F0 H0 F w H x S fun r A e m ds M u X d h b T hl y hT p=>?_;obtain⟨dx,q,G,rfl,d⟩:=d;have O:b dx=some (.xd [(f,.ref q)]):=Pi y d.nd d.hd;have N:b q=some (.lst G):=Pi y d.nq d.hq;have J:dx≠T:=fun z=>by subst z;rw[hT]at O;cases O
 have I:q≠T:=fun z=>by subst z;rw[hT]at N;cases N
 have s1:Q5 H (left C e (some dx) T b):=Mr (.step y hT p) u.hh X;have P:Q5 r (left C e (some dx) T b):=Mr (.step y hT p) u.fh d.fe;have U:left C e (some dx) T b e=some (.ext<|phF C e (some dx) T):=by unfold left;rw[Qt<|Ne.symm p,QC]
 have R:left C e (some dx) T b dx=some (.xd [(f,.ref q)]):=by unfold left;rw[Qt J,Qt d.nd];exact O
 have Q:left C e (some dx) T b q=some (.lst G):=by unfold left;rw[Qt I,Qt d.nq];exact N
 have X1:Q0 F0 H0 r (left C e (some dx) T b):=x.trans ⟨s1,u.ff,P,u.fr⟩;have L:j<h.length:=by omega
 refine hth ds e dx q M F0 H0 r (h.set j<|some<|.ref e) _ (Dh E j) X1 ⟨S.kt.mono u.ff,P,by simp[hl],fun k=>if k=j then [e,dx,q] else [],fun k t v=>?_,fun k l a g hb=>?_,fun k a g=>?_⟩ ⟨fun F4 Y H4 Z x4 S4 q4=>c.nx F4 _ H4 _ x4 (S4.setN none) q4,fun _ _ _ _ _ _ _ _ z=>False.elim z,fun _ _ _ _ _ _ z=>False.elim z,fun _ _ _ _ _ _ z=>False.elim z⟩
 .by_cases o:k=j
  .subst o
   rw[Xj<|by simpa using hj]at v;cases v;refine⟨.ref e,Xj L,?_⟩;dsimp only;rw[Xd rfl];exact⟨rfl,rfl,⟨d.fe,d.fd,d.fq⟩,⟨T,U⟩,R,G,Q,d.rp⟩
  .rw[Xo<|Ne.symm o,MC]at v
   split at v<;>cases v
 .by_cases o:k=j
  .by_cases hm:l=j
   .omega
   .simp[hm]at hb
  .simp[o]at g
 .dsimp only at g
  by_cases o:k=j
  .rw[Xd o]at g
   rcases Xg.mp g with rfl|g
   .exact⟨x.hh.free X,Zt U⟩
   .rcases Xg.mp g with rfl|g
    .exact⟨x.hh.free d.d0,Zt R⟩
    .rcases Xg.mp g with rfl|g
     .exact⟨x.hh.free d.q0,Zt Q⟩
     .cases g
  .simp[o]at g
end
section
variable {K:W.Frag}{ρ:QF}{te:TE}{D:PEnds}{i j k:Nat}{Θ:Int->OT->Prop}{r:R2}{c:V}{Ψ:OT->QF->Prop}
def Fo {s:TE->TS}(hw:EvW K te ρ i Θ)(h:∀(H0 F:Hp) (a:St) (H:Hp) (E:Ends),QB K H0 F ρ a H->(∀Q:VK,(∀n d,s (tC<|.int n) E a d->Q (.int n) d)->te a H Q)->s te E a H)
 (hn:∀n o,Θ n o->EvR K (s<|tC<|.int n) (ρ.set i<|some o) Ψ):EvR K (s te) ρ Ψ:=fun f H0 F a H E x S c =>
 h H0 F a H E S fun Q l=>hw f H0 F a H Q x S fun p e n o b g _ m=>l n e (hn n o b f H0 p a e E g m c)
def BO (hw:EvW K te ρ i Θ)(hn:∀n o,Θ n o->D.nx ((ρ.set i<|some o).set j (some<|.fz<|.int n))):Q1 K (Vb te<|Vc j) ρ D :=
 G6 (s:=fun x=>Vb x<|Vc j) hw (fun _ _ _ _ _ _ h=>h _ fun _ _ q=>q) fun n o h=>ZU QA (hn n o h)
def Pk (hw:EvW K te ρ i Θ)(hn:∀n o,Θ n o->Q1 K (Vb (tOp r (tC c)<|tC<|.int n)<|Vc j) (ρ.set i<|some o) D):Q1 K (Vb (tOp r (tC c) te)<|Vc j) ρ D :=
 G6 (s:=fun x=>Vb (tOp r (tC c) x)<|Vc j) hw (fun _ _ _ _ _ _ h=>h _ fun _ _ q=>q) hn
def A4 (l:ρ[k]?=some (some<|.fz d))(hw:EvW K te ρ i Θ)(hn:∀n o,Θ n o->Q1 K (Vb (tOp r (Q8 k)<|tC<|.int n)<|Vc j) (ρ.set i<|some o) D):Q1 K (Vb (tOp r (Q8 k) te)<|Vc j) ρ D :=
 G6 (s:=fun x=>Vb (tOp r (Q8 k) x)<|Vc j) hw (fun u F m H E S h=>by
  obtain⟨p,g,_⟩:=S.fp;obtain⟨f,b,_⟩:=g k _ l
  exact⟨f,b,h _<|by rintro n t ⟨e,a,q⟩;rw[b]at a;cases a;exact q⟩) hn
def F7  (hw:EvW K te ρ i Θ)(hn:∀n o,Θ n o->Q1 K (Ut (Gp<|QI (tOp r (tC c)<|tC<|.int n) QQ) g b) (ρ.set i<|some o) D):Q1 K (Ut (Gp<|QI (tOp r (tC c) te) QQ) g b) ρ D :=
 G6 (s:=fun x=>Ut (Gp<|QI (tOp r (tC c) x) QQ) g b) hw (fun _ _ _ _ _ _ h=>h _ fun _ _ q=>q) hn
def Cj   (w:ρ[b]?=some (some<|.ol ds))(v:ρ[k]?=some (some<|.fz d))(hw:EvW K te ρ i Θ)
 (hn:∀n o,Θ n o->Q1 K (Vt<|tBM K "list" VV (Q8 b)<|QI (tOp r (Q8 k)<|tCB r2<|QI (tOp r3 (tC<|.int n)<|tC c) QQ) QQ) (ρ.set i<|some o) D) :
 Q1 K (Vt<|tBM K "list" VV (Q8 b)<|QI (tOp r (Q8 k)<|tCB r2<|QI (tOp r3 te<|tC c) QQ) QQ) ρ D :=
 G6 (s:=fun x=>Vt<|tBM K "list" VV (Q8 b)<|QI (tOp r (Q8 k)<|tCB r2<|QI (tOp r3 x<|tC c) QQ) QQ) hw (fun I F y H E S h=>by
  obtain⟨C,g,_⟩:=S.fp;obtain⟨p,m,_⟩:=g k _ v;obtain⟨u,l,a,rfl,_,_,z,t,_⟩:=g b _ w;refine⟨.ref a,l,.inl ⟨rfl,_,SqL.of t⟩,p,m,h _ ?_⟩;rintro n G ⟨B,f,_,A,e,q⟩;rw[l]at f;cases f;rw[m]at e;cases e;exact q) hn
def Fb  (e1:ρ[a1]?=some (some<|.fz d1))(A:ρ[a2]?=some (some<|.fz d2))(z:ρ[a3]?=some (some<|.fz d3))(y:ρ[a4]?=some (some<|.fz d4))(hw:EvW K te ρ i Θ)
 (hn:∀n o,Θ n o->EvR K (Y9<|Ur<|QI (Q8 a1)<|QI (Q8 a2)<|QI (Q8 a3)<|QI (Q8 a4)<|QI (tOp r (tC c)<|tC<|.int n) QQ) (ρ.set i<|some o) Ψ) :
 EvR K (Y9<|Ur<|QI (Q8 a1)<|QI (Q8 a2)<|QI (Q8 a3)<|QI (Q8 a4)<|QI (tOp r (tC c) te) QQ) ρ Ψ :=
 Fo (s:=fun x=>Y9<|Ur<|QI (Q8 a1)<|QI (Q8 a2)<|QI (Q8 a3)<|QI (Q8 a4)<|QI (tOp r (tC c) x) QQ) hw (fun N F B H E S h=>by
  obtain⟨L,g,_⟩:=S.fp;obtain⟨w,p,_⟩:=g a1 _ e1;obtain⟨v,m,_⟩:=g a2 _ A;obtain⟨u,l,_⟩:=g a3 _ z;obtain⟨t,f,_⟩:=g a4 _ y;refine⟨w,p,v,m,u,l,t,f,h _ ?_⟩;rintro n M ⟨J,e,I,d,G,b,C,a,q⟩;rw[p]at e;cases e;rw[m]at d;cases d;rw[l]at b;cases b;rw[f]at a;cases a;exact q) hn
end
section
variable {prog:Program}{w:World}{A:Around}{E:Qb}{s:Shared}
theorem Ps {it t:Addr}{a:Array Value}(c:t≠it):∀(n i:Nat) (s:Shared) (Q:Qe->Shared->Prop),s.heap.IsListIter it t i->s.heap.IsList t a->i+n<=a.size ->
 (∀h',h'.IsListIter it t (i+n)->Heap.SameBut it s.heap h'->Q ((a.toList.drop i).take n) { s with heap:=h' })->wpAny (model prog w) A (draw (.ref it) n) Q E s
 |0,i,s,Q,b,_,_,e=>by
   show wpAny _ _ (pure []) Q E s;exact Xq (by simpa using e s.heap b<|Heap.SameBut.refl ..)
 |n+1,i,s,Q,b,f,h,e=>by
   have d:i<a.size:=by omega
   show wpAny _ _ (pyNext (.ref it) >>= _) Q E s;refine Xc (wpAny_pyNext_list_item b f (x:=a[i]) (by simp[d]) fun p m g=>?_);refine Xc (wpAny_holding<|Ps c n (i+1) _ _ m (f.extBut g.extBut c) (by omega) fun o l k=>Xq ?_);have j:a.toList.drop i=a[i]::a.toList.drop (i+1):=by simp[Ng,d]
   have:=e o (by rw[show i+(n+1)=i+1+n by omega];exact l) (g.trans k)
   rw[j,List.take_succ_cons]at this;exact this
def OH  (i:A.handled=none)(a:s.heap.IsList t items)
 (j:∀h',Heap.ExtBut s.heap.objs.size s.heap h'->Q items.toList { s with heap:=h' }):wpAny (model prog w) A (unpackItems (.ref t) items.size none) Q E s:=by
 have c:t≠s.heap.objs.size:=by obtain⟨o,h,_⟩:=a;exact Xu (Xk h)
 unfold unpackItems;refine Xc ?_
 .unfold notIterableAtAll
  refine Xc (wpAny_specialOf a.typeIs F.slot_list_iter.lookup ?_);refine Xq ?_;simp only[X6,if_false];refine Xc (wpAny_holding<|wpAny_pyIter_list a ?_);refine Xc (wpAny_holding<|Ps c items.size 0 _ _ ⟨_,XF _ rfl,rfl,rfl⟩ (a.push _) (by omega) fun p l g=>?_)
  have d:List.take items.size (List.drop 0 items.toList)=items.toList:=by
   rw[List.drop_zero];exact List.take_of_length_le (by simp)
  rw[d];rw[Xa<|by simp];have k:p.IsList t items:=(a.push _).extBut g.extBut c;refine Xc (wpAny_holding<|wpAny_pyNext_list_end i l k (by simp) fun n m=>?_);simp only[Option.isSome_none,X6,if_false];refine Xq (j n fun b o f e=>m b o f<|g.extBut b o f<|Xi _ e)
def O5  {x1}   (c:A.handled=none)(b:s.heap.IsList t items)
 (hn:(assignEach elts env).length=items.size) (a:(assignEach elts env).findIdx? (·.1)=none)
 (h:∀h',Heap.ExtBut s.heap.objs.size s.heap h'->wpAny (model prog w) A (assignInOrder ((assignEach elts env).map (·.2)) items.toList) Q E { s with heap:=h' }) :
 wpAny (model prog w) A (assign (.Tuple elts x1 pos) env<|.ref t) Q E s:=by
 rw[arm_assign_Tuple];refine Xc (wpAny_standAt ?_);unfold unpack;rw[hn,a];exact Xc (wpAny_holding<|OH c b h)
end
section
variable {X:Cx}{pos:Pos}
def Nk (K:W.Frag)(n:Nat)(t:TGs):TG:=fun v c H Q=>∃a b,v=.ref a/\SqL K H a b/\b.length=n/\t b c H Q
def Rm {es:Qi}{k:Nat}{t:TGs}{n:Nat}(x:X.calm=true)(h:PGs X es t)
 (hn:(assignEach es X.env).length=n:=by rfl) (f:(assignEach es X.env).findIdx? (·.1)=none:=by rfl):PG X (.Tuple es k pos) (Nk X.K n t):=by
 intro c s g H v u Q I r d;obtain⟨a,j,z,q,w,d⟩:=d;subst z;cases r;obtain⟨l,i,p,B⟩:=I.list q;refine O5 (I.ok.hd x) p.isList (by simp[hn,<- w,i.length]) f fun y m=>?_;have A:Qr X c g H { s with heap:=y }:=I.kept (t':=s.toks) fun b o e=>m b o (Xu<|Xk e) e;exact h c _ g H j _ Q A (by simpa using i) d
end
def NY {K:W.Frag}{ρ:QF}{n:Nat}{gs:TGs}{ds:Qd}{b:QF}(h:Gd K gs ds ρ b)(hn:ds.length=n):GTo K (Nk K n gs) (.list ds) ρ b:=fun g F e H x Q S r q=>by
 cases r with
 |@lst a c _ f d=>exact⟨a,c,rfl,SqL.of<|S.sub _ _ f,by rw[d.length,hn],h g F e H c Q S d q⟩
def Ts {K:W.Frag}{ρ:QF}{w:TE}{t:TA}{ts:List OT}{R:Qd->List OT->(OT->Qd->Prop)->Prop}{e Φ:OT->Prop}{E':XK}(h:ZA K w ρ e)(P:Z0 K t ρ ts)(m:∀r,e r->∃ds Ψ,r=.ol ds/\R ds ts Ψ/\∀r n,Ψ r n->Φ r) :
 ZA K (Yk (spP K olP R) [] E'<|QI w t) ρ Φ:=fun x F s H Q S q =>
 h x F s H _ S fun Z U u p D k v N J=>by
  obtain⟨ds,Ψ,rfl,m,O⟩:=m D k;refine P x Z s U _ (S.ext v) fun Y H2 y g C=>?_;have j:=J.ext g;obtain⟨a,rfl,rfl,G⟩:=j;have c:=v.trans g;have l:H a=none:=N a Xb;refine⟨Y,.ref a,y++[],[a],ts,ds,Ψ,rfl,(S.ext c).kt,g.fh,by rw[XG];exact C,⟨a,rfl,rfl,G⟩,m,fun F' X p' T A r E L f I B i M=>?_⟩;refine q F' X A E r (O r T L) ⟨fun b o d=>?_,c.ff.trans f.ff,f.fh,fun b d=>?_⟩ (fun b d=>?_) i
  .refine f.hh b o (fun z=>?_) (c.hh b o d)
   cases Xh.mp z
   rw[l]at d;cases d
  .rcases f.fr b d with z|z|z
   .exact c.fr b z
   .exact .inr (c.hh.free z)
   .cases Xh.mp z;exact .inr l
  .rcases(M b d).1 with z|z
   .cases Xh.mp z;exact l
   .exact c.hh.free z
section
variable {K:W.Frag}{ρ:QF}{D:PEnds}{i j:Nat}{v:V}{C:Addr}{N:HandS}{t:TA}{ts:List OT}{te:TE}{R:HandS->List OT->(OT->HandS->Prop)->Prop}{R2:List OT->(OT->Prop)->Prop}{E':XK}
def Nj (K:W.Frag)(t:TE)(ρ:QF)(i:Nat)(Θ:PyData->OT->Prop):Prop := ∀(f a F:Hp) (b:St) (H:Hp) (Q:VK),Q0 f a F H->QB K a F ρ b H ->
 (∀e c d w o,Θ d o->ZR d=some w->Q0 f a e c->Q5 F e->QB K a e (ρ.set i<|some o) b c->Q w c)->t b H Q
def Sb {s:TE->TS}{Θ:PyData->OT->Prop}(hw:Nj K te ρ i Θ)(k:∀(H0 F:Hp) (a:St) (H:Hp) (E:Ends),QB K H0 F ρ a H->(∀Q:VK,(∀w e,s (tC w) E a e->Q w e)->te a H Q)->s te E a H)
 (hn:∀d w o,Θ d o->ZR d=some w->Q1 K (s<|tC w) (ρ.set i<|some o) D):Q1 K (s te) ρ D:=fun g H0 F a H E x S c =>
 k H0 F a H E S fun Q m=>hw g H0 F a H Q x S fun p f d w o b l h _ n=>m w f (hn d w o b l g H0 p a f E h n c)
def SH (e:ρ[i]?=some (some<|.own v<|Zc C N))(hA:Z0 K t ρ ts)
 (hs:(∃Ψ,R N ts Ψ/\∀r u,Ψ r u->∃d s w,r=.ol (d::s)/\ZR d=some w/\Θ d (.own v<|Zc C u)) \/
  (∃Φ,R2 (.zow (QY C N)::ts) Φ/\∀r,Φ r->∃G d w s,r=.own G (lsO d s)/\ZR d=some w/\Θ d (.own v<|Zc C N))) :
 Nj K (tOp (rIx K) (Yk (Bi K C R R2) [] E'<|QI (Q8 i) t)<|tC<|.int 0) ρ i Θ:=fun F0 H0 F σ H Q x S q=>by
 have n:=(Xf.mp e).1;obtain⟨p0,s0,_⟩:=J0 S x e;refine⟨_,s0,hA H0 F σ H _ S fun A H1 vs m r1=>?_⟩;have y:=S.ext m;have X1:=x.trans m;obtain⟨p,s1,L,X⟩:=J0 y X1 e
 rcases hs with ⟨Ψ,U,O⟩|⟨Φ,U,P⟩
 .refine .inl ⟨A,_,vs++[],p,ts,N,Ψ,rfl,y.kt,m.fh,by rw[XG];exact r1,L,U,fun F' H' p' u G r qq T xn M I f hq=>?_⟩
  obtain⟨d,s,w,rfl,o,g⟩:=O r u T;obtain⟨X',S',_⟩:=X F' H' p' u xn M I;obtain⟨b,rfl,rfl,b1,zs,b2,b3⟩:=f
  cases b3 with
  |@cons z zs' _ _ z1 z2 =>
    have Y:=z1.flat o;subst Y;exact .inl ⟨b,_,0,z,rfl,rfl,SqL.of b2,V1 (j:=0) rfl,q F' H' d z _ g o X' (m.ff.trans xn.ff) S'⟩
 .obtain⟨pf,h,Z⟩:=y.freezeZ e (fun a b c=>Zc.fz a b c)
  obtain⟨fp,g1,_⟩:=Z.fp;obtain⟨v2,f1,_,B⟩:=g1 i _ (Xj n);rw[s1]at f1;cases f1;have J:Q5 A (frF A H1 pf):=W3 fun a l=>(h a l).1;refine .inr ⟨frF A H1 pf,_,Φ,Z.kt,Z.sub,.zow (Ψ:=QY C N) B<|by show Args K _ (vs++[]) ts;rw[XG];exact r1.mono J,U,fun F4 H4 G qq r T x4 hq' f=>?_⟩;obtain⟨v'',d,w,s,rfl,o,g⟩:=P r T;have E:=WU (fun a l=>⟨(h a l).1,(h a l).2.1⟩) x4;obtain⟨_,a,b,z,rfl,rfl,nab,fa,l,rz,_⟩:=f;have Y:=rz.flat o;subst Y;refine .inl ⟨a,_,0,z,rfl,rfl,SqL.of l,V1 (j:=0) rfl,q _ H4 d z _ g o (X1.trans E) (m.ff.trans E.ff) ?_⟩
  have ze:ρ.set i (some<|.own v<|Zc C N)=ρ:=by
   apply List.ext_getElem?
   intro k;by_cases hk:k=i
   .subst hk;rw[Xj n,e]
   .rw[Xo<|Ne.symm hk]
  rw[ze];exact y.ext E
end
def GF:bootBuiltins "dict"=some (.type "dict"):=by decide +kernel
def Dv:List V->Hp->VK->Prop:=fun c H Q=>∃a b,c=[.ref a]/\H a=some (.dK b)/\∀p,H p=none->Q (.ref p) (upd H p<|.dK b)
def HL:Z7 X (.type "dict") Dv:=by
 intro f s i H j k Q I r h;obtain⟨a,c,rfl,e,q⟩:=h;obtain⟨u,rfl,b⟩:=YD r
 cases b
 exact SX I (.of e) fun p l d g=>⟨.ref p,_,g,rfl,q p d⟩
section
variable {K:W.Frag}{ρ:QF}{te tb:TE}{t:TA}{D:PEnds}{i j:Nat}{v u:V}{C:Addr}{N:HandS}{m:Str}{kvs:Zb}
def QB.absorb  (s:QB K H0 F ρ σ H)(M:i≠j)(e:ρ[i]?=some (some<|.own v Φ))(S:ρ[j]?=some (some<|.own u Φj)) :
 σ[i]?=some (some v)/\σ[j]?=some (some u)/\∃p q,Φ.ok K F H v p/\Φj.ok K F H u q/\(∀a∈p,H0 a=none/\F a=none/\H a≠none)/\(∀a∈q,H0 a=none/\F a=none/\H a≠none)/\(∀a∈q,a∉p) /\
  ∀(w:Hp) (n:OwnP) (y:Qg),Q5 F w->(∀b,b∉p->b∉q->H b≠none->w b=H b)->(∀b,H b≠none->w b≠none)->n.ok K F w v y->(∀a∈y,a∈p\/a∈q\/(H a=none/\H0 a=none)) ->
   QB K H0 F ((ρ.set j none).set i (some<|.own v n)) σ w:=by
 obtain⟨Z,h1,h2,G,O,r,h⟩:=s;obtain⟨v',U,rfl,T⟩:=O i _ e;obtain⟨P,f1,rfl,R⟩:=O j _ S;refine⟨U,f1,G i,G j,T,R,fun a c=>⟨(h i a c).1,(Φ.there T a c).1,(h i a c).2⟩,fun a c=>⟨(h j a c).1,(Φj.there R a c).1,(h j a c).2⟩,fun a c d=>M (r j i a c d).symm,fun w n y Y kp I Q x=>?_⟩;have J:=(Xf.mp e).1;have L:=(Xf.mp S).1;refine⟨Z,Y,by simp[h2],fun k=>if k=i then y else if k=j then [] else G k,fun k X o=>?_,fun k l a c d=>?_,fun k a c=>?_⟩
 .by_cases g:k=i
  .subst g
   rw[Xj<|by simpa using J]at o;cases o;refine⟨_,U,rfl,?_⟩;simp only[if_true];exact Q
  .rw[Xo<|Ne.symm g]at o
   by_cases f:k=j
   .subst f
    rw[Xj L]at o;cases o
   .rw[Xo<|Ne.symm f]at o
    obtain⟨P,g1,g2⟩:=O k X o;refine⟨P,g1,?_⟩;simp only[Xa g,Xa f];exact g2.keep fun b d=>kp b (fun z=>g<|r k i b d z) (fun z=>f<|r k j b d z) (h k b d).2
 .have A:∀{k l:Nat} {a:Addr},k≠i->a∈(if k=j then ([]:Qg) else G k)->a∈y->False:=fun{k l a} g c d=>by
   by_cases f:k=j
   .rw[Xd f]at c;exact nomatch c
   .rw[Xa f]at c
    rcases x a d with z|z|z
    .exact g (r k i a c z)
    .exact f (r k j a c z)
    .exact(h k a c).2 z.1
  by_cases g:k=i
  .by_cases B:l=i
   .omega
   .simp only[Xd g]at c
    simp only[Xa B]at d;exact(A (l:=0) B d c).elim
  .simp only[Xa g]at c
   by_cases B:l=i
   .simp only[Xd B]at d
    exact(A (l:=0) g c d).elim
   .simp only[Xa B]at d
    by_cases f:k=j
    .rw[Xd f]at c;exact nomatch c
    .by_cases E:l=j
     .rw[Xd E]at d;exact nomatch d
     .rw[Xa f]at c
      rw[Xa E]at d;exact r k l a c d
 .by_cases g:k=i
  .simp only[Xd g]at c
   rcases x a c with z|z|z
   .exact⟨(h i a z).1,I a (h i a z).2⟩
   .exact⟨(h j a z).1,I a (h j a z).2⟩
   .exact⟨z.2,(n.there Q a c).2⟩
  .simp only[Xa g]at c
   by_cases f:k=j
   .rw[Xd f]at c;exact nomatch c
   .rw[Xa f]at c
    exact⟨(h k a c).1,I a (h k a c).2⟩
def Fy {k m n:Int}(c:HandC K C)(e:ρ[i]?=some (some<|.own v<|Zc C N))(hi:Qu K tb ρ (.int k))(h0:0<=k)(L:N.given[k.toNat]?=some m)(h:Qu K te ρ (.int n))
 (hn:D.nx (ρ.set i<|some<|.own v<|Zc C { N with given:=N.given.set k.toNat (m+n) })):Q1 K (Bt (Va K (Q8 i) "given") tb te (Bo K) (ipI fun a b=>a+b) JO) ρ D:=fun F0 O F r H E x S C'=>by
 obtain⟨a,dx,kk,g,d,m',y,xs,as,rfl,e1,p,_⟩:=S.hand e;refine⟨_,e1,a,C,dx,_,.ref g,rfl,p.ins.2,c.cl,c.gv,rfl,hi O F r H _ S fun F1 H1 y1 f r1=>?_⟩
 cases r1
 obtain⟨_,X,Z,Y⟩:=p.given;have A:(N.given.map PyData.int)[k.toNat]?=some (.int m):=by rw[Xn,L];rfl
 obtain⟨z,R,Q⟩:=(Y.mono f.ff).get A;refine⟨g,X,k,z,rfl,rfl,SqL.of<|f.hh _ _ Z,h0,R,h O F1 r H1 _ (S.ext f) fun P H2 u q w=>?_⟩
 cases w
 cases Q
 refine⟨m,n,rfl,rfl,?_⟩;obtain⟨a',dx',k',M,d',m'',T,s,G,ea,g1,l,hp,U⟩:=(S.ext<|f.trans q).hand e
 cases ea
 obtain⟨rfl,rfl,rfl,rfl,rfl,rfl⟩:=p.same l (((f.trans q).hh _ _ p.ins.2).trans p.ins.2.symm);obtain⟨q1,I,q2,J⟩:=l.given;have hlt:k.toNat<N.given.length:=(Xf.mp L).1
 have hr:Qy P (I.set k.toNat<|.int<|m+n) ((N.given.set k.toNat<|m+n).map PyData.int):=by
  rw[List.map_set];exact J.set (.int _) _
 have o:=hp M (by simp);refine⟨M,I,k,k.toNat,rfl,rfl,q2,?_,?_⟩
 .rw[J.length,Xl]
  unfold ixN;rw[Xd h0,Xd<|by omega]
 .exact C'.nx P r _ _ ((x.trans<|f.trans q).wr o.1 o.2.1) (U _ _ T s G ((S.ext<|f.trans q).sub.upd o.2.1) (fun b B _=>Qt fun z=>B<|by rw[z];simp) VD (l.setGiven hr) fun b B=>.inl B) hn
theorem MadeD.len {F H:Hp}:∀{as:Qg} {ms:List Zb},MadeD F H as ms->as.length=ms.length
 |_,_,.nil=>rfl
 |_,_,.cons _ _ _ t=>by simp[t.len]
theorem MadeD.snoc {F H:Hp}{b:Addr}{xs:List (Key×V)}{ms:List Zb}(d:F b=none)(c:H b=some (.dK xs))(a:PairK F xs kvs):∀{as:Qg} {ms:List Zb},MadeD F H as ms->MadeD F H (as++[b]) (ms++[kvs])
 |_,_,.nil=>.cons d c a .nil
 |_,_,.cons g f e t=>.cons g f e (MadeD.snoc (ms:=ms) d c a t)
def HandOk.addMade {F H:Hp}{a c k g d m b:Addr}{y:V}{xs zs:List (Key×V)}{as:Qg}(A:HandOk C N F H a c k g d m y xs as)(r:b∉a::c::k::g::d::m::as)(h1:F b=none)(h2:H b=some (.dK zs))(Z:PairK F zs kvs) :
 HandOk C { N with made:=N.made++[kvs] } F (upd H m<|.lst<|(as++[b]).map V.ref) a c k g d m y xs (as++[b]):=by
 obtain⟨o,⟨Y,X⟩,⟨E,B⟩,s,⟨U,R,T,S⟩,⟨g1,gx,g2,g3⟩,⟨d1,d2,d3⟩,⟨Q,m2,P⟩⟩:=A;have f:=o;simp only[Xt,Xg,not_or]at f;obtain⟨⟨a1,a2,a3,a4,a5,a6⟩,⟨b1,b2,b3,b4,b5⟩,⟨c1,c2,c3,c4⟩,⟨f1,f2,f3⟩,⟨x,u2⟩,w,w2⟩:=f;simp only[Xg,not_or]at r;obtain⟨O,M,L,J,I,p,G⟩:=r
 have l:(a::c::k::g::d::m::(as++[b])).Nodup:=by
  have e:a::c::k::g::d::m::(as++[b])=(a::c::k::g::d::m::as)++[b]:=rfl;rw[e,WZ];refine⟨o,by simp,fun z q z' n=>?_⟩;rw[Xh.mp n];rintro rfl;simp only[Xg]at q;rcases q with h|h|h|h|h|h|h
  .exact O h
  .exact M h
  .exact L h
  .exact J h
  .exact I h
  .exact p h
  .exact G h
 refine⟨l,⟨Y,by rw[Qt a5];exact X⟩,⟨E,by rw[Qt b4];exact B⟩,s,⟨U,R,by rw[Qt c3];exact T,S⟩,⟨g1,gx,by rw[Qt f2];exact g2,g3⟩,⟨d1,by rw[Qt x];exact d2,d3⟩,⟨Q,QC,?_⟩⟩
 exact(P.snoc (ms:=N.made) h1 h2 Z).other fun z=>by
  rcases Xy.mp z with z|z
  .exact w z
  .exact p (Xh.mp z).symm
def HandOk.setNow {F H:Hp}{a c k g d m:Addr}{y:V}{xs:List (Key×V)}{as:Qg}(h:HandOk C N F H a c k g d m y xs as)(n:Int) :
 HandOk C { N with now:=n } F (upd H a<|.ins C c<|hfs y n k g d m) a c k g d m y xs as:=by
 obtain⟨e,⟨A,U⟩,⟨o,l⟩,f,⟨z,s,x,w⟩,⟨I,B,G,E⟩,⟨M,L,J⟩,⟨r,q,p⟩⟩:=h;have b:=e;simp only[Xt,Xg,not_or]at b;obtain⟨⟨T,S,R,Q,P,O⟩,_⟩:=b
 exact⟨e,⟨A,QC⟩,⟨o,by rw[Qt<|Ne.symm T];exact l⟩,f,⟨z,s,by rw[Qt<|Ne.symm S];exact x,w⟩,⟨I,B,by rw[Qt<|Ne.symm R];exact G,E⟩,⟨M,by rw[Qt<|Ne.symm Q];exact L,J⟩,⟨r,by rw[Qt<|Ne.symm P];exact q,p.other O⟩⟩
def CQ (hj:0≠j)(c:HandC K C)(e0:ρ[0]?=some (some<|.own v<|Zc C N))(ej:ρ[j]?=some (some<|.own u<|dkP kvs))(hl:N.made.length<1000)
 (hr:∀w,Ψ (.own w<|dkP kvs)<|(ρ.set j none).set 0 (some<|.own v<|Zc C { N with made:=N.made++[kvs],now:=N.now+1 })) :
 EvR K (WH (Vt<|tBM K "list" VV (Va K (Q8 0) "made")<|QI (Q8 j) QQ)<|WH (Sn K (Q8 0) (tC<|.int 1) Nv "present")<|Y9<|tCB Dv<|QI (Q8 j) QQ) ρ Ψ:=fun F0 H0 F σ H E x S kk=>by
 obtain⟨s0,sj,p,q,Z,Y,hp,hq,hd,wr⟩:=S.absorb hj e0 ej;obtain⟨a,n,k,g,d,m,y,xs,o,rfl,rfl,G⟩:=Z;obtain⟨b,T,rfl,rfl,b1,b2,b3⟩:=Y;have P:b∉a::n::k::g::d::m::o:=hd b Xb;have al:o.length=N.made.length:=G.made.2.2.len;have nd:=G.nd;simp only[Xt,Xg,not_or]at nd;have am:a≠m:=nd.1.2.2.2.2.1;have L:=hp m (by simp);have M:=hp a (by simp);have f:=G.addMade P b1 b2 b3;have s:=f.setNow (N.now+1)
 have nb:b≠a/\b≠m:=by
  simp only[Xg,not_or]at P;exact⟨P.1,P.2.2.2.2.2.1⟩
 refine⟨_,s0,a,C,n,_,.ref m,rfl,G.ins.2,c.cl,c.md,rfl,.inl ⟨rfl,_,SqL.of G.made.2.1⟩,_,sj,m,_,_,rfl,rfl,G.made.2.1,by rw[Xl,al];exact Vg<|by omega,?_⟩;have em:o.map V.ref++[V.ref b]=(o++[b]).map V.ref:=by rw[XB];rfl
 rw[em];refine⟨_,s0,a,C,n,_,.int N.now,rfl,f.ins.2,c.cl,c.pr,rfl,N.now,1,rfl,rfl,n,_,f.ins.2,by show 6<1000;decide,?_⟩;have ef:VF "present" (.int<|N.now+1) (hfs y N.now k g d m)=hfs y (N.now+1) k g d m:=rfl;rw[ef];generalize B:upd H m (.lst<|(o++[b]).map V.ref)=R at f s;generalize A:upd R a (.ins C n<|hfs y (N.now+1) k g d m)=I at s;have e2:∀z,z≠a->z≠m->I z=H z:=fun z O z2=>by rw[<- A,Qt O,<- B,Qt z2]
 have X1:Q0 F0 H0 F R:=by rw[<- B];exact x.wr L.1 L.2.1
 have X2:Q0 F0 H0 F I:=by rw[<- A];exact X1.wr M.1 M.2.1
 have X:∀z,H z≠none->R z≠none:=by rw[<- B];exact VD
 have U:∀z,R z≠none->I z≠none:=by rw[<- A];exact VD
 have Q:=wr I (Zc C { N with made:=N.made++[kvs],now:=N.now+1 }) (a::n::k::g::d::m::(o++[b])) X2.fh
  (fun z O _ _=>e2 z (fun h=>O<|by rw[h];simp) fun h=>O<|by rw[h];simp) (fun z e=>U z<|X z e) ⟨a,n,k,g,d,m,y,xs,o++[b],rfl,rfl,s⟩ (fun z e=>by
   have ee:a::n::k::g::d::m::(o++[b])=(a::n::k::g::d::m::o)++[b]:=rfl;rw[ee]at e;rcases Xy.mp e with e|e
   .exact .inl e
   .exact .inr (.inl e))
 refine⟨_,sj,b,T,rfl,(e2 b nb.1 nb.2).trans b2,fun r l=>?_⟩;have X3:Q0 F I F (upd I r<|.dK T):=Q0.own Q.sub l;have hr0:H0 r=none:=X2.hh.free l;refine kk F σ _ _ (.ref r) (.own (.ref r)<|dkP kvs) [r] (X2.trans X3) (Q.ext X3) ⟨rfl,r,T,rfl,rfl,Q.sub.free l,QC,b3⟩ (fun z e=>by rw[Xh.mp e];exact hr0) (fun z e u' t' q' f1 f2 ok' J=>?_) (hr _);rw[Xh.mp e]at J;obtain⟨fp,g1,g2,g3⟩:=Q.fp;obtain⟨v2,h1,h2⟩:=g1 0 _ f1;rw[f2]at h1;cases h1
 exact(g3 0 r<|US (K:=K) (h2.ext X3) ok' r J).2 l
def LZ {t:TS}{Ψ:OT->QF->Prop}(i:Nat){r:OT}{d:PyData}(e:ρ[i]?=some (some r))(k:Ji r=some d)(h:EvR K t (ρ.set i<|some<|.fz d) Ψ):EvR K t ρ Ψ:=fun n l F g H E x S C=>by
 obtain⟨p,c,f⟩:=S.freezeG e k;refine h n l _ g H E ⟨x.hh,x.ff.trans<|W3 fun a b=>(c a b).1,f.sub,fun a b=>?_⟩ f C
 by_cases z:a∈p
 .exact .inr (c a z).2.2
 .rw[YV z]at b;exact x.fr a b
end
def dlP (i:List Zb):OwnP where
 ok K F H v p := ∃a d,v=.ref a/\p=a::d/\(a::d).Nodup/\F a=none/\H a=some (.lst<|d.map V.ref)/\MadeD F H d i
 there:=by
  rintro K F H v p ⟨a,d,rfl,rfl,nd,l,g,h⟩ b f
  rcases Xg.mp f with rfl|f
  .exact⟨l,Zt g⟩
  .exact h.mem b f
 mono:=by
  rintro K F z H y v p s n m ⟨a,d,rfl,rfl,nd,l,g,h⟩
  exact⟨a,d,rfl,rfl,nd,n a Xb,by rw[m a Xb];exact g,h.mono s (fun b f=>n b<|Xe _ f) fun b f=>m b<|Xe _ f⟩
 uniq:=by
  rintro K F H v p q ⟨a,d,rfl,rfl,nd,l,g,h⟩ ⟨x,w,e,rfl,o,u,k,t⟩ c r
  cases e
  have j:=g.symm.trans k;injection j with j;injection j with j;rw[BH j];exact r
noncomputable def DlZ (c:List Zb):ZP where
 ok K F v := ∃a b,v=.ref a/\F a=some (.lst<|b.map V.ref)/\MadeZ F b c
 mono:=by
  rintro K F f v s ⟨a,b,rfl,e,d⟩
  exact⟨a,b,rfl,s _ _ e,d.mono s⟩
def dlP.fz {c:List Zb}{K:W.Frag}{F d H:Hp}{v:V}{p:Qg}(h:(dlP c).ok K F H v p)(s:Q5 F d)(e:∀b∈p,d b=H b):(DlZ c).ok K d v:=by
 obtain⟨a,j,rfl,rfl,k,l,i,g⟩:=h
 exact⟨a,j,rfl,by rw[e a Xb];exact i,g.fz s fun b f=>e b<|Xe _ f⟩
def JQ (kvs:Zb):Prop := ∀x∈kvs,∃k n,x.1=.inl k/\x.2=.int n
def MX (xs:List (Key×V)):Prop := ∀p∈xs,∃k n,p.1=.inl k/\p.2=.int n
def PairK.ints  (h:PairK F xs kvs)(b:JQ kvs):MX xs:=by
 induction h with
 |nil=>rintro p ⟨⟩
 |@cons k x d xs kvs r t f =>
   intro p a;rcases Xg.mp a with rfl|a
   .obtain⟨c,n,i,e⟩:=b _ Xb
    have e:d=.int n:=e;subst e;cases r
    exact⟨c,n,i,rfl⟩
   .exact f (fun x g=>b x<|Xe _ g) p a
def PairK.one  (b:JQ kvs)(h:PairK F xs kvs):∀{ys:List (Key×V)},PairK F ys kvs->xs=ys:=by
 induction h with
 |nil =>
   intro ys a;cases a
   rfl
 |@cons k x d xs kvs r t g =>
   intro ys a;obtain⟨j,n,l,e⟩:=b _ Xb;have e:d=.int n:=e;subst e;cases a with
   |cons f c =>
     cases r
     cases f
     rw[g (fun x i=>b x<|Xe _ i) c]
def AI {xs:List (Key×V)}(b:(xs.map (·.1)).Nodup):∀p∈xs,Z1 xs p.1=some p.2:=by
 induction xs with
 |nil=>rintro p ⟨⟩
 |cons q xs c =>
   intro p a;rw[Xx,Xt]at b;rcases Xg.mp a with rfl|a
   .exact Y5 rfl
   .rw[Y4 fun z=>b.1<|by rw[z];exact XO.mpr ⟨p,a,rfl⟩]
    exact c b.2 p a
def TR  {e:List (Key×Value)}{xs:List (Key×V)}{f:List (Key×Value)}(r:KV xs f)(h:∀p∈xs,∃n t,p.2=.int n/\valueAt e p.1=some (.int n t)):W.KeqHits A s e f true:=by
 unfold KV at r;induction r with
 |nil=>exact .nil
 |@cons p q y x u t o =>
   obtain⟨c,g⟩:=u;obtain⟨n,l,w,j⟩:=h p Xb;rw[w]at g;obtain⟨a,d⟩:=g;obtain⟨k,v⟩:=q;have d:v=.int n a:=d;have c:p.1=k:=c;subst d;rw[c]at j;have i:=SeqAt.EqAt.int_int (A:=A) (s:=s) n a n l;rw[show(n==n)=true by simp]at i;exact .hit j i (o fun m b=>h m<|Xe _ b)
section
variable {X:Cx}{XaV:Qc}{σ:St}{H:Hp}{s:Shared}
def SN  {h:Heap}  (d:h.DictOf (ZF P w) a vs)(f:∀p∈vs,∃i,p.1=.inl i):h.DictOf (ZF P' w') a vs:=by
 obtain⟨o,n,M,I,G,F,E,D,C⟩:=d
 have g:∀{l:List DictEntry} {c:List (Key×Value)},Pairs (ZF P w) l c->(∀p∈c,∃i,p.1=.inl i)->Pairs (ZF P' w') l c/\∀e∈l,∃i,Jn (.inl i) e.key=true:=by
  intro l c q;induction q with
  |nil=>exact fun _=>⟨.nil,by rintro e ⟨⟩⟩
  |@cons e u n t j r R y =>
    intro f;obtain⟨A,z⟩:=y fun p B=>f p (Xe _ B);refine⟨.cons j r A,fun Q b=>?_⟩
    rcases Xg.mp b with rfl|b
    .obtain⟨i,O⟩:=f u Xb
     refine⟨i,?_⟩;rw[<- O];exact j
    .exact z Q b
 obtain⟨x,v⟩:=g D f;refine⟨o,n,M,I,G,F,fun e b=>?_,x,C⟩;obtain⟨k,L,J⟩:=E e b;obtain⟨i,m⟩:=v e (by simpa using b);have N:k=.inl i:=(ZF P w).inj e.key k (.inl i) L m;subst N;exact⟨.inl i,m,J⟩
def Oc (I:Qr X XaV σ H s)  (F:H a=some (.dK xs))(E:H b=some (.dK xs))(u:MX xs)(A:Around)(P:Program)(w:World) :
 ∃l k,(a==sysModules)=false/\(b==sysModules)=false/\s.heap.DictOf (ZF P w) a l/\s.heap.DictOf (ZF P w) b k/\l.length=k.length/\W.KeqHits A s k l true:=by
 obtain⟨z,C,g,d,J⟩:=Dd I.hok F;obtain⟨L,B,f,c,h⟩:=Dd I.hok E
 have y:(xs.map (·.1)).Nodup:=by
  rw[c.keys];obtain⟨_,_,_,_,_,_,_,_,q⟩:=h;exact q
 have m:∀{g:List (Key×Value)},KV xs g->∀p∈g,∃i,p.1=.inl i:=fun{g} r p j=>by
  have:p.1∈xs.map (·.1):=by rw[r.keys];exact XO.mpr ⟨p,j,rfl⟩
  obtain⟨q,D,e⟩:=XO.mp this;obtain⟨o,n,x,_⟩:=u q D
  exact⟨o,by rw[<- e,x]⟩
 refine⟨g,f,C,B,SN J<|m d,SN h<|m c,d.length.symm.trans c.length,TR d fun p j=>?_⟩;obtain⟨o,n,x,e⟩:=u p j;have r:=c.val p.1;rw[AI y p j,e]at r;cases q:valueAt f p.1 with
 |none=>rw[q]at r;exact r.elim
 |some v =>
   rw[q]at r;obtain⟨t,G⟩:=(show ∃t,v=Value.int n t from r)
   exact⟨n,t,e,by rw[G]⟩
def D1 (H:Hp)(as bs:Qg):Prop:=as.length=bs.length/\∀(i:Nat) (a b:Addr),as[i]?=some a->bs[i]?=some b->∃c,H a=some (.dK c)/\H b=some (.dK c)/\MX c
def NU:R2:=fun x y H Q=>∃a b d c,x=.ref a/\y=.ref b/\H a=some (.lst<|d.map V.ref)/\H b=some (.lst<|c.map V.ref)/\D1 H d c/\Q (.bl false) H
theorem HW:∀{as:Qg} {us:Qe},QS (as.map V.ref) us->us=as.map Value.ref
 |[],_,.nil=>rfl
 |a::as,_,.cons r t=>by
   cases r
   rw[HW t];rfl
def An (I:Qr X XaV σ H s)(h:D1 H as bs){A:Around}(B:A.units+8<cLine) :
 (as.map Value.ref).toArray.size=(bs.map Value.ref).toArray.size/\∀j (d:j<(as.map Value.ref).toArray.size) (c:j<(bs.map Value.ref).toArray.size),SeqAt.EqAt A.in1 s (as.map Value.ref).toArray[j] (bs.map Value.ref).toArray[j] ((fun _=>true) j):=by
 refine⟨by simpa using h.1,fun j d c=>?_⟩;have l:j<as.length:=by simpa using d
 have k:j<bs.length:=by simpa using c
 obtain⟨x,t,p,o⟩:=h.2 j as[j] bs[j] (by simp[l]) (by simp[k]);have f:(as.map Value.ref).toArray[j]=.ref as[j]:=by simp
 have e:(bs.map Value.ref).toArray[j]=.ref bs[j]:=by simp
 rw[f,e];by_cases b:as[j]=bs[j]
 .rw[b];exact SeqAt.EqAt.same _
 .refine SeqAt.EqAt.of_refs b fun a w E Q q=>?_
  obtain⟨z,y,i,g,v,u,m,n⟩:=Oc I t p o A.in1.in1 a w;refine W.keq_eq (r:=true) i g v u (show A.units+1<cLine by omega) (fun _=>n) ?_;rw[m,beq_self_eq_true];exact q
def RY (E:X.A.units+64<cLine):OpR X (compareOp .NotEq) NU:=by
 intro XaV s σ H x y v u Q I i g h;obtain⟨a,b,C,F,rfl,rfl,p,o,f,q⟩:=h
 cases i
 cases g
 obtain⟨z,m,n,j,e⟩:=I.hok _ _ p;obtain⟨D,d,k,c,B⟩:=I.hok _ _ o;obtain rfl:=HW j;obtain rfl:=HW c;obtain⟨w,t⟩:=An I f (A:=X.A) (by omega);have r:=SeqAt.RcNeAt.lists (l:=a) (b:=b) ⟨_,e,rfl,n,rfl⟩ ⟨_,B,rfl,k,rfl⟩ w (by omega) t;rw[show(List.range (C.map Value.ref).toArray.size).all (fun _=>true)=true by simp]at r;exact r X.prog X.w _ _ ⟨.bl false,H,I,rfl,q⟩
end
section
variable {K:W.Frag}{ρ:QF}{t:TA}{D:PEnds}{i j:Nat}{v u:V}{C:Addr}{kvs:Zb}{kss:List Zb}
def SV {t:TT}{v:V}{b:Bool}{c:OwnP}{Ψ:ZP}(i:Nat)(e:ρ[i]?=some (some<|.own v c))(hz:∀{F d H:Hp} {u:V} {p:Qg},c.ok K F H u p->Q5 F d->(∀b∈p,d b=H b)->Ψ.ok K d u)(h:Za K t (ρ.set i<|some<|.zow Ψ) b):Za K t ρ b:=fun m F k H Q S q=>by
 obtain⟨p,f,l⟩:=S.freezeZ e hz;exact h m _ k H Q l fun d n x=>q _ n (WU (fun a g=>⟨(f a g).1,(f a g).2.1⟩) x)
def QB.dlz  (S:QB K H0 F ρ σ H)(e:ρ[i]?=some (some<|.zow<|DlZ kss)):∃a as,σ[i]?=some (some<|.ref a)/\F a=some (.lst<|as.map V.ref)/\MadeZ F as kss:=by
 obtain⟨f,h,_⟩:=S.fp;obtain⟨v,d,_,a,as,rfl,c,b⟩:=h i _ e
 exact⟨a,as,d,c,b⟩
theorem MadeZ.len {F:Hp}:∀{as:Qg} {ms:List Zb},MadeZ F as ms->as.length=ms.length
 |_,_,.nil=>rfl
 |_,_,.cons _ _ t=>by simp[t.len]
theorem MadeZ.at {F:Hp}:∀{as:Qg} {ms:List Zb},MadeZ F as ms->∀(i:Nat) (a:Addr),as[i]?=some a->∃xs k,ms[i]?=some k/\F a=some (.dK xs)/\PairK F xs k
 |_,_,.nil,i,a,e=>by simp at e
 |_,_,.cons c b t,0,a,e=>by
   simp at e
   subst e;exact⟨_,_,rfl,c,b⟩
 |_,_,.cons c b t,i+1,a,e=>t.at i a (by simpa using e)
theorem MadeD.at {F H:Hp}:∀{as:Qg} {ms:List Zb},MadeD F H as ms->∀(i:Nat) (a:Addr),as[i]?=some a->∃xs k,ms[i]?=some k/\H a=some (.dK xs)/\PairK F xs k
 |_,_,.nil,i,a,e=>by simp at e
 |_,_,.cons _ c b t,0,a,e=>by
   simp at e
   subst e;exact⟨_,_,rfl,c,b⟩
 |_,_,.cons _ c b t,i+1,a,e=>t.at i a (by simpa using e)
def Ff  (m:∀k∈kss,JQ k)(l1:as.length=kss.length)(l:bs.length=kss.length)
 (o:∀(i:Nat) (a:Addr),as[i]?=some a->∃xs k,kss[i]?=some k/\H a=some (.dK xs)/\PairK F xs k) (n:∀(i:Nat) (a:Addr),bs[i]?=some a->∃xs k,kss[i]?=some k/\H a=some (.dK xs)/\PairK F xs k):D1 H as bs:=by
 refine⟨l1.trans l.symm,fun i a b r q=>?_⟩;obtain⟨xs,k,g,p,f⟩:=o i a r;obtain⟨s,w,c,e,d⟩:=n i b q;rw[g]at c;cases c;have h:=m k (List.mem_of_getElem? g)
 have:=f.one h d
 subst this;exact⟨xs,p,e,f.ints h⟩
def C6 {t:TS}(i:Nat)(e:ρ[i]?=some (some<|.ol []))(h:∀v,Q1 K t (ρ.set i<|some<|.own v<|dlP []) D):Q1 K t ρ D:=fun y w F g H E x S C=>by
 obtain⟨n,f,m,l⟩:=S.fp;obtain⟨v,s,a,rfl,r,q,z,p,o⟩:=f i _ e
 cases o
 have c:=(Xf.mp e).1;refine h (.ref a) y w F g H E x ⟨S.kt,S.sub,by simp[S.len],n,fun j k b=>?_,m,l⟩ C
 by_cases d:j=i
 .subst d
  rw[Xj c]at b;cases b
  exact⟨_,s,rfl,a,[],rfl,r,by simp,q,p,.nil⟩
 .rw[Xo<|Ne.symm d]at b
  exact f j k b
def QB.dlApp   (S:QB K H0 F ρ σ H)(e:ρ[i]?=some (some<|.own v<|dlP kss))(g:H p=none)(m:H0 p=none)(hz:PairK F zs kvs) :
 ∃a as,v=.ref a/\σ[i]?=some (some<|.ref a)/\H a=some (.lst<|as.map V.ref)/\as.length=kss.length/\H0 a=none/\F a=none/\a≠p/\QB K H0 F (ρ.set i<|some<|.own v<|dlP<|kss++[kvs]) σ (upd (upd H p<|.dK zs) a<|.lst<|(as++[p]).map V.ref):=by
 obtain⟨B,q,E,w,A⟩:=S.writeOwn e;obtain⟨a,as,rfl,rfl,s,N,M,y⟩:=E;have l:=w a Xb;have f:a≠p:=fun z=>l.2.2 (by rw[z];exact g);have h:p∉as:=fun z=>(w p<|Xe _ z).2.2 g
 have x:F p=none:=by
  cases z:F p with
  |none=>rfl
  |some o=>rw[S.sub _ _ z]at g;cases g
 refine⟨a,as,rfl,B,M,y.len,l.1,l.2.1,f,A _ (dlP<|kss++[kvs]) (a::(as++[p])) ((S.sub.upd x).upd l.2.1) (fun b d r=>?_) (fun b d=>?_) ⟨a,as++[p],rfl,rfl,?_,N,QC,?_⟩ fun b d=>?_⟩
 .have I:b≠a:=fun z=>d (by rw[z];exact Xb)
  have G:b≠p:=fun z=>r (by rw[z];exact g);rw[Qt I,Qt G]
 .exact VD b (VD b d)
 .have k:=Xt.mp s
  rw[Xt];refine⟨fun z=>?_,?_⟩
  .rcases Xy.mp z with z|z
   .exact k.1 z
   .exact f (Xh.mp z)
  .rw[WZ]
   refine⟨k.2,by simp,fun c L O n=>?_⟩;rw[Xh.mp n];rintro rfl;exact h L
 .have J:MadeD F (upd H p<|.dK zs) (as++[p]) (kss++[kvs]):=MadeD.snoc (ms:=kss) x QC hz (y.other h)
  exact J.other fun z=>by
   rcases Xy.mp z with z|z
   .exact(Xt.mp s).1 z
   .exact f (Xh.mp z)
 .rcases Xg.mp d with rfl|d
  .exact .inl Xb
  .rcases Xy.mp d with d|d
   .exact .inl (Xe _ d)
   .rw[Xh.mp d]
    exact .inr ⟨g,m⟩
end
section
variable {K:W.Frag}{ρ:QF}{i:Nat}{v:V}{C:Addr}{N:HandS}{m:Str}
def AM  (c:HandC K C)(e:ρ[i]?=some (some<|.zow<|QY C N))(hl:N.made.length<=1000)(E:∀c,g c=Vc 0)(B:∀c,tcc c=WG)(A:∀c,tee c=tCB Dv (QI (Q8 0) QQ)) :
 ZA K (tLC [none] (Db K<|Va K (Q8 i) "made") g tcc tee) ρ fun r=>∃v,r=.own v (dlP N.made):=fun H0 F σ H Q S q=>by
 obtain⟨a,dx,k,gg,d,m,y,ks,gs,xs,f,Z,o⟩:=S.hz e;have s:=S.sub;have al:f.length=N.made.length:=o.made.2.len;refine⟨_,Z,a,C,dx,_,.ref m,rfl,s _ _ o.ins,c.cl,c.md,rfl,m,rfl,⟨_,SqL.of<|s _ _ o.made.1⟩,fun J=>?_⟩;refine⟨fun k O L w=>O=f.length-k/\k<=f.length/\∃j:Qg,L=j.map V.ref/\j.length=k/\Q0 F H F w/\(∀b∈j,H b=none)/\j.Nodup/\MadeD F w j (N.made.take k),⟨f.length,by simp,XQ _,[],rfl,rfl,Q0.refl s,(by rintro b ⟨⟩),JD,.nil⟩,?_⟩
 rintro k O L w ⟨rfl,hle,j,rfl,U,l,T,M,u⟩
 have t:w m=some (.lst<|f.map V.ref):=l.fh _ _ o.made.1
 by_cases D:k<f.length
 .have R:(f.map V.ref)[k]?=some (.ref f[k]):=by simp[D]
  have ec:f[k]?=some f[k]:=by simp[D]
  refine .inr ⟨⟨_,_,SqL.of t,R⟩,?_⟩
  rintro v1 H3 ⟨rfl,hy⟩
  have P:=hy _ (SqL.of t);rw[R]at P;cases P;obtain⟨X,kv,g1,g2,g3⟩:=o.made.2.at k f[k] ec;rw[E J,B J,A J];dsimp only[Vc,WG];rw[Xd rfl];refine⟨.ref f[k],by simp[Yj],f[k],X,rfl,l.fh _ _ g2,fun p n=>⟨by rw[Xl,U];exact Vg<|by omega,f.length-(k+1),by omega,rfl,D,j++[p],by rw[XB];rfl,by rw[Xs,U];rfl,l.trans<|Q0.own l.fh n,fun b h=>?_,?_,?_⟩⟩
  .rcases Xy.mp h with h|h
   .exact T b h
   .rw[Xh.mp h];exact l.hh.free n
  .rw[WZ]
   refine⟨M,by simp,fun c hc c' G=>?_⟩;rw[Xh.mp G];rintro rfl
   exact(u.mem c hc).2 n
  .have I:N.made.take (k+1)=N.made.take k++[kv]:=by rw[W8,g1];rfl
   rw[I];exact MadeD.snoc (ms:=[]) (l.fh.free n) QC g3 (u.other fun z=>(u.mem p z).2 n)
 .have ee:k=f.length:=by omega
  refine .inl ⟨⟨_,SqL.of t,by simp;omega⟩,fun p n=>?_⟩;have X2:Q0 F w F (upd w p<|.lst<|j.map V.ref):=Q0.own l.fh n;have Y:N.made.take k=N.made:=by rw[ee,al,WA]
  rw[Y]at u;have x:p∉j:=fun z=>(u.mem p z).2 n;refine q F _ (.ref p) (p::j) _ ⟨.ref p,rfl⟩ (l.trans X2) (fun b h=>?_) ⟨rfl,p,j,rfl,rfl,Xt.mpr ⟨x,M⟩,l.fh.free n,QC,u.other x⟩
  rcases Xg.mp h with rfl|h
  .exact l.hh.free n
  .exact T b h
end
noncomputable def epO (o:Obj):Nat:=match o.data with|.dict _ ep=>ep|_=>0
noncomputable def nO (o:Obj):Nat:=match o.data with|.dict es _=>es.size|_=>0
def Itd (a:Addr)(o:Obj):It :=
 ⟨fun i H=>∃b,H a=some (.frz o<|.dK b)/\i<b.length,fun i H x c=>c=H/\∀b,H a=some (.frz o<|.dK b)->∃p,b[i]?=some p/\x=kV p.1,fun i H=>∃b,H a=some (.frz o<|.dK b)/\b.length<=i⟩
def HK    (x:HOk P w H h)(e:H a=some (.frz o<|.dK kvs)) :
 (a==sysModules)=false/\∃vs,KV kvs vs/\vs.length=nO o/\h.DictAt (ZF P w) a vs (epO o):=by
 obtain⟨i,z,j,vs,b,r,g,n,f,m,c,l,d,k⟩:=(show Z4 P w H h a (.frz o<|.dK kvs) from x a _ e);rw[i]at f;cases f;have q:epO o=n:=by unfold epO;rw[c]
 have p:nO o=g.size:=by unfold nO;rw[c]
 refine⟨j,vs,b,?_,?_⟩
 .rw[p,<- d.length]
  exact Array.length_toList
 .rw[q]
  exact⟨o,g,i,m,c,l,d,k⟩
theorem IV {P:Program}{w:World}{K:W.Frag}{tg:Expr}(a it:Addr)(o:Obj):Turn P w K tg (Itd a o) [it] it (fun i h=>h.IsKeyIter it a i (nO o)<|epO o) where
 mem:=by simp
 obj:=fun i h g b q=>by
  have e:b=it:=by simpa using q
  subst e;obtain⟨o,e,c,d⟩:=g
  exact⟨o,e,fun v z=>by rw[d]at z;cases z⟩
 keep:=fun i h B g k=>by
  obtain⟨o,e,c,d⟩:=g
  exact⟨o,k it (by simp) o e,c,d⟩
 item:=by
  intro X J D L hc i u s Y H E I A g G;subst J D L;obtain⟨f,hq,C⟩:=G;obtain⟨n1,n,l,x,U⟩:=HK I.hok hq;obtain⟨R,Q,f2,O,N,M⟩:=A it (by simp);have r:=l.length;have Z:i<n.length:=by omega
  have F:=l.keys;rw[<- x]at g;refine wpAny_pyNext_dict_item (k:=n[i].1) (v:=n[i].2) g U (by simp[Z]) fun key B hk p sb=>?_;have I1:Qr X u Y H { s with heap:=B }:=I.turned (t':=s.toks) (fun b o q e=>(sb.2 b q).trans e) R Q O N M;obtain⟨o',e,c,d⟩:=id p
  have kk:f[i].1=n[i].1:=by
   have h1:(f.map (·.1))[i]?=(n.map (·.1))[i]? := by rw[F]
   simpa [C,Z] using h1
  have rk:QK (kV f[i].1) key:=by
   rw[kk];rcases W4 (show Jn n[i].1 key=true from hk) with ⟨j,t,T,S⟩|⟨y,t,T,S⟩
   .rw[T,S];exact⟨t,rfl⟩
   .rw[T,S];exact⟨t,rfl⟩
  rw[x]at p;exact⟨key,rfl,Uy (s:={ s with heap:=B }) e c d (by decide) ⟨kV f[i].1,H,I1,rk,⟨rfl,fun ks m=>by
   rw[hq]at m;cases m
   exact⟨f[i],by simp[C],rfl⟩⟩,p,fun b q=>(A b q).1⟩⟩
 done:=by
  intro X J D L hc i u s Y H E I A g G;subst J D L;obtain⟨f,hq,C⟩:=G;obtain⟨n1,n,l,x,U⟩:=HK I.hok hq;obtain⟨R,Q,f2,O,N,M⟩:=A it (by simp);have r:=l.length;rw[<- x]at g;exact wpAny_pyNext_dict_end (I.ok.hd hc) g U (by simp;omega) fun B eb=>⟨rfl,I.turned (t':=s.toks) (fun b o q e=>eb b o q e) R Q O N M⟩
 self:=fun _ _ _ _ _ g h=>wpAny_pyIter_keyiter g h
def Rq (e:TE):TI:=fun d H R=>e d H fun x c=>∃a o b,x=.ref a/\c a=some (.frz o<|.dK b)/\R (Itd a o) c
section
variable {X:Cx}{tg:Expr}
def S6  (t:PE X l tl):PI X tg l (Rq tl):=by
 intro g s i H R I h;refine Q9 (t g s i H _ I h) ?_;rintro v d ⟨x,y,f,k,m⟩;obtain⟨a,o,p,e,r,q⟩:=m;subst e;cases k;obtain⟨n,z,j,c,w⟩:=HK f.hok r;refine wpAny_pyIter_dict n w ?_;rw[c];refine⟨d.heap.objs.size,[d.heap.objs.size],_,_,y,rfl,f.kept (t':=d.toks) fun b o e=>Xi _ e,IV a _ o,⟨_,XF _ rfl,rfl,rfl⟩,fun b u=>?_,q⟩;have e:b=d.heap.objs.size:=by simpa using u
 subst e;exact f.fpOk (Xv _) f.fresh
def Nt (i:Nat)(t:TS):TS:=fun D c H=>∃a b,c[i]?=some (some<|.ref a)/\H a=some (.dK b)/\∀o,t D c (upd H a<|.frz o<|.dK b)
def Fq {st:Stmt}{t:TS}(i:Nat)(J:PS X st t):PS X st (Nt i t):=by
 intro v s A H D I h;obtain⟨a,d,_,r,h⟩:=h;obtain⟨z,G,C,m,o,L,M,y,g⟩:=(show Z4 X.prog X.w H s.heap a (.dK d) from I.hok a _ r)
 have j:∀{b:Addr} {u:HO},H b=some u->(∀k,u≠.dK k)->b≠a:=fun{b u} e n z=>by
  subst z;rw[r]at e;exact n d (Option.some.inj e).symm
 have F:∀{b:Addr},H b=none->b≠a:=fun{b} e z=>by subst z;rw[r]at e;cases e
 have E:Un X.fs [] H (upd H a<|.frz o<|.dK d) s.heap s.heap :=
  ⟨fun b f q _ _ _=>q,fun b f q _ _ _=>⟨f.slots,q⟩,fun b _ _ n _=>by rw[Qt<|F n];exact n,fun b f q _=>⟨f,q⟩,fun b B q=>by rw[Qt<|j q fun k z=>nomatch z];exact q,fun b O u q=>by rw[Qt<|j q fun k z=>nomatch z];exact q,fun b _ f _ e _=>e,fun b N q=>⟨#[],by rw[Qt (j q<|by rintro k ⟨⟩),q];simp⟩⟩
 have p:HOk X.prog X.w (upd H a<|.frz o<|.dK d) s.heap:=fun b u e=>by
  have st:∀{u:HO},Z4 X.prog X.w H s.heap b u->Z4 X.prog X.w (upd H a<|.frz o<|.dK d) s.heap b u:=fun x=>x.stay (fun _ _ _ q=>q) (fun c l=>by rw[Qt<|j l fun k z=>nomatch z];exact l) (fun c B l=>by rw[Qt<|j l fun k z=>nomatch z];exact l)
  by_cases w:b=a
  .subst w
   rw[QC]at e;cases e
   exact⟨y,z,G,C,m,o,L,M,y,g⟩
  .rw[Qt w]at e
   exact st (I.hok b u e)
 exact J v s A _ D (I.un (t':=s.toks) E p) (h o)
end
noncomputable def dwP (o:Obj)(kvs:Zb):OwnP where
 ok K F H v p := ∃a d,v=.ref a/\p=[a]/\F a=none/\H a=some (.frz o<|.dK d)/\PairK F d kvs
 there:=by
  rintro K F H v p ⟨a,d,rfl,rfl,h,f,g⟩ b j
  cases Xh.mp j
  exact⟨h,Zt f⟩
 mono:=by
  rintro K F r H n v p s l k ⟨a,d,rfl,rfl,h,f,g⟩
  exact⟨a,d,rfl,rfl,l a Xb,by rw[k a Xb];exact f,g.mono s⟩
 uniq:=by
  rintro K F H v p q ⟨a,d,rfl,rfl,_⟩ ⟨b,m,e,rfl,_⟩ c i
  cases e
  exact i
noncomputable def DwZ (o:Obj)(kvs:Zb):ZP where
 ok K F v := ∃a b,v=.ref a/\F a=some (.frz o<|.dK b)/\PairK F b kvs
 mono:=by
  rintro K F e v s ⟨a,b,rfl,d,c⟩
  exact⟨a,b,rfl,s _ _ d,c.mono s⟩
def dwP.fz {o:Obj}{kvs:Zb}{K:W.Frag}{F c H:Hp}{v:V}{p:Qg}(h:(dwP o kvs).ok K F H v p)(s:Q5 F c)(e:∀b∈p,c b=H b):(DwZ o kvs).ok K c v:=by
 obtain⟨a,d,rfl,rfl,i,g,f⟩:=h
 exact⟨a,d,rfl,by rw[e a Xb];exact g,f.mono s⟩
section
variable {K:W.Frag}{ρ:QF}{ty:TE}{D:PEnds}{i:Nat}{v:V}{kvs:Zb}{k:Key}{d:PyData}{o:Obj}
def El (i:Nat)(e:ρ[i]?=some (some<|.own v<|dkP kvs))(h:∀o,Q1 K t (ρ.set i<|some<|.zow<|DwZ o kvs) D):Q1 K (Nt i t) ρ D:=fun n m F q H E x S C=>by
 obtain⟨s,p,w,y,r⟩:=S.writeOwn e;obtain⟨a,f,rfl,rfl,B,A,u⟩:=w;have l:=y a Xb;have g:=(Xf.mp e).1;refine⟨a,f,s,A,fun o=>?_⟩;have J:=r (upd H a<|.frz o<|.dK f) (dwP o kvs) [a] (S.sub.upd l.2.1) (fun b j _=>Qt fun z=>j<|by rw[z];exact Xb) VD ⟨a,f,rfl,rfl,B,QC,u⟩ (fun b j=>.inl j);have I:Q0 n m F (upd H a<|.frz o<|.dK f):=x.wr l.1 l.2.1;have G:(ρ.set i<|some<|.own (.ref a)<|dwP o kvs)[i]?=some (some<|.own (.ref a)<|dwP o kvs):=Xj g
 have:=DL (Ψ:=DwZ o kvs) (t:=t) (D:=D) i G (fun a b c=>dwP.fz a b c) (by rw[List.set_set];exact h o)
 exact this n m F q _ E I J C
def QB.dwz  (S:QB K H0 F ρ σ H)(e:ρ[i]?=some (some<|.zow<|DwZ o kvs)):∃a xs,σ[i]?=some (some<|.ref a)/\F a=some (.frz o<|.dK xs)/\PairK F xs kvs:=by
 obtain⟨g,h,_⟩:=S.fp;obtain⟨v,f,_,a,xs,rfl,c,b⟩:=h i _ e
 exact⟨a,xs,f,c,b⟩
def SM (e:ρ[i]?=some (some<|.zow<|DwZ o kvs))(r:Qu K ty ρ (WI k))(h:VY kvs k=some d):Qu K (Dn (Q8 i) ty) ρ d:=fun w F l H Q S q=>by
 obtain⟨a,B,j,_⟩:=S.dwz e;refine⟨_,j,r w F l H _ S fun A u y f p=>?_⟩;obtain⟨E,c,b,t,s⟩:=(S.ext f).dwz e;rw[j]at b;cases b;rw[Md p];rcases s.val k with ⟨_,z⟩|⟨x,C,n,g,m⟩
 .rw[h]at z;cases z
 .rw[h]at g
  cases g
  exact⟨a,x,rfl,.inl ⟨c,k,.inr ⟨o,(S.ext f).sub _ _ t⟩,rfl,n.symm⟩,q A u x f m⟩
def Lx (k:Key):Rep F (kV k) (WI k):=by
 cases k with
 |inl i=>exact .int i
 |inr x=>exact .str x
theorem PairK.key {F:Hp}:∀{xs:List (Key×V)} {kvs:Zb},PairK F xs kvs->xs.map (·.1)=kvs.map (·.1)
 |_,_,.nil=>rfl
 |_,_,.cons _ t=>by simp[t.key]
def RV (e:ρ[i]?=some (some<|.zow<|DwZ o kvs)):EvI K (Rq<|Q8 i) ρ (kvs.map fun t=>WI t.1):=fun E F B H R S q=>by
 obtain⟨a,b,s,n,m⟩:=S.dwz e;refine⟨_,s,a,o,b,rfl,S.sub _ _ n,q F H _ (Q0.refl S.sub) fun A z r h=>?_⟩;have f:z a=some (.frz o<|.dK b):=h _ _ (r _ _ n);have x:=m.length;refine⟨⟨b,f,by rw[Xl,x];exact Xv _⟩,fun i d g=>?_⟩
 have j:i<kvs.length:=by
  have:=(Xf.mp g).1
  simpa using this
 refine⟨⟨b,f,by omega⟩,fun y C c=>?_⟩;obtain⟨rfl,c⟩:=c;obtain⟨p,w,rfl⟩:=c b f;refine⟨A,Q0.refl h,?_⟩
 have u:p.1=(kvs[i]).1:=by
  have l:(b.map (·.1))[i]?=(kvs.map (·.1))[i]? := by rw[m.key]
  rw[Xn,Xn,w,XL j]at l;exact Option.some.inj l
 rw[Xn,XL j]at g;cases Option.some.inj g;rw[u];exact Lx _
end
section
variable {K:W.Frag}{ρ:QF}{t:TA}{D:PEnds}{i j:Nat}{v:V}{C CR:Addr}{N:HandS}{m:Str}{RR:Addr->Qj->Hp->Prop}{ts:List OT}{E:XK}{F0 H0:Hp}
def Eb {u:Type}{FL:Addr->Hp->Hp->Hp->Qj->u->Prop}{R:HandS->List OT->(OT->HandS->Prop)->Prop}{Rx:List OT->(u->Prop)->Prop}{Ψ:OT->HandS->Prop}(Q:NoH m)(e:ρ[i]?=some (some<|.own v<|Zc C N))(U:Z0 K t ρ ts)(T:R N ts Ψ)(st:ZS CR RR)
 (hn:∀r a,Ψ r a->D.nx ((ρ.set i<|some<|.own v<|Zc C a).set j (some r))) :
 Q1 K (Vb (Vs C m (JG K C CR FL R Rx) [] (XE CR RR) (Q8 i) t)<|Vc j) ρ D:=fun F0 H0 F B H E x S C'=>by
 obtain⟨p0,J,l,_⟩:=J0 S x e;obtain⟨w,Y,y,n,k,g,d,e',rfl,X⟩:=Zc.at l;refine⟨.ref w,J,w,Y,_,rfl,X,Q _ _ _ _ _ _,U H0 F B H _ S fun F2 H2 I b L=>.inl ⟨RR,rfl,st,?_⟩⟩;obtain⟨p,s1,h,s⟩:=J0 (S.ext b) (x.trans b) e;refine⟨F2,_,I++[],p,ts,N,Ψ,rfl,(S.ext b).kt,b.fh,by rw[XG];exact L,h,T,fun A z M a v' r q O G o c f P=>?_⟩;obtain⟨X',S',Z⟩:=s A z M a G o c;obtain⟨d1,d2⟩:=Z q P;exact C'.nx A _ z _ X' (S'.set f d1 (hn:=d2)) (hn r a O)
end
section
variable {P:Program}{w:World}{K:W.Frag}{mg:Str->Qf}{base:Heap}{C CR:Addr}
def Mf.evZ {m b:Str}{st:Stmt}{N ps:Qh}{k:Nat}{I:Type}{Y:Addr->Hp->Hp->Hp->Qj->I->Prop}{R:List OT->(OT->Prop)->Prop}{T:List OT->(I->Prop)->Prop}(D:Mf K C m b st ps)(S:Qp N ps (Q2 st))(n:∀ts Φ,R ts Φ->ts.length=ps.length)(i:∀ts Φ,T ts Φ->ts.length=ps.length)
 (u:ps.length<=N.length)
 (o:∀(f:Addr) (c:Value) (A:Around) (a:List Env) (s:Shared) (H:Hp) RR (ts:List OT) (Φ:OT->Prop),Room k (A.deeper<|envOfC b (Q2 st) s.heap.objs.size f c)->ZS CR RR->R ts Φ ->
  ∃t,PSs (cx1 P w K mg base N b (Q2 st) f c A a s H<|XE CR RR) (Z9 st) t/\Q1 K t (ts.map some++List.replicate (N.length-ts.length) none) { nx:=fun _=>Φ<|.fz .none,rt:=Φ })
 (x:∀(f:Addr) (c:Value) (A:Around) (a:List Env) (s:Shared) (F H:Hp) RR (ts:List OT) (g:I->Prop),Room k (A.deeper<|envOfC b (Q2 st) s.heap.objs.size f c)->ZS CR RR->(∀l j e B d,g d->Q0 F H l j->H e=none->Y e l j H B d->RR e B j)->T ts g ->
  ∃t,PSs (cx1 P w K mg base N b (Q2 st) f c A a s H<|XE CR RR) (Z9 st) t/\EvZ K F H t (ts.map some++List.replicate (N.length-ts.length) none)) :
 YA P w K mg base C m ps (k+1) (Wf K CR Y R T):=by
 obtain⟨f,fd,F,hm,hb⟩:=D.ex;refine⟨f,fd,hm,hb,F.okX S (fun L H Q E ⟨F,ts,_,_,y,RR,_,_,q⟩=>?_) fun c A a s H L Q E X ⟨F,ts,U,G,y,RR,eE,st,q⟩=>?_⟩
 .rcases q with ⟨r,h,_⟩|⟨r,h,_⟩
  .exact y.length.trans (n ts r h)
  .exact y.length.trans (i ts r h)
 .subst eE
  rcases q with ⟨Φ,h,q⟩|⟨g,h,q⟩
  .obtain⟨t,O,M⟩:=o f c A a s H RR ts Φ X st h
   refine⟨t,O,M F H F (start N L) H _ (Q0.refl G) (UQ (ps:=ps) U G y<|by rw[n ts Φ h];exact u) ⟨fun l Z j ρ' J _ e=>?_,fun l j v r' p J hp ok e=>?_,fun _ _ _ _ _ _ z=>False.elim z,fun _ _ _ _ _ _ z=>False.elim z⟩⟩
   .exact q l j _ [] _ e J (by rintro _ ⟨⟩) ⟨rfl,.non⟩
   .exact q l j v p r' e J hp ok
  .obtain⟨t,O,M⟩:=x f c A a s F H RR ts g X st q h
   exact⟨t,O,M F (start N L) H _ (Q0.refl G)<|UQ (ps:=ps) U G y<|by rw[i ts g h];exact u⟩
end
structure BackF {δ:Type}(FL:Addr->Hp->Hp->Hp->Qj->δ->Prop):Prop where
 back:∀{e:Addr} {F H H0 H1:Hp} {dct:Qj} {d:δ},FL e F H H1 dct d->Q5 H0 H1->FL e F H H0 dct d
section
variable {K:W.Frag}{ρ:QF}{t:TA}{i:Nat}{v:V}{C CR:Addr}{N:HandS}{m:Str}{RR:Addr->Qj->Hp->Prop}{ts:List OT}{F0 H0:Hp}{δ:Type}{FL:Addr->Hp->Hp->Hp->Qj->δ->Prop}{R:List OT->(OT->Prop)->Prop}
def Kd  (B:NoH m)(e:ρ[i]?=some (some<|.zow<|QY C N))(h:Z0 K t ρ ts)(E:R (.zow (QY C N)::ts) Φ)(st:ZS CR RR) :
 ZA K (Vs C m (Wf K CR FL R Rx) [] (XE CR RR) (Q8 i) t) ρ Φ:=fun H0 F n H Q S q=>by
 obtain⟨a,l,k,g,d,w,y,x,G,o,J,I,j⟩:=S.hz e;refine⟨_,I,a,l,_,rfl,S.sub _ _ j.ins,B _ _ _ _ _ _,h H0 F n H _ S fun O T P c s=>?_⟩
 exact⟨O,_,(S.ext c).kt,c.fh,.zow (Ψ:=QY C N) ((QY C N).mono (K:=K) c.ff ⟨a,l,k,g,d,w,y,x,G,o,J,rfl,j⟩)<|by rw[XG];exact s,RR,rfl,st,.inl ⟨Φ,E,fun M L v p u z r A f=>q M L v p u z (c.trans r) (fun b D=>c.hh.free<|A b D) f⟩⟩
def AL (J:BackF FL)   (w:NoH m)(e:ρ[i]?=some (some<|.zow<|QY C N))(E:Z0 K t ρ ts)(D:Rx (.zow (QY C N)::ts) Φx)(st:ZS CR RR)
 (u:∀h c e b d,Φx d->Q0 F0 H0 h c->H0 e=none->FL e h c H0 b d->RR e b c)  (x:Q0 F0 H0 F H) (S:QB K H9 F ρ σ H) :
 Vs C m (Wf K CR FL R Rx) [] (XE CR RR) (Q8 i) t σ H Q:=by
 obtain⟨a,n,k,g,d,r,y,s,G,o,L,I,l⟩:=S.hz e;refine⟨_,I,a,n,_,rfl,x.fh _ _ l.ins,w _ _ _ _ _ _,E H9 F σ H _ S fun M P O f q=>?_⟩;have j:=x.trans f
 exact⟨M,_,(S.ext f).kt,f.fh,.zow (Ψ:=QY C N) ((QY C N).mono (K:=K) f.ff ⟨a,n,k,g,d,r,y,s,G,o,L,rfl,l⟩)<|by rw[XG];exact q,RR,rfl,st,.inr ⟨Φx,D,fun h c e b d B p A z=>u h c e b d B (j.trans p) (j.hh.free A)<|J.back z j.hh⟩⟩
def Oa (k:BackF FL)  (g:NoH m)(e:ρ[i]?=some (some<|.zow<|QY C N))(j:Z0 K t ρ ts)(h:Rx (.zow (QY C N)::ts) Φx)(st:ZS CR RR)
 (f:∀c b e a d,Φx d->Q0 F0 H0 c b->H0 e=none->FL e c b H0 a d->RR e a b):EvZ K F0 H0 (Vt<|Vs C m (Wf K CR FL R Rx) [] (XE CR RR) (Q8 i) t) ρ:=fun F l H E x S=>AL k g e j h st f x S
end
structure ME (K:W.Frag)(C:Addr):Prop where
 cls:∀h:Heap,K.In h->∃(bmB bm:Qe) (nm q:Str) (N:Addr) (bs:Qe) (hdct:Bool) (sn:Qh) (sub:Qe) (ab:Bool) (col:Option Bool) (dd:Qj) (k0 k1 k2 k3 k5:Qf),
  ExcBaseFacts "ValueError" "ValueError.__new__" "ValueError.__init__" bmB/\OwnTail h bmB bm/\h.get? C=some (excClassObj nm q C N bs bm hdct sn sub ab col dd k0 k1 k2 k3 k5 "ValueError.__new__") /\
  ∃mN:Str->Qf,h.Ns N mN/\mN "__init__"=none
open PySem.W in
noncomputable def DF (K:Frag)(C:Addr):Bool:=match K.lookup C with
 |some ⟨.type "type",_,.cls a,b⟩=>(match a.mro,b.toList with
   |.ref d::c,[_,_,_,_,some<|.builtin n,_]=>d==C&&n == "ValueError.__new__" && !a.hasDel&&tailIn K Bk c&&nsOkIn K a.ns&&nsIn K a.ns "__init__" == some none
   |_,_=>false)
 |_=>false
open PySem.W in
theorem Ft {K:Frag}{C:Addr}(q:DF K C=true):ME K C where
 cls:=fun h X=>by
  unfold DF at q;split at q
  .rename_i v w e t
   split at q
   .rename_i z x i k1 k2 g n f k j
    simp only[WB,beq_iff_eq,Bool.not_eq_true']at q;obtain⟨⟨⟨⟨⟨rfl,rfl⟩,a⟩,s⟩,hok⟩,b⟩:=q;obtain⟨p,bs,r,ns,o,hd,m,sub,y,d,u⟩:=w
    dsimp only at k a hok b;subst k a;have c:e=#[i,k1,k2,g,some<|.builtin "ValueError.__new__",f]:=by
     obtain⟨l⟩:=e
     simp only at j
     rw[j]
    subst c;exact⟨Bk,x,p,o,ns,bs,hd,m,sub,y,d,v,i,k1,k2,g,f,PySem.F.excBase_ValueError,tail_of_in X s,X _ _ t,_,.of_isNs<|isNs_of_in X hok,nsMap_none_of_in X hok b⟩
   .cases q
  .cases q
structure MD (K:W.Frag)(mg:Str->Qf)(x:Str)(C:Addr):Prop where
 cl:ME K C
 kp:W.keepIn K (.ref C)=true
 m:mg x=some (.ref C)
def Dp (C:Addr)(t:TA):TE:=fun b H Q=>t b H fun c a=>c.length<=1000/\∀x,a x=none->Q (.ref x) (upd a x<|.ext<|phX C x none)
section
variable {prog:Program}{w:World}{A:Around}{E:Qb}{h:Heap}{g:Array GenState}{d:Drawn}{t:Nat}{os:OsState}
variable {nm q:Str}{C N:Addr}{bs bm bmB:Qe}{hdct:Bool}{sn:Qh}{sub:Qe}{ab:Bool}{col:Option Bool}{dd:Qj}{k0 k1 k2 k3 k5:Qf}{B newId initId:String}
def Cp (F:ExcBaseFacts B newId initId bmB)(T:OwnTail h bmB bm){a:Qe}
 (i:h.get? C=some (excClassObj nm q C N bs bm hdct sn sub ab col dd k0 k1 k2 k3 k5 newId)) (hn:h.Ns N mN) (m:mN "__init__"=none) (c:a.length<=sizeLine)
 (s:∀h':Heap,(∀b o,h.get? b=some o->h'.get? b=some o)->phX C (h.objs.size+1) none h'->Q (.done<|.ret<|.ref<|h.objs.size+1) ⟨h',g,d,t,os⟩) :
 wpAny (model prog w) A (Builtin.«type.__call__» ⟨.ref C::a,[]⟩) Q E ⟨h,g,d,t,os⟩:=by
 have k:∀b o,h.get? b=some o->(VG h C a).get? b=some o:=fun b o e=>Xi _ (Xi _ e)
 repeat (first
  |with_reducible refine wpAny_loadPart_at i ?_
  |with_reducible refine wpAny_madeBy_exc i ?_
  |wp_step)
 refine codeAny_call_builtin_code (Code.quiet_builtin _ F.quiet)
  (wpAny_check_new_subT F T i ?_)
 refine codeAny_exc_new_subT F T i ?_ c;show wpAny _ _ _ _ _ ⟨VG h C a,g,d,t,os⟩
 have j:(VG h C a).get? (h.objs.size+1)=some (B4 C h.objs.size):=by
  unfold VG;exact M7 (by rw[W9]) rfl
 have f:=k _ _ i;have n:(VG h C a).Ns N mN:=hn.keeps k;have r:=T.keeps k;have l:(Value.ref C::bm).contains (.ref C)=true:=by simp
 unfold isInstance;repeat (first
  |with_reducible refine wpAny_loadPart_at j ?_
  |(with_reducible refine wpAny_isSubtype_exc f ?_;rw[l])
  |wp_step)
 show wpAny _ _ (typeLookup (.ref C) _) _ _ _;refine wpAny_typeLookup_tail f n r F.mroIs F.init.lookup ?_;rw[m];refine wpAny_holding (Xc<|wpAny_of_eq (F.init.bind _) ?_);refine Xc (wpAny_call<|codeAny_call_builtin F.init.plain F.initEntry<|wpAny_check_init_subT F r f j rfl ?_)
 wp_walk using AutoSeq1.wpAny_loadPart' j
 refine s _ (fun b o p=>?_) ⟨(VG h C a).objs.size,#[],?_⟩
 .rw[XU _ _<|Yh<|UZ<|Xk p]
  exact Xi _ (k _ _ p)
 .rw[X8 _ (Xi _ j) rfl]
  rfl
def Ll (F:ExcBaseFacts B newId initId bmB)(T:OwnTail h bmB bm){a:Qe}
 (e:h.get? C=some (excClassObj nm q C N bs bm hdct sn sub ab col dd k0 k1 k2 k3 k5 newId)) (hn:h.Ns N mN) (f:mN "__init__"=none) (c:a.length<=sizeLine)
 (i:∀h':Heap,(∀b o,h.get? b=some o->h'.get? b=some o)->phX C (h.objs.size+1) none h'->Q (.ref<|h.objs.size+1) ⟨h',g,d,t,os⟩) :
 wpAny (model prog w) A (call (.ref C) a) Q E ⟨h,g,d,t,os⟩:=by
 have l:=tc_lookup;have k:=tc_bind (.ref C);have j:(⟨h,g,d,t,os⟩:Shared).TypeIs (.ref C) "type" := ⟨_,e,rfl⟩;refine wpAny_call (codeAny_of_tree ?_);show wpAny _ _ (callAny (.ref C) _) _ _ _
 repeat (any_goals (first
  |assumption
  |with_reducible refine wpAny_loadPart_at e ?_
  |wp_step))
 refine⟨rfl,?_⟩;refine codeAny_call_builtin_at (Code.quiet_builtin _<|by decide +kernel) entry_typeCall (wpAny_check_type_call_sub e ?_);exact Cp F T e hn f c i
end
section
variable {X:Cx}{C:Addr}{x:Str}{p pos:Pos}{e:Expr}{es:Qi}{t:TA}{te:TE}{R:Addr->Qj->Hp->Prop}
noncomputable def EM (c:ME X.K C)(z:W.keepIn X.K (.ref C)=true)(D:Gl X x)(A:X.mg x=some (.ref C))
 (F:PA X (e::es) t) (i:(x==("__debug__" : Str))=false:=by decide) (E:starEach (e::es) X.env=(false,eval e X.env)::starEach es X.env:=by rfl) (f:(backTo pos<|starEach es X.env).any (·.1)=false:=by rfl) :
 PE X (.Call (.Name x p) (e::es) [] pos) (Dp C t):=by
 intro j s n H Q I h;refine wpAny_Call_Name_kw (Jw I D A ?_ i);refine W.callWith_K (h₀:=X.base) I.ok.mod.kin z (Q9 (F pos j s n H _ I h) ?_) E f;rintro o w ⟨P,H1,a,r,hl,q⟩;refine⟨a.kIn,?_⟩;obtain⟨M,bm,Z,U,N,bs,m,S,v,ab,L,dd,k0,k1,k2,k3,k5,O,T,J,mN,G,B⟩:=c.cls _ a.kIn;obtain⟨l,g,d,u,Y⟩:=w;refine Ll O T J G B (by show o.length<=_;rw[<- r.length,sizeLine_eq];omega) fun h' b y=>?_;have k:l.objs.size<=l.objs.size+1:=Nat.le_succ _
 exact⟨.ref _,_,a.laid (t':=u) b k<|B6 y,rfl,q _<|a.hok.fresh k⟩
def Ir (c:ME X.K C)(g:X.calm=true)(L:PE X e te)(J:∀d i H s a b,Qr X d i H s->H a=some (.ext<|phX C a b)->R a b H->X.xe (.ref a) s):PS X (.Raise (some e) none pos) (sXR C te R):=by
 intro d s i H D I h;rw[arm_exec_Raise];simp only[evalOpt,Option.map];refine Xc (wpAny_standAt<|RW (C:=C) (I.ok.hd g)<|Xc<|Q9 (L d s i H _ I h) ?_);rintro u Z ⟨v,H1,m,r,a,b,O,n,q⟩;refine Xc<|wpAny_standAt<|Xq ?_;subst O;obtain rfl:u=Value.ref a:=r;obtain⟨⟨t,w,k⟩,_,_⟩:=m.hok a _ n;obtain⟨S,U,z,y,N,Q,f,o,j,W,l,P,G,F,E,B,A,Y,T,M,_⟩:=c.cls _ m.kIn
 exact⟨a,t,b,w,U,z,y,N,Q,f,o,j,W,l,P,G,F,E,B,A,_,rfl,T.hasType Y.hasBase,M,k,J _ _ _ _ _ _ m n q⟩
def PL {C:Addr}{m:Str}{pos a:Pos}{o:Expr}{b:TE}{ps:Qh}{j k:Nat}{d:Sp}{E:XK}{pl:Sem Bool}(M:YA X.prog X.w X.K X.mg X.base C m ps j d)(c:HandC X.K C)(l:Room k X.A)(h:Yf (CX1 X.prog X.w) X E)(r:PE X o b)(q:j<=k:=by walk_at"j")
 (i:eval (.Call (.Attribute o m a) [] [] pos) X.env=(do
  let g <- eval o X.env
  standAt a.atName
  let (f,first) <- holding [g] (getMethod g m pl)
  callWith pos f first (backTo pos<|starEach [] X.env)<|backToKw pos<|keywordEach [] X.env):=by rfl) :
 PE X (.Call (.Attribute o m a) [] [] pos) (Vs C m d [] E b QQ):=by
 obtain⟨f,u,n,s,F⟩:=M;exact SK (pl:=pl) r c.cl n F (l.mono q) s .nil h i
end
section
variable {P:Program}{w:World}{K:W.Frag}{mg:Str->Qf}{base:Heap}{N:Qh}{qual:Str}{scope:Scope}{f0:Addr}{cd:Value}{A:Around}{outer:List Env}{s0:Shared}{H0:Hp}{C:Addr}{RR:Addr->Qj->Hp->Prop}
noncomputable def Tj {x:Str}{p d b:Pos}{e:Expr}{es:Qi}{t:TA}(c:MD K mg x C)(f:ZS C RR)
 (k:PA (cx1 P w K mg base N qual scope f0 cd A outer s0 H0<|XE C RR) (e::es) t) (j:Gl (cx1 P w K mg base N qual scope f0 cd A outer s0 H0<|XE C RR) x:=by rfl)
 (i:(x==("__debug__" : Str))=false:=by decide) (h:starEach (e::es) (cx1 P w K mg base N qual scope f0 cd A outer s0 H0<|XE C RR).env=(false,eval e (cx1 P w K mg base N qual scope f0 cd A outer s0 H0<|XE C RR).env)::starEach es (cx1 P w K mg base N qual scope f0 cd A outer s0 H0<|XE C RR).env:=by rfl)
 (g:(backTo d<|starEach es (cx1 P w K mg base N qual scope f0 cd A outer s0 H0<|XE C RR).env).any (·.1)=false:=by rfl) :
 PS (cx1 P w K mg base N qual scope f0 cd A outer s0 H0<|XE C RR) (.Raise (some<|.Call (.Name x p) (e::es) [] d) none b) (sXR C (Dp C t) RR) :=
 Ir c.cl rfl (EM c.cl c.kp j c.m k i h g) (fun m n H s a l I h r=>SC f I h r)
end
def WE (e:Addr)(F H H0:Hp)(a:Qj)(_:Unit):Prop:=a=none/\F e=none
def bkN:BackF WE:=⟨fun h _=>h⟩
section
variable {K:W.Frag}{ρ:QF}{ta:TE}{C:Addr}{F0 H0:Hp}{RR:Addr->Qj->Hp->Prop}
def IS {a:Unit->Prop}{d:PyData}(h:Qu K ta ρ d)(s:a ())(r:∀m j e f d,a d->Q0 F0 H0 m j->H0 e=none->WE e m j H0 f d->RR e f j):EvZ K F0 H0 (sXR C (Dp C<|QI ta QQ) RR) ρ:=fun F n H D x S =>
 h H0 F n H _ S fun t l u p v=>⟨by simp,fun e i=>by
  have g:=x.trans p
  have k:Q5 l (upd l e<|.ext<|phX C e none):=fun b o c=>by
   have q:b≠e:=fun z=>by subst z;rw[i]at c;cases c
   rw[Qt q];exact c
  exact⟨e,none,rfl,QC,r t _ e none () s (g.trans ⟨k,Q5.refl _,g.fh.trans k,fun b c=>.inl c⟩) (g.hh.free i) ⟨rfl,g.fh.free i⟩⟩⟩
end
def Np (C e:Addr):OwnP where
 ok:=fun K F H v p=>p=[e]/\F e=none/\∃T,H e=some (.ext<|phF C e none T)
 there:=fun{K F H v p} h a b=>by
  obtain⟨rfl,d,T,c⟩:=h
  cases Xh.mp b
  exact⟨d,Zt c⟩
 mono:=fun{K F l H k v p} s g f h=>by
  obtain⟨rfl,d,T,c⟩:=h
  exact⟨rfl,g _ Xb,T,(f _ Xb).trans c⟩
 uniq:=fun{K F H v p j} h i a b=>by
  obtain⟨rfl,_⟩:=h;obtain⟨rfl,_⟩:=i;exact b
section
variable {K:W.Frag}{ρ:QF}{C:Addr}{th:Addr->TS}{tb:Ends->TS}{D:PEnds}{n i j:Nat}{e:Addr}
def IR (w:Unit->Prop)(U:j<n)(hth:∀e,Q1 K (th e) ((List.replicate n none).set j (some<|.own (.ref e)<|Np C e)) { nx:=fun v=>D.nx<|v.set j none,rt:=fun _=>False })
 (hz:∀(E:Ends) (F0 H0 F:Hp) (r:St) (H:Hp),Q0 F0 H0 F H->QB K H0 F ρ r H->(∀o s e f u,w u->Q0 F H o s->H e=none->WE e o s H f u->∀(d:St) b T,d.length=n->Lefts C e f s b->b T=none->T≠e->th e (Dh E j) (d.set j<|some<|.ref e) (left C e f T b))->tb E E r H):Q1 K (Bg tb) ρ D:=fun F0 H0 F r H E x S c=>by
 refine hz E F0 H0 F r H x S fun o s e f u _ p G Y d b T R I hT h=>?_;obtain⟨rfl,J⟩:=Y;have O:Q5 H (left C e none T b):=Mr (.step I hT h) p.hh G;have A:Q5 o (left C e none T b):=Mr (.step I hT h) p.fh J;have B:left C e none T b e=some (.ext<|phF C e none T):=by unfold left;rw[Qt<|Ne.symm h,QC]
 have Z:Q0 F0 H0 o (left C e none T b):=x.trans ⟨O,p.ff,A,p.fr⟩;have y:j<d.length:=by omega
 refine hth e F0 H0 o (d.set j<|some<|.ref e) _ (Dh E j) Z ⟨S.kt.mono p.ff,A,by simp[R],fun k=>if k=j then [e] else [],fun k t q=>?_,fun k l a m X=>?_,fun k a m=>?_⟩ ⟨fun F4 L H4 M N S4 P=>c.nx F4 _ H4 _ N (S4.setN none) P,fun _ _ _ _ _ _ _ _ z=>False.elim z,fun _ _ _ _ _ _ z=>False.elim z,fun _ _ _ _ _ _ z=>False.elim z⟩
 .by_cases g:k=j
  .subst g
   rw[Xj<|by simpa using U]at q;cases q;refine⟨.ref e,Xj y,?_⟩;dsimp only;rw[Xd rfl];exact⟨rfl,rfl,J,T,B⟩
  .rw[Xo<|Ne.symm g,MC]at q
   split at q<;>cases q
 .by_cases g:k=j
  .by_cases Q:l=j
   .omega
   .simp[Q]at X
  .simp[g]at m
 .dsimp only at m
  by_cases g:k=j
  .rw[Xd g]at m
   cases Xh.mp m
   exact⟨x.hh.free G,Zt B⟩
  .simp[g]at m
def Rz  (h:ρ[i]?=some (some<|.own (.ref e)<|Np C e))(d:Gg c=some cv)(a:W.kitOne K (.ref C) cv=some b):Qu K (tCB (Yr K C)<|QI (Q8 i)<|QI (tC c) QQ) ρ (.bool b):=fun p F m H Q S k=>by
 obtain⟨o,f,_⟩:=S.fp;obtain⟨u,l,rfl,_,_,T,g⟩:=f i _ h
 exact⟨.ref e,l,.ref e,c,cv,b,rfl,d,.inr<|.inl ⟨e,T,rfl,g,a⟩,k F H _ (Q0.refl S.sub)<|.bl b⟩
def EJ {p:Type}{r:Addr->Hp->Hp->Hp->Qj->p->Prop}(Y:BackF r){CH CR:Addr}{N:HandS}{m:Str}{t:TA}{ts:List OT}{RR:Addr->Qj->Hp->Prop}{F0 H0 w:Hp}{E:Ends}{R:HandS->List OT->(OT->HandS->Prop)->Prop}{v:List OT->(p->Prop)->Prop}{c:p->Prop}(L:NoH m)(e:ρ[i]?=some (some<|.zow<|QY CH N))(T:Z0 K t ρ ts)(Q:v (.zow (QY CH N)::ts) c)(st:ZS CR RR)
 (J:∀l f e b d,c d->Q0 F0 H0 l f->H0 e=none->r e l f H0 b d->RR e b f) {F:Hp} {o:St} {H:Hp} (x:Q0 F0 H0 F H) (S:QB K w F ρ o H) :
 Vt (Vs CH m (JG K CH CR r R v) [] (XE CR RR) (Q8 i) t) E o H:=by
 obtain⟨a,u,k,g,d,G,y,I,U,z,Z,X,s⟩:=S.hz e;refine⟨_,X,a,u,_,rfl,x.fh _ _ s.ins,L _ _ _ _ _ _,T w F o H _ S fun F2 H2 vs h B=>.inr ?_⟩;have q:=x.trans h
 exact⟨F2,_,(S.ext h).kt,h.fh,.zow (Ψ:=QY CH N) ((QY CH N).mono (K:=K) h.ff ⟨a,u,k,g,d,G,y,I,U,z,Z,rfl,s⟩)<|by rw[XG];exact B,RR,rfl,st,.inr ⟨c,Q,fun l f e b d P A O M=>J l f e b d P (q.trans A) (q.hh.free O)<|Y.back M q.hh⟩⟩
end
structure TD (K:W.Frag)(mg:Str->Qf)(Y C:Addr):Prop where
 em:W.exmOne K (.ref C) (.ref Y)=some true
 my:mg "YardError"=some (.ref Y)
 is:Ni K C
 k1:W.kitOne K (.ref C) (.ref C)=some true
 k2:W.kitOne K (.ref C) (.type "ValueError")=some true
def R6:List V->Hp->VK->Prop:=fun c H Q=>∃a o b,c=[.ref a]/\H a=some (.frz o<|.dK b)/\∀p,H p=none->Q (.ref p) (upd H p<|.dK b)
def Ah:Z7 X (.type "dict") R6:=by
 intro f s i H j k Q I r h;obtain⟨a,o,c,rfl,e,q⟩:=h;obtain⟨u,rfl,b⟩:=YD r
 cases b
 exact SX I (.inr ⟨o,e⟩) fun p l d g=>⟨.ref p,_,g,rfl,q p d⟩
def NW:List V->Hp->VK->Prop:=fun c H Q=>∃a o b,c=[.ref a,.ty "dict"]/\H a=some (.frz o<|.dK b)/\Q (.bl true) H
def Co:Z7 X (.builtin "isinstance") NW:=by
 intro k s l H m p Q I r h;obtain⟨a,o,c,rfl,g,q⟩:=h;obtain⟨u,d,rfl,e,f⟩:=Gk r
 cases (show d=Value.type "dict" from f)
 cases e
 obtain⟨_,z,y,n,w,v,x,A,i,j,_⟩:=(show Z4 X.prog X.w H s.heap a (.frz o<|.dK c) from I.hok _ _ g);exact Ss i j.1 (b:=true) (by decide) fun t=>⟨.bl true,H,I.tok t,rfl,q⟩
section
variable {K:W.Frag}{ρ:QF}{te:TE}{D:PEnds}{i j:Nat}{v:V}{kvs:Zb}{kss:List Zb}{o:Obj}
def C5 (e:ρ[i]?=some (some<|.zow<|DwZ o kvs)):Qu K (tCB NW<|QI (Q8 i)<|QI (tC<|.ty "dict") QQ) ρ (.bool true):=fun h F f H Q S q=>by
 obtain⟨a,b,c,d,g⟩:=S.dwz e
 exact⟨_,c,a,o,b,rfl,S.sub _ _ d,q F H _ (Q0.refl S.sub)<|.bl _⟩
def IZ (e:ρ[i]?=some (some<|.own v<|dlP kss))(w:ρ[j]?=some (some<|.zow<|DwZ o kvs))(N:kss.length<1000)(hn:D.nx (ρ.set i<|some<|.own v<|dlP<|kss++[kvs])) :
 Q1 K (Vt<|tBM K "list" VV (Q8 i)<|QI (tCB R6<|QI (Q8 j) QQ) QQ) ρ D:=fun T I F k H E x S J=>by
 obtain⟨b,l,m,A,z⟩:=S.dwz w;obtain⟨n,q,r,M,_⟩:=S.writeOwn e;obtain⟨a,O,rfl,rfl,L,Q,C,P⟩:=r;refine⟨_,n,.inl ⟨rfl,_,SqL.of C⟩,_,m,b,o,l,rfl,S.sub _ _ A,fun p g=>?_⟩;have f:I p=none:=x.hh.free g;obtain⟨R,c,y,_,h,B,s,t,d,G⟩:=S.dlApp e g f z
 cases y
 refine⟨a,c.map V.ref,.ref p,rfl,rfl,by rw[Qt d];exact h,by rw[Xl,B];exact Vg<|by omega,?_⟩;have u:c.map V.ref++[V.ref p]=(c++[p]).map V.ref:=by rw[XB];rfl
 rw[u];exact J.nx F k _ _ ((x.trans<|Q0.own S.sub g).wr s t) G hn
def Pl (u:∀k∈kss,JQ k)(h:ZA K te ρ fun r=>∃v,r=.own v (dlP kss))(z:ρ[j]?=some (some<|.zow<|DlZ kss)):Qu K (tOp NU te<|Q8 j) ρ (.bool false):=fun I F l H Q S q =>
 h I F l H _ S fun g G v p r t c M s=>by
  obtain⟨J,rfl⟩:=t;obtain⟨rfl,a,C,rfl,rfl,L,N,E,f⟩:=s;obtain⟨b,A,n,B,d⟩:=(S.ext c).dlz z;refine⟨_,n,a,b,C,A,rfl,rfl,E,c.fh _ _ B,Ff (F:=g) u f.len d.len (fun i a e=>f.at i a e) fun i a e=>?_,q g G _ c<|.bl _⟩;obtain⟨m,k,y,x,w⟩:=d.at i a e
  exact⟨m,k,y,c.fh _ _ x,w⟩
def FT  (e:ρ[i]?=some (some<|.oll dss))(h:EvO K te ρ (.ol ds))(hl:dss.length<1000)(hn:D.nx (ρ.set i<|some<|.oll<|dss++[ds])) :
 Q1 K (Vt<|tBM K "list" VV (Q8 i)<|QI te QQ) ρ D:=fun F0 H0 F σ H E x S C=>by
 obtain⟨kt,h1,h2,B,h3,X,r⟩:=id S;obtain⟨v,e1,a,s,rfl,w,U,fa,ha,oa⟩:=h3 i _ e;refine⟨_,e1,.inl ⟨rfl,_,SqL.of ha⟩,h H0 F σ H _ S fun F1 H1 u p I hp ok=>?_⟩;obtain⟨b,rfl,rfl,ob⟩:=ok;have q:=(show Zs K F H (.ref a) (.oll dss) (B i) from⟨a,s,rfl,w,U,fa,ha,oa⟩).ext I;obtain⟨a',as',ea,M,nd',G,ha',N⟩:=q
 cases ea
 rw[w]at M;obtain rfl:s=as':=by injection M
 have R:H b=none:=hp b Xb;have y:∀k,b∉B k:=fun k f=>(r k b f).2 R;have n:a∈B i:=by rw[w];exact Xb
 have O:b∉a::s:=fun z=>y i (by rw[w];exact z);have P:b≠a:=fun z=>O (by rw[z];exact Xb);have hlt:=(Xf.mp e).1;refine⟨a,s.map V.ref,.ref b,rfl,rfl,ha',by rw[Xl,N.length];exact Vg<|by omega,?_⟩;refine C.nx F1 σ _ _ ((x.trans I).wr (r i a n).1 G) ⟨kt.mono I.ff,I.fh.upd G,by simp[h2],fun k=>if k=i then a::(s++[b]) else B k,fun k t Y=>?_,fun k l c f Q=>?_,fun k c f=>?_⟩ hn
 .by_cases g:k=i
  .subst g
   rw[Xj hlt]at Y;cases Y;dsimp only;rw[Xd rfl];refine⟨_,e1,a,s++[b],rfl,rfl,?_,G,?_,(N.other (Xt.mp U).1).snoc (ob.other P)⟩
   .have hnd:(s++[b]).Nodup:=by
     rw[WZ];refine⟨(Xt.mp U).2,by simp,fun c hc d hd=>?_⟩
     have:d=b:=by simpa using hd
     subst this;exact fun z=>O (by rw[<- z];exact Xe _ hc)
    refine Xt.mpr ⟨fun z=>?_,hnd⟩
    rcases Xy.mp z with z|z
    .exact(Xt.mp U).1 z
    .have:a=b:=by simpa using z
     exact P this.symm
   .rw[QC];simp
  .rw[Xo<|Ne.symm g]at Y
   obtain⟨u,f1,f2⟩:=h3 k t Y;refine⟨u,f1,?_⟩;dsimp only;rw[Xa g];exact(f2.ext I).other fun z=>g (X k i a z n)
 .have A:∀k,c∈(if k=i then a::(s++[b]) else B k)->(k=i/\(c∈B i\/c=b))\/(k≠i/\c∈B k):=fun k f=>by
   by_cases g:k=i
   .rw[Xd g]at f
    refine .inl ⟨g,?_⟩
    rcases Xg.mp f with rfl|f
    .exact .inl n
    .rcases Xy.mp f with f|f
     .exact .inl (by rw[w];exact Xe _ f)
     .exact .inr (by simpa using f)
   .rw[Xa g]at f
    exact .inr ⟨g,f⟩
  rcases A k f with ⟨r1,L⟩|⟨r1,Z⟩
  .rcases A l Q with ⟨J,q⟩|⟨J,T⟩
   .rw[r1,J]
   .rcases L with L|L
    .exact Xm (X l i c T L) J
    .exact Xm (L▸T) (y l)
  .rcases A l Q with ⟨J,q⟩|⟨J,T⟩
   .rcases q with q|q
    .exact Xm (X k i c Z q) r1
    .exact Xm (q▸Z) (y k)
   .exact X k l c Z T
 .refine⟨?_,VD c ?_⟩
  .by_cases g:k=i
   .simp only[Xd g]at f
    rcases Xg.mp f with rfl|f
    .exact(r i _ n).1
    .rcases Xy.mp f with f|f
     .exact(r i c<|by rw[w];exact Xe _ f).1
     .have:c=b:=by simpa using f
      rw[this];exact x.hh.free R
   .simp only[Xa g]at f
    exact(r k c f).1
  .have m:∀{c:Addr},H c≠none->H1 c≠none:=fun{c} hc=>by
    obtain⟨oo,ho⟩:=U9 hc;rw[I.hh _ _ ho];rintro⟨⟩
   by_cases g:k=i
   .simp only[Xd g]at f
    rcases Xg.mp f with rfl|f
    .exact m (r i _ n).2
    .rcases Xy.mp f with f|f
     .exact m (r i c<|by rw[w];exact Xe _ f).2
     .have:c=b:=by simpa using f
      rw[this];obtain⟨_,zs,hz,_⟩:=ob;exact Zt hz
   .simp only[Xa g]at f
    exact m (r k c f).2
end
end L2
end
end
section
namespace My
open PySem L2 Mir
local macro_rules | `(tactic| walk_at "d") => `(tactic| dsimp only [List.set])
local macro_rules | `(tactic| walk_at "e") => `(tactic| dsimp only [List.set,Jk,List.map,Wq])
local macro_rules | `(tactic| walk_at "x") => `(tactic| try dsimp only [Fa,CZ])
local macro_rules | `(tactic| walk_at "p") => `(tactic| exact ⟨rfl,rfl,rfl,by decide +kernel,rfl,by decide +kernel,by decide +kernel⟩)
local macro_rules | `(tactic| walk_at "j") => `(tactic| first | decide | omega)
noncomputable def top (i:Nat):Stmt:=PySem.Challenge.pw_chargeyard_k62_turns_made.main.body.getD i (.Pass ⟨0,0,0,0⟩)
abbrev Ku:Stmt:=top 8
abbrev KZ:Stmt:=top 9
abbrev K0:Stmt:=top 10
abbrev KU:Stmt:=top 11
abbrev Kw:Stmt:=top 12
abbrev Kr:Stmt:=top 13
abbrev KJ:Stmt:=top 14
abbrev Kk:Stmt:=top 15
abbrev Ks:Stmt:=top 16
abbrev HX:Stmt:=top 17
abbrev Ky:Stmt:=top 18
abbrev HZ:Stmt:=top 19
abbrev HV:Stmt:=top 20
abbrev K6:Stmt:=top 21
abbrev KF:Stmt:=top 22
abbrev KM:Stmt:=top 27
abbrev K8:Stmt:=top 28
abbrev KB:Stmt:=top 29
abbrev Km:Stmt:=top 30
abbrev KL:Stmt:=top 31
abbrev Mi:Stmt:=top 32
abbrev M6:Stmt:=top 33
abbrev M4:Stmt:=top 34
abbrev Mz:Stmt:=top 36
abbrev Kt:Stmt:=top 37
abbrev Mt:Stmt:=top 38
abbrev Mq:Stmt:=top 39
abbrev KG:Stmt:=top 41
abbrev KW:Stmt:=top 42
abbrev KO:Stmt:=top 43
abbrev KH:Stmt:=top 47
abbrev K5:Stmt:=top 48
abbrev KI:Stmt:=top 49
abbrev K2:Stmt:=top 50
abbrev Mu:Stmt:=top 51
abbrev KQ:Stmt:=top 52
abbrev Ms:Stmt:=top 53
abbrev Ba:Stmt:=top 55
abbrev GY:Stmt:=top 56
abbrev KY:Stmt:=top 57
abbrev Mw:Stmt:=top 58
abbrev KA:Stmt:=top 59
abbrev Wi:Stmt:=top 60
abbrev UU:Stmt:=Vv (top 4) 0
abbrev UV:Stmt:=Vv (top 26) 0
abbrev HS:Stmt:=Vv (top 26) 1
abbrev KR:Stmt:=Vv (top 26) 2
abbrev Ko:Stmt:=Vv (top 26) 3
abbrev KP:Stmt:=Vv (top 26) 4
abbrev Mj:Stmt:=Vv (top 26) 5
abbrev Kx:Stmt:=Vv (top 26) 6
abbrev KN:Stmt:=Vv (top 26) 7
abbrev UT:Stmt:=Vv (top 45) 0
abbrev Kv:Stmt:=Vv (top 45) 1
abbrev K9:Stmt:=Vv (top 45) 2
abbrev K4:Stmt:=Vv (top 45) 3
abbrev Kq:Stmt:=Vv (top 45) 5
abbrev K3:Stmt:=Vv (top 45) 6
abbrev M3:Stmt:=Vv (top 45) 8
abbrev Mv:Stmt:=Vv (top 45) 9
abbrev Nc:Stmt:=Vv (top 45) 10
abbrev Na:Stmt:=Vv (top 45) 11
abbrev Nb:Stmt:=Vv (top 45) 12
abbrev Nf:Stmt:=Vv (top 45) 13
structure Bl (mg:Str->Qf):Prop where
 abs:mg "abs"=none
 len:mg "len"=none
 max:mg "max"=none
 min:mg "min"=none
 sum:mg "sum"=none
 any:mg "any"=none
 all:mg "all"=none
 isi:mg "isinstance"=none
 int:mg "int"=none
 bool:mg "bool"=none
 list:mg "list"=none
 tuple:mg "tuple"=none
 range:mg "range"=none
 zip:mg "zip"=none
 enumerate:mg "enumerate"=none
 dict:mg "dict"=none
 ValueError:mg "ValueError"=none
structure Tx (K:W.Frag)(mg:Str->Qf)(C gS gE:Addr):Prop where
 net:NetC K C
 mSTART:mg "START"=some (.ref gS)
 mEND:mg "END"=some (.ref gE)
 aS:W.nsIn K mainGlobals "START"=some (some<|.ref gS)
 aE:W.nsIn K mainGlobals "END"=some (some<|.ref gE)
noncomputable def upD:Option Nat->PyData
 |none=>.none
 |some a=>.int (a:Int)
noncomputable def ZY (l:Ln):PyData:=.tuple [upD l.up,.tuple<|l.bs.map PyData.int]
noncomputable def QV (y:Yd):PyData:=.tuple [.int (y.T:Int),.tuple<|y.ls.map ZY]
noncomputable def Zl (l:Qk):Qd:=l.map fun(j:Nat)=>PyData.int (j:Int)
def cdl (b:0<j)(a:j<=10^60):Uv i j:=⟨b,Int.lt_of_le_of_lt a<|by decide +kernel⟩
def Bn (h0:0<=j)(a:j<=1000000):Nz 10 j:=⟨h0,a,by decide⟩
def z60:(10:Int)^60=1000000000000000000000000000000000000000000000000000000000000:=by decide +kernel
def MQ (b:0<j)(a:j<=1000000000000000000000000000000000000000000000000000000000000):Uv i j:=cdl b (by rw[z60];exact a)
def L9 {a:Type} [Inhabited a] {f:a->PyData}{xs:List a}{k:Int}(h0:0<=k)(c:k<(xs.length:Int)):atI (xs.map f) k=some (f<|xs.getD k.toNat default):=by
 have h:k.toNat<xs.length:=by omega
 have e:(xs.map f)[k.toNat]?=some (f<|xs.getD k.toNat default):=by simp[h]
 have b:=V1 e
 rwa [WD h0]at b
def DM {xs:Ql}{k:Int}(h0:0<=k)(b:k<(xs.length:Int)):atI (xs.map PyData.int) k=some (.int<|xs.getD k.toNat 0):=by
 have h:k.toNat<xs.length:=by omega
 have e:(xs.map PyData.int)[k.toNat]?=some (.int<|xs.getD k.toNat 0):=by simp[h]
 have a:=V1 e
 rwa [WD h0]at a
def TW {xs:Ql}{k:Int}(h0:0<=k)(b:k<(xs.length:Int)):atI xs k=some (xs.getD k.toNat 0):=by
 have h:k.toNat<xs.length:=by omega
 have e:xs[k.toNat]?=some (xs.getD k.toNat 0):=by simp[h]
 have a:=V1 e
 rwa [WD h0]at a
def YO {f:Nat->PyData}{n:Nat}{k:Int}(h0:0<=k)(b:k<(n:Int)):atI ((List.range n).map f) k=some (f k.toNat):=by
 have h:k.toNat<n:=by omega
 have e:((List.range n).map f)[k.toNat]?=some (f k.toNat):=by simp[h]
 have a:=V1 e
 rwa [WD h0]at a
def JU {n:Nat}{k:Int}(h0:0<=k)(a:k<(n:Int)):ixN n k=some k.toNat:=by
 unfold ixN;rw[Xd h0,Xd a]
instance:Inhabited Ln:=⟨⟨none,[]⟩⟩
noncomputable def QO (g:Gs):PyData:=.tuple [.int (g.line:Int),.int (g.first:Int),.int (g.last:Int),.int g.want,.int g.most]
instance:Inhabited Gs:=⟨⟨0,0,0,1,1⟩⟩
def T2  (h:∀d∈ds,d.canLay0=true/\d.depth<=m):PyData.canLayAll0 ds=true/\PyData.depthAll ds<=m:=by
 induction ds with
 |nil=>exact⟨rfl,XQ _⟩
 |cons d ds f =>
   obtain⟨a,b⟩:=h d Xb;obtain⟨c,e⟩:=f fun x g=>h x (Xe _ g);refine⟨by rw[PyData.canLayAll0,a,c];rfl,?_⟩;rw[PyData.depthAll];omega
def VT (m:Nat)(d:PyData):Prop:=d.canLay0=true/\d.depth<=m
def VT.fine  (h:VT m d)(a:m<=60):Yq d:=⟨h.1,X4 h.2 a⟩
def BN  (h:∀d∈ds,VT m d):VT (m+1) (.tuple ds):=by
 obtain⟨a,b⟩:=T2 h;refine⟨by rw[PyData.canLay0];exact a,?_⟩;rw[PyData.depth];omega
def Sh  (h:∀d∈ds,VT m d):VT (m+1) (.list ds):=by
 obtain⟨a,b⟩:=T2 h;refine⟨by rw[PyData.canLay0];exact a,?_⟩;rw[PyData.depth];omega
def Dz (i:Int)(m:Nat):VT m (.int i):=⟨rfl,XQ _⟩
def Dr {a:Type}{f:a->PyData}{xs:List a}{m:Nat}(h:∀x,VT m<|f x):∀d∈xs.map f,VT m d:=fun d b=>by
 obtain⟨x,_,rfl⟩:=XO.mp b;exact h x
def DE:∀d∈([]:Qd),VT m d:=fun d a=>(nomatch a)
def GD  (h:VT m d)(b:∀d∈ds,VT m d):∀x∈d::ds,VT m x:=fun x a=>by
 rcases Xg.mp a with rfl|a
 .exact h
 .exact b x a
def LE (o:Option Nat)(m:Nat):VT m (upD o):=by cases o<;>exact⟨rfl,XQ _⟩
def TJ (l:Ln):VT 2 (ZY l):=BN (GD (LE _ _)<|GD (BN (m:=0)<|Dr fun i=>Dz i 0) DE)
def TX (y:Yd):VT 4 (QV y):=BN (GD (Dz _ _)<|GD (BN<|Dr TJ) DE)
def FD (l:Qk):VT 1 (.list<|Zl l):=Sh (Dr fun j=>Dz _ 0)
def B8 (y:Yd):Yq (QV y):=(TX y).fine (by decide)
def So (l:Qk):Yq (.list<|Zl l):=(FD l).fine (by decide)
def MV (w:String):Lean.MacroM (Lean.TSyntax `tactic):=do
 let n:=Lean.mkIdent (w.drop 1).toString.toName
 match w.front with
 |'@' => `(tactic| with_reducible apply $n)
 |'!' => `(tactic| with_reducible exact $n)
 |'~' => `(tactic| apply $n)
 |_ => `(tactic| walk_at $(Lean.Syntax.mkStrLit w))
def VI (s:String):Lean.MacroM (Lean.TSyntax `tactic):=do
 let l ← (s.splitOn "|").mapM fun a=>do
  match a.splitOn "<" with
  |[x,z] => `(tactic| ($(← MV x):tactic <;> $(← MV z):tactic))
  |_ =>
    let b ← (a.splitOn " ").mapM MV
    `(tactic| ($[$b.toArray:tactic];*))
 `(tactic| first $[| $l.toArray:tactic]*)
local macro_rules | `(tactic| walk_at "rfl") => `(tactic| rfl)
local macro_rules | `(tactic| walk_at "hc") => `(tactic| intro hc)
local macro_rules | `(tactic| walk_at "ls") => `(tactic| dsimp only [List.set])
local macro_rules | `(tactic| walk_at "om") => `(tactic| first | lia | omega)
local macro_rules | `(tactic| walk_at "asm") => `(tactic| with_reducible assumption)
local macro_rules | `(tactic| walk_at "ble") => `(tactic| first | with_reducible rfl | decide | exact Nat.le_of_ble_eq_true rfl)
local macro_rules | `(tactic| walk_at "smo") => `(tactic| (focus (simp; (first | done | walk_at "om"))))
local macro_rules | `(tactic| walk_at "dso") => `(tactic| (focus (dsimp only; walk_at "om")))
local macro_rules | `(tactic| walk_at "r4") => `(tactic| (refine ⟨?_,?_,?_,?_⟩ <;> walk_at "r62"))
local macro_rules | `(tactic| walk_at "r62") => `(tactic| (rw [z62]; walk_at "side"))
local macro_rules | `(tactic| walk_at "ss") => `(tactic| repeat walk_at "s1")
local macro_rules | `(tactic| walk_at "call") => `(tactic| (constructor <;> walk_at "side"))
local macro_rules | `(tactic| walk_at "rg") => `(tactic| first | with_reducible rfl | (apply YX <;> walk_at "rs") | (apply HU <;> walk_at "rs"))
local macro_rules | `(tactic| walk_at "rs")=>VI "om|smo"
local macro_rules | `(tactic| walk_at "side")=>VI "om|asm|ble|smo"
local macro_rules | `(tactic| walk_at "arith")=>VI "om|asm|ble|smo"
local macro_rules | `(tactic| walk_at "ev")=>VI "@Qq rfl|!QA|!Gh|!Gw|!Yu|@Z8 ev ev|@Vo ev ev|@Vd ev ev cond|@Lb ev|@Gq ev ev|@Gr ev ev|@NR ev|@UM ev ev ev|@U1 ev hc ev|@NM ev|@Ws rfl ev item|@Lj rfl ev item|@Yb evd ev item|@Ve evd ev item|@Wr eas side|@Ze ea call|@LF ea call|@Rh ev ev|@DA ev ev|@Rg ev|@Jp ev rfl|@TV rfl|@TK rfl|@GB evd|@WP evd|@Dx rfl|@Gx ev ev fine fine|@NQ ev ev fine fine|@Bv ev rfl|@EvO.fz eo"
local macro_rules | `(tactic| walk_at "evd")=>VI "~Qq rfl|ev|@EvO.fz eo"
local macro_rules | `(tactic| walk_at "ea")=>VI "!Q6|@Bw rfl ea|@Qv ev ea"
local macro_rules | `(tactic| walk_at "eas")=>VI "~ZG|~Zn ev eas"
local macro_rules | `(tactic| walk_at "eo")=>VI "@V9 eas side|@B7 ea call|@R9 evd|@Ra evd evd side"
local macro_rules | `(tactic| walk_at "et")=>VI "!NE|@Zy ev|@ZJ ev|@U0 et hc et|@YL et hc et|@VN et"
local macro_rules | `(tactic| walk_at "g")=>VI "!Zj|!Wt|@ZT g g|@WK g rfl|~WK g rfl"
local macro_rules | `(tactic| walk_at "ei")=>VI "@Yg ea r62 r62|@Hi ea r4|@LG ea r4|@GC ea|@Jv evd|@NJ evd"
local macro_rules | `(tactic| walk_at "s1")=>VI "@QH s1|@VM eo ls|@ZU ev ls|@Gu ev g ls|@UR rfl ev side ls|@UN rfl ev ev item ls"
local macro_rules | `(tactic| walk_at "ret")=>VI "@D7 rfl|@ZO evd|@Jo eo"
local macro_rules | `(tactic| walk_at "if")=>VI "@QH if|@Zv et"
local macro_rules | `(tactic| walk_at "eir")=>VI "~EvI.cast ei rg"
local macro_rules | `(tactic| walk_at "item")=>VI "rfl|asm|@DM<arith|@TW<arith|@YO<arith|@JU<arith|~L9<arith"
local macro_rules | `(tactic| walk_at "cond")=>VI "asm|@MQ<om|@Bn<om|om|dso"
local macro_rules | `(tactic| walk_at "fine")=>VI "~B8|~So"
section
variable {P:Program}{w:World}{K:W.Frag}{mg:Str->Qf}{base:Heap}{C gS gE YR CR fR CH cg ct q1 q2 q3:Addr}
inductive R_cell:List OT->OT->Prop
 |mk {ns:Ql} {k:Int} (h:0<=k):R_cell [.scr ns,.fz<|.int k] (.fz<|.int<|YC ns k)
def Zhc:Qp ZaB ZaB (Q2 KH):=by walk_at"p"
def Cv (T:Bl mg) (D:Df K mg "_law_cell_at" KH ZaB):QG P w K mg base "_law_cell_at" ZaB 1 (QL (K:=K) R_cell):=by
 refine D.ev Zhc (fun b r h=>by cases h;rfl) (fun _ _ _ _ s H E b r d h=>?_)
 cases h with
 |@mk a k f =>
   refine⟨_,(Q3 (Zq (Z5 Wj (pv 1) (Zo Vw (by rfl) T.len Vy<|Qo (pv 0) Qs)<|Zx _) (Q4<|QN<|QD QE (pv 0)<|pv 1) Zr)
 (Q4<|QN Qw)),?_⟩
   show Q1 K _ [some _,some _] _
   walk_at"x"
   walk_at"if"
   .
    intro c;have c:=XW c
    walk_at"ret"
    rfl
   .
    intro c;have c:=Ug c;refine Zz ?_
    walk_at"ret"
    have e:YC a k=0:=by
     have:a.length<=k.toNat:=by omega
     simp[YC,List.getD,this]
    rw[e]
noncomputable def ZE (y:Yd)(k:Nat):Ln:=y.ls.getD k default
def upN (y:Yd)(k:Nat):Nat:=(Zd y k).getD 0
def BU  (h:k<y.ls.length):Zd y k=(ZE y k).up:=by simp[Zd,ZE,h]
def Ml  (h:k<y.ls.length):Z3 y k t=(ZE y k).bs.getD t 0:=by simp[Z3,ZE,h]
def BV (a:y.Ok)(h:k<y.ls.length):(ZE y k).bs.length=y.T:=a.bl _ (by simp[ZE,h])
inductive R_turns:List OT->OT->Prop
 |mk {y:Yd}:R_turns [.fz<|QV y] (.fz<|.int (y.T:Int))
def OA:Qp ZaD ZaD (Q2 Kr):=by walk_at"p"
def CS (T:Bl mg) (D:Df K mg "turns_of" Kr ZaD):QG P w K mg base "turns_of" ZaD 1 (QL (K:=K) R_turns):=by
 refine D.ev OA (fun a r h=>by cases h;rfl) (fun _ _ _ _ s H E a r b h=>?_)
 cases h with
 |@mk y =>
   refine⟨_,(Q4<|QN<|QD QE (pv 0) Qw),?_⟩;show Q1 K _ [some _] _
   walk_at"x"
   walk_at"ret"
   rfl
inductive R_count:List OT->OT->Prop
 |mk {y:Yd}:R_count [.fz<|QV y] (.fz<|.int (y.ls.length:Int))
def Zim:Qp ZaD ZaD (Q2 KJ):=by walk_at"p"
def Aq (T:Bl mg) (D:Df K mg "line_count" KJ ZaD):QG P w K mg base "line_count" ZaD 1 (QL (K:=K) R_count):=by
 refine D.ev Zim (fun a r h=>by cases h;rfl) (fun _ _ _ _ s H E a r b h=>?_)
 cases h with
 |@mk y =>
   refine⟨_,(Q4<|QN<|Zo Vw (by rfl) T.len Vy<|Qo (QD QE (pv 0) Qw) Qs),?_⟩;show Q1 K _ [some _] _
   walk_at"x"
   walk_at"ret"
   show _=_;rw[Xl]
inductive R_above:List OT->OT->Prop
 |mk {y:Yd} {k:Int} (ok:y.Ok) (h0:0<k) (h1:k<(y.ls.length:Int)):R_above [.fz<|QV y,.fz<|.int k] (.fz<|.int (upN y k.toNat:Int))
 |zero {y:Yd} (ok:y.Ok):R_above [.fz<|QV y,.fz<|.int 0] (.fz .none)
def O3:Qp ZaK ZaK (Q2 Kk):=by walk_at"p"
def AF (T:Bl mg) (D:Df K mg "above_of" Kk ZaK):QG P w K mg base "above_of" ZaK 1 (QL (K:=K) R_above):=by
 refine D.ev O3 (fun d r h=>by cases h<;>rfl) (fun _ _ _ _ s H E d r g h=>?_)
 cases h with
 |@mk y k b j i =>
   refine⟨_,(Q4<|QN<|QD QE (QD QE (QD QE (pv 0) Qw)<|pv 1) Qw),?_⟩;show Q1 K _ [some _,some _] _
   walk_at"x"
   walk_at"ret"
   obtain⟨a,e,l⟩:=b.ups k.toNat (by omega) (by omega);have c:(ZE y k.toNat).up=some a:=by rw[<- BU (by omega)];exact e
   show OT.fz (upD (ZE y k.toNat).up)=_;rw[c];simp[upN,e,upD]
 |@zero y b =>
   refine⟨_,(Q4<|QN<|QD QE (QD QE (QD QE (pv 0) Qw)<|pv 1) Qw),?_⟩;show Q1 K _ [some _,some _] _
   walk_at"x"
   have f:=b.l1
   walk_at"ret"
   have c:(ZE y 0).up=none:=by rw[<- BU (by omega)];exact b.up0
   show OT.fz (upD (ZE y 0).up)=_;rw[c];rfl
inductive R_bound:List OT->OT->Prop
 |mk {y:Yd} {k t:Int} (ok:y.Ok) (h0:0<=k) (h1:k<(y.ls.length:Int)) (h2:0<=t) (h3:t<(y.T:Int)):R_bound [.fz<|QV y,.fz<|.int k,.fz<|.int t] (.fz<|.int<|Z3 y k.toNat t.toNat)
def OQ:Qp Zaw Zaw (Q2 Ks):=by walk_at"p"
def Ec (T:Bl mg) (D:Df K mg "bound_at" Ks Zaw):QG P w K mg base "bound_at" Zaw 1 (QL (K:=K) R_bound):=by
 refine D.ev OQ (fun a r h=>by cases h;rfl) (fun _ _ _ _ s H E a r c h=>?_)
 cases h with
 |@mk y k t b i g f e =>
   refine⟨_,(Q4<|QN<|QD QE (QD QE (QD QE (QD QE (pv 0) Qw)<|pv 1) Qw)<|pv 2),?_⟩;show Q1 K _ [some _,some _,some _] _
   walk_at"x"
   have d:(y.ls.getD k.toNat default).bs.length=y.T:=BV b (by omega)
   walk_at"ret"
   show _=_;rw[Ml<|by omega];rfl
inductive R_lineof:List OT->OT->Prop
 |mk {g:Gs}:R_lineof [.fz<|QO g] (.fz<|.int (g.line:Int))
def IJ:Qp Zay Zay (Q2 HX):=by walk_at"p"
def EY (T:Bl mg) (D:Df K mg "line_of" HX Zay):QG P w K mg base "line_of" Zay 1 (QL (K:=K) R_lineof):=by
 refine D.ev IJ (fun a r h=>by cases h;rfl) (fun _ _ _ _ s H E a r b h=>?_)
 cases h with
 |@mk g =>
   refine⟨_,(Q4<|QN<|QD QE (pv 0) Qw),?_⟩;show Q1 K _ [some _] _
   walk_at"x"
   walk_at"ret"
   rfl
inductive R_there:List OT->OT->Prop
 |mk {g:Gs} {t:Int}:R_there [.fz<|QO g,.fz<|.int t] (.fz<|.bool<|ZH g t)
def OK:Qp Zat Zat (Q2 Ky):=by walk_at"p"
def AT (T:Bl mg) (D:Df K mg "is_there" Ky Zat):QG P w K mg base "is_there" Zat 1 (QL (K:=K) R_there):=by
 refine D.ev OK (fun a r h=>by cases h;rfl) (fun _ _ _ _ s H E a r b h=>?_)
 cases h with
 |@mk g t =>
   refine⟨_,(Q4<|QN<|SR Jm Jm (QD QE (pv 0) Qw) (pv 1)<|QD QE (pv 0) Qw),?_⟩;show Q1 K _ [some _,some _] _
   walk_at"x"
   walk_at"ret"
   rfl
inductive R_most:List OT->OT->Prop
 |mk {g:Gs}:R_most [.fz<|QO g] (.fz<|.int g.most)
def IL:Qp Zay Zay (Q2 HV):=by walk_at"p"
def Cb (T:Bl mg) (D:Df K mg "most_of" HV Zay):QG P w K mg base "most_of" Zay 1 (QL (K:=K) R_most):=by
 refine D.ev IL (fun a r h=>by cases h;rfl) (fun _ _ _ _ s H E a r b h=>?_)
 cases h with
 |@mk g =>
   refine⟨_,(Q4<|QN<|QD QE (pv 0) Qw),?_⟩;show Q1 K _ [some _] _
   walk_at"x"
   walk_at"ret"
   rfl
inductive R_want:List OT->OT->Prop
 |mk {g:Gs}:R_want [.fz<|QO g] (.fz<|.int g.want)
def IB:Qp Zay Zay (Q2 HZ):=by walk_at"p"
def CA (T:Bl mg) (D:Df K mg "want_of" HZ Zay):QG P w K mg base "want_of" Zay 1 (QL (K:=K) R_want):=by
 refine D.ev IB (fun a r h=>by cases h;rfl) (fun _ _ _ _ s H E a r b h=>?_)
 cases h with
 |@mk g =>
   refine⟨_,(Q4<|QN<|QD QE (pv 0) Qw),?_⟩;show Q1 K _ [some _] _
   walk_at"x"
   walk_at"ret"
   rfl
structure SetOk (gs:List Gs)(some:Qk):Prop where
 mem:∀k∈some,k<gs.length
 len:some.length<=8
noncomputable def Wn (gs:List Gs)(t:Nat)(a:Qk):Qn:=fun l=>Z6 gs (t:Int) l a
noncomputable def U6 (y:Yd)(gs:List Gs)(a:Qk)(t:Nat):Ql:=(List.range y.ls.length).map fun l=>V8 y (fun k=>Z3 y k t) (Wn gs t a) l
inductive R_reaching:List OT->OT->Prop
 |mk {y:Yd} {gs:List Gs} {sm:Qk} {t:Int} (ok:y.Ok) (hg:∀g∈gs,g.line<y.ls.length) (hs:SetOk gs sm) (h0:0<=t) (h1:t<(y.T:Int)) :
  R_reaching [.fz<|QV y,.fz<|.list<|gs.map QO,.fz<|.list<|Zl sm,.fz<|.int t] (.ol<|(U6 y gs sm t.toNat).map PyData.int)
def Uc {n j:Nat}{f g:Qn}(b:j<n)(e1:∀l,l<n->l≠j->g l=f l){v:Int}(c:g j=v) :
 (((List.range n).map fun l=>PyData.int<|f l).set j (.int v))=(List.range n).map fun l=>PyData.int (g l):=by
 apply List.ext_getElem?
 intro i;by_cases a:i=j
 .subst a
  rw[Xj<|by simpa using b];simp[b,c]
 .rw[Xo<|Ne.symm a]
  by_cases h:i<n
  .simp[h,e1 i h a]
  .simp[h]
def GZ:Qp Zax Zaf (Q2 Mz):=by walk_at"p"
def OI (T:Bl mg) (D:Df K mg "reaching_at" Mz Zaf) (o:QG P w K mg base "line_count" ZaD 1 (QL (K:=K) R_count)) (M:QG P w K mg base "is_there" Zat 1 (QL (K:=K) R_there))
 (O:QG P w K mg base "line_of" Zay 1 (QL (K:=K) R_lineof)) (L:QG P w K mg base "most_of" Zay 1 (QL (K:=K) R_most)) (J:QG P w K mg base "above_of" ZaK 1 (QL (K:=K) R_above))
 (Q:QG P w K mg base "bound_at" Zaw 1 (QL (K:=K) R_bound)):QG P w K mg base "reaching_at" Zaf 2 (QL (K:=K) R_reaching):=by
 refine D.ev GZ (fun X r h=>by cases h;rfl) (fun _ _ _ _ s H E X r g h=>?_)
 cases h with
 |@mk y e b t A hg S h0 h1 =>
   refine⟨_,(Q3 (HJ (i:=4) GZ.nd rfl rfl (NX:=Zax) (sc:=Q2 Mz) (N:=["line"]) (f:=[none]) rfl (by decide +kernel) rfl rfl (VW rfl T.range<|Qo (QJ o g<|Qo (pv 0) Qs) Qs) (fun _=>(QX (i:=0) (show(["line"]:Qh).Nodup by decide +kernel) rfl Qa)) (fun _=>VC) (fun _=>Wv) (fun _=>Qw) rfl)
 (Q3 (ZX PassesOwn.never rfl (Wz<|pv 2) (QX (i:=5) GZ.nd rfl Qa) (Q3 (QW (i:=6) GZ.nd rfl Qa<|QD QE (pv 1)<|pv 5)
 (Q4<|Zq (Vl<|QJ M g<|Qo (pv 6)<|Qo (pv 3) Qs) (Q4<|UC (pv 4) (QJ O g<|Qo (pv 6) Qs) UI (QJ L g<|Qo (pv 6) Qs) G4 Yn) Zr)))
 (Q3 (ZX PassesOwn.never rfl (Kg rfl T.range<|Qo (QU Ym (QJ o g<|Qo (pv 0) Qs) Qw)<|Qo Qw<|Qo (Go G3 Qw) Qs) (QX (i:=7) GZ.nd rfl Qa)<|Q4<|UC (pv 4) (QJ J g<|Qo (pv 0)<|Qo (pv 7) Qs) UI (Zo (B2 rfl) (by rfl) T.min G1<|Qo (QD QE (pv 4)<|pv 7)<|Qo (QJ Q g<|Qo (pv 0)<|Qo (pv 7)<|Qo (pv 3) Qs) Qs) G4 Yn)
 (Q4<|QN<|pv 4)))),?_⟩
   show Q1 K _ [some _,some _,some _,some _,none,none,none,none] _
   walk_at"x"
   have l1:=A.l1;have l5:=A.l5;have n8:=S.len;refine QH (VM (DJ (lo:=0) (n:=y.ls.length) (h:=fun _=>.int 0) ?ei (by omega) ?el) ?_)
   case ei=>walk_at"eir"
   case el =>
    intro x hx c;exact⟨_,by walk_at"g",by walk_at"ev"⟩
   walk_at"d"
   refine QH (GH (fun i=>[some<|.fz<|QV y,some<|.fz<|.list<|e.map QO,some<|.fz<|.list<|Zl b,some<|.fz<|.int t,some<|.ol<|(List.range y.ls.length).map fun l=>PyData.int<|Z6 e t l<|b.take i,none,none,none]) (by walk_at"ei") ⟨rfl,rfl,rfl,rfl,rfl,trivial⟩ ?st ?fin)
   case st =>
    intro i d q;have p:i<b.length:=by
     have:=(Xf.mp q).1
     simpa [Zl] using this
    obtain rfl:d=.int ((b[i]:Nat):Int):=by simpa [Zl,p] using q.symm
    have j:b[i]<e.length:=S.mem _ (X0 p);refine⟨_,by walk_at"g",?_⟩
    walk_at"d"
    walk_at"s1";have eg:e.getD ((b[i]:Nat):Int).toNat default=e[b[i]]:=by simp[j]
    rw[eg];have G:=hg e[b[i]] (X0 j);have gl:=G;have v:b.take (i+1)=b.take i++[b[i]]:=by rw[W8];simp[p]
    refine Zv (by walk_at"et") (fun c=>?_) (fun c=>?_)
    .refine Sy (m:=Z6 e t e[b[i]].line (b.take i)) rfl (by walk_at"ev") (by omega) ?_ (by walk_at"ev") ?_
     .simp[gl]
     .walk_at"d"
      refine⟨rfl,rfl,rfl,rfl,?_,trivial⟩;rw[Xp];congr 2;refine Uc gl (fun l Y B=>?_) ?_
      .rw[v,Uf]
       simp[Z6,j,Ne.symm B]
      .rw[v,Uf]
       simp[Z6,j,c]
    .refine Zz ⟨rfl,rfl,rfl,rfl,?_,trivial⟩
     refine X5 (fun z=>some<|OT.ol z) (XX fun l _=>?_);rw[v,Uf];simp[Z6,j,c]
   case fin =>
    intro u F;refine Gy F ?_;have el:(Zl b).length=b.length:=by simp[Zl]
    rw[el,WA];refine QH (GH (fun i=>[some<|.fz<|QV y,some<|.fz<|.list<|e.map QO,some<|.fz<|.list<|Zl b,some<|.fz<|.int t,some<|.ol<|(List.range y.ls.length).map fun l=>PyData.int<|Vk y (fun k=>Z3 y k t.toNat) (fun l=>Z6 e t l b) i l,none,none,none]) (by walk_at"ei") ⟨rfl,rfl,rfl,rfl,rfl,trivial⟩ ?st2 ?fin2)
    case st2 =>
     intro i d q;obtain⟨p,rfl⟩:=BZ q;have Z:i<y.ls.length-1:=by omega
     refine⟨_,by walk_at"g",?_⟩
     walk_at"d"
     have U:((y.ls.length:Int)-1-(i:Int)).toNat=y.ls.length-1-i:=by omega
     obtain⟨a,I,la⟩:=A.ups (y.ls.length-1-i) (by omega) (by omega);have R:upN y ((y.ls.length:Int)-1-(i:Int)).toNat=a:=by rw[U];simp[upN,I]
     refine Sy (m:=Vk y (fun k=>Z3 y k t.toNat) (fun l=>Z6 e t l b) i a) rfl (by walk_at"ev") (by omega) ?_ (by walk_at"ev") ?_
     .rw[R,Xp]
      have:a<y.ls.length:=by omega
      simp[this]
     .walk_at"d"
      refine⟨rfl,rfl,rfl,rfl,?_,trivial⟩;rw[R,Xp];refine X5 (fun z=>some<|OT.ol z) (Uc (by omega) (fun l Y B=>?_) ?_)
      .simp only[Vk,WL]
       rw[I,Xa<|by simpa using fun z=>B z.symm];omega
      .simp only[Vk,WL]
       rw[I,Xd rfl,U]
    case fin2 =>
     intro u F;refine Gy F ?_
     walk_at"ret"
     show _=_;have e2:(Wd ((y.ls.length:Int)-1) ((y.ls.length:Int)-1-0).toNat).length=y.ls.length-1:=by rw[Hv];omega
     rw[e2];unfold U6 V8 Wn;rw[WD h0,X7];rfl
def Ot (y:Yd)(gs:List Gs)(a:Qk)(t:Nat):(U6 y gs a t).length=y.ls.length:=by simp[U6]
def Og   (h:l<y.ls.length):(U6 y gs sm t).getD l 0=V8 y (fun k=>Z3 y k t) (Wn gs t sm) l:=by simp[U6,List.getD,h]
noncomputable def Vf (y:Yd)(gs:List Gs)(a:Qk)(t:Nat):Int:=passes y (fun k=>Z3 y k t) (Wn gs t a) 0
noncomputable def GS (y:Yd)(gs:List Gs)(a:Qk):Int:=((List.range y.T).map fun t=>Vf y gs a t).sum
noncomputable def V7 (f:Qn)(i:Nat):Int:=((List.range i).map f).sum
def Mh (f:Qn)(i:Nat):V7 f (i+1)=V7 f i+f i:=by simp[V7,Y7]
def B0 (b:y.Ok)(k t:Nat):0<=Z3 y k t:=by
 unfold Z3;cases e:y.ls[k]? with
 |none=>simp
 |some a =>
   have:=b.bb a (List.mem_of_getElem? e)
   simp only[YJ,Option.getD_some];by_cases h:t<a.bs.length
   .have c:=this (a.bs[t]) (X0 h)
    simp only[List.getD,XL h,Option.getD_some];exact c.1
   .simp[List.getD,h]
inductive R_given:List OT->OT->Prop
 |mk {y:Yd} {gs:List Gs} {sm:Qk} {t:Int} (ok:y.Ok) (hg:∀g∈gs,g.line<y.ls.length) (hs:SetOk gs sm) (h0:0<=t) (h1:t<(y.T:Int)) :
  R_given [.fz<|QV y,.fz<|.list<|gs.map QO,.fz<|.list<|Zl sm,.fz<|.int t] (.fz<|.int<|Vf y gs sm t.toNat)
def O2:Qp Zaf Zaf (Q2 Kt):=by walk_at"p"
def A6 (T:Bl mg) (D:Df K mg "given_at" Kt Zaf) (a:QG P w K mg base "reaching_at" Zaf 2 (QL (K:=K) R_reaching)) (b:QG P w K mg base "bound_at" Zaw 1 (QL (K:=K) R_bound)) :
 QG P w K mg base "given_at" Zaf 3 (QL (K:=K) R_given):=by
 refine D.ev O2 (fun d r h=>by cases h;rfl) (fun _ _ _ _ s H E d r c h=>?_)
 cases h with
 |@mk y g e t f l k n m =>
   refine⟨_,(Q4<|QN<|Zo (B2 rfl) (by rfl) T.min G1<|Qo (QD QE (QJ a c<|Qo (pv 0)<|Qo (pv 1)<|Qo (pv 2)<|Qo (pv 3) Qs) Qw)<|Qo (QJ b c<|Qo (pv 0)<|Qo Qw<|Qo (pv 3) Qs) Qs),?_⟩;show Q1 K _ [some _,some _,some _,some _] _
   walk_at"x"
   have j:=f.l1;have i:=Ot y g e t.toNat
   walk_at"ret"
   show _=_;rw[show(0:Int).toNat=0 from rfl,Og<|by omega];rfl
inductive R_givenm:List OT->OT->Prop
 |mk {y:Yd} {gs:List Gs} {sm:Qk} (ok:y.Ok) (hg:∀g∈gs,g.line<y.ls.length) (hs:SetOk gs sm) :
  R_givenm [.fz<|QV y,.fz<|.list<|gs.map QO,.fz<|.list<|Zl sm] (.fz<|.int<|GS y gs sm)
def Ziw:Qp Zae Zae (Q2 Mt):=by walk_at"p"
def EV (T:Bl mg) (D:Df K mg "given_most" Mt Zae) (e:QG P w K mg base "turns_of" ZaD 1 (QL (K:=K) R_turns)) (d:QG P w K mg base "given_at" Zaf 3 (QL (K:=K) R_given)) :
 QG P w K mg base "given_most" Zae 4 (QL (K:=K) R_givenm):=by
 refine D.ev Ziw (fun k r h=>by cases h;rfl) (fun _ _ _ _ s H E k r j h=>?_)
 cases h with
 |@mk y b a g m l =>
   refine⟨_,(Q4<|QN<|Zo D3 (by rfl) T.sum Ds<|Qo (YB (NX:=Zae) (sc:=Q2 Mt) (N:=["turn","yard","guests","some"]) (f:=[none,some 0,some 1,some 2]) rfl (by decide +kernel) rfl rfl (VW rfl T.range<|Qo (QJ e j<|Qo (pv 0) Qs) Qs) (fun _=>(QX (i:=0) (show(["turn","yard","guests","some"]:Qh).Nodup by decide +kernel) rfl Qa)) (fun _=>VC) (fun _=>Wv) fun _=>(QJ d j<|Qo (pv 1)<|Qo (pv 2)<|Qo (pv 3)<|Qo (pv 0) Qs)) Qs),?_⟩;show Q1 K _ [some _,some _,some _] _
   walk_at"x"
   have o:=g.t8;refine ZO (Bv (ns:=(List.range y.T).map fun t=>Vf y b a t) ?_ rfl) rfl;refine EvO.fz ?_;rw[X7];refine DJ (lo:=0) (n:=y.T) ?_ (by omega) ?_
   .walk_at"eir"
   .intro x p c
    refine⟨_,by walk_at"g",?_⟩
    walk_at"e"
    rw[Yp];have h:R_given [.fz<|QV y,.fz<|.list<|b.map QO,.fz<|.list<|Zl a,.fz<|.int (x:Int)] (.fz<|.int<|Vf y b a x):=R_given.mk (t:=(x:Int)) g m l (by omega) (by omega);exact Ze (by walk_at"ea") h
def BF:NoF "lay" := fun _ _ _ _=>rfl
def SE:NoF "lay_one" := fun _ _ _ _=>rfl
def AG:NoF "flow" := fun _ _ _ _=>rfl
def Tr:NoF "reached" := fun _ _ _ _=>rfl
def Ee:NoF "push" := fun _ _ _ _=>rfl
def AZ:NoF "fill" := fun _ _ _ _=>rfl
def FN:NoF "way_to" := fun _ _ _ _=>rfl
def ZgC:Qp Zam Zam (Q2 UV):=by walk_at"p"
def LX  (T:Bl mg) (U:Tx K mg C gS gE) (F:Fun K "__init__" "Net.__init__" UV f fd):FnOk P w K mg base CX0 1 f fd Zam (spI P w C):=by
 refine F.ok ZgC (by rintro J H Q E ⟨x,m,e,_⟩;rw[e];rfl) ?_;rintro M A u s H J Q E X ⟨x,m,e,y,q⟩;subst e;refine⟨_,(Q3 (Wo (pv 0) (ZC Qs) rfl)
 (Q3 (Wo (pv 0) (ZC Qs) rfl)
 (Q3 (Wo (pv 0) En rfl)
 (Q4<|Wo (pv 0) Ek rfl)))),?_⟩
 refine⟨XQ _,fun e z=>⟨_,rfl,x,C,m,[],rfl,?_,U.net.cl,U.net.ends,by decide,?_⟩⟩
 .rw[Qt<|Zw y z];exact y
 have k:x≠e:=Zw y z;refine⟨XQ _,fun r c=>⟨_,rfl,x,C,m,[("ends",.ref e)],rfl,?_,U.net.cl,U.net.rooms,(by show(1:Nat)<1000;decide),?_⟩⟩
 .have h:x≠r:=Zw QC c
  rw[Qt h,QC];rfl
 have h:x≠r:=Zw QC c;have o:upd H e (.lst []) r=none:=by rw[Qt<|Ne.symm h]at c;exact c
 have B:e≠r:=Zw QC o;have L:H r=none:=by rw[Qt<|Ne.symm B]at o;exact o
 refine fun l g=>⟨_,rfl,x,C,m,[("ends",.ref e),("rooms",.ref r)],rfl,?_,U.net.cl,U.net.leav,(by show(2:Nat)<1000;decide),?_⟩
 .have i:x≠l:=Zw QC g
  rw[Qt i,QC];rfl
 have i:x≠l:=Zw QC g;rw[Qt<|Ne.symm i]at g;have p:r≠l:=Zw QC g;rw[Qt<|Ne.symm p,Qt<|Ne.symm i]at g;have D:e≠l:=Zw QC g;rw[Qt<|Ne.symm D]at g;refine fun d a=>⟨_,rfl,x,C,m,[("ends",.ref e),("rooms",.ref r),("leaving",.ref l)],rfl,?_,U.net.cl,U.net.laid,(by show(3:Nat)<1000;decide),?_⟩
 .have j:x≠d:=Zw QC a
  rw[Qt j,QC];rfl
 have j:x≠d:=Zw QC a;rw[Qt<|Ne.symm j]at a;have v:l≠d:=Zw QC a;rw[Qt<|Ne.symm v,Qt<|Ne.symm j]at a;have t:r≠d:=Zw QC a;rw[Qt<|Ne.symm t,Qt<|Ne.symm j]at a;have G:e≠d:=Zw QC a;rw[Qt<|Ne.symm G]at a;refine q e r l d _ z L g a ?_ ?_ ?_ ?_ ?_ ?_ (fun b I=>?_)
 .simp only[Xt,Xg,XT,or_false,not_or,not_false_eq_true,JD,and_true]
  exact⟨⟨k,h,i,j⟩,⟨B,D,G⟩,⟨p,t⟩,v⟩
 .rw[QC];rfl
 .rw[Qt<|Ne.symm k,Qt G,Qt<|Ne.symm k,Qt D,Qt<|Ne.symm k,Qt B,Qt<|Ne.symm k,QC]
 .rw[Qt<|Ne.symm h,Qt t,Qt<|Ne.symm h,Qt p,Qt<|Ne.symm h,QC]
 .rw[Qt<|Ne.symm i,Qt v,Qt<|Ne.symm i,QC]
 .rw[Qt<|Ne.symm j,QC];rfl
 .simp only[Xg,XT,or_false,not_or]at I
  obtain⟨n,S,R,O,N⟩:=I;rw[Qt n,Qt N,Qt n,Qt O,Qt n,Qt R,Qt n,Qt S]
inductive R_lay1:Q7->List OT->(Q7->Prop)->Prop
 |mk {N:Q7} {s e:List Key} {r:Int} (h1:N.ends.length<900) (h2:N.rooms.length<900) (h3:N.leav.length<900) (h4:∀k ns,QP N.leav k=some ns->ns.length<900):R_lay1 N [.fz<|QR s,.fz<|QR e,.fz<|.int r] (fun N'=>N'=Uq N s e r)
def Zhr:Qp Zac Zac (Q2 KR):=by walk_at"p"
def FW (T:Bl mg) (U:Tx K mg C gS gE) (D:Mf K C "lay_one" "Net.lay_one" KR Zac):Zu P w K mg base C "lay_one" Zac 1 (spN K P w C R_lay1):=by
 refine D.evN Zhr (fun M i g h=>by cases h;rfl) (fun f l A c s H E v M i g j h=>?_)
 cases h with
 |@mk b e r q p o k =>
   refine⟨_,(Q3 (Z2<|VL PySem.F.plainAttrs_list PySem.F.slot_list_append PySem.F.type_list_append VP (Ae (Ys j) (Zf (pv 0) rfl) (pv 1) (ZC Qs) ⟨rfl,rfl,rfl,rfl⟩)<|Qo (Zo Vw (by rfl) T.len Vy<|Qo (Zf (pv 0) rfl) Qs) Qs)
 (Q3 (Z2<|VL PySem.F.plainAttrs_list PySem.F.slot_list_append PySem.F.type_list_append VP (Zf (pv 0) rfl)<|Qo (pv 2) Qs)
 (Q4<|Z2<|VL PySem.F.plainAttrs_list PySem.F.slot_list_append PySem.F.type_list_append VP (Zf (pv 0) rfl)<|Qo (pv 3) Qs))),?_⟩
   show Q1 K _ [some _,some _,some _,some _] _
   walk_at"x"
   refine QH (Ow (N:=M) (n:=(M.ends.length:Int)) U.net rfl (Qq rfl) (by omega) (fun m a=>?_) (PR (N:={ M with leav:=VQ M.leav b }) U.net rfl) ?_)
   .rw[Ho,Xd rfl]at a
    cases a
    cases z:QP M.leav b with
    |none=>decide
    |some d=>have:=k b d z;show d.length<1000;omega
   walk_at"d"
   refine QH (On U.net rfl (Qq rfl) (show M.ends.length<1000 by omega) ?_)
   walk_at"d"
   refine Iz U.net rfl (Qq rfl) (show M.rooms.length<1000 by omega) ?_
   walk_at"d"
   exact⟨_,rfl,rfl⟩
abbrev YN:Zg Nd:=fun _ _=>0
inductive R_lay:Q7->List OT->(Q7->Prop)->Prop
 |mk {N:Q7} {L:Lay Nd} {s e:Nd} {r:Int} (h:NetR N L YN) (new:(s,e)∉L.map (fun x=>(x.1,x.2.1))) (l:L.length<400):R_lay N [.fz<|QR<|nk s,.fz<|QR<|nk e,.fz<|.int r] (fun N'=>NetR N' (L++[(s,e,r)]) YN)
def IC:Qp Zac Zac (Q2 HS):=by walk_at"p"
def Lq (T:Bl mg) (U:Tx K mg C gS gE) (D:Mf K C "lay" "Net.lay" HS Zac) (g:Zu P w K mg base C "lay_one" Zac 1 (spN K P w C R_lay1)):Zu P w K mg base C "lay" Zac 2 (spN K P w C R_lay):=by
 refine D.evN IC (fun M b u h=>by cases h;rfl) (fun f F A i s H E v M b u p h=>?_)
 cases h with
 |@mk L a e r h m l =>
   refine⟨_,(Q3 (Cl (Du p) (Zf (pv 0) rfl) (Wl<|Qo (pv 1)<|Qo (pv 2) Qs) (Zo Vw (by rfl) T.len Vy<|Qo (Zf (pv 0) rfl) Qs) rfl)
 (Q3 (Z2<|Y3 g U.net p (pv 0)<|Qo (pv 1)<|Qo (pv 2)<|Qo (pv 3) Qs)
 (Q4<|Z2<|Y3 g U.net p (pv 0)<|Qo (pv 2)<|Qo (pv 1)<|Qo Qw Qs))),?_⟩
   show Q1 K _ [some _,some _,some _,some _] _
   walk_at"x"
   have B:=h.elen;have y:M.rooms.length=2*L.length:=by rw[h.rooms,Kz]
   have J:=h.l1;have I:=h.l2;have o:=h.l3;refine QH (IP (N:=M) (n:=(M.ends.length:Int)) (k1:=nk a) (k2:=nk e) U.net rfl (PR U.net rfl) (Wr (Zn (Qq rfl)<|Zn (Qq rfl) ZG) Je) (by omega) ?_)
   walk_at"d"
   refine QH (J4 (ΦA:=fun b=>b=[.fz<|QR<|nk a,.fz<|QR<|nk e,.fz<|.int r]) SE rfl (WO (Qv (Qq rfl)<|Qv (Qq rfl)<|Qv (Qq rfl) Q6) rfl) fun b c=>?_);subst c;refine⟨_,R_lay1.mk (show M.ends.length<900 by omega) (show M.rooms.length<900 by omega) (show M.leav.length<900 by omega) (fun k j d=>by have:=o k j d;omega),fun G t=>?_⟩;subst t;walk_at"d"
   refine J4 (ΦA:=fun b=>b=[.fz<|QR<|nk e,.fz<|QR<|nk a,.fz<|.int 0]) SE rfl (WO (Qv (Qq rfl)<|Qv (Qq rfl)<|Qv QA Q6) rfl) (fun b c=>?_);subst c;refine⟨_,R_lay1.mk ?a1 ?a2 ?a3 ?a4,fun G t=>?_⟩
   case a1=>show(M.ends++[nk e]).length<900;rw[Xs,B];show 2*L.length+1<900;omega
   case a2=>show(M.rooms++[r]).length<900;rw[Xs,y];show 2*L.length+1<900;omega
   case a3 =>
    show(VS (VQ M.leav<|nk a) (nk a) _).length<900
    rw[BK];have:=DQ M.leav (nk a);omega
   case a4 =>
    intro k j d;rw[UP]at d;by_cases z:k=nk a
    .rw[Xd z]at d
     cases d
     have:((QP M.leav<|nk a).getD []).length<=2*L.length:=by
      cases q:QP M.leav (nk a) with
      |none=>exact XQ _
      |some x=>exact o _ x q
     show((QP M.leav<|nk a).getD []++[_]).length<900
     rw[Xs];show _+1<900;omega
    .rw[Xa z]at d
     have:=o k j d
     omega
   subst t;walk_at"d"
   exact⟨_,Aj (r:=r) h rfl m,rfl⟩
noncomputable def G5 (L:Lay Nd)(φ:Zg Nd)(p q:Nd):Int:=if (p,q)∈L.map (fun x=>(x.1,x.2.1)) then φ p q else 0
inductive R_flow (P:Program)(w:World)(C:Addr):List OT->(OT->Prop)->Prop
 |mk {N:Q7} {L:Lay Nd} {φ:Zg Nd} {p q:Nd} (h:NetR N L φ):R_flow P w C [.zow<|ZZ P w C N,.fz<|QR<|nk p,.fz<|QR<|nk q] (fun r=>r=.fz (.int<|G5 L φ p q))
def OE:Qp Zap Zap (Q2 Ko):=by walk_at"p"
def Ct (T:Bl mg) (U:Tx K mg C gS gE) (D:Mf K C "flow" "Net.flow" Ko Zap):Zu P w K mg base C "flow" Zap 1 (Zk K<|R_flow P w C):=by
 refine D.evD OE (fun A y h=>by cases h;rfl) (fun _ _ _ _ s H E A y u h=>?_)
 cases h with
 |@mk N L t p q h =>
   refine⟨_,(Q3 (Zq (U7<|E8 (Du u) (Wl<|Qo (pv 1)<|Qo (pv 2) Qs)<|Zf (pv 0) rfl) (Q4<|QN Qw) Zr)
 (Q4<|QN<|QD QE (Zf (pv 0) rfl)<|QU DC (Cf (Du u) (Zf (pv 0) rfl) (Wl<|Qo (pv 1)<|Qo (pv 2) Qs) fun _ _=>rfl) Qw)),?_⟩
   show Q1 K _ [some _,some _,some _] _
   walk_at"x"
   have f:∀{l:QF},l[1]?=some (some<|.fz<|QR<|nk p)->l[2]?=some (some<|.fz<|QR<|nk q)->Qu K (Ur<|QI (Q8 1)<|QI (Q8 2) QQ) l (.tuple [QR<|nk p,QR<|nk q]):=fun e d=>Wr (Zn (Qq e)<|Zn (Qq d) ZG) Je;refine QH (Zv (b := !(ZL N.laid (nk p,nk q)).isSome) (ZJ<|ED U.net (f rfl rfl) rfl) (fun c=>ZO QA ?_) fun c=>Zz ?_)
   .have c:ZL N.laid (nk p,nk q)=none:=by
     cases z:ZL N.laid (nk p,nk q) with
     |none=>rfl
     |some n=>rw[z]at c;cases c
    show OT.fz (.int 0)=_;unfold G5;rw[Xa fun j=>?_];obtain⟨x,m,r⟩:=XO.mp j;obtain⟨i,k⟩:=List.mem_iff_getElem?.mp m
    have:=h.laid i x k
    injection r with e d;rw[e,d,c]at this;cases this
   .have j:(p,q)∈L.map (fun x=>(x.1,x.2.1)):=by
     apply Classical.byContradiction
     intro B;rw[h.laid0 p q B]at c;cases c
    obtain⟨x,m,r⟩:=XO.mp j;obtain⟨i,k⟩:=List.mem_iff_getElem?.mp m;have v:=h.laid i x k;injection r with e d
    rw[e,d]at v;have o:N.rooms[2*i+1]?=some (t p q):=by
     rw[h.rooms,UJ];unfold rmE;have a:(2*i+1)/2=i:=by omega
     have b:¬(2*i+1)%2=0:=by omega
     rw[a,k];simp only[YJ,Xa b,e,d]
    have F:atI (N.rooms.map PyData.int) (Builtin.bitXor ((2*i:Nat):Int) 1)=some (.int<|t p q):=by
     rw[K7];have a:ZeJ (2*i)=2*i+1:=by unfold ZeJ;rw[Xd<|by omega]
     rw[a];exact V1 (by rw[Xn,o];rfl)
    refine ZO (Hl (N:=N) U.net rfl (Z8 (g:=Builtin.bitXor) (CU (n:=((2*i:Nat):Int)) U.net rfl (f rfl rfl) v) QA) F) ?_;unfold G5;rw[Xd j]
def Cr   (h:Qu K ta ρ (.list ds)):Za K (fun b H Q=>ta b H fun x f=>∃k,MR K x f k/\Q k f) ρ (!ds.isEmpty):=fun m F b H Q S q=>h m F b H _ S fun n l v d g=>by
 obtain⟨a,c,rfl,j,i,_⟩:=Ud (K:=K) g d.fh;refine⟨_,.inl ⟨c,j,rfl⟩,?_⟩
 have e:c.isEmpty=ds.isEmpty:=by
  have:=i.length
  cases c<;>cases ds<;>simp at this ⊢
 rw[e];exact q n l d
noncomputable def Wc (n:Nd):PyData:=QR (nk n)
inductive R_reached (P:Program)(w:World)(C:Addr):List OT->(OT->Prop)->Prop
 |mk {N:Q7} {L:Lay Nd} {φ:Zg Nd} {s:Nd} (h:NetR N L φ) (l:L.length<400):R_reached P w C [.zow<|ZZ P w C N,.fz<|QR<|nk s] (fun r=>∃v es,r=.own v (V6<|kvG es)/\Tree L φ s es/\Ye L φ es)
structure ReachI (L:Lay Nd)(φ:Zg Nd)(s:Nd)(es0 es:Got Nd)(U fu:List Nd):Prop where
 tree:Tree L φ s es
 fin:∀n∈fu,n∈QT es
 sub:∀n∈QT es0,n∈QT es
 done:JK L φ es (U++fu)
 len:es.length=es0.length+fu.length
def Ue:Qp ["self","start","edges","latest","further","node","edge"] ZaQ (Q2 KP):=by walk_at"p"
def Ou (T:Bl mg) (U:Tx K mg C gS gE) (D:Mf K C "reached" "Net.reached" KP ZaQ):Zu P w K mg base C "reached" ZaQ 1 (Zk K<|R_reached P w C):=by
 refine D.evD Ue (fun ts Φ h=>by cases h;rfl) (fun _ _ _ _ s H E ts Φ hr h=>?_)
 cases h with
 |@mk N L Q A h l =>
   refine⟨_,(Q3 (QW (i:=2) Ue.nd rfl Qa<|Eg (Ys hr) (pv 1) B1)
 (Q3 (QW (i:=3) Ue.nd rfl Qa<|ZC<|Qo (pv 1) Qs)
 (Q3 (Hj PassesOwn.never (A5 (pv 3) fun _=>rfl) (Q3 (QW (i:=4) Ue.nd rfl Qa<|ZC Qs)
 (Q3 (ZX PassesOwn.never rfl (Wz<|pv 3) (QX (i:=5) Ue.nd rfl Qa) (Q4 (ZX PassesOwn.never rfl (Wz<|Ac (Ys hr) (Zf (pv 0) rfl) (pv 5) (ZC Qs) ⟨rfl,rfl,rfl,rfl⟩) (QX (i:=6) Ue.nd rfl Qa) (Q4 (Zq (PW.pt<|U4 (Z5 VJ (QD QE (Zf (pv 0) rfl)<|pv 6) Qw<|Zx _)<|UB<|U7<|Im (Ys hr) (QD QE (Zf (pv 0) rfl)<|pv 6)<|pv 2) (Q3 (DY (Ys hr) (pv 2) (QD QE (Zf (pv 0) rfl)<|pv 6) (pv 6) rfl)
 (Q4<|Z2<|VL PySem.F.plainAttrs_list PySem.F.slot_list_append PySem.F.type_list_append VP (pv 4)<|Qo (QD QE (Zf (pv 0) rfl)<|pv 6) Qs)) Zr)))))
 (Q4<|QW (i:=3) Ue.nd rfl Qa<|pv 4))))
 (Q4<|QN<|pv 2)))),?_⟩
   show Q1 K _ [some _,some _,none,none,none,none,none] _
   walk_at"x"
   refine QH (BG (Ep (k:=nk A) (d:=.none) (Qq rfl) Gw) fun v=>?_)
   walk_at"d"
   refine QH (VM (V9 (ds:=[QR<|nk A]) (Zn (Qq rfl) ZG) Jb) ?_)
   walk_at"d"
   refine JS 3 rfl ?_
   walk_at"d"
   have bnd:∀p,Tree L Q A p->p.length<=2*L.length+1:=fun p t=>by have:=t.len;rw[P0]at this;exact this
   refine QH (HG (fun m B=>∃(p:Got Nd) (g:List Nd) (u4 u5 u6:Option OT),Tree L Q A p/\(∀n∈g,n∈QT p)/\JK L Q p g/\m=2*(2*L.length+2-p.length)+(if g=[] then 0 else 1) /\
    B=[some<|.zow<|ZZ P w C N,some<|.fz<|QR<|nk A,some<|.own v<|V6<|kvG p,some<|.fz<|.list<|g.map Wc,u4,u5,u6]) _ ⟨[(A,none)],[A],none,none,none,.root,(fun n M=>by simpa [QT] using M),?d0,rfl,rfl⟩ ?ws)
   case d0 =>
    intro e m n r h1 h2 h3 h4 h5 h6;have:m=A:=by simpa [QT] using h5
    exact Xm (by rw[this];exact Xb) h6
   case ws =>
    rintro m _ ⟨p,g,u4,u5,u6,tr,sb,dn,rfl,rfl⟩
    refine⟨_,Cr (ds:=g.map Wc)<|Qq rfl,fun c=>?_,fun c=>?_⟩
    .have X:g≠[]:=fun z=>by rw[z]at c;cases c
     rw[Xa X];refine QH (VM (V9 (ds:=[]) ZG<|by decide) ?_)
     walk_at"d"
     refine QH (V0 (ds:=g.map Wc) (fun i B=>∃(u:Got Nd) (Z:List Nd) (u5 u6:Option OT),ReachI L Q A p u (g.drop i) Z /\
      B=[some<|.zow<|ZZ P w C N,some<|.fz<|QR<|nk A,some<|.own v<|V6<|kvG u,some<|.fz<|.list<|g.map Wc,some<|.ol<|Z.map Wc,u5,u6]) (Jv<|Qq rfl) ⟨p,[],_,_,⟨tr,(by rintro n ⟨⟩),fun n M=>M,by rw[List.drop_zero,XG];exact dn,by simp⟩,rfl⟩ ?st ?fin)
     case fin =>
      rintro _ ⟨u,Z,w5,w6,I,rfl⟩
      rw[Xl]at I;have dn':=I.done;rw[List.drop_length,List.nil_append]at dn';refine JS 4 rfl ?_
      walk_at"d"
      refine ZU (Qq rfl) ?_
      walk_at"d"
      refine⟨2*(2*L.length+2-u.length)+(if Z=[] then 0 else 1),?_,u,Z,_,_,_,I.tree,I.fin,dn',rfl,rfl⟩;have b1:=bnd u I.tree;have b2:=I.len
      by_cases z:Z=[]
      .rw[Xd z]
       rw[z]at b2;simp at b2;omega
      .rw[Xa z]
       have:0<Z.length:=MA.mpr z
       omega
     case st =>
      rintro i d _ hd ⟨es1,fu1,w5,w6,I1,rfl⟩
      have hi:i<g.length:=by
       have:=(Xf.mp hd).1
       simpa using this
      obtain rfl:d=Wc g[i]:=by simpa [hi] using hd.symm
      have Y:g.drop i=g[i]::g.drop (i+1):=Ng hi;generalize g[i]=x at Y;refine⟨_,Zj,?_⟩
      walk_at"d"
      refine V0 (ds:=((QP N.leav<|nk x).getD []).map PyData.int) (fun j B=>∃(f:Got Nd) (o:List Nd) (u6:Option OT),ReachI L Q A p f (g.drop i) o /\
       (∀(k:Nat) (n:Nd) (r:Int),(k:Int)∈((QP N.leav<|nk x).getD []).take j->hdE L k=some n->rmE L Q k=some r->0<r->n∈QT f) /\
       B=[some<|.zow<|ZZ P w C N,some<|.fz<|QR<|nk A,some<|.own v<|V6<|kvG f,some<|.fz<|.list<|g.map Wc,some<|.ol<|o.map Wc,some<|.fz<|Wc x,u6]) (Jv<|Af (k:=nk x) U.net rfl (Qq rfl)) ⟨es1,fu1,_,I1,(fun k n r hk=>by simp at hk),rfl⟩ ?st2 ?fin2
      case fin2 =>
       rintro _ ⟨f,o,w6,q,J,rfl⟩
       refine⟨f,o,_,_,⟨q.tree,q.fin,q.sub,?_,q.len⟩,rfl⟩;rw[Xl,WA]at J;intro e m n r h1 h2 h3 h4 h5 h6;by_cases z:m=x
       .subst z
        exact J e n r ((h.leav m (e:Int)).mpr ⟨e,rfl,h1⟩) h2 h3 h4
       .refine q.done e m n r h1 h2 h3 h4 h5 ?_
        rw[Y,J8,Xg,not_or];exact⟨z,h6⟩
      case st2 =>
       rintro j d2 _ O ⟨f,o,w6,q,J,rfl⟩
       have hj:j<((QP N.leav<|nk x).getD []).length:=by
        have:=(Xf.mp O).1
        simpa using this
       obtain⟨k,ek,tk⟩:=(h.leav x _).mp (X0 hj)
       obtain rfl:d2=.int (k:Int):=by
        rw[Xn,XL hj]at O;rw[ek]at O;simpa using O.symm
       obtain⟨y,hy⟩:∃y,L[k/2]?=some y:=by
        unfold tlE at tk;cases z:L[k/2]? with
        |none=>rw[z]at tk;cases tk
        |some y=>exact⟨y,rfl⟩
       obtain⟨n,M⟩:∃n,hdE L k=some n:=⟨_,by unfold hdE;rw[hy];rfl⟩;obtain⟨r,S⟩:∃r,rmE L Q k=some r:=⟨_,by unfold rmE;rw[hy];rfl⟩;have ra:atI (N.rooms.map PyData.int) (k:Int)=some (.int r):=V1 (by rw[Xn,h.rooms,UJ,S];rfl);have ea:atI (N.ends.map QR) (k:Int)=some (QR<|nk n):=V1 (by rw[h.ends,X7,Xn,Hf,M];rfl);have tks:((QP N.leav<|nk x).getD []).take (j+1)=((QP N.leav<|nk x).getD []).take j++[(k:Int)]:=by rw[W8,XL hj,ek];rfl
       have bes:=bnd f q.tree;have ben:=q.len;refine⟨_,Zj,?_⟩
       walk_at"d"
       have G:∀{ρ:QF},ρ[0]?=some (some<|.zow<|ZZ P w C N)->ρ[6]?=some (some<|.fz<|.int (k:Int))->Qu K (tOp (rIx K) (Va K (Q8 0) "ends")<|Q8 6) ρ (QR<|nk n):=fun e0 e6=>RL U.net e0 (Qq e6) ea;refine Zv (b:=decide (r > 0) && !(VX (kvG f)<|nk n).isSome) (U0 (Zy<|Vo (Hl U.net rfl (Qq rfl) ra) QA) fun _=>ZJ<|IF (G rfl rfl) rfl) (fun c=>?_) (fun c=>Zz ?_)
       .rw[G7]at c
        have c1:r > 0:=XW (Bool.and_eq_true_iff.mp c).1;have c2:n∉QT f:=by simpa using (Bool.and_eq_true_iff.mp c).2
        refine QH (Ef rfl (Qq rfl) (G rfl rfl) (by rw[show(kvG f).length=f.length from Xl _];exact Vg<|by omega) ?_)
        walk_at"d"
        rw[AA c2];refine UR (ds:=o.map Wc) rfl (G rfl rfl) (by rw[Xl];omega) ?_
        walk_at"d"
        have km:x∈QT f:=q.sub x (sb x<|List.mem_of_mem_drop<|by rw[Y];exact Xb);refine⟨f++[(n,some k)],o++[n],_,⟨q.tree.add c2 M tk km S c1,fun z R=>?_,fun z R=>Jz.mpr<|.inl<|q.sub z R,?_,by simp;omega⟩,fun k' n' r' F q1 q2 q3=>?_,by rw[XB];rfl⟩
        .rcases Xy.mp R with R|R
         .exact Jz.mpr (.inl<|q.fin z R)
         .exact Jz.mpr (.inr<|by simpa using R)
        .exact q.done.add n (some k)
        .rw[tks]at F
         rcases Xy.mp F with z|z
         .exact Jz.mpr (.inl<|J k' n' r' z q1 q2 q3)
         .have:k'=k:=by have:=Xh.mp z;omega
          subst this;rw[M]at q1;cases q1;exact Jz.mpr (.inr rfl)
       .rw[G7]at c
        refine⟨f,o,_,q,fun k' n' r' F q1 q2 q3=>?_,rfl⟩;rw[tks]at F;rcases Xy.mp F with z|z
        .exact J k' n' r' z q1 q2 q3
        .have:k'=k:=by have:=Xh.mp z;omega
         subst this;rw[M]at q1;rw[S]at q2;cases q1
         cases q2
         apply Classical.byContradiction
         intro hq;have q3':r > 0:=q3
         simp[q3',hq]at c
    .have X:g=[]:=by
      cases g with
      |nil=>rfl
      |cons a b=>cases c
     subst X;exact Hh rfl ⟨v,p,rfl,tr,dn.closed⟩
def Yy (w:Qk):Qd:=w.map fun(e:Nat)=>PyData.int (e:Int)
def PY {L:Lay Nd}{es:Got Nd}{n:Nd}{w:Qk}(b:Back L es n w):VX (kvG es) (nk n)=some (Us w.head?):=by
 rw[Hw];cases b with
 |nil h=>rw[h];rfl
 |cons h t b=>rw[h];rfl
def NB {L:Lay Nd}{φ:Zg Nd}{e:Nat}{r:Int}(h:rmE L φ e=some r):e<2*L.length:=by
 unfold rmE at h;cases z:L[e/2]? with
 |none=>rw[z]at h;cases h
 |some x=>have:=(Xf.mp z).1;omega
def Sl {L:Lay Nd}  {w:Qk}(q:WayOk L φ s es n w):w.length<=2*L.length:=by
 have:=HB (ys:=List.range (2*L.length)) q.nodup fun e b=>by
  obtain⟨r,a,_⟩:=q.room e b;exact XI.mpr (NB a)
 simpa using this
inductive R_way (P:Program)(w:World)(C:Addr):List OT->(OT->Prop)->Prop
 |mk {N:Q7} {L:Lay Nd} {φ:Zg Nd} {s n:Nd} {es:Got Nd} {wy:Qk} (h:NetR N L φ) (l:L.length<400) (q:WayOk L φ s es n wy):R_way P w C [.zow<|ZZ P w C N,.zow<|JL<|kvG es,.fz<|QR<|nk n] (fun r=>r=.ol (Yy wy))
def M0:Qp ["self","edges","end","way","edge"] ZaG (Q2 KN):=by walk_at"p"
def Fp (T:Bl mg) (U:Tx K mg C gS gE) (D:Mf K C "way_to" "Net.way_to" KN ZaG):Zu P w K mg base C "way_to" ZaG 1 (Zk K<|R_way P w C):=by
 refine D.evD M0 (fun A z h=>by cases h;rfl) (fun _ _ _ _ s H E A z v h=>?_)
 cases h with
 |@mk N L J O n x r h l q =>
   refine⟨_,(Q3 (QW (i:=3) M0.nd rfl Qa<|ZC Qs)
 (Q3 (QW (i:=4) M0.nd rfl Qa<|BD (Ys v) (pv 1) (pv 2) fun _ _=>rfl)
 (Q3 (Hj PassesOwn.never (U7<|FQ<|pv 4) (Q3 (Z2<|VL PySem.F.plainAttrs_list PySem.F.slot_list_append PySem.F.type_list_append VP (pv 3)<|Qo (pv 4) Qs)
 (Q4<|QW (i:=4) M0.nd rfl Qa<|BD (Ys v) (pv 1) (QD QE (Zf (pv 0) rfl)<|QU DC (pv 4) Qw) fun _ _=>rfl)))
 (Q4<|QN<|pv 3)))),?_⟩
   show Q1 K _ [some _,some _,some _,none,none] _
   walk_at"x"
   have M:=Sl q;refine QH (VM (V9 (ds:=[]) ZG<|by decide) ?_)
   walk_at"d"
   refine QH (ZU (RO rfl (Qq rfl)<|PY q.back) ?_)
   walk_at"d"
   refine QH (HG (fun m p=>∃(j f:Qk) (t:Nd),m=f.length/\j++f=r/\Back L x t f/\p=[some<|.zow<|ZZ P w C N,some<|.zow<|JL<|kvG x,some<|.fz<|QR<|nk n,some<|.ol<|Yy j,some<|.fz<|Us f.head?]) r.length ⟨[],r,n,rfl,rfl,q.back,rfl⟩ ?ws)
   case ws =>
    rintro m _ ⟨j,f,t,rfl,o,b,rfl⟩
    refine⟨_,ZJ<|NR<|Qq rfl,fun c=>?_,fun c=>?_⟩
    .cases b with
     |nil F=>cases c
     |@cons _ u e k F B y =>
       have I:j.length<1000:=by
        have:=X5 List.length o
        rw[Xs]at this;omega
       refine QH (UR (ds:=Yy j) (d:=.int (e:Int)) rfl (Qq rfl) (by unfold Yy;rw[Xl];exact I) ?_)
       walk_at"d"
       have G:atI (N.ends.map QR) (Builtin.bitXor (e:Int) 1)=some (QR<|nk u):=by
        rw[K7];exact V1 (by rw[h.ends,X7,Xn,IU,B];rfl)
       refine ZU (RO rfl (RL U.net rfl (Z8 (g:=Builtin.bitXor) (Qq rfl) QA) G)<|PY y) ?_
       walk_at"d"
       refine⟨k.length,WY _,j++[e],k,u,rfl,by rw[<- o,Ga];rfl,y,?_⟩;unfold Yy;rw[XB];rfl
    .have:f=[]:=by
      cases f with
      |nil=>rfl
      |cons a b=>cases c
     subst this;rw[XG]at o;subst o;exact D7 rfl rfl
noncomputable def amt (L:Lay Nd)(φ:Zg Nd)(w:Qk):Int:=Yz (w.map fun e=>(rmE L φ e).getD 0)
inductive R_push:Q7->List OT->(Q7->Prop)->Prop
 |mk {N:Q7} {L:Lay Nd} {φ:Zg Nd} {wy:Qk} (h:NetR N L φ) (hd:Dis L) (ne:wy≠[]) (hin:∀e∈wy,∃r,rmE L φ e=some r) (hl:wy.length<900):R_push N [.fz<|.list<|Yy wy] (fun N'=>NetR N' L<|YM L (amt L φ wy) φ wy)
def NetR.rm  (h:NetR N L φ)(a:e<2*L.length):∃r,N.rooms[e]?=some r/\(VA L φ)[e]?=some r:=by
 have:e<(VA L φ).length:=by rw[Kz];exact a
 exact⟨(VA L φ)[e],by rw[h.rooms,XL this],XL this⟩
def NetR.push  (h:NetR N L φ)(b:Dis L)  (d:(VA L φ)[e]?=some r)(c:(VA L φ)[ZeJ e]?=some r'):NetR { N with rooms:=(N.rooms.set e<|r-a).set (ZeJ e) (r'+a) } L (Ya L a φ e) :=
 ⟨h.ends,by show(N.rooms.set e<|r-a).set (ZeJ e) (r'+a)=_;rw[h.rooms,Ox b d c],h.leav,h.laid,h.laid0,h.l1,h.l2,h.l3⟩
def IK {L:Lay Nd}{a:Int}{φ:Zg Nd}{b:Qk}{i e:Nat}(h:b[i]?=some e):YM L a φ (b.take<|i+1)=Ya L a (YM L a φ<|b.take i) e:=by
 have t:b.take (i+1)=b.take i++[e]:=by rw[W8,h];rfl
 rw[t];unfold YM;rw[List.foldl_append];rfl
def KC:Qp ["self","way","amount","edge"] ["self","way"] (Q2 Mj):=by walk_at"p"
def FE (T:Bl mg) (U:Tx K mg C gS gE) (D:Mf K C "push" "Net.push" Mj ["self","way"]):Zu P w K mg base C "push" ["self","way"] 1 (spN K P w C R_push):=by
 refine D.evN KC (fun M J I h=>by cases h;rfl) (fun f cdv A B s H E v M J I hr h=>?_)
 cases h with
 |@mk L q b h X Q u hl =>
   refine⟨_,(Q3 (QW (i:=2) KC.nd rfl Qa<|Zo FC (by rfl) T.min G1<|Qo (YB (NX:=["self","way","amount","edge"]) (sc:=Q2 Mj) (N:=["edge","self"]) (f:=[none,some 0]) rfl (by decide +kernel) rfl rfl (Wz<|pv 1) (fun _=>(QX (i:=0) (show(["edge","self"]:Qh).Nodup by decide +kernel) rfl Qa)) (fun _=>VC) (fun _=>Wv) fun _=>(QD QE (Zf (pv 1) rfl)<|pv 0)) Qs)
 (Q4 (ZX PassesOwn.never rfl (Wz<|pv 1) (QX (i:=3) KC.nd rfl Qa) (Q3 (UC (Zf (pv 0) rfl) (pv 3) UI (pv 2) Fg Yn)
 (Q4<|UC (Zf (pv 0) rfl) (QU DC (pv 3) Qw) UI (pv 2) G4 Yn))))),?_⟩
   show Q1 K _ [some _,some _,none,none] _
   walk_at"x"
   refine QH (ZU (d:=.int (amt L q b)) (IE 0 rfl rfl (FJ (ns:=b.map fun e=>(rmE L q e).getD 0) (Qu.cast (EvO.fz<|Ux (xs:=b) (enc:=fun(e:Nat)=>PyData.int (e:Int)) (h:=fun e=>.int<|(rmE L q e).getD 0) ?ei (by omega) ?el)<|by rw[X7];rfl) rfl (fun z=>Q<|List.map_eq_nil_iff.mp z))) ?_)
   case ei=>exact Jv (Qq rfl)
   case el =>
    intro e S c;refine⟨_,Zj,?_⟩
    walk_at"e"
    obtain⟨r,t⟩:=u e S;refine Qu.cast (Hl (N:=M) (m:=r) U.net rfl (Qq rfl) ?_) (by rw[t];rfl);exact V1 (by rw[Xn,h.rooms,UJ,t];rfl)
   walk_at"d"
   generalize amt L q b=a;refine V0 (ds:=Yy b) (fun i x=>∃(p:Q7) (y:Option OT),NetR p L (YM L a q<|b.take i)/\x=[some<|.own v<|Zh P w C p,some<|.fz<|.list<|Yy b,some<|.fz<|.int a,y]) (Jv<|Qq rfl) ⟨M,_,h,rfl⟩ ?st ?fin
   case fin =>
    rintro _ ⟨p,y,o,rfl⟩
    unfold Yy at o;rw[Xl,WA]at o;exact⟨p,o,rfl⟩
   case st =>
    rintro i d _ l ⟨p,y,o,rfl⟩
    have G:i<b.length:=by
     have:=(Xf.mp l).1
     unfold Yy at this;simpa using this
    obtain rfl:d=.int (b[i]:Int):=by
     unfold Yy at l;simpa [G] using l.symm
    obtain⟨r0,F⟩:=u b[i] (X0 G);have el:=NB F;rw[IK<|XL G];generalize b[i]=e at el;have em:ZeJ e<2*L.length:=by unfold ZeJ;split<;>omega
    have R:ZeJ e≠e:=by unfold ZeJ;split<;>omega
    obtain⟨r,h1,h2⟩:=My.NetR.rm o el;obtain⟨O,Z,Y⟩:=My.NetR.rm o em;refine⟨_,Zj,?_⟩
    walk_at"d"
    refine QH (Po (N:=p) (f:=fun i j=>i-j) (k:=(e:Int)) (m:=r) (n:=a) U.net rfl (Qq rfl) (by omega) (by rw[Xp];exact h1) (Qq rfl) ?_)
    walk_at"d"
    rw[Xp];refine Po (f:=fun i j=>i+j) (k:=(ZeJ e:Int)) (m:=O) (n:=a) U.net rfl (Qu.cast (Z8 (g:=Builtin.bitXor) (Qq rfl) QA)<|by rw[K7]) (by omega) (by rw[Xp];show(p.rooms.set e<|r-a)[ZeJ e]?=_;rw[Xo<|Ne.symm R];exact Z) (Qq rfl) ?_
    walk_at"d"
    rw[Xp];exact⟨_,_,My.NetR.push o X h2 Y,rfl⟩
inductive R_fill:Q7->List OT->(Q7->Prop)->Prop
 |mk {N:Q7} {y:Yd} {G:Gv} {φ:Zg Nd} (h:NetR N (Zm y G) φ) (F:Flow y G φ) (l:(Zm y G).length<400):R_fill N [.fz<|QR<|nk .start,.fz<|QR<|nk .fin] (fun N'=>∃φ' es,NetR N' (Zm y G) φ'/\Flow y G φ'/\Nd.start∈QT es/\Ye (Zm y G) φ' es/\Nd.fin∉QT es)
def K1:Qp ["self","start","end","edges"] Zap (Q2 Kx):=by walk_at"p"
def CI (T:Bl mg) (U:Tx K mg C gS gE) (D:Mf K C "fill" "Net.fill" Kx Zap) (J:Zu P w K mg base C "reached" ZaQ 1 (Zk K<|R_reached P w C)) (Xbw:Zu P w K mg base C "push" ["self","way"] 1 (spN K P w C R_push)) (Xbx:Zu P w K mg base C "way_to" ZaG 1 (Zk K<|R_way P w C)) :
 Zu P w K mg base C "fill" Zap 2 (spN K P w C R_fill):=by
 refine D.evN K1 (fun M L Ψ h=>by cases h;rfl) (fun f cdv A R s H E v M L Ψ I h=>?_)
 cases h with
 |@mk y G b h F l =>
   refine⟨_,(Q3 (QW (i:=3) K1.nd rfl Qa<|Y3 J U.net I (pv 0)<|Qo (pv 1) Qs)
 (Q4 (Hj PassesOwn.never (U7<|DG (Ys I) (pv 2)<|pv 3) (Q3 (Z2<|Y3 Xbw U.net I (pv 0)<|Qo (Y3 Xbx U.net I (pv 0)<|Qo (pv 3)<|Qo (pv 2) Qs) Qs)
 (Q4<|QW (i:=3) K1.nd rfl Qa<|Y3 J U.net I (pv 0)<|Qo (pv 1) Qs))))),?_⟩
   show Q1 K _ [some _,some _,some _,none] _
   walk_at"x"
   have V8:∀{M:Q7} {b:Zg Nd} {u:Option OT} {E':XK},NetR M (Zm y G) b->ZA K (Vs C "reached" (Zk K<|R_reached P w C) [] E' (Q8 0)<|QI (Q8 1) QQ) [some<|.own v<|Zh P w C M,some<|.fz<|QR<|nk .start,some<|.fz<|QR<|nk .fin,u] (fun r=>∃v' g,r=.own v' (V6<|kvG g)/\Tree (Zm y G) b .start g/\Ye (Zm y G) b g):=fun h' =>
    Kn 0 rfl (by rintro r ⟨v',g,e,_⟩;subst e;exact Al<|Av g) (Ht Tr rfl (Qv (Qq rfl) Q6)<|R_reached.mk h' l)
   refine QH (WQ (V8 h) fun r n=>?_);obtain⟨x,g,rfl,B,N⟩:=n
   walk_at"d"
   refine HG (fun m O=>∃(M:Q7) (b:Zg Nd) (g:Got Nd) (x:V),NetR M (Zm y G) b/\Flow y G b/\Tree (Zm y G) b .start g/\Ye (Zm y G) b g/\m=(Qz G.wa G.m-V5 (Zm y G) b .start).toNat /\
    O=[some<|.own v<|Zh P w C M,some<|.fz<|QR<|nk .start,some<|.fz<|QR<|nk .fin,some<|.own x<|V6<|kvG g]) _ ⟨M,b,g,x,h,F,B,N,rfl,rfl⟩ ?ws
   clear B N g x h F;rintro m _ ⟨M,b,g,x,h,F,B,N,rfl,rfl⟩;refine⟨_,ZJ<|Cm (k:=nk .fin) (Qq rfl) rfl,fun c=>?_,fun c=>?_⟩
   .rw[G7]at c
    obtain⟨o,q⟩:=B.way .fin (XW c);have wl:=Sl q
    have t:o≠[]:=fun z=>by
     have:=q.chain
     rw[z]at this;cases this
    refine SY 3 rfl ?_
    walk_at"d"
    refine QH (J4 (ΦA:=fun L=>L=[.fz<|.list<|Yy o]) Ee rfl (LK (Φ:=fun r=>r=.ol (Yy o)) (Kn 0 rfl (fun r e=>by subst e;exact RU (fun d hd=>by
     obtain⟨e,_,rfl⟩:=XO.mp hd
     exact⟨_,rfl⟩))<|Ht FN rfl (U3 rfl (Qv (Qq rfl) Q6))<|R_way.mk h l q) fun r e=>⟨_,e,rfl⟩) fun L S=>?_)
    subst S;refine⟨_,R_push.mk h (BJ y G) t (fun e p=>let ⟨r,a,_⟩:=q.room e p;⟨r,a⟩)<|by omega,fun N' hN=>?_⟩
    walk_at"d"
    obtain⟨m1,m2⟩:=Ke (ns:=o.map fun e=>(rmE (Zm y G) b e).getD 0) (fun z=>t<|List.map_eq_nil_iff.mp z)
    have a0:0<amt (Zm y G) b o:=by
     obtain⟨e,p,ee⟩:=XO.mp m1;obtain⟨r,j,X⟩:=q.room e p;rw[j]at ee;show 0<Yz _;rw[<- ee];exact X
    obtain⟨F',nd⟩:=F.push (a:=amt (Zm y G) b o) (by omega) q.chain q.nodup (fun e p=>by
     obtain⟨r,j,_⟩:=q.room e p;refine⟨r,j,?_⟩
     have:=m2 _ (XO.mpr ⟨e,p,rfl⟩)
     rw[j]at this;exact this)
    refine WQ (V8 hN) (fun r n=>?_);obtain⟨v4,Y,rfl,Q,Z⟩:=n
    walk_at"d"
    refine⟨_,?_,N',_,Y,v4,hN,F',Q,Z,rfl,rfl⟩
    have:=F'.most
    rw[nd]at this ⊢;omega
   .rw[G7]at c
    exact⟨M,⟨b,g,h,F,B.start,N,Ug c⟩,rfl⟩
structure GOk (y:Yd)(g:Gs):Prop where
 ln:g.line<y.ls.length
 w0:0<=g.want
 m0:0<=g.most
def Lw  (h:g.Ok y):GOk y g:=⟨h.ln,by have:=h.w1;omega,by have:=h.m1;omega⟩
noncomputable def Qx (gs:List Gs):Gv:={ m:=gs.length,ln:=fun k=>(gs.getD k default).line,wa:=fun k=>(gs.getD k default).want,mo:=fun k=>(gs.getD k default).most,th:=fun k t=>ZH (gs.getD k default) (t:Int) }
def Ub {gs:List Gs}(h:k<gs.length):gs.getD k default=gs[k]:=by simp[List.getD,h]
def AW (y:Yd)(G:Gv)(k:Nat):(Vi y G k).length<=1+y.T:=by
 unfold Vi;rw[XS];have:∀n,((List.range n).flatMap fun t=>if G.th k t=true then [((.guest k,.line (G.ln k) t,G.mo k):Nd×Nd×Int)] else []).length<=n:=by
  intro n;induction n with
  |zero=>simp
  |succ n a =>
    rw[Y7,Ui,Xs];have:([n].flatMap fun t=>if G.th k t=true then [((.guest k,.line (G.ln k) t,G.mo k):Nd×Nd×Int)] else []).length<=1:=by
     simp only[M8,List.flatMap_nil,XG];split<;>simp
    omega
 have:=this y.T
 omega
def Ar (h:1<=y.ls.length)(t:Nat):(VH y t).length=y.ls.length:=by
 unfold VH;rw[XS];have:∀n,((List.range n).flatMap fun i=>[((.line (i+1) t,.line (Mir.upN y<|i+1) t,Z3 y (i+1) t):Nd×Nd×Int)]).length=n:=by
  intro n;induction n with
  |zero=>simp
  |succ n a=>rw[Y7,Ui,Xs,a];simp
 rw[this];omega
theorem GO {f:Nat->Lay Nd}{c:Nat}(h:∀k,(f k).length<=c):∀n,((List.range n).flatMap f).length<=n*c
 |0=>by simp
 |n+1=>by
   rw[Y7,Ui,Xs];have a:=GO h n;have b:([n].flatMap f).length<=c:=by simpa using h n
   rw[Nat.add_mul];omega
def GR (f:Nat->Lay Nd)(n:Nat):(List.range<|n+1).flatMap f=(List.range n).flatMap f++f n:=by rw[Y7,Ui];simp
def Hx {f:Nat->Lay Nd}{n:Nat}{x:Nd×Nd×Int}:x∈(List.range n).flatMap f ↔ ∃k,k<n/\x∈f k:=by
 rw[Wa];simp only[XI]
def Mg (b:y.Ok)(G:Gv)(h:n<=8):((List.range n).flatMap (Vi y G)).length<=72:=by
 have a:=GO (f:=Vi y G) (c:=9) (fun k=>by have:=AW y G k;have:=b.t8;omega) n;omega
def HY (b:y.Ok)(h:n<=8):((List.range n).flatMap (VH y)).length<=40:=by
 have a:=GO (f:=VH y) (c:=5) (fun k=>by rw[Ar b.l1 k];exact b.l5) n;omega
inductive R_gnode:List OT->OT->Prop
 |mk {k:Nat}:R_gnode [.fz<|.int (k:Int)] (.fz<|QR<|nk<|.guest k)
def Zix:Qp ZaV ZaV (Q2 KM):=by walk_at"p"
def AU (T:Bl mg) (D:Df K mg "guest_node" KM ZaV):QG P w K mg base "guest_node" ZaV 1 (QL (K:=K) R_gnode):=by
 refine D.ev Zix (fun a r h=>by cases h;rfl) (fun _ _ _ _ s H E a r b h=>?_)
 cases h with
 |@mk k =>
   refine⟨_,(Q4<|QN<|Wl<|Qo Yc<|Qo (pv 0) Qs),?_⟩;show Q1 K _ [some _] _
   walk_at"x"
   exact ZO (Wr (ds:=[.str "guest",.int (k:Int)]) (Zn Yu<|Zn (Qq rfl) ZG) Je) rfl
inductive R_lnode:List OT->OT->Prop
 |mk {l t:Nat}:R_lnode [.fz<|.int (l:Int),.fz<|.int (t:Int)] (.fz<|QR<|nk<|.line l t)
def OL:Qp ZaE ZaE (Q2 K8):=by walk_at"p"
def Et (T:Bl mg) (D:Df K mg "line_node" K8 ZaE):QG P w K mg base "line_node" ZaE 1 (QL (K:=K) R_lnode):=by
 refine D.ev OL (fun a r h=>by cases h;rfl) (fun _ _ _ _ s H E a r b h=>?_)
 cases h with
 |@mk l t =>
   refine⟨_,(Q4<|QN<|Wl<|Qo Yc<|Qo (pv 0)<|Qo (pv 1) Qs),?_⟩;show Q1 K _ [some _,some _] _
   walk_at"x"
   exact ZO (Wr (ds:=[.str "line",.int (l:Int),.int (t:Int)]) (Zn Yu<|Zn (Qq rfl)<|Zn (Qq rfl) ZG)<|by show(3:Nat)<=1000;decide) rfl
inductive R_lguest:Q7->List OT->(Q7->Prop)->Prop
 |mk {N:Q7} {y:Yd} {gs:List Gs} {k:Nat} (ok:y.Ok) (g8:gs.length<=8) (hk:k<gs.length) (h:NetR N ((List.range k).flatMap (Vi y<|Qx gs)) YN) :
  R_lguest N [.fz<|QV y,.fz<|.int (k:Int),.fz<|QO gs[k]] (fun N'=>NetR N' ((List.range<|k+1).flatMap (Vi y<|Qx gs)) YN)
def Tz:Qp ["net","yard","number","guest","turn"] Zad (Q2 KB):=by walk_at"p"
def Ez (T:Bl mg) (U:Tx K mg C gS gE) (D:Df K mg "lay_guest" KB Zad) (B:Zu P w K mg base C "lay" Zac 2 (spN K P w C R_lay)) (Xa5:QG P w K mg base "want_of" Zay 1 (QL (K:=K) R_want)) (F:QG P w K mg base "guest_node" ZaV 1 (QL (K:=K) R_gnode))
 (Z:QG P w K mg base "turns_of" ZaD 1 (QL (K:=K) R_turns)) (X:QG P w K mg base "is_there" Zat 1 (QL (K:=K) R_there)) (S:QG P w K mg base "most_of" Zay 1 (QL (K:=K) R_most)) (Y:QG P w K mg base "line_node" ZaE 1 (QL (K:=K) R_lnode)) (Xa4:QG P w K mg base "line_of" Zay 1 (QL (K:=K) R_lineof)) :
 QG P w K mg base "lay_guest" Zad 3 (spN K P w C R_lguest):=by
 refine D.evN Tz (fun M o Ψ h=>by cases h;rfl) (fun f cdv A L s H E v M o Ψ g h=>?_)
 cases h with
 |@mk y a k ok g8 hk h =>
   refine⟨_,(Q3 (Z2<|Y3 B U.net g (pv 0)<|Qo (YF (v:=.ref _) rfl U.mSTART rfl)<|Qo (QJ F g<|Qo (pv 2) Qs)<|Qo (QJ Xa5 g<|Qo (pv 3) Qs) Qs)
 (Q4<|ZX PassesOwn.never rfl (VW rfl T.range<|Qo (QJ Z g<|Qo (pv 1) Qs) Qs) (QX (i:=4) Tz.nd rfl Qa)<|Q4<|Zq (Vl<|QJ X g<|Qo (pv 3)<|Qo (pv 4) Qs) (Q4<|Z2<|Y3 B U.net g (pv 0)<|Qo (QJ F g<|Qo (pv 2) Qs)<|Qo (QJ Y g<|Qo (QJ Xa4 g<|Qo (pv 3) Qs)<|Qo (pv 4) Qs)<|Qo (QJ S g<|Qo (pv 3) Qs) Qs) Zr)),?_⟩
   show Q1 K _ [some _,some _,some _,some _,none] _
   walk_at"x"
   have t8:=ok.t8;have gl:=Mg ok (Qx a) (n:=k) (by omega);have G:=Ub hk;have ew:(Qx a).wa k=a[k].want:=by show(a.getD k default).want=_;rw[G]
   have z:∀x∈(List.range k).flatMap (Vi y<|Qx a),∃j,j<k/\x∈Vi y (Qx a) j:=fun x e=>Hx.mp e;refine QH (J4 (ΦA:=fun o=>o=[.fz<|QR<|nk .start,.fz<|QR<|nk<|.guest k,.fz<|.int a[k].want]) BF rfl (WO (Qv (HD U.aS)<|Qv (Ze (Qv (Qq rfl) Q6) R_gnode.mk)<|Qv (Ze (Qv (Qq rfl) Q6) R_want.mk) Q6) rfl) fun o p=>?_);subst p;refine⟨_,R_lay.mk h ?n0<|by omega,fun N1 Q=>?_⟩
   case n0 =>
    intro O;obtain⟨x,e,R⟩:=XO.mp O;obtain⟨j,hj,e⟩:=z x e;injection R with m l
    rcases YT.mp e with rfl|⟨t,_,_,rfl⟩
    .injection l with l
     omega
    .cases m
   walk_at"d"
   refine V0 (ds:=ZI 0 y.T) (fun i I=>∃(q:Q7) (J:Option OT),NetR q ((List.range k).flatMap (Vi y<|Qx a)++((.start,.guest k,(Qx a).wa k)::(List.range i).flatMap fun t=>if (Qx a).th k t=true then [(.guest k,.line ((Qx a).ln k) t,(Qx a).mo k)] else [])) YN /\
    I=[some<|.own v<|Zh P w C q,some<|.fz<|QV y,some<|.fz<|.int (k:Int),some<|.fz<|QO a[k],J]) ?ei ⟨N1,none,by rw[ew];exact Q,rfl⟩ ?st ?fin
   case ei=>exact EvI.cast (Yg (Qv (Ze (Qv (Qq rfl) Q6) R_turns.mk) Q6) (by rw[z62];omega)<|by rw[z62];omega) (YX rfl (by omega))
   case fin =>
    rintro _ ⟨q,J,u,rfl⟩
    rw[W0]at u;refine⟨q,?_,rfl⟩;rw[GR];exact u
   case st =>
    rintro t d _ hd ⟨q,J,u,rfl⟩
    obtain⟨ht,rfl⟩:=Y6 hd;rw[Yp];refine⟨_,Zj,?_⟩
    walk_at"d"
    have et:ZH a[k] (t:Int)=(Qx a).th k t:=by show _=ZH (a.getD k default) (t:Int);rw[G]
    refine Zv (b:=(Qx a).th k t) (Za.cast (ZJ<|Ze (Qv (Qq rfl)<|Qv (Qq rfl) Q6) R_there.mk) et) (fun c=>?_) (fun c=>Zz ?_)
    .refine J4 (ΦA:=fun o=>o=[.fz<|QR<|nk<|.guest k,.fz<|QR<|nk<|.line a[k].line t,.fz<|.int a[k].most]) BF rfl (WO (Qv (Ze (Qv (Qq rfl) Q6) R_gnode.mk)<|Qv (Ze (Qv (Ze (Qv (Qq rfl) Q6) R_lineof.mk)<|Qv (Qq rfl) Q6) R_lnode.mk)<|Qv (Ze (Qv (Qq rfl) Q6) R_most.mk) Q6) rfl) (fun o p=>?_)
     subst p;refine⟨_,R_lay.mk u ?n1 ?l1,fun N2 r=>?_⟩
     case n1 =>
      intro O;obtain⟨x,e,R⟩:=XO.mp O;injection R with m l
      rcases Xy.mp e with e|e
      .obtain⟨j,hj,e⟩:=z x e
       rcases YT.mp e with rfl|⟨t',_,_,rfl⟩
       .cases m
       .injection m with m
        omega
      .rcases Xg.mp e with rfl|e
       .cases m
       .obtain⟨t',N,e⟩:=Wa.mp e
        split at e
        .rw[Xh.mp e]at l
         injection l with _ l
         have:=XI.mp N
         omega
        .cases e
     case l1 =>
      rw[Xs];have:(((.start,.guest k,(Qx a).wa k):Nd×Nd×Int)::(List.range t).flatMap fun t=>if (Qx a).th k t=true then [((.guest k,.line ((Qx a).ln k) t,(Qx a).mo k):Nd×Nd×Int)] else []).length<=1+t*1:=by
       rw[XS];have:=GO (f:=fun t=>if (Qx a).th k t=true then [((.guest k,.line ((Qx a).ln k) t,(Qx a).mo k):Nd×Nd×Int)] else []) (c:=1) (fun t=>by split<;>simp) t;omega
      omega
     walk_at"d"
     refine⟨N2,_,?_,rfl⟩;rw[GR,Xd c];have m:(Qx a).ln k=a[k].line:=by show(a.getD k default).line=_;rw[G]
     have l:(Qx a).mo k=a[k].most:=by show(a.getD k default).most=_;rw[G]
     rw[<- m,<- l,Ga]at r;exact r
    .refine⟨q,_,?_,rfl⟩
     rw[GR,Xa<|by rw[c];decide,XG];exact u
inductive R_lturn:Q7->List OT->(Q7->Prop)->Prop
 |mk {N:Q7} {y:Yd} {G:Gv} {t:Nat} (ok:y.Ok) (g8:G.m<=8) (ht:t<y.T) (h:NetR N ((List.range G.m).flatMap (Vi y G)++(List.range t).flatMap (VH y)) YN) :
  R_lturn N [.fz<|QV y,.fz<|.int (t:Int)] (fun N'=>NetR N' ((List.range G.m).flatMap (Vi y G)++(List.range<|t+1).flatMap (VH y)) YN)
def Tt:Qp ["net","yard","turn","line"] ZaL (Q2 Km):=by walk_at"p"
def AY (T:Bl mg) (U:Tx K mg C gS gE) (D:Df K mg "lay_turn" Km ZaL) (r:Zu P w K mg base C "lay" Zac 2 (spN K P w C R_lay)) (z:QG P w K mg base "bound_at" Zaw 1 (QL (K:=K) R_bound)) (o:QG P w K mg base "line_node" ZaE 1 (QL (K:=K) R_lnode))
 (Xa1:QG P w K mg base "line_count" ZaD 1 (QL (K:=K) R_count)) (Z:QG P w K mg base "above_of" ZaK 1 (QL (K:=K) R_above)):QG P w K mg base "lay_turn" ZaL 3 (spN K P w C R_lturn):=by
 refine D.evN Tt (fun M g Ψ h=>by cases h;rfl) (fun f cdv A O s H E v M g Ψ b h=>?_)
 cases h with
 |@mk y G t e g8 ht h =>
   refine⟨_,(Q3 (Z2<|Y3 r U.net b (pv 0)<|Qo (QJ o b<|Qo Qw<|Qo (pv 2) Qs)<|Qo (YF (v:=.ref _) rfl U.mEND rfl)<|Qo (QJ z b<|Qo (pv 1)<|Qo Qw<|Qo (pv 2) Qs) Qs)
 (Q4<|ZX PassesOwn.never rfl (Pz rfl T.range<|Qo Qw<|Qo (QJ Xa1 b<|Qo (pv 1) Qs) Qs) (QX (i:=3) Tt.nd rfl Qa)<|Q4<|Z2<|Y3 r U.net b (pv 0)<|Qo (QJ o b<|Qo (pv 3)<|Qo (pv 2) Qs)<|Qo (QJ o b<|Qo (QJ Z b<|Qo (pv 1)<|Qo (pv 3) Qs)<|Qo (pv 2) Qs)<|Qo (QJ z b<|Qo (pv 1)<|Qo (pv 3)<|Qo (pv 2) Qs) Qs)),?_⟩
   show Q1 K _ [some _,some _,some _,none] _
   walk_at"x"
   have t8:=e.t8;have l1:=e.l1;have l5:=e.l5;have gl:=Mg e G g8;have tl:=HY e (n:=t) (by omega)
   have q:∀x∈(List.range G.m).flatMap (Vi y G)++(List.range t).flatMap (VH y),(∃j,x∈Vi y G j)\/∃F,F<t/\x∈VH y F:=fun x a=>by
    rcases Xy.mp a with a|a
    .obtain⟨j,_,a⟩:=Hx.mp a
     exact .inl ⟨j,a⟩
    .obtain⟨j,hj,a⟩:=Hx.mp a
     exact .inr ⟨j,hj,a⟩
   refine QH (J4 (ΦA:=fun g=>g=[.fz<|QR<|nk<|.line 0 t,.fz<|QR<|nk .fin,.fz<|.int<|Z3 y 0 t]) BF rfl (WO (Qv (Ze (Qv QA<|Qv (Qq rfl) Q6)<|R_lnode.mk (l:=0))<|Qv (Rn U.aE)<|Qv (Ze (Qv (Qq rfl)<|Qv QA<|Qv (Qq rfl) Q6)<|R_bound.mk (k:=0) (t:=(t:Int)) e (by decide) (by omega) (by omega)<|by omega) Q6) ?e0) fun g m=>?_)
   case e0=>rw[Xp];rfl
   subst m;refine⟨_,R_lay.mk h ?n0<|by rw[Xs];omega,fun N1 X=>?_⟩
   case n0 =>
    intro R;obtain⟨x,a,Y⟩:=XO.mp R;injection Y with e1 J
    rcases q x a with ⟨j,a⟩|⟨F,Q,a⟩
    .rcases YT.mp a with rfl|⟨u,_,_,rfl⟩<;>cases e1
    .rcases WT.mp a with rfl|⟨i,_,rfl⟩
     .injection e1 with _ e1
      omega
     .cases J
   walk_at"d"
   refine V0 (ds:=ZI 1 (y.ls.length-1)) (fun i L=>∃(B:Q7) (N:Option OT),NetR B (((List.range G.m).flatMap (Vi y G)++(List.range t).flatMap (VH y))++((.line 0 t,.fin,Z3 y 0 t)::(List.range i).flatMap fun i=>[(.line (i+1) t,.line (Mir.upN y<|i+1) t,Z3 y (i+1) t)])) YN /\
    L=[some<|.own v<|Zh P w C B,some<|.fz<|QV y,some<|.fz<|.int (t:Int),N]) ?ei ⟨N1,none,by simpa using X,rfl⟩ ?st ?fin
   case ei=>exact EvI.cast (Hi (Qv QA<|Qv (Ze (Qv (Qq rfl) Q6) R_count.mk) Q6)<|by rw[z62];omega) (YX rfl (by omega))
   case fin =>
    rintro _ ⟨B,N,I,rfl⟩
    rw[W0]at I;refine⟨B,?_,rfl⟩;rw[GR,<- Ga];exact I
   case st =>
    rintro i d _ hd ⟨B,N,I,rfl⟩
    obtain⟨hi,rfl⟩:=Y6 hd;have ei:(1:Int)+(i:Int)=((i+1:Nat):Int):=by omega
    rw[ei];refine⟨_,Zj,?_⟩
    walk_at"d"
    refine J4 (ΦA:=fun g=>g=[.fz<|QR<|nk<|.line (i+1) t,.fz<|QR<|nk<|.line (Mir.upN y<|i+1) t,.fz<|.int<|Z3 y (i+1) t]) BF rfl (WO (Qv (Ze (Qv (Qq rfl)<|Qv (Qq rfl) Q6)<|R_lnode.mk (l:=i+1))<|Qv (Ze (Qv (Ze (Qv (Qq rfl)<|Qv (Qq rfl) Q6)<|R_above.mk (k:=((i+1:Nat):Int)) e (by omega)<|by omega)<|Qv (Qq rfl) Q6)<|R_lnode.mk (l:=upN y (((i+1:Nat):Int)).toNat))<|Qv (Ze (Qv (Qq rfl)<|Qv (Qq rfl)<|Qv (Qq rfl) Q6)<|R_bound.mk (k:=((i+1:Nat):Int)) (t:=(t:Int)) e (by omega) (by omega) (by omega)<|by omega) Q6) ?e1) (fun g m=>?_)
    case e1=>rw[Xp,Xp];rfl
    subst m;refine⟨_,R_lay.mk I ?n1 ?l1,fun N2 p=>?_⟩
    case n1 =>
     intro R;obtain⟨x,a,Y⟩:=XO.mp R;injection Y with e1 J
     rcases Xy.mp a with a|a
     .rcases q x a with ⟨j,a⟩|⟨F,Q,a⟩
      .rcases YT.mp a with rfl|⟨u,_,_,rfl⟩<;>cases e1
      .rcases WT.mp a with rfl|⟨i',_,rfl⟩
       .cases J
       .injection e1 with _ e1
        omega
     .rcases Xg.mp a with rfl|a
      .cases J
      .obtain⟨i',S,a⟩:=Wa.mp a
       rw[Xh.mp a]at e1;injection e1 with e1 _
       have:=XI.mp S
       omega
    case l1 =>
     rw[Xs,Xs,XS];have:=GO (f:=fun i=>[((.line (i+1) t,.line (Mir.upN y<|i+1) t,Z3 y (i+1) t):Nd×Nd×Int)]) (c:=1) (fun i=>by simp) i;omega
    walk_at"d"
    refine⟨N2,_,?_,rfl⟩;rw[GR];rw[Ga]at p;exact p
def WJ (y:Yd)(G:Gv)(φ:Zg Nd):Prop:=Flow y G φ/\∃a:Got Nd,Nd.start∈QT a/\Ye (Zm y G) φ a/\Nd.fin∉QT a
inductive R_filled (P:Program)(w:World)(C:Addr):List OT->(OT->Prop)->Prop
 |mk {y:Yd} {gs:List Gs} (ok:y.Ok) (hg:∀g∈gs,GOk y g) (g8:gs.length<=8):R_filled P w C [.fz<|QV y,.fz<|.list<|gs.map QO] (fun r=>∃v N φ,r=.own v (Zh P w C N)/\NetR N (Zm y<|Qx gs) φ/\WJ y (Qx gs) φ)
def ND (b:y.Ok)(a:l<y.ls.length)(d:t<y.T):0<=Z3 y l t:=by
 rw[Ml a];have e:=BV b a;have c:ZE y l∈y.ls:=by simp[ZE,a]
 have:(ZE y l).bs.getD t 0=(ZE y l).bs[t]'(by omega):=by simp[List.getD,show t<(ZE y l).bs.length by omega]
 rw[this];exact(b.bb _ c _<|X0 _).1
def CC (b:y.Ok)(f:∀g∈gs,GOk y g):∀x∈Zm y (Qx gs),0<=x.2.2:=fun x a=>by
 have h:=b.l1
 rcases UK.mp a with ⟨k,e,a⟩|⟨t,c,a⟩
 .have d:GOk y (gs.getD k default):=by rw[Ub e];exact f _ (X0 _)
  rcases YT.mp a with rfl|⟨t,_,_,rfl⟩
  .exact d.w0
  .exact d.m0
 .rcases WT.mp a with rfl|⟨i,j,rfl⟩
  .exact ND b (by omega) c
  .exact ND b (by omega) c
def GX:Qp ["yard","guests","net","number","guest","turn"] Zaa (Q2 KL):=by walk_at"p"
def EO (T:Bl mg) (U:Tx K mg C gS gE) (D:Df K mg "filled_net" KL Zaa) (G:MO P w K mg base "Net" C 1) (F:QG P w K mg base "lay_guest" Zad 3 (spN K P w C R_lguest)) (L:QG P w K mg base "turns_of" ZaD 1 (QL (K:=K) R_turns))
 (J:QG P w K mg base "lay_turn" ZaL 3 (spN K P w C R_lturn)) (I:Zu P w K mg base C "fill" Zap 2 (spN K P w C R_fill)):QG P w K mg base "filled_net" Zaa 4 (Zk K<|R_filled P w C):=by
 refine D.evD GX (fun g O h=>by cases h;rfl) (fun _ _ _ _ s H E g O o h=>?_)
 cases h with
 |@mk y c m X B =>
   refine⟨_,(Q3 (QW (i:=2) GX.nd rfl Qa<|FA G o)
 (Q3 (ZX PassesOwn.never rfl (GW rfl T.enumerate<|Qo (pv 1) Qs) (Js (n:=2) rfl (ZQ (QX (i:=3) GX.nd rfl Qa)<|ZQ (QX (i:=4) GX.nd rfl Qa) Wu))<|Q4<|Z2<|QJ F o<|Qo (pv 2)<|Qo (pv 0)<|Qo (pv 3)<|Qo (pv 4) Qs)
 (Q3 (ZX PassesOwn.never rfl (VW rfl T.range<|Qo (QJ L o<|Qo (pv 0) Qs) Qs) (QX (i:=5) GX.nd rfl Qa)<|Q4<|Z2<|QJ J o<|Qo (pv 2)<|Qo (pv 0)<|Qo (pv 5) Qs)
 (Q3 (Z2<|Y3 I U.net o (pv 2)<|Qo (YF (v:=.ref _) rfl U.mSTART rfl)<|Qo (YF (v:=.ref _) rfl U.mEND rfl) Qs)
 (Q4<|QN<|pv 2))))),?_⟩
   show Q1 K _ [some _,some _,none,none,none,none] _
   walk_at"x"
   have Q:=m.t8;refine QH (BG F8 fun v=>?_)
   walk_at"d"
   refine QH (V0 (ds:=JN (c.map QO)) (fun i l=>∃(j:Q7) (u r:Option OT),NetR j ((List.range i).flatMap (Vi y<|Qx c)) YN/\l=[some<|.fz<|QV y,some<|.fz<|.list<|c.map QO,some<|.own v<|Zh P w C j,u,r,none]) (GC<|Qv (Qq rfl) Q6) ⟨_,none,none,TM _,rfl⟩ ?st ?fin)
   case st =>
    rintro i d _ A ⟨j,u,r,k,rfl⟩
    obtain⟨a,N,rfl⟩:=BT A
    have M:i<c.length:=by
     have:=(Xf.mp N).1
     simpa using this
    obtain rfl:a=QO c[i]:=by simpa [M] using N.symm
    refine⟨_,WK (ds:=[.int (i:Int),QO c[i]]) (ZT Zj<|ZT Zj Wt) rfl,?_⟩
    walk_at"d"
    refine ST (ΦA:=fun g=>g=[.fz<|QV y,.fz<|.int (i:Int),.fz<|QO c[i]]) rfl (WO (Qv (Qq rfl)<|Qv (Qq rfl)<|Qv (Qq rfl) Q6) rfl) (fun g e=>?_);subst e;refine⟨_,R_lguest.mk m B M k,fun q f=>?_⟩
    walk_at"d"
    exact⟨q,_,_,f,rfl⟩
   case fin =>
    rintro _ ⟨N1,u,r,p,rfl⟩
    rw[Mn,Xl]at p;refine QH (V0 (ds:=ZI 0 y.T) (fun i l=>∃(j:Q7) (z:Option OT),NetR j ((List.range (Qx c).m).flatMap (Vi y<|Qx c)++(List.range i).flatMap (VH y)) YN/\l=[some<|.fz<|QV y,some<|.fz<|.list<|c.map QO,some<|.own v<|Zh P w C j,u,r,z]) ?ei2 ⟨N1,none,by rw[show(List.range 0).flatMap (VH y)=[] from rfl,XG];exact p,rfl⟩ ?st2 ?fin2)
    case ei2=>exact EvI.cast (Yg (Qv (Ze (Qv (Qq rfl) Q6) R_turns.mk) Q6) (by rw[z62];omega)<|by rw[z62];omega) (YX rfl (by omega))
    case st2 =>
     rintro t d _ A ⟨j,z,k,rfl⟩
     obtain⟨S,rfl⟩:=Y6 A;rw[Yp];refine⟨_,Zj,?_⟩
     walk_at"d"
     refine ST (ΦA:=fun g=>g=[.fz<|QV y,.fz<|.int (t:Int)]) rfl (WO (Qv (Qq rfl)<|Qv (Qq rfl) Q6) rfl) (fun g e=>?_);subst e;refine⟨_,R_lturn.mk m B S k,fun q f=>?_⟩
     walk_at"d"
     exact⟨q,_,f,rfl⟩
    case fin2 =>
     rintro _ ⟨j,z,k,rfl⟩
     rw[W0]at k;have k:NetR j (Zm y<|Qx c) YN:=k
     have R:(Zm y<|Qx c).length<400:=by
      unfold Zm;rw[Xs];have a:=Mg m (Qx c) (n:=(Qx c).m) B;have b:=HY m Q;omega
     refine QH (J4 (ΦA:=fun g=>g=[.fz<|QR<|nk .start,.fz<|QR<|nk .fin]) AZ rfl (WO (Qv (HD U.aS)<|Qv (Rn U.aE) Q6) rfl) fun g e=>?_);subst e;refine⟨_,R_fill.mk k (TL<|CC m X) R,fun q f=>?_⟩;obtain⟨x,es,h1,h2,h3,Z,Y⟩:=f
     walk_at"d"
     exact Hh rfl ⟨v,q,x,rfl,h1,h2,es,h3,Z,Y⟩
noncomputable def Wp (y:Yd)(G:Gv)(φ:Zg Nd):List (Ql):=(List.range G.m).map fun k=>(List.range y.T).map fun t=>QM G φ t k
def Io   (h:k<G.m)(f:t<y.T):G5 (Zm y G) φ (.guest k) (.line (G.ln k) t)=QM G φ t k:=by
 unfold G5 QM;by_cases c:G.th k t=true
 .rw[Xd c,Xd<|XO.mpr ⟨_,BC h f c,rfl⟩]
 .rw[Xa c,Xa fun g=>?_]
  obtain⟨x,a,l⟩:=XO.mp g;injection l with b d
  rcases UK.mp a with ⟨j,_,a⟩|⟨e,_,a⟩
  .rcases YT.mp a with rfl|⟨e,_,m,rfl⟩
   .cases b
   .injection b with b
    injection d with _ d;subst b d;exact c m
  .rcases WT.mp a with rfl|⟨i,_,rfl⟩<;>cases b
inductive R_takes (P:Program)(w:World)(C:Addr):List OT->OT->Prop
 |mk {N:Q7} {y:Yd} {gs:List Gs} {φ:Zg Nd} {k:Nat} (ok:y.Ok) (h:NetR N (Zm y<|Qx gs) φ) (hk:k<gs.length):R_takes P w C [.zow<|ZZ P w C N,.fz<|QV y,.fz<|.int (k:Int),.fz<|QO gs[k]] (.ol<|(List.range y.T).map fun t=>PyData.int<|QM (Qx gs) φ t k)
def OP:Qp Zad Zad (Q2 Mi):=by walk_at"p"
def AK (T:Bl mg) (U:Tx K mg C gS gE) (D:Df K mg "takes_by" Mi Zad) (g:QG P w K mg base "turns_of" ZaD 1 (QL (K:=K) R_turns)) (d:Zu P w K mg base C "flow" Zap 1 (Zk K<|R_flow P w C)) (e:QG P w K mg base "line_node" ZaE 1 (QL (K:=K) R_lnode)) (j:QG P w K mg base "line_of" Zay 1 (QL (K:=K) R_lineof)) (l:QG P w K mg base "guest_node" ZaV 1 (QL (K:=K) R_gnode)) :
 QG P w K mg base "takes_by" Zad 2 (QL (K:=K)<|R_takes P w C):=by
 refine D.ev OP (fun u r h=>by cases h;rfl) (fun _ _ _ _ s H E u r b h=>?_)
 cases h with
 |@mk N y a φ k v h m =>
   refine⟨_,(Q4<|QN<|YB (NX:=Zad) (sc:=Q2 Mi) (N:=["turn","net","number","guest"]) (f:=[none,some 0,some 2,some 3]) rfl (by decide +kernel) rfl rfl (VW rfl T.range<|Qo (QJ g b<|Qo (pv 1) Qs) Qs) (fun _=>(QX (i:=0) (show(["turn","net","number","guest"]:Qh).Nodup by decide +kernel) rfl Qa)) (fun _=>VC) (fun _=>Wv) fun _=>(Y3 d U.net b (pv 1)<|Qo (QJ l b<|Qo (pv 2) Qs)<|Qo (QJ e b<|Qo (QJ j b<|Qo (pv 3) Qs)<|Qo (pv 0) Qs) Qs)),?_⟩;show Q1 K _ [some _,some _,some _,some _] _
   walk_at"x"
   have A:=v.t8;refine Jo (DJ (lo:=0) (n:=y.T) (h:=fun t=>PyData.int<|QM (Qx a) φ t k) ?ei (by omega) ?el) rfl
   case ei=>exact EvI.cast (Yg (Qv (Ze (Qv (Qq rfl) Q6) R_turns.mk) Q6) (by rw[z62];omega)<|by rw[z62];omega) (YX rfl (by omega))
   case el =>
    intro t x c;refine⟨_,Zj,?_⟩
    walk_at"e"
    rw[Yp];have z:(Qx a).ln k=a[k].line:=by show(a.getD k default).line=_;rw[Ub m]
    have o:=Io (y:=y) (G:=Qx a) (φ:=φ) (k:=k) m x;rw[z]at o;exact Qu.cast (EvO.e<|ZA.o<|Ht AG rfl (Qv (Ze (Qv (Qq rfl) Q6) R_gnode.mk)<|Qv (Ze (Qv (Ze (Qv (Qq rfl) Q6) R_lineof.mk)<|Qv (Qq rfl) Q6) R_lnode.mk) Q6)<|R_flow.mk (p:=.guest k) (q:=.line a[k].line t) h) (by rw[o])
inductive R_great:List OT->(OT->Prop)->Prop
 |mk {y:Yd} {gs:List Gs} (ok:y.Ok) (hg:∀g∈gs,GOk y g) (g8:gs.length<=8):R_great [.fz<|QV y,.fz<|.list<|gs.map QO] (fun r=>∃φ,WJ y (Qx gs) φ/\r=.oll ((Wp y (Qx gs) φ).map fun row=>row.map PyData.int))
def T8:Qp ["yard","guests","net"] Zaa (Q2 M6):=by walk_at"p"
def Ei (T:Bl mg) (U:Tx K mg C gS gE) (D:Df K mg "greatest_filling" M6 Zaa) (l:QG P w K mg base "filled_net" Zaa 4 (Zk K<|R_filled P w C)) (m:QG P w K mg base "takes_by" Zad 2 (QL (K:=K)<|R_takes P w C)):QG P w K mg base "greatest_filling" Zaa 5 (Zk K R_great):=by
 refine D.evD T8 (fun B A h=>by cases h;rfl) (fun _ _ _ _ s H E B A q h=>?_)
 cases h with
 |@mk y a o G J =>
   refine⟨_,(Q3 (QW (i:=2) T8.nd rfl (Or.inr rfl)<|QJ l q<|Qo (pv 0)<|Qo (pv 1) Qs)
 (Q4<|QN<|YB (NX:=["yard","guests","net"]) (sc:=Q2 M6) (N:=ZaF) (f:=[none,none,some 2,some 0]) rfl (by decide +kernel) rfl rfl (GW rfl T.enumerate<|Qo (pv 1) Qs) (fun _=>(Js (n:=2) rfl (ZQ (QX (i:=0) (show(ZaF:Qh).Nodup by decide +kernel) rfl Qa)<|ZQ (QX (i:=1) (show(ZaF:Qh).Nodup by decide +kernel) rfl Qa) Wu))) (fun _=>(RC (n:=2)<|BS VC<|BS VC Sg)) (fun _=>Wv) fun _=>(QJ m q<|Qo (pv 2)<|Qo (pv 3)<|Qo (pv 0)<|Qo (pv 1) Qs))),?_⟩
   show Q1 K _ [some _,some _,none] _
   walk_at"x"
   refine QH (WQ (Wx (Qv (Qq rfl)<|Qv (Qq rfl) Q6)<|R_filled.mk o G J) fun r j=>?_);obtain⟨v,N,d,rfl,I,b⟩:=j
   walk_at"d"
   refine AS 2 rfl ?_
   walk_at"d"
   refine Jo (r:=.oll ((Wp y (Qx a) d).map fun e=>e.map PyData.int)) (EvO.cast (L7 (xs:=a.zipIdx) (enc:=fun p=>PyData.tuple [.int (p.2:Int),QO p.1]) (h:=fun p=>(List.range y.T).map fun t=>PyData.int<|QM (Qx a) d t p.2) ?ei (by simp;omega) ?el) ?eq) ⟨d,b,rfl⟩
   case ei =>
    refine EvI.cast (GC<|Qv (Qq rfl) Q6) ?_;unfold JN;rw[List.zipIdx_map,X7];rfl
   case eq =>
    congr 1
    unfold Wp;rw[X7];have:(Qx a).m=a.length:=rfl;rw[this];apply List.ext_getElem?;intro i;by_cases x:i<a.length
    .simp[x,X7,Function.comp_def]
    .simp[x]
   case el =>
    intro p F c;obtain⟨u,z⟩:∃h:p.2<a.length,p.1=a[p.2]:=by
     have:=List.mem_zipIdx F
     simp at this
     exact⟨this.1,this.2⟩
    obtain⟨g,k⟩:=p
    simp only at u z
    subst z;refine⟨_,WK (ds:=[.int (k:Int),QO a[k]]) (ZT Zj<|ZT Zj Wt) rfl,?_⟩
    walk_at"e"
    exact B7 (U3 rfl (Qv (Qq rfl)<|Qv (Qq rfl)<|Qv (Qq rfl) Q6)) (R_takes.mk o I u)
def Zhd:Qp Zaa Zaa (Q2 KG):=by walk_at"p"
def C9 (T:Bl mg) (D:Df K mg "best_filling" KG Zaa) (b:QG P w K mg base "greatest_filling" Zaa 5 (Zk K R_great)):QG P w K mg base "best_filling" Zaa 6 (Zk K R_great):=by
 refine D.evD Zhd (fun d c h=>by cases h;rfl) (fun _ _ _ _ s H E d c e h=>?_);have f:=h
 cases h with
 |@mk y j g i k =>
   refine⟨_,(Q4<|QN<|QJ b e<|Qo (pv 0)<|Qo (pv 1) Qs),?_⟩;show Q1 K _ [some _,some _] _
   walk_at"x"
   exact DW (Wx (Qv (Qq rfl)<|Qv (Qq rfl) Q6) f) (fun r a=>a)
noncomputable def ZB (y:Yd)(G:Gv)(S:Qm):Int:=Qz (QZ S G.wa) G.m-Qz (fun t=>passes y (fun l=>Z3 y l t) (V2 G S t) 0) y.T
noncomputable def Gn (y:Yd)(G:Gv)(φ:Zg Nd):Int:=Qz (fun k=>G.wa k-Qz (fun t=>QM G φ t k) y.T) G.m
def EQ  (F:Flow y G φ)(c:y.Ok)(b:∀k,k<G.m->G.ln k<y.ls.length)(S:Qm):ZB y G S<=Gn y G φ:=by
 have d:∀k,k<G.m->0<=G.wa k-Qz (fun t=>QM G φ t k) y.T:=fun k a=>by
  rw[F.total a];have:=F.want a;omega
 have i:Qz (QZ S fun k=>G.wa k-Qz (fun t=>QM G φ t k) y.T) G.m<=Gn y G φ:=YU fun k a=>Hm (d k a)
 have h:Qz (QZ S fun k=>G.wa k-Qz (fun t=>QM G φ t k) y.T) G.m=Qz (QZ S G.wa) G.m-Qz (QZ S fun k=>Qz (fun t=>QM G φ t k) y.T) G.m:=by
  rw[<- Hr];refine Zi fun k _=>?_;unfold QZ;dsimp only;split<;>omega
 have g:Qz (fun t=>Qz (QZ S<|QM G φ t) G.m) y.T=Qz (QZ S fun k=>Qz (fun t=>QM G φ t k) y.T) G.m:=by
  rw[GU (fun t k=>QZ S (QM G φ t) k) y.T G.m];refine Zi fun k _=>?_;unfold QZ;cases S k with
  |true=>rfl
  |false=>simp only[X6,if_false];exact Vh _
 have f:Qz (fun t=>Qz (QZ S<|QM G φ t) G.m) y.T<=Qz (fun t=>passes y (fun l=>Z3 y l t) (V2 G S t) 0) y.T:=YU fun t e=>F.no_more c b S e;unfold ZB;omega
def G2  (b:∀g∈gs,GOk y g):∀k,k<(Qx gs).m->(Qx gs).ln k<y.ls.length:=fun k a=>by
 show(gs.getD k default).line<_
 rw[Ub a];exact(b _<|X0 _).ln
noncomputable def Yt (gs:List Gs)(S:Qm):Qk:=(List.range gs.length).filter S
def SG (b:gs.length<=8)(S:Qm):SetOk gs (Yt gs S) :=
 ⟨fun k a=>XI.mp (JE.mp a).1,X4 (List.length_filter_le _ _)<|by simpa using b⟩
theorem PP (f:Qn):∀n,((List.range n).map f).sum=Qz f n
 |0=>rfl
 |n+1=>by rw[Y7,XB,Bc,PP f n];simp[Qz]
theorem Tg (f:Qn)(p:Qm):∀n,(((List.range n).filter p).map f).sum=Qz (QZ p f) n
 |0=>rfl
 |n+1=>by
   rw[Y7,Uh,XB,Bc,Tg f p n];show _=Qz (QZ p f) n+QZ p f n;unfold QZ;cases e:p n with
   |true=>simp[J7,e]
   |false=>simp[J7,e]
def Ch (gs:List Gs)(S:Qm)(t l:Nat):V2 (Qx gs) S t l=Wn gs t (Yt gs S) l:=by
 show _=Z6 gs (t:Int) l ((List.range gs.length).filter S);rw[II];unfold V2;refine Zi fun k a=>?_;have a:k<gs.length:=a;unfold QZ moT wgt ind;rw[XL a];have f:(Qx gs).th k t=ZH gs[k] (t:Int):=by show ZH (gs.getD k default) _=_;rw[Ub a]
 have e:(Qx gs).mo k=gs[k].most:=by show(gs.getD k default).most=_;rw[Ub a]
 have b:(Qx gs).ln k=gs[k].line:=by show(gs.getD k default).line=_;rw[Ub a]
 rw[f,e,b];cases S k with
 |false=>simp
 |true =>
   simp only[if_true];by_cases c:gs[k].line=l
   .by_cases d:ZH gs[k] (t:Int)=true
    .simp[c,d]
    .simp[c,d]
   .simp[c]
noncomputable def Ww (gs:List Gs)(a:Qk):Int:=(a.map fun k=>(gs.getD k default).want).sum
def HR (y:Yd)(gs:List Gs)(S:Qm):ZB y (Qx gs) S=Ww gs (Yt gs S)-GS y gs (Yt gs S):=by
 unfold ZB;congr 1
 .exact(Tg _ S gs.length).symm
 .unfold GS
  rw[PP];refine Zi fun t _=>?_;unfold Vf;rw[show V2 (Qx gs) S t=Wn gs t (Yt gs S) from funext fun l=>Ch gs S t l]
def DK (y:Yd)(G:Gv)(φ:Zg Nd)(es:Got Nd):Prop:=Flow y G φ/\Nd.start∈QT es/\Ye (Zm y G) φ es/\Nd.fin∉QT es
inductive R_lset:List OT->(OT->Prop)->Prop
 |mk {y:Yd} {gs:List Gs} (ok:y.Ok) (hg:∀g∈gs,GOk y g) (g8:gs.length<=8):R_lset [.fz<|QV y,.fz<|.list<|gs.map QO] (fun r=>∃φ es,DK y (Qx gs) φ es/\r=.ol (Zl<|Yt gs<|Vr es))
def T6:Qp ["yard","guests","edges"] Zaa (Q2 M4):=by walk_at"p"
def OS (T:Bl mg) (U:Tx K mg C gS gE) (D:Df K mg "guests_reached" M4 Zaa) (t:QG P w K mg base "filled_net" Zaa 4 (Zk K<|R_filled P w C)) (u:Zu P w K mg base C "reached" ZaQ 1 (Zk K<|R_reached P w C)) (x:QG P w K mg base "guest_node" ZaV 1 (QL (K:=K) R_gnode)) :
 QG P w K mg base "guests_reached" Zaa 5 (Zk K R_lset):=by
 refine D.evD T6 (fun I Φ h=>by cases h;rfl) (fun _ _ _ _ s H E I Φ q h=>?_)
 cases h with
 |@mk y d o L B =>
   refine⟨_,(Q3 (QW (i:=2) T6.nd rfl (Or.inr rfl)<|Y3 u U.net q (QJ t q<|Qo (pv 0)<|Qo (pv 1) Qs)<|Qo (YF (v:=.ref _) rfl U.mSTART rfl) Qs)
 (Q4<|QN<|YB (NX:=["yard","guests","edges"]) (sc:=Q2 M4) (N:=["number","edges"]) (f:=[none,some 2]) rfl (by decide +kernel) rfl rfl (VW rfl T.range<|Qo (Zo Vw (by rfl) T.len Vy<|Qo (pv 1) Qs) Qs) (fun _=>(QX (i:=0) (show(["number","edges"]:Qh).Nodup by decide +kernel) rfl Qa)) (fun _=>VC) (fun _=>(Ua<|U7<|DG (Ys q) (QJ x q<|Qo (pv 0) Qs)<|pv 1)) fun _=>(pv 0))),?_⟩
   show Q1 K _ [some _,some _,none] _
   walk_at"x"
   have J:(Zm y<|Qx d).length<400:=by
    unfold Zm;rw[Xs];have a:=Mg o (Qx d) (n:=(Qx d).m) B;have b:=HY o o.t8;omega
   refine QH (WQ (Φ:=fun r=>∃v m g,r=.own v (V6<|kvG g)/\DK y (Qx d) m g) (CN (P:=P) (w:=w) Tr (Wx (Qv (Qq rfl)<|Qv (Qq rfl) Q6)<|R_filled.mk o L B) (fun r l=>?_)<|Qv (HD U.aS) Q6) fun r l=>?_)
   .obtain⟨v,N,m,rfl,M,F,X,R,Q,O⟩:=l
    refine⟨v,N,rfl,_,R_reached.mk (s:=.start) M J,by rintro r ⟨G,g,e,A,Y⟩;exact⟨G,m,g,e,F,A.start,Y,fun z=>O<|A.inClosed Q R _ z⟩⟩
   .obtain⟨v,m,g,rfl,S⟩:=l
    walk_at"d"
    refine SY 2 rfl ?_
    walk_at"d"
    refine Jo (r:=.ol (Zl<|Yt d<|Vr g)) (JY (xs:=List.range d.length) (enc:=fun(j:Nat)=>PyData.int (j:Int)) (h:=fun(j:Nat)=>PyData.int (j:Int)) (p:=Vr g) ?ei (by simp;omega) ?el) ⟨m,g,S,rfl⟩
    case ei =>
     have e:(d.map QO).length=d.length:=by simp
     refine EvI.cast (Yg (Qv (WP<|Qq rfl) Q6) (by rw[z62,e];omega)<|by rw[z62,e];omega) ?_;rw[e,Xp];unfold ZI;refine XX fun i _=>?_;rw[Yp]
    case el =>
     intro k Z c;refine⟨_,Zj,?_,fun _=>?_⟩
     .walk_at"e"
      exact Za.cast (ZJ<|Fm (k:=nk (.guest k)) (Ze (Qv (Qq rfl) Q6) R_gnode.mk) rfl) (G7 _ _)
     .walk_at"e"
      exact Qq rfl
def Zhs:Qp Zaa Zaa (Q2 KW):=by walk_at"p"
def Ck (T:Bl mg) (D:Df K mg "lacking_set" KW Zaa) (b:QG P w K mg base "guests_reached" Zaa 5 (Zk K R_lset)):QG P w K mg base "lacking_set" Zaa 6 (Zk K R_lset):=by
 refine D.evD Zhs (fun d c h=>by cases h;rfl) (fun _ _ _ _ s H E d c e h=>?_);have f:=h
 cases h with
 |@mk y j g i k =>
   refine⟨_,(Q4<|QN<|QJ b e<|Qo (pv 0)<|Qo (pv 1) Qs),?_⟩;show Q1 K _ [some _,some _] _
   walk_at"x"
   exact DW (Wx (Qv (Qq rfl)<|Qv (Qq rfl) Q6) f) (fun r a=>a)
noncomputable def Hb (y:Yd)(gs:List Gs)(a:Qk):Int:=Ww gs a-GS y gs a
inductive R_short:List OT->OT->Prop
 |mk {y:Yd} {gs:List Gs} {sm:Qk} (ok:y.Ok) (hg:∀g∈gs,g.line<y.ls.length) (hs:SetOk gs sm) :
  R_short [.fz<|QV y,.fz<|.list<|gs.map QO,.fz<|.list<|Zl sm] (.fz<|.int<|Hb y gs sm)
def OB:Qp Zae Zae (Q2 Mq):=by walk_at"p"
def AD (T:Bl mg) (D:Df K mg "short_of" Mq Zae) (d:QG P w K mg base "want_of" Zay 1 (QL (K:=K) R_want)) (b:QG P w K mg base "given_most" Zae 4 (QL (K:=K) R_givenm)) :
 QG P w K mg base "short_of" Zae 5 (QL (K:=K) R_short):=by
 refine D.ev OB (fun ts r h=>by cases h;rfl) (fun _ _ _ _ s H E ts r g h=>?_)
 cases h with
 |@mk y l e m o a =>
   refine⟨_,(Q4<|QN<|QU Ym (Zo D3 (by rfl) T.sum Ds<|Qo (YB (NX:=Zae) (sc:=Q2 Mq) (N:=["number","guests"]) (f:=[none,some 1]) rfl (by decide +kernel) rfl rfl (Wz<|pv 2) (fun _=>(QX (i:=0) (show(["number","guests"]:Qh).Nodup by decide +kernel) rfl Qa)) (fun _=>VC) (fun _=>Wv) fun _=>(QJ d g<|Qo (QD QE (pv 1)<|pv 0) Qs)) Qs)<|QJ b g<|Qo (pv 0)<|Qo (pv 1)<|Qo (pv 2) Qs),?_⟩;show Q1 K _ [some _,some _,some _] _
   walk_at"x"
   have p:=a.len;refine ZO (Z8 (Bv (ns:=e.map fun k=>(l.getD k default).want) ?_ rfl)<|Ze (by walk_at"ea")<|R_givenm.mk m o a) rfl
   refine EvO.fz ?_;rw[X7];refine Ux (xs:=e) (enc:=fun(j:Nat)=>PyData.int (j:Int)) ?_ (by omega) ?_
   .walk_at"ei"
   .intro x n c
    have q:=a.mem x n;refine⟨_,by walk_at"g",?_⟩
    walk_at"e"
    refine Ze (ts:=[.fz<|QO<|l.getD x default]) (Qv (Qu.cast (by walk_at"ev")<|by rw[Xp]) Q6) R_want.mk
def Zfa:Qp ZaM ZaM (Q2 UU):=by walk_at"p"
def IT  (T:Bl mg) (F:Fun K "__init__" "NoRoom.__init__" UU f fd) (g:Uo K YR CR f) (xs:TB K CR) (c:W.takerIn K CR "some"=some none) (d:mg "YardError"=some (.ref YR)):FnOk P w K mg base CX0 1 f fd ZaM (G9 K CR "some"):=by
 refine F.ok Zfa ?_ (fun j A a s H b Q E k h=>⟨_,Q3 (Z2<|A0 (i:=0) g rfl d rfl Qa)<|Q4<|FS xs c (pv 0) (WS RS (by rfl) T.list Sv<|Qo (pv 1) Qs) rfl,AQ h⟩);rintro b H Q E ⟨e,p,xs,h,_⟩;rw[h];rfl
inductive R_refuse:List OT->(OT->Prop)->Prop
 |mk {y:Yd} {gs:List Gs} (ok:y.Ok) (hg:∀g∈gs,GOk y g) (g8:gs.length<=8) (h:∀S,ZB y (Qx gs) S<=0):R_refuse [.fz<|QV y,.fz<|.list<|gs.map QO] (fun r=>r=.fz .none)
inductive X_refuse:List OT->(Qd->Prop)->Prop
 |mk {y:Yd} {gs:List Gs} (ok:y.Ok) (hg:∀g∈gs,GOk y g) (g8:gs.length<=8) {S:Qm} (h:0<ZB y (Qx gs) S):X_refuse [.fz<|QV y,.fz<|.list<|gs.map QO] (fun d=>∃S,0<ZB y (Qx gs) S/\d=Zl (Yt gs S))
def KD:Qp Zae Zaa (Q2 KO):=by walk_at"p"
def E5 (T:Bl mg) (M:XC K mg "NoRoom" YR CR fR) (D:Df K mg "refuse_lack" KO Zaa) (B:QG P w K mg base "lacking_set" Zaa 6 (Zk K R_lset)) (z:QG P w K mg base "short_of" Zae 5 (QL (K:=K) R_short)) (x:De P w K mg base fR ZaM 1 (G9 K CR "some")) :
 Gf P w K mg base "refuse_lack" Zaa 7 (spX K CR "some" R_refuse X_refuse):=by
 refine D.evZ KD (fun J I h=>by cases h;rfl) (fun J I h=>by cases h;rfl) (by decide) (fun f L A k s H Q J I o m h=>?_) (fun f L A k s F H Q J I o m N h=>?_)
 .cases h with
  |@mk y p l u v h =>
    refine⟨_,(Q3 (QW (i:=2) KD.nd rfl Qa<|QJ B o<|Qo (pv 0)<|Qo (pv 1) Qs)
 (Q4<|Zq (Z5 VJ (QJ z o<|Qo (pv 0)<|Qo (pv 1)<|Qo (pv 2) Qs) Qw<|Zx _) (Q4<|P8 M x m o<|Qo (pv 2) Qs) Zr)),?_⟩
    show Q1 K _ [some _,some _,none] _
    walk_at"x"
    have t:=u;refine QH (WQ (Wx (Qv (Qq rfl)<|Qv (Qq rfl) Q6)<|R_lset.mk l t v) fun r n=>?_);obtain⟨q,d,j,rfl⟩:=n
    walk_at"d"
    refine JS 2 rfl ?_
    walk_at"d"
    have E:=h (Vr d);rw[HR]at E;exact Zv (b:=false) (Za.cast (Zy<|Vo (Ze (Qv (Qq rfl)<|Qv (Qq rfl)<|Qv (Qq rfl) Q6)<|R_short.mk l (fun g h=>(u g h).ln)<|SG v _) QA)<|XH<|by unfold Hb;omega) (by rintro⟨⟩) (fun _=>Zz rfl)
 .cases h with
  |@mk y p l u v S h =>
    refine⟨_,(Q3 (QW (i:=2) KD.nd rfl Qa<|QJ B o<|Qo (pv 0)<|Qo (pv 1) Qs)
 (Q4<|Zq (Z5 VJ (QJ z o<|Qo (pv 0)<|Qo (pv 1)<|Qo (pv 2) Qs) Qw<|Zx _) (Q4<|P8 M x m o<|Qo (pv 2) Qs) Zr)),?_⟩
    show EvZ K F H _ [some _,some _,none]
    walk_at"x"
    have t:=u;refine Fe (fun G=>∃q d,DK y (Qx p) q d/\G=[some<|.fz<|QV y,some<|.fz<|.list<|p.map QO,some<|.ol<|Zl<|Yt p<|Vr d]) (WQ (Wx (Qv (Qq rfl)<|Qv (Qq rfl) Q6)<|R_lset.mk l t v) fun r n=>?_) ?_
    .obtain⟨q,d,j,rfl⟩:=n
     exact⟨q,d,j,rfl⟩
    .rintro _ ⟨q,d,j,rfl⟩
     refine LD 2 rfl ?_
     walk_at"d"
     have E:0<ZB y (Qx p) (Vr d):=by
      have a:=EQ j.1 l (G2 t) S;have e:=j.1.lack l (G2 t) j.2.2.1 j.2.1 j.2.2.2;have e:Gn y (Qx p) q=ZB y (Qx p) (Vr d):=e;omega
     have O:=E;rw[HR]at O;exact NK (b:=true) (Za.cast (Zy<|Vo (Ze (Qv (Qq rfl)<|Qv (Qq rfl)<|Qv (Qq rfl) Q6)<|R_short.mk l (fun g h=>(u g h).ln)<|SG v _) QA)<|XJ<|by unfold Hb;omega) (fun _=>AE (Qq rfl) ⟨Vr d,E,rfl⟩ N) (by rintro⟨⟩)
inductive R_feed:List OT->(OT->Prop)->Prop
 |mk {n:Int}:R_feed [.fz<|.int n] (fun r=>∃a b:Int,r=.ol [.int a,.int b])
def J5:Qp ["_law_cell","_law_big","_law_one","_law_other","_law_k"] ["_law_cell"] (Q2 K5):=by walk_at"p"
def CJ (T:Bl mg) (D:Df K mg "_law_feed" K5 ["_law_cell"]):QG P w K mg base "_law_feed" ["_law_cell"] 1 (Zk K R_feed):=by
 refine D.evD J5 (fun o r h=>by cases h;rfl) (fun _ _ _ _ s H E o r M h=>?_)
 cases h with
 |@mk n =>
   refine⟨_,(Q3 (QW (i:=1) J5.nd rfl Qa Qw)
 (Q3 (QW (i:=2) J5.nd rfl Qa<|QU Vx (QU Jq (QU BM (pv 0) Qw) Qw) Qw)
 (Q3 (QW (i:=3) J5.nd rfl Qa<|QU Vx (QU Jq (QU BM (pv 0) Qw) Qw) Qw)
 (Q3 (ZX PassesOwn.never rfl (VW rfl T.range<|Qo Qw Qs) (QX (i:=4) J5.nd rfl Qa) (Q3 (QW (i:=2) J5.nd rfl Qa<|QU Jq (QU Vx (QU Vx (QU U2 (pv 2)<|pv 2)<|QU U2 Qw<|pv 3)<|pv 4) Qw)
 (Q3 (QW (i:=3) J5.nd rfl Qa<|QU Jq (QU Vx (QU Vx (QU U2 (pv 3)<|pv 3)<|QU U2 Qw<|pv 2) Qw) Qw)
 (Q4<|QW (i:=1) J5.nd rfl Qa<|QU Vx (QU U2 (pv 1) Qw)<|pv 3))))
 (Q3 (Zq (Z5 Br (QU Jq (pv 0) Qw) Qw<|Zx _) (Q4<|QN<|ZC<|Qo (QU BM (pv 0) Qw)<|Qo (pv 1) Qs) Zr)
 (Q4<|QN<|ZC<|Qo (pv 1)<|Qo Qw Qs)))))),?_⟩
   show Q1 K _ [some _,none,none,none,none] _
   walk_at"x"
   refine QH (ZU QA ?_)
   walk_at"d"
   have k:∀{i:Int},Uv i 2:=MQ (by decide) (by decide);have J:∀{i:Int},Uv i 3:=MQ (by decide) (by decide);refine QH (ZU (Z8 (Vd (Vd (Qq rfl) QA k) QA<|by decide) QA) ?_)
   walk_at"d"
   refine QH (ZU (Z8 (Vd (Vd (Qq rfl) QA J) QA<|by decide) QA) ?_)
   walk_at"d"
   have m:0<=n/2%2147483647+11/\n/2%2147483647+11<4294967296:=by omega
   have l:0<=n/3%2147483629+7/\n/3%2147483629+7<4294967296:=by omega
   generalize n/2%2147483647+11=x at m;generalize n/3%2147483629+7=y at l;refine QH (V0 (ds:=ZI 0 40) (fun _ f=>∃(a b c:Int) (u:Option OT),(0<=a/\a<4294967296)/\(0<=b/\b<4294967296)/\f=[some<|.fz<|.int n,some<|.fz<|.int c,some<|.fz<|.int a,some<|.fz<|.int b,u]) ?ei ⟨x,y,0,none,m,l,rfl⟩ ?st ?fin)
   case ei=>exact EvI.cast (Yg (Qv QA Q6) (by rw[z62];decide)<|by rw[z62];decide) (YX rfl (by decide))
   case st =>
    rintro i d _ F ⟨a,b,c,u,I,G,rfl⟩
    obtain⟨N,rfl⟩:=Y6 F;refine⟨_,Zj,?_⟩
    walk_at"d"
    have p:(2:Int)^64=18446744073709551616:=by decide
    have B:Jc a a:=.inl ⟨by omega,by omega⟩;have A:∀{z:Int},Jc 48271 z:=.inl ⟨by decide,by decide⟩;have v:∀{z:Int},Jc 69621 z:=.inl ⟨by decide,by decide⟩;have t:∀{z:Int},Jc z 2147483629:=.inr ⟨by decide,by decide⟩;have q:Jc b b:=.inl ⟨by omega,by omega⟩;refine QH (ZU (Vd (Z8 (Z8 (Vd (Qq rfl) (Qq rfl) B)<|Vd QA (Qq rfl) A)<|Qq rfl) QA<|by decide) ?_)
    walk_at"d"
    have j:0<=(a*a+48271*b+(0+(i:Int)))%2147483647/\(a*a+48271*b+(0+(i:Int)))%2147483647<4294967296:=⟨Int.emod_nonneg _<|by decide,Int.lt_trans (Int.emod_lt_of_pos _<|by decide)<|by decide⟩;generalize (a*a+48271*b+(0+(i:Int)))%2147483647=e at j;refine QH (ZU (Vd (Z8 (Z8 (Vd (Qq rfl) (Qq rfl) q)<|Vd QA (Qq rfl) v) QA) QA<|by decide) ?_)
    walk_at"d"
    have g:0<=(b*b+69621*e+1)%2147483629/\(b*b+69621*e+1)%2147483629<4294967296:=⟨Int.emod_nonneg _<|by decide,Int.lt_trans (Int.emod_lt_of_pos _<|by decide)<|by decide⟩;generalize (b*b+69621*e+1)%2147483629=L at g;refine ZU (Z8 (Vd (Qq rfl) QA t)<|Qq rfl) ?_
    exact⟨e,L,_,_,j,g,rfl⟩
   case fin =>
    rintro _ ⟨a,b,c,u,I,G,rfl⟩
    refine QH (Zv (b:=decide (n%2=0)) (Za.cast (Zy<|Gq (Vd (Qq rfl) QA<|by decide) QA) rfl) (fun _=>?_) fun _=>Zz ?_)
    .exact Jo (V9 (ds:=[.int<|n/2,.int c]) (Zn (Vd (Qq rfl) QA k)<|Zn (Qq rfl) ZG) Je) ⟨_,_,rfl⟩
    .exact Jo (V9 (ds:=[.int c,.int 0]) (Zn (Qq rfl)<|Zn QA ZG) Je) ⟨_,_,rfl⟩
inductive R_digit:Qd->List OT->(OT->Qd->Prop)->Prop
 |mk {a b m:Int} (h0:0<m) (h1:m<=10^60):R_digit [.int a,.int b] [.fz<|.int m] (fun r ds'=>∃n a' b':Int,0<=n/\n<m/\r=.fz (.int n)/\ds'=[.int a',.int b'])
def T5:Qp ["_law_feed_here","_law_many","_law_digit_here"] Zav (Q2 KI):=by walk_at"p"
def A1 (T:Bl mg) (D:Df K mg "_law_digit" KI Zav):QG P w K mg base "_law_digit" Zav 1 (spP K olP R_digit):=by
 refine D.evP T5 (fun M p o h=>by cases h;rfl) (fun f r A l s H E v M p o t h=>?_)
 cases h with
 |@mk a b m k q =>
   refine⟨_,(Q3 (Zq (Z5 Br (QD QE (pv 0) Qw) Qw<|Zx _) (Q3 (Y1 (QD QE (pv 0) Qw)<|WN (pv 0) Qw Yn)
 (Q4<|Y1 Qw<|WN (pv 0) Qw Yn)) Zr)
 (Q3 (QW (i:=2) T5.nd rfl Qa<|QU Jq (QD QE (pv 0) Qw)<|pv 1)
 (Q3 (Y1 (QU BM (QD QE (pv 0) Qw)<|pv 1)<|WN (pv 0) Qw Yn)
 (Q4<|QN<|pv 2)))),?_⟩
   show EvR K _ [some<|.own v<|olP [.int a,.int b],some<|.fz<|.int m,none] _
   walk_at"x"
   have g:∀{d:QF} {x y:Int},d[0]?=some (some<|.own v<|olP [.int x,.int y])->Qu K (tOp (rIx K) (Q8 0)<|tC<|.int 0) d (.int x)/\Qu K (tOp (rIx K) (Q8 0)<|tC<|.int 1) d (.int y):=fun{d x y} e=>by
    have n:=(Xf.mp e).1
    exact⟨S8 0 e rfl (Ve (ds:=[.int x,.int y]) (Qq<|Xj n) QA rfl),S8 0 e rfl (Ve (ds:=[.int x,.int y]) (Qq<|Xj n) QA rfl)⟩
   refine ZV (fun c=>∃x y:Int,c=[some<|.own v<|olP [.int x,.int y],some<|.fz<|.int m,none]) (Zv (b:=decide (a=0)) (Za.cast (Zy<|Gq (g rfl).1 QA) rfl) (fun _=>?_) fun _=>Zz ⟨a,b,rfl⟩) ?_
   .refine QH (Kc (j:=0) rfl (g rfl).2 QA rfl ?_)
    walk_at"d"
    refine Kc (j:=1) rfl QA QA rfl ?_
    exact⟨b,0,rfl⟩
   .rintro _ ⟨x,y,rfl⟩
    refine ZV (fun c=>c=[some<|.own v<|olP [.int x,.int y],some<|.fz<|.int m,some<|.fz<|.int<|x%m]) (ZU (Vd (g rfl).1 (Qq rfl) k) rfl) ?_
    rintro _ rfl
    refine ZV (fun c=>c=[some<|.own v<|olP [.int<|x/m,.int y],some<|.fz<|.int m,some<|.fz<|.int<|x%m]) (Kc (j:=0) rfl (Vd (g rfl).1 (Qq rfl) (cdl k q)) QA rfl rfl) ?_
    rintro _ rfl
    exact Bx (Qq rfl) ⟨_,⟨x%m,x/m,y,Int.emod_nonneg _<|Int.ne_of_gt k,Int.emod_lt_of_pos _ k,rfl,rfl⟩,rfl⟩
def Dg (K:W.Frag)(t:TE)(ρ:QF)(v:V)(m:Int):Prop:=EvW K t ρ 0 fun n o=>0<=n/\n<m/\∃a b:Int,o=.own v (olP [.int a,.int b])
def YE   (e:ρ[0]?=some (some<|.own v<|olP [.int a,.int b]))(h:Qu K t ρ (.int m))(h0:0<m)(f:m<=10^60):Dg K (Yk (spP K olP R_digit) [] E<|QI (Q8 0)<|QI t QQ) ρ v m :=
 Cg (Φ:=olP) e (Qv h Q6) (R_digit.mk h0 f) (by
  rintro r j ⟨n,i,g,d,c,rfl,rfl⟩
  exact⟨n,rfl,d,c,i,g,rfl⟩)
def MS (k T:Nat)(l:Ln):Prop:=(l.up=none↔k=0)/\(∀a,l.up=some a->a<k)/\l.bs.length=T/\∀b∈l.bs,0<=b/\b<10^30
theorem TU {ls:List Ln}(t1:1<=T)(t8:T<=8)(l1:1<=ls.length)(l5:ls.length<=5)(h:∀k (c:k<ls.length),MS k T ls[k]):(⟨T,ls⟩:Yd).Ok where
 t1:=t1
 t8:=t8
 l1:=l1
 l5:=l5
 up0:=by
  have g:=(h 0<|by omega).1.mpr rfl
  simp[Zd,show 0<ls.length by omega,g]
 ups:=fun k m c=>by
  have c:k<ls.length:=c;obtain⟨j,i,_⟩:=h k c
  cases e:ls[k].up with
  |none=>have:=j.mp e;omega
  |some a=>exact⟨a,by simp[Zd,c,e],i a e⟩
 bl:=fun l d=>by
  obtain⟨k,c,rfl⟩:=Gb.mp d
  exact(h k c).2.2.1
 bb:=fun l d b f=>by
  obtain⟨k,c,rfl⟩:=Gb.mp d
  have:=(h k c).2.2.2 b f
  exact⟨this.1,He this.2⟩
def TY (y:Yd):Prop := ∀l∈y.ls,∀b∈l.bs,0<=b/\b<10^30
inductive R_dyard:Qd->List OT->(OT->Qd->Prop)->Prop
 |mk {a b:Int}:R_dyard [.int a,.int b] [] (fun r ds'=>∃y:Yd,y.Ok/\TY y/\r=.fz (QV y))
def TN {b:Int}{c:Bool}(h0:0<=b)(a:b<10^30):0<=b*(if c then 1 else 0)/\b*(if c then 1 else 0)<10^30:=by
 have e:(0:Int)<10^30:=by decide +kernel
 cases c
 .simp
 .simpa using ⟨h0,a⟩
def p60 {m:Int}(h:m<=10^30):m<=10^60:=Int.le_trans h (by decide +kernel)
def W5:Qp ["_law_feed_here","_law_turns","_law_scale","_law_lines","_law_k","_law_above","_law_bounds","_law_turn","_law_bound"] ZaU (Q2 K2):=by walk_at"p"
def CP (T:Bl mg) (D:Df K mg "_law_yard" K2 ZaU) (r:QG P w K mg base "_law_digit" Zav 1 (spP K olP R_digit)):QG P w K mg base "_law_yard" ZaU 2 (spP K olP R_dyard):=by
 refine D.evP W5 (fun M ts Ψ h=>by cases h;rfl) (fun f cdv A Q s H E v M ts Ψ J h=>?_)
 cases h with
 |@mk a b =>
   refine⟨_,(Q3 (QW (i:=1) W5.nd rfl Qa<|QU Vx Qw<|QJ r J<|Qo (pv 0)<|Qo Qw Qs)
 (Q3 (QW (i:=2) W5.nd rfl Qa<|QD QE (ZC<|Qo Qw<|Qo Qw<|Qo Qw<|Qo (QU DI Qw Qw) Qs)<|QJ r J<|Qo (pv 0)<|Qo Qw Qs)
 (Q3 (QW (i:=3) W5.nd rfl Qa<|ZC Qs)
 (Q3 (ZX PassesOwn.never rfl (VW rfl T.range<|Qo (QU Vx Qw<|QJ r J<|Qo (pv 0)<|Qo Qw Qs) Qs) (QX (i:=4) W5.nd rfl Qa) (Q3 (QW (i:=5) W5.nd rfl Qa B1)
 (Q3 (Zq (Z5 VJ (pv 4) Qw<|Zx _) (Q4<|QW (i:=5) W5.nd rfl Qa<|QJ r J<|Qo (pv 0)<|Qo (pv 4) Qs) Zr)
 (Q3 (QW (i:=6) W5.nd rfl Qa<|ZC Qs)
 (Q3 (ZX PassesOwn.never rfl (VW rfl T.range<|Qo (pv 1) Qs) (QX (i:=7) W5.nd rfl Qa) (Q3 (QW (i:=8) W5.nd rfl Qa<|QJ r J<|Qo (pv 0)<|Qo (pv 2) Qs)
 (Q4<|Z2<|VL PySem.F.plainAttrs_list PySem.F.slot_list_append PySem.F.type_list_append VP (pv 6)<|Qo (QU U2 (pv 8)<|WS LU (by rfl) T.int B5<|Qo (DP VJ (QJ r J<|Qo (pv 0)<|Qo Qw Qs) Qw<|Zx _) Qs) Qs)))
 (Q4<|Z2<|VL PySem.F.plainAttrs_list PySem.F.slot_list_append PySem.F.type_list_append VP (pv 3)<|Qo (Wl<|Qo (pv 5)<|Qo (WS Pg (by rfl) T.tuple Hu<|Qo (pv 6) Qs) Qs) Qs))))))
 (Q4<|QN<|Wl<|Qo (pv 1)<|Qo (WS Pg (by rfl) T.tuple Hu<|Qo (pv 3) Qs) Qs))))),?_⟩
   show EvR K _ [some<|.own v<|olP [.int a,.int b],none,none,none,none,none,none,none,none] _
   walk_at"x"
   have L:(0:Int)<10^(30:Int).toNat/\(10:Int)^(30:Int).toNat<=10^30:=by decide +kernel
   have q31:(16:Int)<=10^30:=by decide +kernel
   refine ZV (fun g=>∃(T:Nat) (a b:Int),1<=T/\T<=8/\g=[some<|.own v<|olP [.int a,.int b],some<|.fz<|.int (T:Int),none,none,none,none,none,none,none]) (Pk (YE rfl QA (by decide)<|by decide +kernel) ?_) ?_
   .rintro n _ ⟨n0,n1,a,b,rfl⟩
    refine ZU (Z8 QA QA) ⟨(1+n).toNat,a,b,by omega,by omega,?_⟩;rw[WD<|by omega];rfl
   rintro _ ⟨T,a,b,t1,t8,rfl⟩
   refine ZV (fun g=>∃u a b:Int,0<u/\u<=10^30/\g=[some<|.own v<|olP [.int a,.int b],some<|.fz<|.int (T:Int),some<|.fz<|.int u,none,none,none,none,none,none]) (Pu (ds:=[.int 5,.int 9,.int 16,.int<|10^(30:Int).toNat]) (EvO.fz<|V9 (Zn QA<|Zn QA<|Zn QA<|Zn (Vd QA QA<|Bn (by decide)<|by decide) ZG)<|by show(4:Nat)<=1000;decide) (YE rfl QA (by decide)<|by decide +kernel) ?_) ?_
   .rintro n _ ⟨n0,n1,a,b,rfl⟩
    obtain rfl|rfl|rfl|rfl:n=0\/n=1\/n=2\/n=3:=by omega
    .exact⟨_,rfl,5,a,b,by decide,by omega,rfl⟩
    .exact⟨_,rfl,9,a,b,by decide,by omega,rfl⟩
    .exact⟨_,rfl,16,a,b,by decide,by omega,rfl⟩
    .exact⟨_,rfl,_,a,b,L.1,L.2,rfl⟩
   rintro _ ⟨u,a,b,s0,Z,rfl⟩
   refine ZV (fun g=>g=[some<|.own v<|olP [.int a,.int b],some<|.fz<|.int (T:Int),some<|.fz<|.int u,some<|.ol [],none,none,none,none,none]) (VM (V9 (ds:=[]) ZG<|by decide) rfl) ?_
   rintro _ rfl
   refine ZV (fun g=>∃(o:List Ln) (a b:Int) (G F B q p:Option OT),(1<=o.length/\o.length<=5)/\(∀k (I:k<o.length),MS k T o[k])/\g=[some<|.own v<|olP [.int a,.int b],some<|.fz<|.int (T:Int),some<|.fz<|.int u,some<|.ol<|o.map ZY,G,F,B,q,p]) (F7 (YE rfl QA (by decide)<|by decide +kernel) ?_) ?_
   .rintro n _ ⟨n0,n1,a,b,rfl⟩
    walk_at"d"
    refine V0 (ds:=ZI 0 (1+n).toNat) (fun i g=>∃(o:List Ln) (a b:Int) (G F B q p:Option OT),o.length=i/\(∀k (I:k<o.length),MS k T o[k])/\g=[some<|.own v<|olP [.int a,.int b],some<|.fz<|.int (T:Int),some<|.fz<|.int u,some<|.ol<|o.map ZY,G,F,B,q,p]) ?ei ⟨[],a,b,_,_,_,_,_,rfl,(fun k I=>Xm I<|Nat.not_lt_zero k),rfl⟩ ?st ?fin
    case ei=>exact Yg (Qv (Z8 QA QA) Q6) (by rw[z62];omega) (by rw[z62];omega)
    case fin =>
     rintro _ ⟨o,a,b,G,F,B,q,p,e,h,rfl⟩
     rw[W0]at e;exact⟨o,a,b,G,F,B,q,p,by omega,h,rfl⟩
    case st =>
     rintro i d _ S ⟨o,a,b,G,F,B,q,p,e,h,rfl⟩
     obtain⟨hi,rfl⟩:=Y6 S;have hi:i<(1+n).toNat:=hi;refine⟨_,Zj,?_⟩
     walk_at"d"
     rw[Yp];refine QH (ZU Gw ?_)
     walk_at"d"
     refine QH (LC (fun g=>∃(y:Option Nat) (a b:Int),(y=none↔i=0)/\(∀x,y=some x->x<i)/\g=[some<|.own v<|olP [.int a,.int b],some<|.fz<|.int (T:Int),some<|.fz<|.int u,some<|.ol<|o.map ZY,some<|.fz<|.int (i:Int),some<|.fz<|upD y,B,q,p]) (Zv (b:=decide ((i:Int) > 0)) (Za.cast (Zy<|Vo (Qq rfl) QA) rfl) (fun c=>?_) fun c=>Zz ⟨none,a,b,⟨fun _=>by have:=Ug c;omega,fun _=>rfl⟩,(by rintro x ⟨⟩),rfl⟩) ?_)
     .have c:=XW c
      refine BO (YE rfl (Qq rfl) (by omega)<|Int.le_trans (show(i:Int)<=5 by omega)<|by decide +kernel) ?_
      rintro m _ ⟨R,m1,a,b,rfl⟩
      refine⟨some m.toNat,a,b,⟨fun z=>(nomatch z),fun z=>Xm z<|by omega⟩,(fun x z=>by injection z with z;omega),?_⟩;show _=([_,_,_,_,_,some<|OT.fz<|.int ((m.toNat:Nat):Int),_,_,_]:QF);rw[WD R];rfl
     rintro _ ⟨y,a,b,Y,X,rfl⟩
     refine QH (VM (V9 (ds:=[]) ZG<|by decide) ?_)
     walk_at"d"
     refine QH (V0 (ds:=ZI 0 T) (fun j g=>∃(t:Ql) (a b:Int) (q p:Option OT),t.length=j/\(∀x∈t,0<=x/\x<10^30)/\g=[some<|.own v<|olP [.int a,.int b],some<|.fz<|.int (T:Int),some<|.fz<|.int u,some<|.ol<|o.map ZY,some<|.fz<|.int (i:Int),some<|.fz<|upD y,some<|.ol<|t.map PyData.int,q,p]) ?ei2 ⟨[],a,b,_,_,rfl,(by rintro x ⟨⟩),rfl⟩ ?st2 ?fin2)
     case ei2=>exact EvI.cast (Yg (Qv (Qq rfl) Q6) (by rw[z62];omega)<|by rw[z62];omega) (YX rfl (by omega))
     case st2 =>
      rintro j d _ S ⟨t,a,b,q,p,O,U,rfl⟩
      obtain⟨hj,rfl⟩:=Y6 S;refine⟨_,Zj,?_⟩
      walk_at"d"
      refine QH (BO (YE rfl (Qq rfl) s0<|p60 Z) ?_)
      rintro m _ ⟨R,m1,a,b,rfl⟩
      walk_at"d"
      refine Cj rfl rfl (YE rfl QA (by decide)<|by decide +kernel) ?_
      rintro z _ ⟨z0,z1,a,b,rfl⟩
      walk_at"d"
      have mm:=TN (c:=decide (z > 0)) R (Int.lt_of_lt_of_le m1 Z);refine UR rfl (Vd (Qq rfl) (Rg<|Vo QA QA)<|.inr ⟨by split<;>decide,by split<;>decide⟩) (by rw[Xl];omega) ⟨t++[m*(if decide (z > 0) then 1 else 0)],a,b,some<|.fz<|.int<|0+(j:Int),some<|.fz<|.int m,by rw[Xs,O];rfl,fun x N=>?_,?_⟩
      .rcases Xy.mp N with N|N
       .exact U x N
       .rw[Xh.mp N];exact mm
      .rw[XB]
       rfl
     case fin2 =>
      rintro _ ⟨t,a,b,q,p,O,U,rfl⟩
      rw[W0]at O;refine UR rfl (Wr (ds:=[upD y,.tuple<|t.map PyData.int]) (Zn (Qq rfl)<|Zn (Dx rfl) ZG) Je) (by rw[Xl];omega) ⟨o++[⟨y,t⟩],a,b,some<|.fz<|.int (i:Int),some<|.fz<|upD y,some<|.ol<|t.map PyData.int,q,p,by rw[Xs,e];rfl,fun k I=>?_,?_⟩
      .by_cases z:k<o.length
       .rw[List.getElem_append_left z];exact h k z
       .have:k=o.length:=by rw[Xs]at I;have:[(⟨y,t⟩:Ln)].length=1:=rfl;omega
        subst this;rw[List.getElem_append_right<|Xv _];simp only[Nat.sub_self,List.getElem_cons_zero];rw[e];exact⟨Y,X,O,U⟩
      .rw[XB]
       rfl
   rintro _ ⟨o,a,b,G,F,B,q,p,⟨l1,l5⟩,h,rfl⟩
   refine Bx (Wr (ds:=[.int (T:Int),.tuple<|o.map ZY]) (Zn (Qq rfl)<|Zn (Dx rfl) ZG) Je) ⟨_,⟨⟨T,o⟩,TU t1 t8 l1 l5 h,fun l hl=>?_,rfl⟩,rfl⟩;obtain⟨k,I,rfl⟩:=Gb.mp hl
   exact(h k I).2.2.2
theorem Dt:∀{bs:Ql},bs≠[]->∃M∈bs,∀a∈bs,a<=M
 |[],h=>Xm rfl h
 |[x],_=>⟨x,Xb,fun a b=>by rw[Xh.mp b];exact Wb _⟩
 |x::y::bs,_=>by
   obtain⟨M,d,c⟩:=Dt (bs:=y::bs) (List.cons_ne_nil _ _)
   by_cases h:x<=M
   .refine⟨M,Xe _ d,fun a b=>?_⟩
    rcases Xg.mp b with rfl|b
    .exact h
    .exact c a b
   .refine⟨x,Xb,fun a b=>?_⟩
    rcases Xg.mp b with rfl|b
    .exact Wb _
    .have:=c a b
     omega
noncomputable def mxB (bs:Ql):Int:=open Classical in if h:bs≠[] then Classical.choose (Dt h) else 0
def Rv (h:bs≠[]):mxB bs∈bs/\∀a∈bs,a<=mxB bs:=by
 unfold mxB;rw[dif_pos h];exact Classical.choose_spec (Dt h)
structure G30 (y:Yd)(g:Gs):Prop where
 ok:g.Ok y
 w:g.want<10^30
 m:g.most<10^30
inductive R_dguest:Qd->List OT->(OT->Qd->Prop)->Prop
 |mk {a b:Int} {y:Yd} (ok:y.Ok):R_dguest [.int a,.int b] [.fz<|QV y,.fz<|.int 0] (fun r ds'=>∃g:Gs,G30 y g/\r=.fz (QO g))
def MJ {n:Nat}(h:n<=8):(n:Int)<=10^60:=Int.le_trans (show(n:Int)<=8 by omega) (by decide +kernel)
def J6:Qp Zaj Zao (Q2 Mu):=by walk_at"p"
def ES (T:Bl mg) (D:Df K mg "_law_guest" Mu Zao) (g:QG P w K mg base "_law_digit" Zav 1 (spP K olP R_digit)):QG P w K mg base "_law_guest" Zao 2 (spP K olP R_dguest):=by
 refine D.evP J6 (fun M ts Ψ h=>by cases h;rfl) (fun f cdv A J s H E v M ts Ψ o h=>?_)
 cases h with
 |@mk a b y u =>
   refine⟨_,(Q3 (QW (i:=3) J6.nd rfl Qa<|QJ g o<|Qo (pv 0)<|Qo (QD QE (pv 1) Qw) Qs)
 (Q3 (Zq (PW.pt<|U4 (Ma Wj Wj (pv 3) (pv 2)<|QD QE (pv 1) Qw)<|UB<|Z5 VJ (QJ g o<|Qo (pv 0)<|Qo Qw Qs) Qw<|Zx _) (Q4<|QW (i:=3) J6.nd rfl Qa<|QU Vx (pv 2)<|QJ g o<|Qo (pv 0)<|Qo (QU Ym (QD QE (pv 1) Qw)<|pv 2) Qs) Zr)
 (Q3 (QW (i:=4) J6.nd rfl Qa<|QU Vx (pv 3)<|QJ g o<|Qo (pv 0)<|Qo (QU Ym (QD QE (pv 1) Qw)<|pv 3) Qs)
 (Q3 (QW (i:=5) J6.nd rfl Qa<|QJ g o<|Qo (pv 0)<|Qo (Zo Vw (by rfl) T.len Vy<|Qo (QD QE (pv 1) Qw) Qs) Qs)
 (Q3 (QW (i:=6) J6.nd rfl Qa<|QD QE (ZC<|Qo Qw<|Qo Qw<|Qo Qw<|Qo (QU Ym (QU DI Qw Qw) Qw) Qs)<|QJ g o<|Qo (pv 0)<|Qo Qw Qs)
 (Q3 (Zq (Z5 Wj (Zo Cs (by rfl) T.max D5<|Qo (YB (NX:=Zaj) (sc:=Q2 Mu) (N:=ZaI) (f:=[none,none]) rfl (by decide +kernel) rfl rfl (Fu<|QD QE (pv 1) Qw) (fun _=>(Js (n:=2) rfl (ZQ (QX (i:=0) (show(ZaI:Qh).Nodup by decide +kernel) rfl Qa)<|ZQ (QX (i:=1) (show(ZaI:Qh).Nodup by decide +kernel) rfl Qa) Wu))) (fun _=>(RC (n:=2)<|BS VC<|BS VC Sg)) (fun _=>Wv) fun _=>(Zo FU (by rfl) T.max D5<|Qo (pv 1) Qs)) Qs) Qw<|Zx _) (Q4<|QW (i:=6) J6.nd rfl Qa<|Zo (B2 rfl) (by rfl) T.min G1<|Qo (pv 6)<|Qo Qw Qs) Zr)
 (Q3 (QW (i:=7) J6.nd rfl Qa<|QU Vx Qw<|QJ g o<|Qo (pv 0)<|Qo (pv 6) Qs)
 (Q4<|QN<|Wl<|Qo (pv 5)<|Qo (pv 3)<|Qo (pv 4)<|Qo (pv 7)<|Qo (QU Vx Qw<|QJ g o<|Qo (pv 0)<|Qo (pv 6) Qs) Qs)))))))),?_⟩
   show EvR K _ [some<|.own v<|olP [.int a,.int b],some<|.fz<|QV y,some<|.fz<|.int 0,none,none,none,none,none] _
   walk_at"x"
   have t1:=u.t1;have Y:=u.t8;have l1:=u.l1;have l5:=u.l5;have t:(0:Int)<10^(30:Int).toNat-1/\(10:Int)^(30:Int).toNat-1<10^30:=by decide +kernel
   have q31:(20:Int)<10^30:=by decide +kernel
   have U:∀{r:QF},r[1]?=some (some<|.fz<|QV y)->Qu K (tOp (rIx K) (Q8 1)<|tC<|.int 0) r (.int (y.T:Int)):=fun e=>Yb (ds:=[PyData.int (y.T:Int),.tuple<|y.ls.map ZY]) (Qq e) QA rfl;have Z:∀{r:QF},r[1]?=some (some<|.fz<|QV y)->Qu K (tOp (rIx K) (Q8 1)<|tC<|.int 1) r (.tuple<|y.ls.map ZY):=fun e=>Yb (ds:=[PyData.int (y.T:Int),.tuple<|y.ls.map ZY]) (Qq e) QA rfl;refine ZV (fun d=>∃(j:Nat) (a b:Int),j<y.T/\d=[some<|.own v<|olP [.int a,.int b],some<|.fz<|QV y,some<|.fz<|.int 0,some<|.fz<|.int (j:Int),none,none,none,none]) (BO (YE rfl (U rfl) (by omega)<|MJ Y) ?_) ?_
   .rintro n _ ⟨p,x,a,b,rfl⟩
    refine⟨n.toNat,a,b,by omega,?_⟩;rw[WD p];rfl
   rintro _ ⟨j,a,b,hfs,rfl⟩
   refine ZV (fun d=>d=[some<|.own v<|olP [.int a,.int b],some<|.fz<|QV y,some<|.fz<|.int 0,some<|.fz<|.int (j:Int),none,none,none,none]) (Zv (b:=false) (U0 (b:=false) (c:=false) (Za.cast (Zy<|UM (Qq rfl) (Qq rfl)<|U rfl) ?_)<|by rintro⟨⟩) (by rintro⟨⟩) fun _=>Zz rfl) ?_
   .rw[XH (show ¬(j:Int)<0 by omega)]
    rfl
   rintro _ rfl
   refine ZV (fun d=>∃(k:Nat) (a b:Int),j<=k/\k<y.T/\d=[some<|.own v<|olP [.int a,.int b],some<|.fz<|QV y,some<|.fz<|.int 0,some<|.fz<|.int (j:Int),some<|.fz<|.int (k:Int),none,none,none]) (A4 rfl (YE rfl (Z8 (U rfl)<|Qq rfl) (by omega)<|Int.le_trans (show(y.T:Int)-(j:Int)<=(y.T:Int) by omega)<|MJ Y) ?_) ?_
   .rintro n _ ⟨p,x,a,b,rfl⟩
    refine ZU (Z8 (Qq rfl) QA) ⟨((j:Int)+n).toNat,a,b,by omega,by omega,?_⟩;rw[WD<|by omega];rfl
   rintro _ ⟨k,a,b,F,B,rfl⟩
   refine ZV (fun d=>∃(m:Nat) (a b:Int),m<y.ls.length/\d=[some<|.own v<|olP [.int a,.int b],some<|.fz<|QV y,some<|.fz<|.int 0,some<|.fz<|.int (j:Int),some<|.fz<|.int (k:Int),some<|.fz<|.int (m:Int),none,none]) (BO (YE rfl (Qu.cast (GB<|Z rfl) (show _=PyData.int (y.ls.length:Int) by rw[Xl])) (by omega)<|MJ<|by omega) ?_) ?_
   .rintro n _ ⟨p,x,a,b,rfl⟩
    refine⟨n.toNat,a,b,by omega,?_⟩;rw[WD p];rfl
   rintro _ ⟨m,a,b,R,rfl⟩
   refine ZV (fun d=>∃sc a b:Int,0<sc/\sc<10^30/\d=[some<|.own v<|olP [.int a,.int b],some<|.fz<|QV y,some<|.fz<|.int 0,some<|.fz<|.int (j:Int),some<|.fz<|.int (k:Int),some<|.fz<|.int (m:Int),some<|.fz<|.int sc,none]) (Pu (ds:=[.int 4,.int 9,.int 20,.int<|10^(30:Int).toNat-1]) (EvO.fz<|V9 (Zn QA<|Zn QA<|Zn QA<|Zn (Z8 (Vd QA QA<|Bn (by decide)<|by decide) QA) ZG)<|by show(4:Nat)<=1000;decide) (YE rfl QA (by decide)<|by decide +kernel) ?_) ?_
   .rintro n _ ⟨p,x,a,b,rfl⟩
    obtain rfl|rfl|rfl|rfl:n=0\/n=1\/n=2\/n=3:=by omega
    .exact⟨_,rfl,4,a,b,by decide,by omega,rfl⟩
    .exact⟨_,rfl,9,a,b,by decide,by omega,rfl⟩
    .exact⟨_,rfl,20,a,b,by decide,by omega,rfl⟩
    .exact⟨_,rfl,_,a,b,t.1,t.2,rfl⟩
   rintro _ ⟨sc,a,b,I,G,rfl⟩
   have ne:∀l∈y.ls,l.bs≠[]:=fun l S z=>by
    have:=u.bl l S
    rw[z]at this;have:(0:Nat)=y.T:=this;omega
   have L:(y.ls.map fun l=>mxB l.bs)≠[]:=fun z=>by
    have:=X5 List.length z
    rw[Xl]at this;have:y.ls.length=0:=this;omega
   obtain⟨Q,O⟩:=Rv L;refine ZV (fun d=>∃sc:Int,0<sc/\sc<10^30/\d=[some<|.own v<|olP [.int a,.int b],some<|.fz<|QV y,some<|.fz<|.int 0,some<|.fz<|.int (j:Int),some<|.fz<|.int (k:Int),some<|.fz<|.int (m:Int),some<|.fz<|.int sc,none]) (Zv (b:=decide (mxB (y.ls.map fun l=>mxB l.bs)<20)) (Za.cast (Zy<|Vo (Cy (ns:=y.ls.map fun l=>mxB l.bs) (Qu.cast (EvO.fz<|Ux (xs:=y.ls) (enc:=ZY) (h:=fun l=>.int<|mxB l.bs) ?ei (by omega) ?el)<|by rw[X7];rfl) rfl Q O) QA) rfl) (fun _=>?_) fun _=>Zz ⟨sc,I,G,rfl⟩) ?_
   case ei=>exact NJ (Z rfl)
   case el =>
    intro l S c;obtain⟨k1,k2⟩:=Rv (ne l S);refine⟨_,WK (ds:=[upD l.up,.tuple<|l.bs.map PyData.int]) (ZT Zj<|ZT Zj Wt) rfl,?_⟩
    walk_at"e"
    exact C4 (ns:=l.bs) (Qq rfl) rfl k1 k2
   .refine ZU (DA (Qq rfl) QA) ⟨min sc 20,by omega,by omega,rfl⟩
   rintro _ ⟨sc,I,G,rfl⟩
   refine ZV (fun d=>∃q a b:Int,1<=q/\q<10^30/\d=[some<|.own v<|olP [.int a,.int b],some<|.fz<|QV y,some<|.fz<|.int 0,some<|.fz<|.int (j:Int),some<|.fz<|.int (k:Int),some<|.fz<|.int (m:Int),some<|.fz<|.int sc,some<|.fz<|.int q]) (Pk (YE rfl (Qq rfl) I<|p60<|Int.le_of_lt G) ?_) ?_
   .rintro n _ ⟨p,x,a,b,rfl⟩
    refine ZU (Z8 QA QA) ⟨1+n,a,b,by omega,by omega,rfl⟩
   rintro _ ⟨q,a,b,w1,X,rfl⟩
   refine Fb rfl rfl rfl rfl (YE rfl (Qq rfl) I<|p60<|Int.le_of_lt G) ?_
   rintro n _ ⟨p,x,a,b,rfl⟩
   refine Bx (Wr (ds:=[.int (m:Int),.int (j:Int),.int (k:Int),.int q,.int<|1+n]) (Zn (Qq rfl)<|Zn (Qq rfl)<|Zn (Qq rfl)<|Zn (Qq rfl)<|Zn (Z8 QA QA) ZG)<|by show(5:Nat)<=1000;decide) ⟨_,⟨⟨m,j,k,q,1+n⟩,⟨⟨R,F,B,w1,He X,by show 1<=1+n;omega,He<|by show 1+n<_;omega⟩,X,by show 1+n<_;omega⟩,rfl⟩,rfl⟩
inductive R_iswhole:List OT->OT->Prop
 |mk {i:Int}:R_iswhole [.fz<|.int i] (.fz<|.bool true)
def Oz:Qp ["thing"] ["thing"] (Q2 Ku):=by walk_at"p"
def Iw (T:Bl mg) (D:Df K mg "is_whole" Ku ["thing"]):QG P w K mg base "is_whole" ["thing"] 1 (QL (K:=K) R_iswhole):=by
 refine D.ev Oz (fun a r h=>by cases h;rfl) (fun _ _ _ _ s H E a r c h=>?_)
 cases h with
 |@mk i =>
   refine⟨_,(Q4<|QN<|G8 (Zo JW (by rfl) T.isi VO<|Qo (pv 0)<|Qo (YW (v:=.ty "int") rfl T.int B5 rfl) Qs)<|Gz<|Fh<|Zo JW (by rfl) T.isi VO<|Qo (pv 0)<|Qo (YW (v:=.ty "bool") rfl T.bool Ha rfl) Qs),?_⟩;show Q1 K _ [some _] _
   walk_at"x"
   exact ZO (U1 (b:=true) (Jp (Qq rfl) rfl) fun _=>NM (b:=false)<|Jp (Qq rfl) rfl) rfl
inductive R_within:List OT->OT->Prop
 |mk {i lo hi:Int}:R_within [.fz<|.int i,.fz<|.int lo,.fz<|.int hi] (.fz<|.bool<|decide (lo<=i)&&decide (i<hi))
def ZeX:Qp Zau Zau (Q2 KZ):=by walk_at"p"
def EK (T:Bl mg) (D:Df K mg "is_whole_within" KZ Zau) (a:QG P w K mg base "is_whole" ["thing"] 1 (QL (K:=K) R_iswhole)):QG P w K mg base "is_whole_within" Zau 2 (QL (K:=K) R_within):=by
 refine D.ev ZeX (fun c r h=>by cases h;rfl) (fun _ _ _ _ s H E c r d h=>?_)
 cases h with
 |@mk i e f =>
   refine⟨_,(Q4<|QN<|G8 (QJ a d<|Qo (pv 0) Qs)<|Gz<|SR Jm Wj (pv 1) (pv 0)<|pv 2),?_⟩;show Q1 K _ [some _,some _,some _] _
   walk_at"x"
   exact ZO (U1 (b:=true) (Ze (Qv (Qq rfl) Q6) R_iswhole.mk) fun _=>UM (Qq rfl) (Qq rfl)<|Qq rfl) rfl
inductive R_isamount:List OT->OT->Prop
 |mk {i:Int} (h0:1<=i) (h1:i<10^30):R_isamount [.fz<|.int i,.fz<|.int 1] (.fz<|.bool true)
def ZiV:Qp ZaP ZaP (Q2 K0):=by walk_at"p"
def OX (T:Bl mg) (D:Df K mg "is_amount" K0 ZaP) (a:QG P w K mg base "is_whole_within" Zau 2 (QL (K:=K) R_within)):QG P w K mg base "is_amount" ZaP 3 (QL (K:=K) R_isamount):=by
 refine D.ev ZiV (fun c r h=>by cases h;rfl) (fun _ _ _ _ s H E c r d h=>?_)
 cases h with
 |@mk i f b =>
   refine⟨_,(Q4<|QN<|QJ a d<|Qo (pv 0)<|Qo (pv 1)<|Qo (QU DI Qw Qw) Qs),?_⟩;show Q1 K _ [some _,some _] _
   walk_at"x"
   have e:(10:Int)^30=10^(30:Int).toNat:=by decide +kernel
   rw[e]at b;refine ZO (Qu.cast (Ze (Qv (Qq rfl)<|Qv (Qq rfl)<|Qv (Vd QA QA<|Bn (by decide)<|by decide) Q6) R_within.mk) ?_) rfl;rw[XJ f,XJ b];rfl
inductive R_tupof:List OT->OT->Prop
 |mk {g:Gs}:R_tupof [.fz<|QO g,.fz<|.int 5] (.fz<|.bool true)
def Zhj:Qp ZaJ ZaJ (Q2 KU):=by walk_at"p"
def As (T:Bl mg) (D:Df K mg "is_tuple_of" KU ZaJ):QG P w K mg base "is_tuple_of" ZaJ 1 (QL (K:=K) R_tupof):=by
 refine D.ev Zhj (fun a r h=>by cases h;rfl) (fun _ _ _ _ s H E a r c h=>?_)
 cases h with
 |@mk g =>
   refine⟨_,(Q4<|QN<|G8 (Zo JW (by rfl) T.isi VO<|Qo (pv 0)<|Qo (YW (v:=.ty "tuple") rfl T.tuple Hu rfl) Qs)<|Gz<|DP Br (Zo Vw (by rfl) T.len Vy<|Qo (pv 0) Qs) (pv 1)<|Zx _),?_⟩;show Q1 K _ [some _,some _] _
   walk_at"x"
   exact ZO (U1 (b:=true) (Jp (Qq rfl) rfl) fun _=>Gq (GB (ds:=[.int (g.line:Int),.int (g.first:Int),.int (g.last:Int),.int g.want,.int g.most])<|Qq rfl)<|Qq rfl) rfl
inductive R_isguest:List OT->OT->Prop
 |mk {y:Yd} {g:Gs} (h:G30 y g):R_isguest [.fz<|QV y,.fz<|QO g] (.fz<|.bool true)
def O0:Qp ZaR ZaR (Q2 Kw):=by walk_at"p"
def Iy (T:Bl mg) (D:Df K mg "is_guest" Kw ZaR) (l:QG P w K mg base "is_tuple_of" ZaJ 1 (QL (K:=K) R_tupof)) (f:QG P w K mg base "is_whole_within" Zau 2 (QL (K:=K) R_within)) (m:QG P w K mg base "line_count" ZaD 1 (QL (K:=K) R_count)) (k:QG P w K mg base "turns_of" ZaD 1 (QL (K:=K) R_turns)) (j:QG P w K mg base "is_amount" ZaP 3 (QL (K:=K) R_isamount)):QG P w K mg base "is_guest" ZaR 4 (QL (K:=K) R_isguest):=by
 refine D.ev O0 (fun p r h=>by cases h;rfl) (fun _ _ _ _ s H E p r a h=>?_)
 cases h with
 |@mk y g h =>
   refine⟨_,(Q3 (Zq (VU<|Vl<|QJ l a<|Qo (pv 1)<|Qo Qw Qs) (Q4<|QN Vn) Zr)
 (Q3 (Zq (VU<|Vl<|QJ f a<|Qo (QD QE (pv 1) Qw)<|Qo Qw<|Qo (QJ m a<|Qo (pv 0) Qs) Qs) (Q4<|QN Vn) Zr)
 (Q3 (Zq (VU<|Vl<|QJ f a<|Qo (QD QE (pv 1) Qw)<|Qo Qw<|Qo (QJ k a<|Qo (pv 0) Qs) Qs) (Q4<|QN Vn) Zr)
 (Q3 (Zq (VU<|Vl<|QJ f a<|Qo (QD QE (pv 1) Qw)<|Qo (QD QE (pv 1) Qw)<|Qo (QJ k a<|Qo (pv 0) Qs) Qs) (Q4<|QN Vn) Zr)
 (Q4<|QN<|G8 (QJ j a<|Qo (QD QE (pv 1) Qw)<|Qo Qw Qs)<|Gz<|QJ j a<|Qo (QD QE (pv 1) Qw)<|Qo Qw Qs))))),?_⟩
   show Q1 K _ [some _,some _] _
   walk_at"x"
   obtain⟨⟨A,z,x,v,_,t,_⟩,u,q⟩:=h;have i:∀{o:QF} {n:Int} {d:PyData},o[1]?=some (some<|.fz<|QO g)->atI [.int (g.line:Int),.int (g.first:Int),.int (g.last:Int),.int g.want,.int g.most] n=some d->Qu K (tOp (rIx K) (Q8 1)<|tC<|.int n) o d:=fun e h=>Yb (Qq e) QA h;refine QH (Zv (b:=false) (VN (b:=true)<|ZJ<|Ze (Qv (Qq rfl)<|Qv QA Q6) R_tupof.mk) (by rintro⟨⟩) fun _=>Zz ?_);refine QH (Zv (b:=false) (VN (b:=true)<|ZJ<|Qu.cast (Ze (Qv (i rfl rfl)<|Qv QA<|Qv (Ze (Qv (Qq rfl) Q6) R_count.mk) Q6) R_within.mk) ?_) (by rintro⟨⟩) fun _=>Zz ?_)
   .rw[XJ (show(0:Int)<=(g.line:Int) by omega),XJ (show(g.line:Int)<(y.ls.length:Int) by omega)]
    rfl
   refine QH (Zv (b:=false) (VN (b:=true)<|ZJ<|Qu.cast (Ze (Qv (i rfl rfl)<|Qv QA<|Qv (Ze (Qv (Qq rfl) Q6) R_turns.mk) Q6) R_within.mk) ?_) (by rintro⟨⟩) fun _=>Zz ?_)
   .rw[XJ (show(0:Int)<=(g.first:Int) by omega),XJ (show(g.first:Int)<(y.T:Int) by omega)]
    rfl
   refine QH (Zv (b:=false) (VN (b:=true)<|ZJ<|Qu.cast (Ze (Qv (i rfl rfl)<|Qv (i rfl rfl)<|Qv (Ze (Qv (Qq rfl) Q6) R_turns.mk) Q6) R_within.mk) ?_) (by rintro⟨⟩) fun _=>Zz ?_)
   .rw[XJ (show(g.first:Int)<=(g.last:Int) by omega),XJ (show(g.last:Int)<(y.T:Int) by omega)]
    rfl
   exact ZO (U1 (b:=true) (Ze (Qv (i rfl rfl)<|Qv QA Q6)<|R_isamount.mk v u) fun _=>Ze (Qv (i rfl rfl)<|Qv QA Q6)<|R_isamount.mk t q) rfl
def Fv:NoH "now" := fun _ _ _ _ _ _=>rfl
def Sx:NoH "come" := fun _ _ _ _ _ _=>rfl
def LI:NoH "got" := fun _ _ _ _ _ _=>rfl
def Hg:NoH "rest" := fun _ _ _ _ _ _=>rfl
def C7:NoH "open_ones" := fun _ _ _ _ _ _=>rfl
def SA:NoH "gifts" := fun _ _ _ _ _ _=>rfl
def Cw:NoH "yard_now" := fun _ _ _ _ _ _=>rfl
def Pb:NoH "still_there" := fun _ _ _ _ _ _=>rfl
def BA:NoH "refuse_past" := fun _ _ _ _ _ _=>rfl
def Sc:NoH "turn" := fun _ _ _ _ _ _=>rfl
def Rp:NoH "refuse_number" := fun _ _ _ _ _ _=>rfl
def ZfJ:Qp ZaN ZaN (Q2 UT):=by walk_at"p"
def FY  (T:Bl mg) (a:HandC K CH) (F:Fun K "__init__" "Hand.__init__" UT f fd):FnOk P w K mg base CX0 1 f fd ZaN (Bj CH):=by
 refine F.ok ZfJ (by rintro L H Q E ⟨x,o,y,e,_⟩;rw[e];rfl) ?_;rintro N A u s H L Q E X ⟨x,o,y,e,M,q⟩;subst e;refine⟨_,(Q3 (Wo (pv 0) (pv 1) rfl)
 (Q3 (Wo (pv 0) Qw rfl)
 (Q3 (Wo (pv 0) (ZC Qs) rfl)
 (Q3 (Wo (pv 0) (ZC Qs) rfl)
 (Q3 (Wo (pv 0) Hq rfl)
 (Q4<|Wo (pv 0) (ZC Qs) rfl)))))),?_⟩
 refine⟨y,rfl,_,rfl,x,CH,o,[],rfl,M,a.cl,a.yd,by decide,?_⟩;refine⟨_,rfl,x,CH,o,[("yard",y)],rfl,by rw[QC];rfl,a.cl,a.pr,(by show(1:Nat)<1000;decide),?_⟩;refine⟨XQ _,fun k t=>⟨_,rfl,x,CH,o,[("yard",y),("present",.int 0)],rfl,?_,a.cl,a.kn,(by show(2:Nat)<1000;decide),?_⟩⟩
 .have i:x≠k:=Zw QC t
  rw[Qt i,QC];rfl
 have i:x≠k:=Zw QC t;rw[Qt<|Ne.symm i,Qt<|Ne.symm i]at t;refine⟨XQ _,fun g p=>⟨_,rfl,x,CH,o,[("yard",y),("present",.int 0),("known",.ref k)],rfl,?_,a.cl,a.gv,(by show(3:Nat)<1000;decide),?_⟩⟩
 .have j:x≠g:=Zw QC p
  rw[Qt j,QC];rfl
 have j:x≠g:=Zw QC p;rw[Qt<|Ne.symm j]at p;have z:k≠g:=Zw QC p;rw[Qt<|Ne.symm z,Qt<|Ne.symm j,Qt<|Ne.symm j]at p;refine fun d n=>⟨_,rfl,x,CH,o,[("yard",y),("present",.int 0),("known",.ref k),("given",.ref g)],rfl,?_,a.cl,a.go,(by show(4:Nat)<1000;decide),?_⟩
 .have l:x≠d:=Zw QC n
  rw[Qt l,QC];rfl
 have l:x≠d:=Zw QC n;rw[Qt<|Ne.symm l]at n;have G:g≠d:=Zw QC n;rw[Qt<|Ne.symm G,Qt<|Ne.symm l]at n;have B:k≠d:=Zw QC n;rw[Qt<|Ne.symm B,Qt<|Ne.symm l,Qt<|Ne.symm l]at n;refine⟨XQ _,fun m c=>⟨_,rfl,x,CH,o,[("yard",y),("present",.int 0),("known",.ref k),("given",.ref g),("gone",.ref d)],rfl,?_,a.cl,a.md,(by show(5:Nat)<1000;decide),?_⟩⟩
 .have h:x≠m:=Zw QC c
  rw[Qt h,QC];rfl
 have h:x≠m:=Zw QC c;rw[Qt<|Ne.symm h]at c;have I:d≠m:=Zw QC c;rw[Qt<|Ne.symm I,Qt<|Ne.symm h]at c;have D:g≠m:=Zw QC c;rw[Qt<|Ne.symm D,Qt<|Ne.symm h]at c;have v:k≠m:=Zw QC c;rw[Qt<|Ne.symm v,Qt<|Ne.symm h,Qt<|Ne.symm h]at c;refine q k g d m _ t p n c ?_ ?_ ?_ ?_ ?_ ?_ (fun b J=>?_)
 .simp only[Xt,Xg,XT,or_false,not_or,not_false_eq_true,JD,and_true]
  exact⟨⟨i,j,l,h⟩,⟨z,B,v⟩,⟨G,D⟩,I⟩
 .rw[QC];rfl
 .rw[Qt<|Ne.symm i,Qt v,Qt<|Ne.symm i,Qt B,Qt<|Ne.symm i,Qt z,Qt<|Ne.symm i,QC]
 .rw[Qt<|Ne.symm j,Qt D,Qt<|Ne.symm j,Qt G,Qt<|Ne.symm j,QC]
 .rw[Qt<|Ne.symm l,Qt I,Qt<|Ne.symm l,QC]
 .rw[Qt<|Ne.symm h,QC]
 .simp only[Xg,XT,or_false,not_or]at J
  obtain⟨r,U,S,R,O⟩:=J;rw[Qt r,Qt O,Qt r,Qt R,Qt r,Qt S,Qt r,Qt U,Qt r,Qt r]
inductive R_hpast (CH:Addr):List OT->(OT->Prop)->Prop
 |mk {N:HandS} {t:Int} (h:N.now<=t):R_hpast CH [.zow<|QY CH N,.fz<|.int t] (fun r=>r=.fz .none)
inductive X_hpast (CH:Addr):List OT->(Unit->Prop)->Prop
 |mk {N:HandS} {t:Int} (h:t<N.now):X_hpast CH [.zow<|QY CH N,.fz<|.int t] (fun _=>True)
def Ze6:Qp ZaO ZaO (Q2 Nb):=by walk_at"p"
def AV (T:Bl mg) (k:HandC K CH) (j:MD K mg "NoTime" ct) (D:Mf K CH "refuse_past" "Hand.refuse_past" Nb ZaO):YA P w K mg base CH "refuse_past" ZaO 1 (Wf K ct WE (R_hpast CH)<|X_hpast CH):=by
 refine D.evZ Ze6 (fun g e h=>by cases h;rfl) (fun g e h=>by cases h;rfl) (by decide) (fun f i A a s H n g e l d h=>?_) (fun f i A a s F H n g e l d m h=>?_)
 .cases h with
  |@mk N t h =>
    refine⟨_,(Q4<|Zq (Z5 Wj (pv 1) (Zf (pv 0) rfl)<|Zx _) (Q4<|Tj j d<|Qo Yc Qs) Zr),?_⟩;show Q1 K _ [some _,some _] _
    walk_at"x"
    exact Zv (b:=false) (Za.cast (Zy<|Vo (Qq rfl)<|GL k rfl)<|XH<|by omega) (by rintro⟨⟩) (fun _=>Zz rfl)
 .cases h with
  |@mk N t h =>
    refine⟨_,(Q4<|Zq (Z5 Wj (pv 1) (Zf (pv 0) rfl)<|Zx _) (Q4<|Tj j d<|Qo Yc Qs) Zr),?_⟩;show EvZ K F H _ [some<|.zow<|QY CH N,some<|.fz<|.int t]
    walk_at"x"
    exact NK (b:=true) (Za.cast (Zy<|Vo (Qq rfl)<|GL k rfl)<|XJ h) (fun _=>IS Yu trivial m) (by rintro⟨⟩)
inductive R_withw:List OT->OT->Prop
 |mk {g:Gs} {z:Int}:R_withw [.fz<|QO g,.fz<|.int z] (.fz<|QO { g with want:=z })
def OM:Qp ZaS ZaS (Q2 K6):=by walk_at"p"
def CL (T:Bl mg) (D:Df K mg "with_want" K6 ZaS):QG P w K mg base "with_want" ZaS 1 (QL (K:=K) R_withw):=by
 refine D.ev OM (fun c r h=>by cases h;rfl) (fun _ _ _ _ s H E c r f h=>?_)
 cases h with
 |@mk g z =>
   refine⟨_,(Q4<|QN<|Wl<|Qo (QD QE (pv 0) Qw)<|Qo (QD QE (pv 0) Qw)<|Qo (QD QE (pv 0) Qw)<|Qo (pv 1)<|Qo (QD QE (pv 0) Qw) Qs),?_⟩;show Q1 K _ [some _,some _] _
   walk_at"x"
   have a:∀{b:QF} {n:Int} {d:PyData},b[0]?=some (some<|.fz<|QO g)->atI [.int (g.line:Int),.int (g.first:Int),.int (g.last:Int),.int g.want,.int g.most] n=some d->Qu K (tOp (rIx K) (Q8 0)<|tC<|.int n) b d:=fun e h=>Yb (Qq e) QA h;exact ZO (Wr (ds:=[.int (g.line:Int),.int (g.first:Int),.int (g.last:Int),.int z,.int g.most]) (Zn (a rfl rfl)<|Zn (a rfl rfl)<|Zn (a rfl rfl)<|Zn (Qq rfl)<|Zn (a rfl rfl) ZG)<|by show(5:Nat)<=1000;decide) rfl
inductive R_stay:List OT->OT->Prop
 |mk {g:Gs} {n:Nat}:R_stay [.fz<|QO g,.fz<|.int (n:Int)] (.fz<|QO { g with first:=max g.first n })
def Zg6:Qp Zat Zat (Q2 KF):=by walk_at"p"
def FG (T:Bl mg) (D:Df K mg "staying_from" KF Zat):QG P w K mg base "staying_from" Zat 1 (QL (K:=K) R_stay):=by
 refine D.ev Zg6 (fun c r h=>by cases h;rfl) (fun _ _ _ _ s H E c r f h=>?_)
 cases h with
 |@mk g n =>
   refine⟨_,(Q4<|QN<|Wl<|Qo (QD QE (pv 0) Qw)<|Qo (Zo (Fk rfl) (by rfl) T.max D5<|Qo (QD QE (pv 0) Qw)<|Qo (pv 1) Qs)<|Qo (QD QE (pv 0) Qw)<|Qo (QD QE (pv 0) Qw)<|Qo (QD QE (pv 0) Qw) Qs),?_⟩;show Q1 K _ [some _,some _] _
   walk_at"x"
   have a:∀{b:QF} {n:Int} {d:PyData},b[0]?=some (some<|.fz<|QO g)->atI [.int (g.line:Int),.int (g.first:Int),.int (g.last:Int),.int g.want,.int g.most] n=some d->Qu K (tOp (rIx K) (Q8 0)<|tC<|.int n) b d:=fun e h=>Yb (Qq e) QA h;refine ZO (Qu.cast (Wr (ds:=[.int (g.line:Int),.int<|max (g.first:Int) (n:Int),.int (g.last:Int),.int g.want,.int g.most]) (Zn (a rfl rfl)<|Zn (Rh (a rfl rfl)<|Qq rfl)<|Zn (a rfl rfl)<|Zn (a rfl rfl)<|Zn (a rfl rfl) ZG)<|by show(5:Nat)<=1000;decide) ?_) rfl;have e:max (g.first:Int) (n:Int)=((max g.first n:Nat):Int):=by omega
   rw[e];rfl
def Bp (N:HandS)(k:Nat)(z:Int):Prop := ∃(g:Gs) (x:Int),N.known[k]?=some (QO g)/\N.given[k]?=some x/\z=if (VY N.gone<|.inl (k:Int)).isSome then 0 else g.want-x
inductive R_hnum (CH:Addr):List OT->(OT->Prop)->Prop
 |mk {N:HandS} {k:Nat} (h:k<N.known.length):R_hnum CH [.zow<|QY CH N,.fz<|.int (k:Int)] (fun r=>r=.fz .none)
def ZdS:Qp Zag Zag (Q2 Nf):=by walk_at"p"
def Fd (T:Bl mg) (g:HandC K CH) (D:Mf K CH "refuse_number" "Hand.refuse_number" Nf Zag) (a:QG P w K mg base "is_whole_within" Zau 2 (QL (K:=K) R_within)):Zu P w K mg base CH "refuse_number" Zag 3 (Zk K<|R_hnum CH):=by
 refine D.evD ZdS (fun e d h=>by cases h;rfl) (fun _ _ _ _ s H E e d f h=>?_)
 cases h with
 |@mk N k h =>
   refine⟨_,(Q4<|Zq (VU<|Vl<|QJ a f<|Qo (pv 1)<|Qo Qw<|Qo (Zo Vw (by rfl) T.len Vy<|Qo (Zf (pv 0) rfl) Qs) Qs) (Q4 Hn) Zr),?_⟩;show Q1 K _ [some _,some _] _
   walk_at"x"
   refine Zv (b:=false) (VN (b:=true)<|ZJ<|Qu.cast (Ze (Qv (Qq rfl)<|Qv QA<|Qv (WP<|GQ g rfl) Q6) R_within.mk) ?_) (by rintro⟨⟩) (fun _=>Zz rfl);rw[XJ (show(0:Int)<=(k:Int) by omega),XJ (show(k:Int)<(N.known.length:Int) by omega)]
   rfl
inductive R_hgot (CH:Addr):List OT->(OT->Prop)->Prop
 |mk {N:HandS} {k:Nat} {x:Int} (h:k<N.known.length) (hx:N.given[k]?=some x):R_hgot CH [.zow<|QY CH N,.fz<|.int (k:Int)] (fun r=>r=.fz (.int x))
def Pj {N:HandS}{k:Nat}{x:Int}(a:N.given[k]?=some x):atI (N.given.map PyData.int) (k:Int)=some (.int x):=V1 (by rw[Xn,a];rfl)
def OJ:Qp Zag Zag (Q2 Kq):=by walk_at"p"
def F9 (T:Bl mg) (b:HandC K CH) (D:Mf K CH "got" "Hand.got" Kq Zag) (a:Zu P w K mg base CH "refuse_number" Zag 3 (Zk K<|R_hnum CH)):Zu P w K mg base CH "got" Zag 4 (Zk K<|R_hgot CH):=by
 refine D.evD OJ (fun d c h=>by cases h;rfl) (fun _ _ _ _ s H E d c f h=>?_)
 cases h with
 |@mk N k x h e =>
   refine⟨_,(Q3 (Z2<|U8 a b f (pv 0)<|Qo (pv 1) Qs)
 (Q4<|QN<|QD QE (Zf (pv 0) rfl)<|pv 1)),?_⟩
   show Q1 K _ [some _,some _] _
   walk_at"x"
   refine QH (UL (J1 Rp rfl (Qv (Qq rfl) Q6)<|R_hnum.mk h) ?_);exact ZO (Ve (Ta b rfl) (Qq rfl)<|Pj e) rfl
inductive R_hrest (CH:Addr):List OT->(OT->Prop)->Prop
 |mk {N:HandS} {k:Nat} {z:Int} (h:Bp N k z):R_hrest CH [.zow<|QY CH N,.fz<|.int (k:Int)] (fun r=>r=.fz (.int z))
def Zi8:Qp Zag Zag (Q2 K3):=by walk_at"p"
def Eo (T:Bl mg) (a:HandC K CH) (D:Mf K CH "rest" "Hand.rest" K3 Zag) (e:Zu P w K mg base CH "refuse_number" Zag 3 (Zk K<|R_hnum CH)) (f:QG P w K mg base "want_of" Zay 1 (QL (K:=K) R_want)):Zu P w K mg base CH "rest" Zag 4 (Zk K<|R_hrest CH):=by
 refine D.evD Zi8 (fun l j h=>by cases h;rfl) (fun _ _ _ _ s H E l j d h=>?_)
 cases h with
 |@mk N k z h =>
   refine⟨_,(Q3 (Z2<|U8 e a d (pv 0)<|Qo (pv 1) Qs)
 (Q3 (Zq (U7<|DG (Ys d) (pv 1)<|Zf (pv 0) rfl) (Q4<|QN Qw) Zr)
 (Q4<|QN<|QU Ym (QJ f d<|Qo (QD QE (Zf (pv 0) rfl)<|pv 1) Qs)<|QD QE (Zf (pv 0) rfl)<|pv 1))),?_⟩
   show Q1 K _ [some _,some _] _
   walk_at"x"
   obtain⟨g,x,i,m,rfl⟩:=h;have n:=(Xf.mp i).1;refine QH (UL (J1 Rp rfl (Qv (Qq rfl) Q6)<|R_hnum.mk n) ?_);refine QH (Zv (b:=(VY N.gone<|.inl (k:Int)).isSome) (Zy<|EW (k:=.inl (k:Int)) a (Qq rfl) rfl) (fun c=>?_) fun c=>Zz ?_)
   .rw[c]
    exact ZO QA rfl
   .rw[c]
    exact ZO (Z8 (Ze (Qv (Ve (GQ a rfl) (Qq rfl)<|V1 i) Q6) R_want.mk)<|Ve (Ta a rfl) (Qq rfl)<|Pj m) rfl
inductive R_hopen (CH:Addr):List OT->(OT->Prop)->Prop
 |mk {N:HandS} (rs:Qn) (h:∀k,k<N.known.length->Bp N k (rs k)) (l:N.known.length<=1000):R_hopen CH [.zow<|QY CH N] (fun r=>r=.ol (Zl<|(List.range N.known.length).filter fun k => !decide (rs k=0)))
def Zfp:Qp Zam Zam (Q2 M3):=by walk_at"p"
def AX (T:Bl mg) (d:HandC K CH) (D:Mf K CH "open_ones" "Hand.open_ones" M3 Zam) (b:Zu P w K mg base CH "rest" Zag 4 (Zk K<|R_hrest CH)):Zu P w K mg base CH "open_ones" Zam 5 (Zk K<|R_hopen CH):=by
 refine D.evD Zfp (fun g e h=>by cases h;rfl) (fun _ _ _ _ s H E g e m h=>?_)
 cases h with
 |@mk N j h l =>
   refine⟨_,(Q4<|QN<|YB (NX:=Zam) (sc:=Q2 M3) (N:=["number","self"]) (f:=[none,some 0]) rfl (by decide +kernel) rfl rfl (VW rfl T.range<|Qo (Zo Vw (by rfl) T.len Vy<|Qo (Zf (pv 0) rfl) Qs) Qs) (fun _=>(QX (i:=0) (show(["number","self"]:Qh).Nodup by decide +kernel) rfl Qa)) (fun _=>VC) (fun _=>(Ua<|Z5 Bs (U8 b d m (pv 1)<|Qo (pv 0) Qs) Qw<|Zx _)) fun _=>(pv 0)),?_⟩;show Q1 K _ [some _] _
   walk_at"x"
   refine Jo (JY (xs:=List.range N.known.length) (enc:=fun(k:Nat)=>PyData.int (k:Int)) (h:=fun(k:Nat)=>PyData.int (k:Int)) (p:=fun k => !decide (j k=0)) ?ei (by rw[WC];exact l) ?el) rfl
   case ei =>
    refine EvI.cast (Yg (Qv (WP<|GQ d rfl) Q6) (by rw[z62];omega)<|by rw[z62];omega) ?_;rw[Xp];unfold ZI;exact XX fun i _=>by rw[Yp]
   case el =>
    intro k a c;have a:=XI.mp a;refine⟨_,Zj,?_⟩
    walk_at"e"
    exact⟨Zy<|Gr (UF Hg rfl (Qv (Qq rfl) Q6)<|R_hrest.mk<|h k a) QA,fun _=>Qq rfl⟩
noncomputable def stl (gs:List Gs)(n:Nat)(a:Qn)(k:Nat):Gs:={ gs.getD k default with first:=max (gs.getD k default).first n,want:=a k }
inductive R_hstill (CH:Addr):List OT->(OT->Prop)->Prop
 |mk {N:HandS} {gs:List Gs} {n:Nat} (rs:Qn) (hk:N.known=gs.map QO) (hn:N.now=(n:Int)) (h:∀k,k<gs.length->Bp N k (rs k)) (l:gs.length<=900):R_hstill CH [.zow<|QY CH N] (fun r=>r=.ol ((List.range gs.length).map fun k=>QO<|stl gs n rs k))
def M1:Qp ["self","guests","number","guest"] Zam (Q2 Na):=by walk_at"p"
def E3 (T:Bl mg) (g:HandC K CH) (D:Mf K CH "still_there" "Hand.still_there" Na Zam) (e:QG P w K mg base "with_want" ZaS 1 (QL (K:=K) R_withw)) (c:QG P w K mg base "staying_from" Zat 1 (QL (K:=K) R_stay)) (f:Zu P w K mg base CH "rest" Zag 4 (Zk K<|R_hrest CH)):Zu P w K mg base CH "still_there" Zam 5 (Zk K<|R_hstill CH):=by
 refine D.evD M1 (fun q p h=>by cases h;rfl) (fun _ _ _ _ s H E q p b h=>?_)
 cases h with
 |@mk N a n r u t h l =>
   refine⟨_,(Q3 (QW (i:=1) M1.nd rfl Qa<|ZC Qs)
 (Q3 (ZX PassesOwn.never rfl (GW rfl T.enumerate<|Qo (Zf (pv 0) rfl) Qs) (Js (n:=2) rfl (ZQ (QX (i:=2) M1.nd rfl Qa)<|ZQ (QX (i:=3) M1.nd rfl Qa) Wu))<|Q4<|Z2<|VL PySem.F.plainAttrs_list PySem.F.slot_list_append PySem.F.type_list_append VP (pv 1)<|Qo (QJ e b<|Qo (QJ c b<|Qo (pv 3)<|Qo (Zf (pv 0) rfl) Qs)<|Qo (U8 f g b (pv 0)<|Qo (pv 2) Qs) Qs) Qs)
 (Q4<|QN<|pv 1))),?_⟩
   show Q1 K _ [some _,none,none,none] _
   walk_at"x"
   refine QH (VM (V9 (ds:=[]) ZG<|by decide) ?_)
   walk_at"d"
   refine QH (GH (fun i=>[some<|.zow<|QY CH N,some<|.ol<|(List.range i).map fun k=>QO<|stl a n r k,none,none]) (GC<|Qv (Qu.cast (GQ g rfl) (show _=PyData.list (a.map QO) by rw[u])) Q6) ⟨rfl,rfl,trivial⟩ ?st ?fin)
   case st =>
    intro i d x;obtain⟨y,m,rfl⟩:=BT x
    have j:i<a.length:=by
     have:=(Xf.mp m).1
     simpa using this
    obtain rfl:y=QO (a.getD i default):=by simpa [j] using m.symm
    refine⟨_,WK (ds:=[.int (i:Int),QO<|a.getD i default]) (ZT Zj<|ZT Zj Wt) rfl,?_⟩
    walk_at"d"
    refine UR rfl (Ze (Qv (Ze (Qv (Qq rfl)<|Qv (Qu.cast (GL g rfl)<|by rw[t]) Q6) R_stay.mk)<|Qv (UF Hg rfl (Qv (Qq rfl) Q6)<|R_hrest.mk<|h i j) Q6) R_withw.mk) (by rw[Xl,WC];omega) ⟨rfl,?_,trivial⟩;rw[Y7,XB];rfl
   case fin =>
    intro o v;refine Gy v ?_;rw[Mn,Xl];exact D7 rfl rfl
noncomputable def hT (y:Yd)(n:Nat)(gs:List Gs)(gv:Ql)(a:Qk)(ms:List Zb):HandS:=⟨QV y,(n:Int),gs.map QO,gv,a.map fun(k:Nat)=>(.inl (k:Int),.bool true),ms⟩
noncomputable def rsT (gs:List Gs)(gv:Ql)(a:Qk)(k:Nat):Int:=if k∈a then 0 else (gs.getD k default).want-gv.getD k 0
theorem Si (k:Nat):∀a:Qk,(VY (a.map fun(k:Nat)=>((.inl (k:Int):Key),PyData.bool true))<|.inl (k:Int)).isSome=decide (k∈a)
 |[]=>rfl
 |x::a=>by
   have b:=Si k a;unfold VY at b ⊢;rw[Xx,Xz];by_cases z:x=k
   .subst z
    simp
   .have c:¬((.inl (x:Int):Key)=.inl (k:Int)):=fun q=>z (by injection q with q;omega)
    simp only[c,decide_false];rw[b];simp[Ne.symm z]
def BE    (gl:gv.length=gs.length)(h:k<gs.length):Bp (hT y n gs gv go ms) k (rsT gs gv go k):=by
 refine⟨gs.getD k default,gv.getD k 0,by simp[hT,h],by simp[hT,h,gl],?_⟩;show _=if (VY (go.map fun(k:Nat)=>((.inl (k:Int):Key),PyData.bool true))<|.inl (k:Int)).isSome=true then _ else _;rw[Si];unfold rsT;simp only[decide_eq_true_eq]
noncomputable def mT (n:Nat)(gs:List Gs)(gv:Ql)(a:Qk):List Gs:=(List.range gs.length).map (stl gs n<|rsT gs gv a)
def Y0 (n:Nat)(gs:List Gs)(gv:Ql)(a:Qk):(mT n gs gv a).length=gs.length:=by simp[mT]
def Ro (n:Nat)(gs:List Gs)(gv:Ql)(a:Qk):((List.range gs.length).map fun k=>QO<|stl gs n (rsT gs gv a) k)=(mT n gs gv a).map QO:=by
 unfold mT;rw[X7];rfl
def Yl   (h:k<gs.length):(mT n gs gv go).getD k default=stl gs n (rsT gs gv go) k:=by simp[mT,h]
def Bq   (c:∀x∈gs,G30 y x)(h0:∀k,k<gs.length->0<=rsT gs gv go k):∀x∈mT n gs gv go,GOk y x:=fun x b=>by
 obtain⟨k,a,rfl⟩:=XO.mp b;have a:=XI.mp a;have g:=(c (gs.getD k default)<|by simp[a]).ok;have d:=g.m1
 exact⟨g.ln,h0 k a,by show 0<=(gs.getD k default).most;omega⟩
inductive R_hcome:HandS->List OT->(OT->HandS->Prop)->Prop
 |mk {y:Yd} {n:Nat} {gs:List Gs} {gv:Ql} {go:Qk} {ms:List Zb} {g:Gs} (ok:y.Ok) (hg:∀x∈gs,G30 y x) (gk:G30 y g) (gl:gv.length=gs.length) (gn:n<=g.first) (h0:∀k,k<gs.length->0<=rsT gs gv go k) (l:gs.length<=7) (h:∀S,ZB y (Qx<|mT n gs gv go++[g]) S<=0):R_hcome (hT y n gs gv go ms) [.fz<|QO g] (fun r N'=>r=.fz (.int (gs.length:Int))/\N'=hT y n (gs++[g]) (gv++[0]) go ms)
inductive X_hcome (CH:Addr):List OT->(Qd->Prop)->Prop
 |mk {y:Yd} {n:Nat} {gs:List Gs} {gv:Ql} {go:Qk} {ms:List Zb} {g:Gs} (ok:y.Ok) (hg:∀x∈gs,G30 y x) (gk:G30 y g) (gl:gv.length=gs.length) (gn:n<=g.first) (h0:∀k,k<gs.length->0<=rsT gs gv go k) (l:gs.length<=7) {S:Qm} (h:0<ZB y (Qx<|mT n gs gv go++[g]) S):X_hcome CH [.zow<|QY CH<|hT y n gs gv go ms,.fz<|QO g] (fun d=>∃S,0<ZB y (Qx<|mT n gs gv go++[g]) S/\d=Zl (Yt (mT n gs gv go++[g]) S))
def OZ:Qp ZaT ZaT (Q2 K9):=by walk_at"p"
def Aa (T:Bl mg) (t:HandC K CH) (XR:XC K mg "NoRoom" YR CR fR) (D:Mf K CH "come" "Hand.come" K9 ZaT) (U:QG P w K mg base "is_guest" ZaR 4 (QL (K:=K) R_isguest)) (Y:YA P w K mg base CH "refuse_past" ZaO 1 (Wf K ct WE (R_hpast CH)<|X_hpast CH)) (R:Gf P w K mg base "refuse_lack" Zaa 7 (spX K CR "some" R_refuse X_refuse)) (X:Zu P w K mg base CH "still_there" Zam 5 (Zk K<|R_hstill CH)) :
 YA P w K mg base CH "come" ZaT 8 (Bd K CH CR "some" R_hcome<|X_hcome CH):=by
 have O:∀{u:QF} {y:Yd} {n:Nat} {a:List Gs} {i:Ql} {j:Qk} {o:List Zb} {g:Gs} {E:XK},i.length=a.length->u[0]?=some (some<|.zow<|QY CH<|hT y n a i j o)->u[1]?=some (some<|.fz<|QO g)->a.length<=7->Qu K (tOp MK (Vs CH "still_there" (Zk K<|R_hstill CH) [] E (Q8 0) QQ)<|JF<|QI (Q8 1) QQ) u (.list<|(mT n a i j++[g]).map QO):=fun{u y n a i j o g E} gl e0 e1 l =>
  Qu.cast (EvO.fz<|Ra (as:=(mT n a i j).map QO) (bs:=[QO g]) (Qu.cast (EvO.fz<|ZA.o<|J1 Pb e0 Q6<|R_hstill.mk (n:=n) (rsT a i j) rfl rfl (fun k hk=>BE gl hk)<|by omega)<|by rw[Ro]) (EvO.fz<|V9 (Zn (Qq e1) ZG) Jb)<|by rw[Xl,Y0];show a.length+1<=1000;omega) (by rw[XB];rfl)
 have G:∀{u:QF} {g:Gs},u[1]?=some (some<|.fz<|QO g)->Qu K (tOp (rIx K) (Q8 1)<|tC<|.int 1) u (.int (g.first:Int)):=fun{u g} e=>Yb (ds:=[.int (g.line:Int),.int (g.first:Int),.int (g.last:Int),.int g.want,.int g.most]) (Qq e) QA rfl
 have Q:∀{y:Yd} {n:Nat} {a:List Gs} {i:Ql} {j:Qk} {g:Gs},(∀x∈a,G30 y x)->G30 y g->(∀k,k<a.length->0<=rsT a i j k)->∀x∈mT n a i j++[g],GOk y x:=fun J B L x I=>by
  rcases Xy.mp I with I|I
  .exact Bq J L x I
  .rw[Xh.mp I];exact Lw B.ok
 refine D.evHX OZ (fun M Z Ψ h=>by cases h;rfl) (fun Z Φ h=>by cases h;rfl) (by decide) (fun f cdv A z s H RR v M Z Ψ p q h=>?_) (fun f cdv A z s F H RR Z Φ p q hq h=>?_)
 .cases h with
  |@mk y n a i j o g ok J B gl gn L l h =>
    refine⟨_,(Q3 (Zq (VU<|Vl<|QJ U p<|Qo (Zf (pv 0) rfl)<|Qo (pv 1) Qs) (PSs.nox<|Q4 Hn) Zr)
 (Q3 (Z2<|UE Y t p (Dm (C:=ct)) (pv 0)<|Qo (QD QE (pv 1) Qw) Qs)
 (Q3 (Z2<|Sm R p (Bu q)<|Qo (Zf (pv 0) rfl)<|Qo (QU RA (WV X t p<|pv 0)<|ZC<|Qo (pv 1) Qs) Qs)
 (PSs.nox (Q3 (Z2<|VL PySem.F.plainAttrs_list PySem.F.slot_list_append PySem.F.type_list_append VP (Zf (pv 0) rfl)<|Qo (pv 1) Qs)
 (Q3 (Z2<|VL PySem.F.plainAttrs_list PySem.F.slot_list_append PySem.F.type_list_append VP (Zf (pv 0) rfl)<|Qo Qw Qs)
 (Q4<|QN<|QU Ym (Zo Vw (by rfl) T.len Vy<|Qo (Zf (pv 0) rfl) Qs) Qw))))))),?_⟩
    show EvR K _ [some<|.own v<|Zc CH<|hT y n a i j o,some<|.fz<|QO g] _
    walk_at"x"
    refine ZV (fun m=>m=[some<|.own v<|Zc CH<|hT y n a i j o,some<|.fz<|QO g]) (Zv (b:=false) (BR 0 rfl (VN (b:=true)<|ZJ<|Ze (Qv (Qu.cast (Jy (N:=hT y n a i j o) t rfl) rfl)<|Qv (Qq rfl) Q6)<|R_isguest.mk B)) (by rintro⟨⟩) fun _=>Zz rfl) ?_
    rintro _ rfl
    refine ZV (fun m=>m=[some<|.own v<|Zc CH<|hT y n a i j o,some<|.fz<|QO g]) (UL (GJ 0 rfl (fun r p=>by rw[p];exact GT rfl)<|Kd BA rfl (Qv (G rfl) Q6) (R_hpast.mk<|by show(n:Int)<=(g.first:Int);omega) DX) rfl) ?_
    rintro _ rfl
    refine ZV (fun m=>m=[some<|.own v<|Zc CH<|hT y n a i j o,some<|.fz<|QO g]) (UL (GJ 0 rfl (fun r p=>by rw[p];exact GT rfl)<|Ed (Qv (Qu.cast (Jy (N:=hT y n a i j o) t rfl) rfl)<|Qv (O gl rfl rfl l) Q6) (R_refuse.mk ok (Q J B L) (by rw[Xs,Y0];show a.length+1<=8;omega) h) q) rfl) ?_
    rintro _ rfl
    refine ZV (fun m=>m=[some<|.own v<|Zc CH { hT y n a i j o with known:=a.map QO++[QO g] },some<|.fz<|QO g]) (Ik t rfl (Qq rfl) (by show(a.map QO).length<1000;rw[Xl];omega) rfl) ?_
    rintro _ rfl
    refine ZV (fun m=>m=[some<|.own v<|Zc CH<|hT y n (a++[g]) (i++[0]) j o,some<|.fz<|QO g]) (Ia (n:=0) t rfl QA (by show i.length<1000;omega) ?_) ?_
    .simp[hT]
    rintro _ rfl
    refine Bx (Qu.cast (BL (d:=.int ((a.length:Int)+1-1)) 0 rfl rfl (Z8 (Qu.cast (WP<|GQ (N:=hT y n (a++[g]) (i++[0]) j o) t rfl) ?_) QA)) ?_) ⟨_,⟨rfl,rfl⟩,rfl⟩
    .show PyData.int (((a++[g]).map QO).length:Int)=_
     rw[Xl,Xs];rfl
    .rw[Int.add_sub_cancel]
 .cases h with
  |@mk y n a i j o g ok J B gl gn L l S h =>
    refine⟨_,(Q3 (Zq (VU<|Vl<|QJ U p<|Qo (Zf (pv 0) rfl)<|Qo (pv 1) Qs) (PSs.nox<|Q4 Hn) Zr)
 (Q3 (Z2<|UE Y t p (Dm (C:=ct)) (pv 0)<|Qo (QD QE (pv 1) Qw) Qs)
 (Q3 (Z2<|Sm R p (Bu q)<|Qo (Zf (pv 0) rfl)<|Qo (QU RA (WV X t p<|pv 0)<|ZC<|Qo (pv 1) Qs) Qs)
 (PSs.nox (Q3 (Z2<|VL PySem.F.plainAttrs_list PySem.F.slot_list_append PySem.F.type_list_append VP (Zf (pv 0) rfl)<|Qo (pv 1) Qs)
 (Q3 (Z2<|VL PySem.F.plainAttrs_list PySem.F.slot_list_append PySem.F.type_list_append VP (Zf (pv 0) rfl)<|Qo Qw Qs)
 (Q4<|QN<|QU Ym (Zo Vw (by rfl) T.len Vy<|Qo (Zf (pv 0) rfl) Qs) Qw))))))),?_⟩
    show EvZ K F H _ [some<|.zow<|QY CH<|hT y n a i j o,some<|.fz<|QO g]
    walk_at"x"
    refine RB (Zv (b:=false) (VN (b:=true)<|ZJ<|Ze (Qv (Qu.cast (Jy (N:=hT y n a i j o) t rfl) rfl)<|Qv (Qq rfl) Q6)<|R_isguest.mk B) (by rintro⟨⟩) fun _=>Zz rfl) ?_;refine RB (UL (Kd BA rfl (Qv (G rfl) Q6) (R_hpast.mk<|by show(n:Int)<=(g.first:Int);omega) DX) rfl) ?_;exact R5 (CD (Qv (Qu.cast (Jy (N:=hT y n a i j o) t rfl) rfl)<|Qv (O gl rfl rfl l) Q6) (X_refuse.mk ok (Q J B L) (by rw[Xs,Y0];show a.length+1<=8;omega) h) q hq)
noncomputable def gfD (f:Qn)(m:Nat):Zb:=((List.range m).filter fun k=>decide (f k > 0)).map fun(k:Nat)=>(.inl (k:Int),.int<|f k)
noncomputable def gvT (gv:Ql)(f:Qn)(m i:Nat):Ql:=(List.range m).map fun k=>gv.getD k 0+if k<i then f k else 0
def TO  (h:gv.length=m)(f:Qn):gvT gv f m 0=gv:=by
 subst h;apply List.ext_getElem?;intro i;by_cases a:i<gv.length
 .simp[gvT,a]
 .simp[gvT,a]
def Az  (h:m<=i):((gfD f m).any fun c=>decide (c.1=(.inl (i:Int):Key)))=false:=by
 rw[List.any_eq_false];intro x a;unfold gfD at a;obtain⟨k,b,rfl⟩:=XO.mp a;have b:=XI.mp (JE.mp b).1;simp only[decide_eq_true_eq];intro z;injection z with z;omega
def Cu  (h:f i > 0):Uw (gfD f i) (.inl (i:Int)) (.int<|f i)=gfD f (i+1):=by
 unfold Uw;rw[Az<|Xv _,Xa<|by decide];unfold gfD;rw[Y7,Uh,XB];simp[h]
def Ce  (h:¬f i > 0):gfD f (i+1)=gfD f i:=by
 unfold gfD;rw[Y7,Uh,XB];simp[h]
def FF (f:Qn)(m:Nat):(gfD f m).length<=m:=by
 unfold gfD;rw[Xl];exact X4 (List.length_filter_le _ _) (by simp)
def FP  (b:i<m):(gvT gv f m i).set i (gv.getD i 0+f i)=gvT gv f m (i+1):=by
 apply List.ext_getElem?
 intro j;by_cases a:j<m
 .by_cases e:j=i
  .subst e
   rw[Xj<|by simp[gvT,a]];simp[gvT,a]
  .rw[Xo<|Ne.symm e]
   simp only[gvT,Xn,List.getElem?_range a,YJ];congr 2
   by_cases c:j<i
   .rw[Xd c,Xd<|by omega]
   .rw[Xa c,Xa<|by omega]
 .rw[JB<|by simp[gvT];omega,JB<|by simp[gvT];omega]
def Fz  (h:f i=0):gvT gv f m (i+1)=gvT gv f m i:=by
 unfold gvT;refine XX fun k _=>?_
 congr 1
 by_cases c:k<i
 .rw[Xd c,Xd<|by omega]
 .by_cases a:k=i
  .subst a
   rw[Xd<|by omega,Xa c,h]
  .rw[Xa c,Xa<|by omega]
def R8  (a:k<m):(gvT gv f m i)[k]?=some (gv.getD k 0+if k<i then f k else 0):=by simp[gvT,a]
def EC   (b:i<G.m):((Wp y G φ).map fun a=>PyData.list<|a.map PyData.int)[i]?=some (.list<|(List.range y.T).map fun t=>PyData.int<|QM G φ t i):=by
 unfold Wp;simp[b]
inductive R_hturn:HandS->List OT->(OT->HandS->Prop)->Prop
 |mk {y:Yd} {n:Nat} {gs:List Gs} {gv:Ql} {go:Qk} {ms:List Zb} (ok:y.Ok) (hg:∀x∈gs,G30 y x) (gl:gv.length=gs.length) (hn:n<y.T) (h0:∀k,k<gs.length->0<=rsT gs gv go k) (l:gs.length<=8) (ml:ms.length<=8) :
  R_hturn (hT y n gs gv go ms) [] (fun r N'=>∃φ v,WJ y (Qx<|mT n gs gv go) φ/\r=.own v (dkP<|gfD (QM (Qx<|mT n gs gv go) φ n) gs.length)/\N'=hT y (n+1) gs (gvT gv (QM (Qx<|mT n gs gv go) φ n) gs.length gs.length) go (ms++[gfD (QM (Qx<|mT n gs gv go) φ n) gs.length]))
inductive X_hturn (CH:Addr):List OT->(Unit->Prop)->Prop
 |mk {y:Yd} {gs:List Gs} {gv:Ql} {go:Qk} {ms:List Zb}:X_hturn CH [.zow<|QY CH<|hT y y.T gs gv go ms] (fun _=>True)
def WW:Qp ["self","filling","gifts","number","takes"] Zam (Q2 K4):=by walk_at"p"
def CK (T:Bl mg) (J:HandC K CH) (D:Mf K CH "turn" "Hand.turn" K4 Zam) (Xa8:YA P w K mg base CH "refuse_past" ZaO 1 (Wf K ct WE (R_hpast CH)<|X_hpast CH)) (Z:QG P w K mg base "turns_of" ZaD 1 (QL (K:=K) R_turns)) (Y:QG P w K mg base "best_filling" Zaa 6 (Zk K R_great)) (Xa9:Zu P w K mg base CH "still_there" Zam 5 (Zk K<|R_hstill CH)) :
 YA P w K mg base CH "turn" Zam 7 (JG K CH ct WE R_hturn<|X_hturn CH):=by
 refine D.evHX WW (fun M I Ψ h=>by cases h;rfl) (fun I Φ h=>by cases h;rfl) (by decide) (fun f cdv A R s H RR v M I Ψ E G h=>?_) (fun f cdv A R s F H RR I Φ E G hq h=>?_)
 .cases h with
  |@mk y n a e g q ok hg gl hn h0 l ml =>
    refine⟨_,(Q3 (Z2<|UE Xa8 J E (Bu G) (pv 0)<|Qo (QU Ym (QJ Z E<|Qo (Zf (pv 0) rfl) Qs) Qw) Qs)
 (PSs.nox (Q3 (QW (i:=1) WW.nd rfl Qa<|QJ Y E<|Qo (Zf (pv 0) rfl)<|Qo (WV Xa9 J E<|pv 0) Qs)
 (Q3 (QW (i:=2) WW.nd rfl Qa Hq)
 (Q3 (ZX PassesOwn.never rfl (GW rfl T.enumerate<|Qo (pv 1) Qs) (Js (n:=2) rfl (ZQ (QX (i:=3) WW.nd rfl Qa)<|ZQ (QX (i:=4) WW.nd rfl Qa) Wu)) (Q4 (Zq (Z5 VJ (QD QE (pv 4)<|Zf (pv 0) rfl) Qw<|Zx _) (Q3 (DY (Ys E) (pv 2) (pv 3) (QD QE (pv 4)<|Zf (pv 0) rfl) rfl)
 (Q4<|UC (Zf (pv 0) rfl) (pv 3) UI (QD QE (pv 4)<|Zf (pv 0) rfl) G4 Yn)) Zr)))
 (Q3 (Z2<|VL PySem.F.plainAttrs_list PySem.F.slot_list_append PySem.F.type_list_append VP (Zf (pv 0) rfl)<|Qo (pv 2) Qs)
 (Q3 (Pt (pv 0) Qw R4)
 (Q4<|QN<|WS HL (by rfl) T.dict GF<|Qo (pv 2) Qs)))))))),?_⟩
    show EvR K _ [some<|.own v<|Zc CH<|hT y n a e g q,none,none,none,none] _
    walk_at"x"
    refine ZV (fun o=>o=[some<|.own v<|Zc CH<|hT y n a e g q,none,none,none,none]) (UL (GJ 0 rfl (fun r E=>by rw[E];exact GT rfl)<|Kd BA rfl (Qv (Z8 (Ze (Qv (Qu.cast (Jy (N:=hT y n a e g q) J rfl) rfl) Q6) R_turns.mk) QA) Q6) (R_hpast.mk<|by show(n:Int)<=(y.T:Int)-1;omega) G) rfl) ?_
    rintro _ rfl
    refine ZV (fun o=>∃B,WJ y (Qx<|mT n a e g) B/\o=[some<|.own v<|Zc CH<|hT y n a e g q,some<|.oll<|(Wp y (Qx<|mT n a e g) B).map fun p=>p.map PyData.int,none,none,none]) (WQ (GJ 0 rfl ?th<|Wx (Qv (Qu.cast (Jy (N:=hT y n a e g q) J rfl) rfl)<|Qv (Qu.cast (EvO.fz<|ZA.o<|J1 Pb rfl Q6<|R_hstill.mk (n:=n) (rsT a e g) rfl rfl (fun k hk=>BE gl hk)<|by omega)<|by rw[Ro]) Q6)<|R_great.mk ok (Bq hg h0)<|by rw[Y0];exact l) ?_) ?_
    case th =>
     rintro r ⟨B,_,rfl⟩
     refine A2 fun ds hd=>?_;obtain⟨p,_,rfl⟩:=XO.mp hd;intro d hd';obtain⟨x,_,rfl⟩:=XO.mp hd'
     exact⟨_,rfl⟩
    .rintro r ⟨B,z,rfl⟩
     exact⟨B,z,rfl⟩
    rintro _ ⟨B,z,rfl⟩
    refine LZ 1 rfl rfl ?_
    walk_at"d"
    rw[X7];have Gm:(Qx<|mT n a e g).m=a.length:=Y0 n a e g;have fn:∀k,k<a.length->0<=QM (Qx<|mT n a e g) B n k:=fun k hk=>(z.1.tak (by rw[Gm];exact hk) hn).1;have O:∀i,i<a.length->((Wp y (Qx<|mT n a e g) B).map (PyData.list ∘ fun p=>p.map PyData.int))[i]?=some (.list<|(List.range y.T).map fun t=>PyData.int<|QM (Qx<|mT n a e g) B t i):=fun i L=>EC (by rw[Gm];exact L)
    have Q:((Wp y (Qx<|mT n a e g) B).map (PyData.list ∘ fun p=>p.map PyData.int)).length=a.length:=by
     rw[Xl];unfold Wp;rw[Xl,WC,Gm]
    generalize ((Wp y (Qx<|mT n a e g) B).map (PyData.list ∘ fun p=>p.map PyData.int))=u at O Q;refine ZV (fun o=>∃w,o=[some<|.own v<|Zc CH<|hT y n a e g q,some<|.fz<|.list u,some<|.own w<|dkP [],none,none]) (BG Aw fun w=>⟨w,rfl⟩) ?_
    rintro _ ⟨w,rfl⟩
    generalize hf:QM (Qx<|mT n a e g) B n=f at fn;have S:∀i,i<a.length->∃I,u[i]?=some (.list I)/\atI I (n:Int)=some (.int<|f i):=fun i L=>⟨_,O i L,by rw[YO (by omega)<|by omega,Xp,<- hf]⟩;refine ZV (fun o=>∃X U:Option OT,o=[some<|.own v<|Zc CH<|hT y n a (gvT e f a.length a.length) g q,some<|.fz<|.list u,some<|.own w<|dkP<|gfD f a.length,X,U]) (V0 (fun i o=>∃X U:Option OT,o=[some<|.own v<|Zc CH<|hT y n a (gvT e f a.length i) g q,some<|.fz<|.list u,some<|.own w<|dkP<|gfD f i,X,U]) (GC<|Qv (Qq rfl) Q6) ⟨_,_,by rw[TO gl];rfl⟩ ?st ?fin) ?_
    case fin =>
     intro o h;rw[Mn,Q]at h;exact h
    case st =>
     rintro i d _ hd ⟨X,U,rfl⟩
     obtain⟨d1,e1,rfl⟩:=BT hd
     have L:i<a.length:=by
      have:=(Xf.mp e1).1
      omega
     obtain⟨I,t1,t2⟩:=S i L;obtain rfl:d1=.list I:=by rw[e1]at t1;exact Option.some.inj t1
     refine⟨_,WK (ds:=[.int (i:Int),.list I]) (ZT Zj<|ZT Zj Wt) rfl,?_⟩
     walk_at"d"
     have tk:∀{ρ:QF} {N:HandS},N.now=(n:Int)->ρ[0]?=some (some<|.zow<|QY CH N)->ρ[4]?=some (some<|.fz<|.list I)->Qu K (tOp (rIx K) (Q8 4)<|Va K (Q8 0) "present") ρ (.int<|f i):=fun{ρ N} hn e0 e4=>Ve (Qq e4) (Qu.cast (GL J e0)<|by rw[hn]) t2;refine Zv (b:=decide (f i > 0)) (Za.cast (BR 0 rfl (Zy<|Vo (tk (N:=hT y n a (gvT e f a.length i) g q) rfl rfl rfl) QA)) rfl) (fun c=>?_) (fun c=>Zz ?_)
     .have c:=XW c
      refine QH (Au (k:=.inl (i:Int)) (d:=.int (f i)) rfl (BL 0 rfl rfl (tk (N:=hT y n a (gvT e f a.length i) g q) rfl rfl rfl)) (Qq rfl) (M9 (FF f i)<|Vg<|by omega) ?_)
      walk_at"d"
      rw[Cu c];refine Fy (k:=(i:Int)) (m:=e.getD i 0+0) (n:=f i) J rfl (Qq rfl) (by omega) (by show(gvT e f a.length i)[(i:Int).toNat]?=_;rw[Xp,R8 L,Xa<|Yv i]) (BL 0 rfl rfl (tk (N:=hT y n a (gvT e f a.length i) g q) rfl rfl rfl)) ?_;dsimp only[List.set,hT];rw[Xp,YH,FP L];exact⟨_,_,rfl⟩
     .have c:=Ug c
      have fi:=fn i L;rw[Ce c,Fz (show f i=0 by omega)]
      exact⟨_,_,rfl⟩
    rintro _ ⟨X,U,rfl⟩
    refine CQ (j:=2) (by decide) J rfl rfl (by show q.length<1000;omega) fun w'=>⟨_,⟨B,w',z,?_,?_⟩,rfl⟩
    .rw[hf]
    .rw[hf]
     rfl
 .cases h with
  |@mk y a e g q =>
    refine⟨_,(Q3 (Z2<|UE Xa8 J E (Bu G) (pv 0)<|Qo (QU Ym (QJ Z E<|Qo (Zf (pv 0) rfl) Qs) Qw) Qs)
 (PSs.nox (Q3 (QW (i:=1) WW.nd rfl Qa<|QJ Y E<|Qo (Zf (pv 0) rfl)<|Qo (WV Xa9 J E<|pv 0) Qs)
 (Q3 (QW (i:=2) WW.nd rfl Qa Hq)
 (Q3 (ZX PassesOwn.never rfl (GW rfl T.enumerate<|Qo (pv 1) Qs) (Js (n:=2) rfl (ZQ (QX (i:=3) WW.nd rfl Qa)<|ZQ (QX (i:=4) WW.nd rfl Qa) Wu)) (Q4 (Zq (Z5 VJ (QD QE (pv 4)<|Zf (pv 0) rfl) Qw<|Zx _) (Q3 (DY (Ys E) (pv 2) (pv 3) (QD QE (pv 4)<|Zf (pv 0) rfl) rfl)
 (Q4<|UC (Zf (pv 0) rfl) (pv 3) UI (QD QE (pv 4)<|Zf (pv 0) rfl) G4 Yn)) Zr)))
 (Q3 (Z2<|VL PySem.F.plainAttrs_list PySem.F.slot_list_append PySem.F.type_list_append VP (Zf (pv 0) rfl)<|Qo (pv 2) Qs)
 (Q3 (Pt (pv 0) Qw R4)
 (Q4<|QN<|WS HL (by rfl) T.dict GF<|Qo (pv 2) Qs)))))))),?_⟩
    show EvZ K F H _ [some<|.zow<|QY CH<|hT y y.T a e g q,none,none,none,none]
    walk_at"x"
    exact R5 (Oa bkN BA rfl (Qv (Z8 (Ze (Qv (Qu.cast (Jy (N:=hT y y.T a e g q) J rfl) rfl) Q6) R_turns.mk) QA) Q6) (X_hpast.mk<|by show(y.T:Int)-1<(y.T:Int);omega) G hq)
inductive R_lcome:HandS->List OT->(OT->HandS->Prop)->Prop
 | mk {y:Yd} {n:Nat} {gs:List Gs} {gv:Ql} {go:Qk} {ms:List Zb} {g:Gs} (ok:y.Ok) (hg:∀x∈gs,G30 y x) (gk:G30 y g) (gl:gv.length=gs.length) (gn:n<=g.first) (h0:∀k,k<gs.length->0<=rsT gs gv go k) (l:gs.length<=7) (h:∀S,ZB y (Qx<|mT n gs gv go++[g]) S<=0):R_lcome (hT y n gs gv go ms) [.fz<|QO g] (fun r N'=>r=.ol [.str "in",.int (gs.length:Int)]/\N'=hT y n (gs++[g]) (gv++[0]) go ms)
inductive X_lcome (CH:Addr):List OT->(OT->Prop)->Prop
 | mk {y:Yd} {n:Nat} {gs:List Gs} {gv:Ql} {go:Qk} {ms:List Zb} {g:Gs} (ok:y.Ok) (hg:∀x∈gs,G30 y x) (gk:G30 y g) (gl:gv.length=gs.length) (gn:n<=g.first) (h0:∀k,k<gs.length->0<=rsT gs gv go k) (l:gs.length<=7) {S:Qm} (h:0<ZB y (Qx<|mT n gs gv go++[g]) S):X_lcome CH [.zow<|QY CH<|hT y n gs gv go ms,.fz<|QO g] (fun r=>∃v S,0<ZB y (Qx<|mT n gs gv go++[g]) S/\r=.own v (lsO (.str "room")<|Zl<|Yt (mT n gs gv go++[g]) S))
def YY:Qp Zaq Zaz (Q2 GY):=by walk_at"p"
def Ay (T:Bl mg) (UH:HandC K CH) (XR:XC K mg "NoRoom" YR CR fR) (o:TF K mg YR CR cg ct) (D:Df K mg "_law_come" GY Zaz) (J:YA P w K mg base CH "come" ZaT 8 (Bd K CH CR "some" R_hcome<|X_hcome CH)) :
 QG P w K mg base "_law_come" Zaz 9 (Bi K CH R_lcome<|X_lcome CH):=by
 refine D.evH2 YY (fun M L Ψ h=>by cases h;rfl) (fun L Φ h=>by cases h;rfl) (by decide) (fun f cdv A Q s H E v M L Ψ I h=>?_) (fun _ _ _ _ s H E L Φ I h=>?_)
 .have U:=I.units
  cases h with
  |@mk y n t z B G g R X gk gl gn h0 l h =>
    refine⟨_,(Q3 (QW (i:=2) YY.nd rfl Qa B1)
 (Q3 (Ka (j:=3) o.em rfl rfl rfl o.my YY.nd rfl (.inr ⟨rfl,rfl⟩) (fun D O=>(Q4<|QW (i:=2) YY.nd rfl Qa<|ZC<|Qo Yc<|Qo (UE J UH I HQ (pv 0)<|Qo (pv 1) Qs) Qs)) (fun e O=>(Q3 (QW (i:=4) YY.nd rfl (Or.inr rfl)<|ZC<|Qo (Zo (show Z7 _ (.builtin "isinstance") (Yr K CR) from Wk o.is) (by rfl) T.isi VO<|Qo (pv 3)<|Qo (YF (v:=.ref _) rfl o.m1 rfl) Qs)<|Qo (Zo (show Z7 _ (.builtin "isinstance") (Yr K CR) from Wk o.is) (by rfl) T.isi VO<|Qo (pv 3)<|Qo (YF (v:=.ref _) rfl o.m2 rfl) Qs)<|Qo (Zo (show Z7 _ (.builtin "isinstance") (Yr K CR) from Wk o.is) (by rfl) T.isi VO<|Qo (pv 3)<|Qo (YF (v:=.ref _) rfl XR.m rfl) Qs) Qs)
 (Q3 (Kb (i:=2) YY.nd rfl rfl (NX:=Zaq) (sc:=Q2 GY) (N:=ZaC) (f:=[none,some 4,some 3]) (by decide +kernel) rfl rfl (P6 (C:=CR) (e:=e) rfl rfl T.range<|Qo Qw Qs) (fun _=>(QX (i:=0) (show(ZaC:Qh).Nodup by decide +kernel) rfl Qa)) (fun _=>VC) (fun _=>(Ua<|PW.pt<|U4 (Vl<|QD (show IxR _ (rIx K) from QE) (pv 1)<|pv 0)<|UB<|Vl<|Zo (show Z7 _ (.builtin "isinstance") (Yr K CR) from Wk o.is) (by rfl) T.isi VO<|Qo (pv 2)<|Qo (YW (v:=.ty "ValueError") rfl T.ValueError KS rfl) Qs)) (fun _=>(QD (show IxR _ (rIx K) from QE) (ZC<|Qo Yc<|Qo Yc<|Qo Yc Qs)<|pv 0)) rfl)
 (Q4<|Zq (Z5 (Bz U) (pv 2) (ZC<|Qo Yc Qs)<|Zx _) (Q4<|Z2 (show PE _ _ (tBM K "list" VV _ _) from VL PySem.F.plainAttrs_list PySem.F.slot_list_append PySem.F.type_list_append VP (pv 2)<|Qo (Sk o.gt o.na<|pv 3) Qs)) Zr)))))
 (Q4<|QN<|pv 2))),?_⟩
    show EvR K _ [some<|.own v<|Zc CH<|hT y n t z B G,some<|.fz<|QO g,none,none,none] _
    walk_at"x"
    refine ZV (fun u=>u=[some<|.own v<|Zc CH<|hT y n t z B G,some<|.fz<|QO g,some<|.fz .none,none,none]) (ZU Gw rfl) ?_
    rintro _ rfl
    refine ZV (fun u=>u=[some<|.own v<|Zc CH<|hT y n (t++[g]) (z++[0]) B G,some<|.fz<|QO g,some<|.ol [.str "in",.int (t.length:Int)],none,none]) (Ca fun E'=>A9 Sx rfl Yu rfl (Qv (Qq rfl) Q6) (R_hcome.mk R X gk gl gn h0 l h) HP ?_) ?_
    .rintro r N' ⟨rfl,rfl⟩
     exact⟨_,_,rfl,rfl,rfl⟩
    rintro _ rfl
    exact C1 (j:=2) (by decide) rfl ⟨_,⟨rfl,rfl⟩,rfl⟩
 .have U:=I.units
  cases h with
  |@mk y n t z B G g R X gk gl gn h0 l S h =>
    refine⟨_,(Q3 (QW (i:=2) YY.nd rfl Qa B1)
 (Q3 (Ka (j:=3) o.em rfl rfl rfl o.my YY.nd rfl (.inr ⟨rfl,rfl⟩) (fun D O=>(Q4<|QW (i:=2) YY.nd rfl Qa<|ZC<|Qo Yc<|Qo (UE J UH I HQ (pv 0)<|Qo (pv 1) Qs) Qs)) (fun e O=>(Q3 (QW (i:=4) YY.nd rfl (Or.inr rfl)<|ZC<|Qo (Zo (show Z7 _ (.builtin "isinstance") (Yr K CR) from Wk o.is) (by rfl) T.isi VO<|Qo (pv 3)<|Qo (YF (v:=.ref _) rfl o.m1 rfl) Qs)<|Qo (Zo (show Z7 _ (.builtin "isinstance") (Yr K CR) from Wk o.is) (by rfl) T.isi VO<|Qo (pv 3)<|Qo (YF (v:=.ref _) rfl o.m2 rfl) Qs)<|Qo (Zo (show Z7 _ (.builtin "isinstance") (Yr K CR) from Wk o.is) (by rfl) T.isi VO<|Qo (pv 3)<|Qo (YF (v:=.ref _) rfl XR.m rfl) Qs) Qs)
 (Q3 (Kb (i:=2) YY.nd rfl rfl (NX:=Zaq) (sc:=Q2 GY) (N:=ZaC) (f:=[none,some 4,some 3]) (by decide +kernel) rfl rfl (P6 (C:=CR) (e:=e) rfl rfl T.range<|Qo Qw Qs) (fun _=>(QX (i:=0) (show(ZaC:Qh).Nodup by decide +kernel) rfl Qa)) (fun _=>VC) (fun _=>(Ua<|PW.pt<|U4 (Vl<|QD (show IxR _ (rIx K) from QE) (pv 1)<|pv 0)<|UB<|Vl<|Zo (show Z7 _ (.builtin "isinstance") (Yr K CR) from Wk o.is) (by rfl) T.isi VO<|Qo (pv 2)<|Qo (YW (v:=.ty "ValueError") rfl T.ValueError KS rfl) Qs)) (fun _=>(QD (show IxR _ (rIx K) from QE) (ZC<|Qo Yc<|Qo Yc<|Qo Yc Qs)<|pv 0)) rfl)
 (Q4<|Zq (Z5 (Bz U) (pv 2) (ZC<|Qo Yc Qs)<|Zx _) (Q4<|Z2 (show PE _ _ (tBM K "list" VV _ _) from VL PySem.F.plainAttrs_list PySem.F.slot_list_append PySem.F.type_list_append VP (pv 2)<|Qo (Sk o.gt o.na<|pv 3) Qs)) Zr)))))
 (Q4<|QN<|pv 2))),?_⟩
    show Q1 K _ [some<|.zow<|QY CH<|hT y n t z B G,some<|.fz<|QO g,none,none,none] _
    walk_at"x"
    refine QH (ZU (d:=.none) Gw ?_)
    walk_at"d"
    apply QH
    apply Oe (C:=CR) (f := "some") (n:=5) (j:=3) (fun d=>∃S,0<ZB y (Qx<|mT n t z B++[g]) S/\d=Zl (Yt (mT n t z B++[g]) S)) (by decide)
    case hz =>
     intro E' F0 H0 F σ H' x St k;exact CM (F0:=F) (H0:=H') Sx rfl Yu (Qv (Qq rfl) Q6) (X_hcome.mk R X gk gl gn h0 l h) HP (fun F' H'' e dct d Y x' he fl=>k F' H'' e dct d Y x' he fl) (Q0.refl St.sub) St
    case hth =>
     rintro _ e dx q ⟨S',hS',rfl⟩
     dsimp only[List.set,List.replicate];refine QH (VM (V9 (ds:=[.bool false,.bool false,.bool true]) (Zn (D8 rfl rfl o.kg)<|Zn (D8 rfl rfl o.kt)<|Zn (D8 rfl rfl o.k1) ZG)<|by show(3:Nat)<=1000;decide) ?_)
     walk_at"d"
     refine JS 4 rfl ?_
     walk_at"d"
     have fl:JZ [PyData.str "room"]:=fun d Y=>by rw[Xh.mp Y];exact⟨_,rfl⟩
     refine QH (VM (r:=.ol [.str "room"]) (Ai 3 rfl fl<|EvO.cast (JY (xs:=List.range 3) (enc:=fun(k:Nat)=>PyData.int (k:Int)) (h:=fun(k:Nat)=>([.str "guest",.str "time",.str "room"]:Qd).getD k .none) (p:=fun k=>decide (k=2)) ?ei (by decide) ?el) rfl) ?_)
     case ei=>exact EvI.cast (E4 (i:=3) rfl (Qv QA Q6) (by rw[z62];decide)<|by rw[z62];decide) rfl
     case el =>
      intro k hk c;have hk:=XI.mp hk;refine⟨_,Zj,?_⟩
      walk_at"e"
      have im:atI [PyData.bool false,.bool false,.bool true] (k:Int)=some (PyData.bool<|decide (k=2)):=by
       obtain rfl|rfl|rfl:k=0\/k=1\/k=2:=by omega
       all_goals rfl
      refine⟨Za.cast (U0 (b:=decide (k=2)) (c:=true) (ZJ<|Ve (Qq rfl) (Qq rfl) im) fun _=>ZJ<|L8 rfl rfl o.k2)<|by rw[Bool.and_true],fun Z=>?_⟩;have Z:=XW Z;subst Z;exact Ve (EvO.fz<|V9 (ds:=[.str "guest",.str "time",.str "room"]) (Zn Yu<|Zn Yu<|Zn Yu ZG)<|by show(3:Nat)<=1000;decide) (Qq rfl) rfl
     walk_at"d"
     have fr:Yq (.list [.str "room"]):=(Sh (m:=0)<|GD ⟨by decide +kernel,XQ _⟩ DE).fine (by decide);refine Zv (b:=true) (GM 2 rfl rfl (Za.cast (Zy<|Gx (a:=.list [.str "room"]) (b:=.list [.str "room"]) (Qq rfl) (EvO.fz<|V9 (Zn Yu ZG) Jb) fr fr)<|by rw[BQ fr])) (fun _=>?_) (by rintro⟨⟩);refine AO (by decide) rfl rfl fun v=>?_
     walk_at"d"
     exact Hh rfl ⟨v,S',hS',rfl⟩
theorem Kh {f:Qn}{t:Nat}:∀{n:Nat},(∀k,k<n->0<=f k)->t<n->f t<=Qz f n
 |0,_,h=>by omega
 |n+1,a,h=>by
   rw[Qz];have c:=BB (f:=f) (n:=n) fun k b=>a k (by omega);have d:=a n (by omega)
   by_cases e:t=n
   .subst e;omega
   .have:=Kh (f:=f) (n:=n) (fun k b=>a k<|by omega) (show t<n by omega)
    omega
def EB (f:Qn)(m:Nat):JQ (gfD f m):=fun x a=>by
 unfold gfD at a;obtain⟨k,_,rfl⟩:=XO.mp a
 exact⟨_,_,rfl,rfl⟩
def CB (gv:Ql)(f:Qn)(m i:Nat):(gvT gv f m i).length=m:=by simp[gvT]
def DS  (a:k<m):(gvT gv f m m).getD k 0=gv.getD k 0+f k:=by
 rw[List.getD,R8 a,Xd a];rfl
def DV    (g:WJ y (Qx<|mT n gs gv go) φ)(hn:n<y.T)(h:k<gs.length):QM (Qx<|mT n gs gv go) φ n k<=rsT gs gv go k:=by
 have F:=g.1;have d:k<(Qx<|mT n gs gv go).m:=by show k<(mT n gs gv go).length;rw[Y0];exact h
 have a:=Kh (f:=fun t=>QM (Qx<|mT n gs gv go) φ t k) (fun t i=>(F.tak d i).1) hn;have b:=F.total d;have c:=(F.want d).2
 have e:(Qx<|mT n gs gv go).wa k=rsT gs gv go k:=by
  show((mT n gs gv go).getD k default).want=_
  rw[Yl h];rfl
 omega
def ER    (b:WJ y (Qx<|mT n gs gv go) φ)(hn:n<y.T):∀k,k<gs.length->0<=rsT gs (gvT gv (QM (Qx<|mT n gs gv go) φ n) gs.length gs.length) go k:=fun k d=>by
 have a:=DV b hn d;unfold rsT at a ⊢;by_cases c:k∈go
 .rw[Xd c];exact Wb _
 .rw[Xa c]at a ⊢
  rw[DS d];omega
theorem P4 {y:Yd}{b own:Qn}(d:∀l,0<=b l)(c:∀l,0<=own l):∀i l,0<=Vk y b own i l
 |0,l=>c l
 |i+1,l=>by
   have a:=P4 (y:=y) d c i;show 0<=Vk y b own i l+_;have g:=a l;have f:=a (y.ls.length-1-i);have e:=d (y.ls.length-1-i)
   split<;>omega
def P1 (f:y.Ok)(d:∀l,0<=b l)(e:∀l,0<=own l):0<=passes y b own 0:=by
 have a:=P4 (y:=y) d e (y.ls.length-1) 0;have c:=d 0;unfold passes V8;omega
theorem Tw {y:Yd}{b:Qn}(c:∀l,0<=b l):∀i l,Vk y b (fun _=>0) i l=0
 |0,l=>rfl
 |i+1,l=>by
   have a:=Tw (y:=y) c i;show Vk y b (fun _=>0) i l+_=0;rw[a l,a<|y.ls.length-1-i];have d:=c (y.ls.length-1-i)
   split<;>omega
def Tp (e:y.Ok)(d:∀l,0<=b l):passes y b (fun _=>0) 0=0:=by
 have a:=Tw (y:=y) d (y.ls.length-1) 0;have c:=d 0;unfold passes V8;omega
def Ey  (n:y.Ok)(p:∀g∈gs,GOk y g)(j:WJ y (Qx gs) φ)(h:∀S,ZB y (Qx gs) S<=0)(i:k<gs.length):Qz (fun t=>QM (Qx gs) φ t k) y.T=(gs.getD k default).want:=by
 obtain⟨F,m,o,r,q⟩:=j;have a:Gn y (Qx gs) φ=ZB y (Qx gs) (Vr m):=F.lack n (G2 p) r o q;have b:=h (Vr m)
 have l:∀k,k<(Qx gs).m->0<=(Qx gs).wa k-Qz (fun t=>QM (Qx gs) φ t k) y.T:=fun k i=>by
  rw[F.total i];have:=F.want i;omega
 have c:=Kh (f:=fun k=>(Qx gs).wa k-Qz (fun t=>QM (Qx gs) φ t k) y.T) l (show k<(Qx gs).m from i);have d:=l k i;have e:(Qx gs).wa k=(gs.getD k default).want:=rfl;unfold Gn at a;have s:(Qx gs).wa k-Qz (fun t=>QM (Qx gs) φ t k) y.T<=Qz (fun k=>(Qx gs).wa k-Qz (fun t=>QM (Qx gs) φ t k) y.T) (Qx gs).m:=c;omega
def IX   (s:y.Ok)(E:∀x∈gs,G30 y x)(h0:∀k,k<gs.length->0<=rsT gs gv go k)(j:WJ y (Qx<|mT n gs gv go) φ)(hn:n<y.T)
 (h:∀S,ZB y (Qx<|mT n gs gv go) S<=0):∀S,ZB y (Qx<|mT (n+1) gs (gvT gv (QM (Qx<|mT n gs gv go) φ n) gs.length gs.length) go) S<=0:=fun S=>by
 have D:=Bq (y:=y) (n:=n) E h0;have F:=j.1;generalize G:QM (Qx<|mT n gs gv go) φ n=f;have u:(Qx<|mT n gs gv go).m=gs.length:=Y0 n gs gv go;have p:(Qx<|mT (n+1) gs (gvT gv f gs.length gs.length) go).m=gs.length:=Y0 _ _ _ _
 have v:∀k,k<gs.length->Qz (fun t=>QM (Qx<|mT n gs gv go) φ t k) y.T=rsT gs gv go k:=fun k i=>by
  rw[Ey s D j h (show k<(mT n gs gv go).length by rw[Y0];exact i),Yl i]
  rfl
 have m:∀t k,t<n->k<gs.length->QM (Qx<|mT n gs gv go) φ t k=0:=fun t k q i=>by
  have a:=F.tak (show k<(Qx<|mT n gs gv go).m by rw[u];exact i) (show t<y.T by omega)
  have b:moT (Qx<|mT n gs gv go) t k=0:=by
   unfold moT;rw[Xa];show ¬ZH ((mT n gs gv go).getD k default) (t:Int)=true;rw[Yl i];unfold ZH stl;simp only[WB,decide_eq_true_eq,not_and];intro z;have:n<=max (gs.getD k default).first n:=Nat.le_max_right _ _;omega
  omega
 have o:∀k,k<gs.length->rsT gs (gvT gv f gs.length gs.length) go k=Qz (fun t=>if n<t then QM (Qx<|mT n gs gv go) φ t k else 0) y.T:=fun k i=>by
  have J:∀T,n<T->Qz (fun t=>QM (Qx<|mT n gs gv go) φ t k) T=f k+Qz (fun t=>if n<t then QM (Qx<|mT n gs gv go) φ t k else 0) T:=fun T=>by
   induction T with
   |zero=>intro z;omega
   |succ T L =>
     intro z;rw[Qz,Qz];by_cases c:n<T
     .rw[L c,Xd c]
      omega
     .have e:T=n:=by omega
      subst e;have I:Qz (fun t=>QM (Qx<|mT T gs gv go) φ t k) T=0:=by
       rw[Zi (g:=fun _=>0) fun t q=>m t k q i,Vh]
      have H:Qz (fun t=>if T<t then QM (Qx<|mT T gs gv go) φ t k else 0) T=0:=by
       rw[Zi (g:=fun _=>0) fun t q=>Xa<|by omega,Vh]
      rw[I,H,Xa<|by omega,<- G];omega
  have a:=J y.T hn;have b:=v k i
  have B:k∈go->f k=0:=fun A=>by
   have c:rsT gs gv go k=0:=by unfold rsT;rw[Xd A]
   have d:=DV j hn i;have e:=(F.tak (show k<(Qx<|mT n gs gv go).m by rw[u];exact i) hn).1;rw[G]at d e;omega
  unfold rsT at b ⊢;by_cases c:k∈go
  .rw[Xd c]at b ⊢
   have:=B c
   omega
  .rw[Xa c]at b ⊢
   rw[DS i];omega
 have U:Qz (QZ S (Qx<|mT (n+1) gs (gvT gv f gs.length gs.length) go).wa) gs.length=Qz (fun t=>if n<t then Qz (QZ S<|QM (Qx<|mT n gs gv go) φ t) gs.length else 0) y.T:=by
  have R:Qz (QZ S (Qx<|mT (n+1) gs (gvT gv f gs.length gs.length) go).wa) gs.length=Qz (fun k=>Qz (fun t=>if n<t then QZ S (QM (Qx<|mT n gs gv go) φ t) k else 0) y.T) gs.length:=Zi fun k i=>by
   unfold QZ;by_cases c:S k=true
   .simp only[Xd c]
    rw[<- o k i];show((mT (n+1) gs (gvT gv f gs.length gs.length) go).getD k default).want=_;rw[Yl i];rfl
   .simp only[Xa c,ite_self]
    rw[Vh]
  rw[R,GU];refine Zi fun t q=>?_
  by_cases c:n<t
  .rw[Xd c]
   exact Zi fun k _=>Xd c
  .rw[Xa c,Zi (g:=fun _=>0) fun k _=>Xa c,Vh]
 have X:Qz (fun t=>if n<t then Qz (QZ S<|QM (Qx<|mT n gs gv go) φ t) gs.length else 0) y.T<=Qz (fun t=>passes y (fun l=>Z3 y l t) (V2 (Qx<|mT (n+1) gs (gvT gv f gs.length gs.length) go) S t) 0) y.T:=YU fun t q=>by
  have r:∀l,0<=V2 (Qx<|mT (n+1) gs (gvT gv f gs.length gs.length) go) S t l:=fun l=>by
   unfold V2;refine BB fun k i=>Int.mul_nonneg ?_ ?_
   .unfold QZ
    split
    .unfold moT
     split
     .show 0<=((mT (n+1) gs (gvT gv f gs.length gs.length) go).getD k default).most
      rw[p]at i;rw[Yl i];have:=(E (gs.getD k default)<|by simp[i]).ok.m1;show 0<=(gs.getD k default).most;omega
     .exact Wb _
    .exact Wb _
   .unfold ind;split<;>decide
  by_cases c:n<t
  .rw[Xd c]
   have a:=F.no_more s (G2 D) S q
   rw[u]at a;have Q:V2 (Qx<|mT (n+1) gs (gvT gv f gs.length gs.length) go) S t=V2 (Qx<|mT n gs gv go) S t:=funext fun l=>by
    unfold V2;rw[u,p];refine Zi fun k i=>?_
    have O:moT (Qx<|mT (n+1) gs (gvT gv f gs.length gs.length) go) t k=moT (Qx<|mT n gs gv go) t k:=by
     unfold moT;show(if ZH ((mT (n+1) gs (gvT gv f gs.length gs.length) go).getD k default) (t:Int)=true then ((mT (n+1) gs (gvT gv f gs.length gs.length) go).getD k default).most else 0)=if ZH ((mT n gs gv go).getD k default) (t:Int)=true then ((mT n gs gv go).getD k default).most else 0
     rw[Yl i,Yl i];have N:ZH (stl gs (n+1) (rsT gs (gvT gv f gs.length gs.length) go) k) (t:Int)=ZH (stl gs n (rsT gs gv go) k) (t:Int):=by
      unfold ZH stl;congr 1;refine decide_eq_decide.mpr ?_
      show(((max (gs.getD k default).first (n+1):Nat):Int)<=(t:Int))↔(((max (gs.getD k default).first n:Nat):Int)<=(t:Int))
      omega
     rw[N];rfl
    have M:(Qx<|mT (n+1) gs (gvT gv f gs.length gs.length) go).ln k=(Qx<|mT n gs gv go).ln k:=by
     show((mT (n+1) gs (gvT gv f gs.length gs.length) go).getD k default).line=((mT n gs gv go).getD k default).line
     rw[Yl i,Yl i];rfl
    rw[M];unfold QZ;rw[O]
   rw[Q];exact a
  .rw[Xa c]
   exact P1 s (fun l=>B0 s l t) r
 unfold ZB;rw[p,U];omega
def Pm   (f:y.Ok)(A:∀x∈gs,G30 y x)(h0:∀k,k<gs.length->0<=rsT gs gv go k)(h:∀S,ZB y (Qx<|mT n gs gv go) S<=0)(b:k<gs.length)(v:(gs.getD k default).last<n):rsT gs gv go k=0:=by
 have a:=h (fun j=>decide (j=k));have r:(Qx<|mT n gs gv go).m=gs.length:=Y0 n gs gv go
 have q:Qz (QZ (fun j=>decide (j=k)) (Qx<|mT n gs gv go).wa) (Qx<|mT n gs gv go).m=rsT gs gv go k:=by
  rw[r];have d:∀m,k<m->Qz (QZ (fun j=>decide (j=k)) (Qx<|mT n gs gv go).wa) m=(Qx<|mT n gs gv go).wa k:=fun m=>by
   induction m with
   |zero=>intro z;omega
   |succ m i =>
     intro z;rw[Qz];by_cases c:k<m
     .rw[i c]
      unfold QZ;rw[Xa<|by simp;omega];omega
     .have:m=k:=by omega
      subst this;have e:Qz (QZ (fun j=>decide (j=m)) (Qx<|mT n gs gv go).wa) m=0:=by
       rw[Zi (g:=fun _=>0) fun j o=>?_,Vh];unfold QZ;rw[Xa<|by simp;omega]
      rw[e];unfold QZ;rw[Xd<|by simp];omega
  rw[d _ b];show((mT n gs gv go).getD k default).want=_;rw[Yl b];rfl
 have p:∀t,t<y.T->passes y (fun l=>Z3 y l t) (V2 (Qx<|mT n gs gv go) (fun j=>decide (j=k)) t) 0=0:=fun t u=>by
  have z:V2 (Qx<|mT n gs gv go) (fun j=>decide (j=k)) t=fun _=>0:=funext fun l=>by
   unfold V2;rw[Zi (g:=fun _=>0) fun j o=>?_,Vh];unfold QZ;by_cases c:j=k
   .subst c
    rw[Xd<|by simp];have:moT (Qx<|mT n gs gv go) t j=0:=by
     unfold moT;rw[Xa];show ¬ZH ((mT n gs gv go).getD j default) (t:Int)=true;rw[Yl b];unfold ZH stl;simp only[WB,decide_eq_true_eq,not_and];intro e s;have:n<=max (gs.getD j default).first n:=Nat.le_max_right _ _;omega
    rw[this,Int.zero_mul]
   .rw[Xa<|by simp[c],Int.zero_mul]
  rw[z];exact Tp f (fun l=>B0 f l t)
 unfold ZB at a;rw[q,Zi (g:=fun _=>0) p,Vh]at a
 have:=h0 k b
 omega
inductive R_hnow (CH:Addr):List OT->(OT->Prop)->Prop
 |mk {N:HandS}:R_hnow CH [.zow<|QY CH N] (fun r=>r=.fz (.int N.now))
def OF:Qp Zam Zam (Q2 Kv):=by walk_at"p"
def FO (T:Bl mg) (c:HandC K CH) (D:Mf K CH "now" "Hand.now" Kv Zam):Zu P w K mg base CH "now" Zam 1 (Zk K<|R_hnow CH):=by
 refine D.evD OF (fun b a h=>by cases h;rfl) (fun _ _ _ _ s H E b a d h=>?_)
 cases h with
 |@mk N =>
   refine⟨_,(Q4<|QN<|Zf (pv 0) rfl),?_⟩;show Q1 K _ [some _] _
   walk_at"x"
   exact ZO (GL c rfl) rfl
inductive R_hyard (CH:Addr):List OT->(OT->Prop)->Prop
 |mk {N:HandS}:R_hyard CH [.zow<|QY CH N] (fun r=>r=.fz N.yard)
def ZfM:Qp Zam Zam (Q2 Nc):=by walk_at"p"
def CY (T:Bl mg) (c:HandC K CH) (D:Mf K CH "yard_now" "Hand.yard_now" Nc Zam):Zu P w K mg base CH "yard_now" Zam 1 (Zk K<|R_hyard CH):=by
 refine D.evD ZfM (fun b a h=>by cases h;rfl) (fun _ _ _ _ s H E b a d h=>?_)
 cases h with
 |@mk N =>
   refine⟨_,(Q4<|QN<|Zf (pv 0) rfl),?_⟩;show Q1 K _ [some _] _
   walk_at"x"
   exact ZO (Jy c rfl) rfl
inductive R_hgifts (CH:Addr):List OT->(OT->Prop)->Prop
 |mk {N:HandS} (h:N.made.length<=1000):R_hgifts CH [.zow<|QY CH N] (fun r=>∃v,r=.own v (dlP N.made))
def ZhI:Qp Zam Zam (Q2 Mv):=by walk_at"p"
def EE (T:Bl mg) (d:HandC K CH) (D:Mf K CH "gifts" "Hand.gifts" Mv Zam):Zu P w K mg base CH "gifts" Zam 1 (Zk K<|R_hgifts CH):=by
 refine D.evD ZhI (fun c b h=>by cases h;rfl) (fun _ _ _ _ s H E c b e h=>?_)
 cases h with
 |@mk N h =>
   refine⟨_,(Q4<|QN<|YB (NX:=Zam) (sc:=Q2 Mv) (N:=["gifts"]) (f:=[none]) rfl (by decide +kernel) rfl rfl (Wz<|Zf (pv 0) rfl) (fun _=>(QX (i:=0) (show(["gifts"]:Qh).Nodup by decide +kernel) rfl Qa)) (fun _=>VC) (fun _=>Wv) fun _=>(WS HL (by rfl) T.dict GF<|Qo (pv 0) Qs)),?_⟩;show Q1 K _ [some _] _
   walk_at"x"
   exact DW (AM d rfl h (fun _=>rfl) (fun _=>rfl) fun _=>rfl) (fun r a=>a)
inductive R_lover (CH:Addr):List OT->(OT->Prop)->Prop
 |mk {y:Yd} {gs:List Gs} {gv:Ql} {go:Qk} {ms:List Zb}:R_lover CH [.zow<|QY CH<|hT y y.T gs gv go ms] (fun r=>r=.fz (.bool true))
def Mo:Qp ["_law_hand","_law_told","e"] ["_law_hand"] (Q2 KA):=by walk_at"p"
def Am (T:Bl mg) (L:HandC K CH) (J:MD K mg "NoTime" ct) (a:TD K mg YR ct) (D:Df K mg "_law_over" KA ["_law_hand"]) (g:YA P w K mg base CH "turn" Zam 7 (JG K CH ct WE R_hturn<|X_hturn CH)):QG P w K mg base "_law_over" ["_law_hand"] 8 (Zk K<|R_lover CH):=by
 refine D.evD Mo (fun o l h=>by cases h;rfl) (fun _ _ _ _ s H E o l t h=>?_)
 cases h with
 |@mk y B A G q =>
   refine⟨_,(Q3 (QW (i:=1) Mo.nd rfl Qa Vn)
 (Q3 (Ka (j:=2) a.em rfl rfl rfl a.my Mo.nd rfl (.inl rfl) (fun D p=>(Q4<|Z2<|PL g L t HQ<|pv 0)) fun e p=>(Q4<|QW (i:=1) Mo.nd rfl Qa<|G8 (Zo (show Z7 _ (.builtin "isinstance") (Yr K ct) from Wk a.is) (by rfl) T.isi VO<|Qo (pv 2)<|Qo (YF (v:=.ref _) rfl J.m rfl) Qs)<|Gz<|Zo (show Z7 _ (.builtin "isinstance") (Yr K ct) from Wk a.is) (by rfl) T.isi VO<|Qo (pv 2)<|Qo (YW (v:=.ty "ValueError") rfl T.ValueError KS rfl) Qs))
 (Q4<|QN<|pv 1))),?_⟩
   show Q1 K _ [some<|.zow<|QY CH<|hT y y.T B A G q,none,none] _
   walk_at"x"
   refine QH (ZU (d:=.bool false) Gh ?_)
   walk_at"d"
   apply QH
   apply IR (C:=ct) (n:=3) (j:=2) (fun _=>True) (by decide)
   case hz =>
    intro Q F0 H0 F O M x St r;exact EJ bkN (i:=0) (F0:=F) (H0:=M) Sc rfl Q6 X_hturn.mk HP (fun N k e f d z m u I=>r N k e f d z m u I) (Q0.refl St.sub) St
   case hth =>
    intro e;dsimp only[List.set,List.replicate];refine ZU (d:=.bool true) (Qu.cast (U1 (b:=true) (c:=true) (Rz rfl rfl a.k1) fun _=>Rz rfl rfl a.k2) rfl) ?_
    walk_at"d"
    exact ZO (Qq rfl) rfl
noncomputable def eRw (g:Gs):PyData:=.list [.int (g.line:Int),.int (g.first:Int),.int (g.last:Int),.int g.want,.int g.most]
def PB {b:Type}(a:b)(n:Nat):List.replicate n a=(List.range n).map fun _=>a:=by
 apply List.ext_getElem?
 intro i;by_cases h:i<n
 .simp[h]
 .simp[h]
noncomputable def Vq (y:Yd)(b own:Qn)(i l:Nat):Int:=if y.ls.length<=l+i then passes y b own l else Vk y b own i l
inductive R_lpass:List OT->OT->Prop
 |mk {y:Yd} {gs:List Gs} {sm:Qk} {t:Nat} (ok:y.Ok) (hs:SetOk gs sm) (hg:∀k (h:k<gs.length),k∈sm->gs[k].line<y.ls.length/\1<=gs[k].want) (ht:t<y.T) :
  R_lpass [.fz<|QV y,.fz<|.list<|gs.map eRw,.fz<|.list<|Zl sm,.fz<|.int (t:Int)] (.fz<|.int<|Vf y gs sm t)
def YZ:Qp ["_law_yard_here","_law_rows","_law_picked","_law_turn","_law_reach","_law_number","_law_line","_law_first","_law_last","_law_lack","_law_most","_law_k","_law_above","_law_bounds"] Zai (Q2 KQ):=by walk_at"p"
def Ab (T:Bl mg) (D:Df K mg "_law_passes" KQ Zai):QG P w K mg base "_law_passes" Zai 1 (QL (K:=K) R_lpass):=by
 refine D.ev YZ (fun ts r h=>by cases h;rfl) (fun _ _ _ _ s H E ts r hr h=>?_)
 cases h with
 |@mk y p o t G hs hg htT =>
   refine⟨_,(Q3 (QW (i:=4) YZ.nd rfl Qa<|QU RG (ZC<|Qo Qw Qs)<|Zo Vw (by rfl) T.len Vy<|Qo (QD QE (pv 0) Qw) Qs)
 (Q3 (ZX PassesOwn.never rfl (Wz<|pv 2) (QX (i:=5) YZ.nd rfl Qa) (Q3 (Y1 (QD QE (pv 1)<|pv 5)<|Rm (n:=5) rfl (ZQ (QX (i:=6) YZ.nd rfl Qa)<|ZQ (QX (i:=7) YZ.nd rfl Qa)<|ZQ (QX (i:=8) YZ.nd rfl Qa)<|ZQ (QX (i:=9) YZ.nd rfl Qa)<|ZQ (QX (i:=10) YZ.nd rfl Qa) Wu))
 (Q4<|Zq (PW.pt<|U4 (Ma Jm Jm (pv 7) (pv 3)<|pv 8)<|UB<|Z5 VJ (pv 9) Qw<|Zx _) (Q4<|Y1 (QU Vx (QD QE (pv 4)<|pv 6)<|pv 10)<|WN (pv 4) (pv 6) Yn) Zr)))
 (Q3 (ZX PassesOwn.never rfl (Kg rfl T.range<|Qo (QU Ym (Zo Vw (by rfl) T.len Vy<|Qo (pv 4) Qs) Qw)<|Qo (Go G3 Qw)<|Qo (Go G3 Qw) Qs) (QX (i:=11) YZ.nd rfl Qa) (Q3 (Y1 (QD QE (QD QE (pv 0) Qw)<|pv 11)<|Js (n:=2) rfl (ZQ (QX (i:=12) YZ.nd rfl Qa)<|ZQ (QX (i:=13) YZ.nd rfl Qa) Wu))
 (Q3 (Y1 (Zo (B2 rfl) (by rfl) T.min G1<|Qo (QD QE (pv 4)<|pv 11)<|Qo (QD QE (pv 13)<|pv 3) Qs)<|WN (pv 4) (pv 11) Yn)
 (Q4<|Zq (Z5 VJ (pv 11) Qw<|Zx _) (Q4<|Y1 (QU Vx (QD QE (pv 4)<|pv 12)<|QD QE (pv 4)<|pv 11)<|WN (pv 4) (pv 12) Yn) Zr))))
 (Q4<|QN<|QD QE (pv 4) Qw)))),?_⟩
   show Q1 K _ [some _,some _,some _,some _,none,none,none,none,none,none,none,none,none,none] _
   walk_at"x"
   have l1:=G.l1;have l5:=G.l5;have t8:=G.t8;have n8:=hs.len;have eL:∀{F:QF},F[0]?=some (some<|.fz<|QV y)->Qu K (tOp (rIx K) (Q8 0)<|tC<|.int 1) F (.tuple<|y.ls.map ZY):=fun e=>Yb (ds:=[PyData.int (y.T:Int),.tuple<|y.ls.map ZY]) (Qq e) QA rfl;have Y:(y.ls.map ZY).length=y.ls.length:=by simp
   refine QH (VM (EvO.cast (Rw (ds:=[.int 0]) (k:=(y.ls.length:Int)) (EvO.fz<|V9 (ds:=[.int 0]) (Zn QA ZG) Jb) (Qu.cast (GB<|eL rfl)<|by rw[Y]) (by omega) (by show 1*_<=1000;omega)<|by omega) (d':=.ol ((List.range y.ls.length).map fun l=>PyData.int<|Z6 p (t:Int) l [])) ?e0) ?_)
   case e0 =>
    rw[DT,Xp,PB];rfl
   walk_at"d"
   refine QH (V0 (ds:=Zl o) (fun i v=>∃S R Q O N u:Option OT,v=[some<|.fz<|QV y,some<|.fz<|.list<|p.map eRw,some<|.fz<|.list<|Zl o,some<|.fz<|.int (t:Int),some<|.ol<|(List.range y.ls.length).map fun l=>PyData.int<|Z6 p (t:Int) l<|o.take i,S,R,Q,O,N,u,none,none,none]) (Jv<|Qq rfl) ⟨_,_,_,_,_,_,rfl⟩ ?st3 ?fin3)
   case st3 =>
    rintro i d _ U ⟨S,R,Q,O,N,u,rfl⟩
    have L:i<o.length:=by
     have:=(Xf.mp U).1
     simpa [Zl] using this
    obtain rfl:d=.int ((o[i]:Nat):Int):=by simpa [Zl,L] using U.symm
    have J:o[i]<p.length:=hs.mem _ (X0 L);refine⟨_,Zj,?_⟩
    walk_at"d"
    have X:o.take (i+1)=o.take i++[o[i]]:=by rw[W8];simp[L]
    have eg:atI (p.map eRw) ((o[i]:Nat):Int)=some (eRw p[o[i]]):=V1 (by simp[J]);have M:=hg o[i] J (X0 L);have gl:=M.1;have gw:=M.2;refine QH (Gu (Ve (Qq rfl) (Qq rfl) eg) (NY (ZT Zj<|ZT Zj<|ZT Zj<|ZT Zj<|ZT Zj Wt) rfl) ?_)
    walk_at"d"
    refine Zv (b:=ZH p[o[i]] (t:Int)) (Za.cast (U0 (c:=true) (Zy<|UM (Qq rfl) (Qq rfl)<|Qq rfl) fun _=>Za.cast (Zy<|Vo (Qq rfl) QA)<|XJ<|by omega)<|by rw[Bool.and_true];rfl) (fun c=>?_) (fun c=>Zz ?_)
    .have it:∀{F:QF},F[4]?=some (some<|.ol<|(List.range y.ls.length).map fun l=>PyData.int<|Z6 p (t:Int) l<|o.take i)->F[6]?=some (some<|.fz<|.int (p[o[i]].line:Int))->Qu K (tOp (rIx K) (Q8 4)<|Q8 6) F (.int<|Z6 p (t:Int) p[o[i]].line (o.take i)):=fun e1 e2=>Ws e1 (Qq e2) (by rw[YO (by omega)<|by omega,Xp])
     refine UN (j:=p[o[i]].line) rfl (Z8 (it rfl rfl)<|Qq rfl) (Qq rfl) (by rw[JU (by omega)<|by simp;omega,Xp]) ?_
     walk_at"d"
     rw[Uc (f:=fun l=>Z6 p (t:Int) l<|o.take i) (g:=fun l=>Z6 p (t:Int) l<|o.take<|i+1) gl (fun l Z I=>by rw[X,Uf];simp[Z6,J,Ne.symm I])<|by rw[X,Uf];simp[Z6,J,c]]
     exact⟨_,_,_,_,_,_,rfl⟩
    .have e:(fun l=>PyData.int<|Z6 p (t:Int) l<|o.take<|i+1)=fun l=>PyData.int (Z6 p (t:Int) l<|o.take i):=by
      funext l
      rw[X,Uf];simp[Z6,J,c]
     dsimp only;rw[e];exact⟨_,_,_,_,_,_,rfl⟩
   case fin3 =>
    rintro _ ⟨S,R,Q,O,N,u,rfl⟩
    have el:(Zl o).length=o.length:=by simp[Zl]
    rw[el,WA];generalize hb:(fun k=>Z3 y k t)=b
    generalize ho:Wn p t o=m;have e0:((List.range y.ls.length).map fun l=>PyData.int<|Z6 p (t:Int) l o)=(List.range y.ls.length).map fun l=>PyData.int (Vq y b m 0 l):=XX fun l Z=>by
     have:=XI.mp Z
     unfold Vq;rw[Xa<|by omega,<- ho];rfl
    rw[e0];refine QH (V0 (ds:=Wd ((y.ls.length:Int)-1) y.ls.length) (fun i v=>∃B A x:Option OT,v=[some<|.fz<|QV y,some<|.fz<|.list<|p.map eRw,some<|.fz<|.list<|Zl o,some<|.fz<|.int (t:Int),some<|.ol<|(List.range y.ls.length).map fun l=>PyData.int<|Vq y b m i l,S,R,Q,O,N,u,B,A,x]) ?ei4 ⟨_,_,_,rfl⟩ ?st4 ?fin4)
    case ei4 =>
     apply EvI.cast
     .walk_at"ei"
     .rw[Xl,WC]
      exact HU rfl (by omega)
    case st4 =>
     rintro i d _ U ⟨B,A,x,rfl⟩
     obtain⟨L,rfl⟩:=BZ U;refine⟨_,Zj,?_⟩
     walk_at"d"
     have ej:(y.ls.length:Int)-1-(i:Int)=((y.ls.length-1-i:Nat):Int):=by omega
     rw[ej];generalize hj:y.ls.length-1-i=j;have q:j<y.ls.length:=by omega
     have hbl:=BV G q;have hbb:(ZE y j).bs.getD t 0=b j:=by rw[<- Ml q,<- hb]
     have ln:atI (y.ls.map ZY) (j:Int)=some (ZY<|ZE y j):=V1 (by simp[q,ZE])
     have ar:Vq y b m i j=V8 y b m j:=by
      unfold Vq;rw[Xa<|by omega];have:i=y.ls.length-1-j:=by omega
      rw[this];exact Tc G b m q
     refine QH (Gu (Yb (eL rfl) (Qq rfl) ln) (WK (ds:=[upD (ZE y j).up,.tuple<|(ZE y j).bs.map PyData.int]) (ZT Zj<|ZT Zj Wt) rfl) ?_)
     walk_at"d"
     refine QH (UN (j:=j) rfl (DA (Ws rfl (Qq rfl)<|YO (by omega)<|by omega)<|Yb (Qq rfl) (Qq rfl)<|DM (by omega)<|by omega) (Qq rfl) (by rw[JU (by omega)<|by simp;omega,Xp]) ?_)
     walk_at"d"
     rw[Xp,Xp,hbb,ar];have ed:((List.range y.ls.length).map fun l=>PyData.int<|Vq y b m i l).set j (.int<|min (V8 y b m j)<|b j)=(List.range y.ls.length).map fun l=>PyData.int (if l=j then passes y b m j else Vq y b m i l):=Uc q (fun l _ I=>Xa I) (Xd rfl);rw[ed];refine Zv (b:=decide ((j:Int) > 0)) (Za.cast (Zy<|Vo (Qq rfl) QA) rfl) (fun c=>?_) (fun c=>Zz ?_)
     .have c:=XW c
      obtain⟨a,ea,la⟩:=G.ups j (by omega) q
      have eu:upD (ZE y j).up=.int (a:Int):=by
       have:(ZE y j).up=some a:=by rw[<- BU q];exact ea
       rw[this];rfl
      rw[eu];refine UN (j:=a) rfl (Z8 (Ws rfl (Qq rfl)<|YO (by omega)<|by omega)<|Ws rfl (Qq rfl)<|YO (by omega)<|by omega) (Qq rfl) (by rw[JU (by omega)<|by simp;omega,Xp]) ?_
      walk_at"d"
      rw[Xp,Xp,Xd rfl,Xa (show ¬a=j by omega)]
      have e1:∀l,l<y.ls.length->l≠a->Vq y b m (i+1) l=if l=j then passes y b m j else Vq y b m i l:=fun l Z I=>by
       unfold Vq;by_cases z:l=j
       .subst z
        rw[Xd rfl,Xd<|by omega]
       .rw[Xa z]
        by_cases z2:y.ls.length<=l+i
        .rw[Xd z2,Xd<|by omega]
        .rw[Xa z2,Xa<|by omega]
         simp only[Vk,WL,hj];rw[ea,Xa<|by simpa using fun z=>I z.symm];omega
      have e2:Vq y b m (i+1) a=Vq y b m i a+passes y b m j:=by
       have r:Vk y b m i j=V8 y b m j:=by
        rw[<- ar];unfold Vq;rw[Xa<|by omega]
       unfold Vq;rw[Xa<|by omega,Xa<|by omega];simp only[Vk,WL,hj];rw[ea,Xd rfl,r];rfl
      rw[Uc (f:=fun l=>if l=j then passes y b m j else Vq y b m i l) (g:=fun l=>Vq y b m (i+1) l) (by omega) e1 e2]
      exact⟨_,_,_,rfl⟩
     .have c:=Ug c
      have e:(fun l=>PyData.int (if l=j then passes y b m j else Vq y b m i l))=fun l=>PyData.int (Vq y b m (i+1) l):=by
       funext l
       have:j=0:=by omega
       subst this;by_cases z:l=0
       .subst z
        rw[Xd rfl];unfold Vq;rw[Xd<|by omega]
       .rw[Xa z]
        unfold Vq;rw[Xd<|by omega,Xd<|by omega]
      dsimp only;rw[e];exact⟨_,_,_,rfl⟩
    case fin4 =>
     rintro _ ⟨B,A,x,rfl⟩
     rw[Hv];refine ZO (Qu.cast (Ws rfl QA<|YO (by decide)<|by omega) ?_) rfl;unfold Vq Vf;rw[Xd<|by omega,hb,ho];rfl
noncomputable def mR (gs:List Gs)(gv:Ql):List Gs:=(List.range gs.length).map fun k=>{ gs.getD k default with want:=rsT gs gv [] k }
def Dw (gs:List Gs)(gv:Ql):(mR gs gv).length=gs.length:=by simp[mR]
def JM  (h:k<gs.length):(mR gs gv).getD k default={ gs.getD k default with want:=rsT gs gv [] k }:=by simp[mR,h]
noncomputable def rwL (g:Gs):Qd:=[.int (g.line:Int),.int (g.first:Int),.int (g.last:Int),.int g.want,.int g.most]
def Gi {gs:List Gs}(h:k<gs.length):atI (gs.map eRw) (k:Int)=some (.list<|rwL<|gs.getD k default):=V1 (by simp[h];rfl)
noncomputable def loS (rg:List Gs)(f:Qn)(P:Qk)(l:Nat):Int:=(P.map fun k=>if (rg.getD k default).line=l then f k else 0).sum
def Hy (rg:List Gs)(f:Qn)(P:Qk)(k l:Nat):loS rg f (P++[k]) l=loS rg f P l+if (rg.getD k default).line=l then f k else 0:=by
 unfold loS;rw[XB,Bc];simp
def Cq  (b:∀k,k<m->0<=f k)(l:Nat):loS rg f ((List.range m).filter fun k=>decide (f k > 0)) l=Qz (fun k=>f k*ind ((rg.getD k default).line=l)) m:=by
 induction m with
 |zero=>rfl
 |succ m a =>
   have a:=a fun k d=>b k (by omega);have h:=b m (by omega);rw[Y7,Uh,Qz,<- a];by_cases c:f m > 0
   .have e:[m].filter (fun k=>decide (f k > 0))=[m]:=by simp[c]
    rw[e,Hy];congr 1;unfold ind;split<;>omega
   .have e:[m].filter (fun k=>decide (f k > 0))=[]:=by simp[c]
    rw[e,XG];have z:f m=0:=by omega
    rw[z,Int.zero_mul,YH]
noncomputable def ldL (y:Yd)(a own:Qn)(i l:Nat):Int:=own l+Qz (fun c=>if y.ls.length<=c+i/\Zd y c=some l then a c else 0) y.ls.length
def TQ (y:Yd)(a own:Qn)(l:Nat):ldL y a own 0 l=own l:=by
 unfold ldL;rw[Zi (g:=fun _=>0) fun c b=>Xa<|by omega,Vh,YH]
theorem SW {g:Qn}{j:Nat}{v:Int}:∀{n:Nat},j<n->Qz (fun c=>g c+if c=j then v else 0) n=Qz g n+v
 |0,h=>by omega
 |n+1,h=>by
   rw[Qz,Qz];by_cases e:j=n
   .subst e
    rw[Xd rfl,Zi (g:=g) fun c a=>by rw[Xa<|by omega,YH]];omega
   .rw[Xa<|Ne.symm e,SW (g:=g) (n:=n)<|by omega]
    omega
def Dy  (b:i<y.ls.length)(a:y.ls.length-1-i=j):ldL y tk own (i+1) l=ldL y tk own i l+if Zd y j=some l then tk j else 0:=by
 unfold ldL;rw[Int.add_assoc];congr 1;rw[<- SW (j:=j) (by omega)];refine Zi fun c f=>?_
 by_cases e:c=j
 .subst e
  rw[Xd rfl,Xa (show ¬(y.ls.length<=c+i/\Zd y c=some l) by omega),Yp]
  by_cases u:Zd y c=some l
  .rw[Xd ⟨by omega,u⟩,Xd u]
  .rw[Xa fun z=>u z.2,Xa u]
 .rw[Xa e,YH]
  by_cases u:Zd y c=some l
  .by_cases d:y.ls.length<=c+i
   .rw[Xd ⟨by omega,u⟩,Xd ⟨d,u⟩]
   .rw[Xa<|by omega,Xa<|by omega]
  .rw[Xa fun z=>u z.2,Xa fun z=>u z.2]
inductive R_lghold:List OT->OT->Prop
 |mk {o:Obj} {y:Yd} {rg:List Gs} {f:Qn} {t:Nat} (ok:y.Ok) (ht:t<y.T) (g8:rg.length<=8) (hl:∀k,k<rg.length->(rg.getD k default).line<y.ls.length) (f0:∀k,k<rg.length->0<=f k) (h1:∀k,k<rg.length->0<f k->ZH (rg.getD k default) (t:Int)=true/\f k<=(rg.getD k default).most/\f k<=(rg.getD k default).want)
  (hd:∀l,l<y.ls.length->ZK y rg.length (fun k=>(rg.getD k default).line) f l<=Z3 y l t):R_lghold [.zow<|DwZ o<|gfD f rg.length,.fz<|QV y,.fz<|.list<|rg.map eRw,.fz<|.int (t:Int)] (.fz<|.bool true)
def RQ  (d:k<m)(e:f k > 0):VY (gfD f m) (.inl (k:Int))=some (.int<|f k):=by
 have a:k∈(List.range m).filter fun k=>decide (f k > 0):=JE.mpr ⟨XI.mpr d,XJ e⟩;unfold gfD;generalize (List.range m).filter (fun k=>decide (f k > 0))=L at a;unfold VY;induction L with
 |nil=>cases a
 |cons x L c =>
   rw[Xx,Xz];by_cases z:x=k
   .subst z
    simp
   .have b:¬((.inl (x:Int):Key)=.inl (k:Int)):=fun q=>z (by injection q with q;omega)
    simp only[b,decide_false];exact c ((Xg.mp a).resolve_left (Ne.symm z))
def Su (f:Qn)(m:Nat):(gfD f m).map (fun a=>WI a.1)=Zl ((List.range m).filter fun k=>decide (f k > 0)):=by
 unfold gfD Zl;rw[X7];rfl
def YG:Qp ["_law_gifts","_law_yard_here","_law_rows","_law_turn","_law_load","_law_number","_law_gift","_law_line","_law_first","_law_last","_law_lack","_law_most","_law_k","_law_above","_law_bounds"] Zak (Q2 KY):=by walk_at"p"
def EG (T:Bl mg) (D:Df K mg "_law_gifts_hold" KY Zak):QG P w K mg base "_law_gifts_hold" Zak 1 (QL (K:=K) R_lghold):=by
 refine D.ev YG (fun ts r h=>by cases h;rfl) (fun _ _ _ _ s H E ts r hr h=>?_)
 cases h with
 |@mk o y rg f t M ht g8 hl f0 h1 hd =>
   refine⟨_,(Q3 (Zq (VU<|Vl<|Zo Co (by rfl) T.isi VO<|Qo (pv 0)<|Qo (YW (v:=.ty "dict") rfl T.dict GF rfl) Qs) (Q4<|QN Vn) Zr)
 (Q3 (QW (i:=4) YG.nd rfl Qa<|QU RG (ZC<|Qo Qw Qs)<|Zo Vw (by rfl) T.len Vy<|Qo (QD QE (pv 1) Qw) Qs)
 (Q3 (ZX PassesOwn.never rfl (S6<|pv 0) (QX (i:=5) YG.nd rfl Qa) (Q3 (Zq (PW.pt<|Wh (VU<|Vl<|Zo JW (by rfl) T.isi VO<|Qo (pv 5)<|Qo (YW (v:=.ty "int") rfl T.int B5 rfl) Qs)<|Wh (Vl<|Zo JW (by rfl) T.isi VO<|Qo (pv 5)<|Qo (YW (v:=.ty "bool") rfl T.bool Ha rfl) Qs)<|U5<|VU<|Ma Jm Wj Qw (pv 5)<|Zo Vw (by rfl) T.len Vy<|Qo (pv 2) Qs) (Q4<|QN Vn) Zr)
 (Q3 (QW (i:=6) YG.nd rfl Qa<|BD (Ys hr) (pv 0) (pv 5) fun _ _=>rfl)
 (Q3 (Zq (PW.pt<|Wh (VU<|Vl<|Zo JW (by rfl) T.isi VO<|Qo (pv 6)<|Qo (YW (v:=.ty "int") rfl T.int B5 rfl) Qs)<|Wh (Vl<|Zo JW (by rfl) T.isi VO<|Qo (pv 6)<|Qo (YW (v:=.ty "bool") rfl T.bool Ha rfl) Qs)<|U5<|Z5 Wj (pv 6) Qw<|Zx _) (Q4<|QN Vn) Zr)
 (Q3 (Y1 (QD QE (pv 2)<|pv 5)<|Rm (n:=5) rfl (ZQ (QX (i:=7) YG.nd rfl Qa)<|ZQ (QX (i:=8) YG.nd rfl Qa)<|ZQ (QX (i:=9) YG.nd rfl Qa)<|ZQ (QX (i:=10) YG.nd rfl Qa)<|ZQ (QX (i:=11) YG.nd rfl Qa) Wu))
 (Q3 (Zq (PW.pt<|Wh (VU<|Ma Jm Jm (pv 8) (pv 3)<|pv 9)<|Wh (Z5 VJ (pv 6) (pv 11)<|Zx _)<|U5<|Z5 VJ (pv 6) (pv 10)<|Zx _) (Q4<|QN Vn) Zr)
 (Q4<|Y1 (QU Vx (QD QE (pv 4)<|pv 7)<|pv 6)<|WN (pv 4) (pv 7) Yn)))))))
 (Q3 (ZX PassesOwn.never rfl (Kg rfl T.range<|Qo (QU Ym (Zo Vw (by rfl) T.len Vy<|Qo (pv 4) Qs) Qw)<|Qo (Go G3 Qw)<|Qo (Go G3 Qw) Qs) (QX (i:=12) YG.nd rfl Qa) (Q3 (Y1 (QD QE (QD QE (pv 1) Qw)<|pv 12)<|Js (n:=2) rfl (ZQ (QX (i:=13) YG.nd rfl Qa)<|ZQ (QX (i:=14) YG.nd rfl Qa) Wu))
 (Q3 (Zq (Z5 VJ (QD QE (pv 4)<|pv 12) (QD QE (pv 14)<|pv 3)<|Zx _) (Q4<|QN Vn) Zr)
 (Q4<|Zq (Z5 VJ (pv 12) Qw<|Zx _) (Q4<|Y1 (QU Vx (QD QE (pv 4)<|pv 13)<|QD QE (pv 4)<|pv 12)<|WN (pv 4) (pv 13) Yn) Zr))))
 (Q4<|QN Vn))))),?_⟩
   show Q1 K _ [some _,some _,some _,some _,none,none,none,none,none,none,none,none,none,none,none] _
   walk_at"x"
   have l1:=M.l1;have l5:=M.l5;have eL:∀{ρ:QF},ρ[1]?=some (some<|.fz<|QV y)->Qu K (tOp (rIx K) (Q8 1)<|tC<|.int 1) ρ (.tuple<|y.ls.map ZY):=fun e=>Yb (ds:=[PyData.int (y.T:Int),.tuple<|y.ls.map ZY]) (Qq e) QA rfl;have len:(y.ls.map ZY).length=y.ls.length:=by simp
   refine QH (Zv (b:=false) (VN (b:=true)<|ZJ<|C5 rfl) (by rintro⟨⟩) fun _=>Zz ?_);refine QH (VM (EvO.cast (Rw (ds:=[.int 0]) (k:=(y.ls.length:Int)) (EvO.fz<|V9 (ds:=[.int 0]) (Zn QA ZG) Jb) (Qu.cast (GB<|eL rfl)<|by rw[len]) (by omega) (by show 1*_<=1000;omega)<|by omega) (d':=.ol ((List.range y.ls.length).map fun l=>PyData.int<|loS rg f [] l)) ?e0) ?_)
   case e0 =>
    rw[DT,Xp,PB];rfl
   walk_at"d"
   have Lm:∀j,j∈((List.range rg.length).filter fun k=>decide (f k > 0))->j<rg.length/\f j > 0:=fun j Q=>by rwa [JE,XI,decide_eq_true_eq]at Q
   have Lk:=Su f rg.length;have La:=Cq (rg:=rg) (m:=rg.length) f0;generalize ((List.range rg.length).filter fun k=>decide (f k > 0))=L at Lm Lk La;refine QH (V0 (ds:=Zl L) (fun i F=>∃Y X U S R B A:Option OT,F=[some<|.zow<|DwZ o<|gfD f rg.length,some<|.fz<|QV y,some<|.fz<|.list<|rg.map eRw,some<|.fz<|.int (t:Int),some<|.ol<|(List.range y.ls.length).map fun l=>PyData.int<|loS rg f (L.take i) l,Y,X,U,S,R,B,A,none,none,none]) (EvI.cast (RV rfl) Lk) ⟨_,_,_,_,_,_,_,rfl⟩ ?st3 ?fin3)
   case st3 =>
    rintro i d _ x ⟨Y,X,U,S,R,B,A,rfl⟩
    have hi:i<L.length:=by
     have:=(Xf.mp x).1
     simpa [Zl] using this
    obtain rfl:d=.int ((L[i]:Nat):Int):=by
     unfold Zl at x;rw[Xn,XL hi]at x;exact(Option.some.inj x).symm
    have N:=Lm L[i] (X0 hi);have q:L.take (i+1)=L.take i++[L[i]]:=by rw[W8,XL hi];rfl
    generalize L[i]=k at N q;obtain⟨q1,q2,q3⟩:=h1 k N.1 N.2;have ql:=hl k N.1;refine⟨_,Zj,?_⟩
    walk_at"d"
    refine QH (Zv (b:=false) (YL (b:=false) (c:=false) (VN (b:=true)<|ZJ<|Jp (Qq rfl) rfl) fun _=>YL (b:=false) (c:=false) (ZJ<|Jp (Qq rfl) rfl) fun _=>VN (b:=true)<|Za.cast (Zy<|UM QA (Qq rfl)<|Qu.cast (WP<|Qq rfl) (show _=PyData.int (rg.length:Int) by rw[Xl])) ?ch1) (by rintro⟨⟩) fun _=>Zz ?_)
    case ch1 =>
     rw[XJ (show(0:Int)<=(k:Int) by omega),XJ (show(k:Int)<(rg.length:Int) by omega)]
     rfl
    refine QH (ZU (SM (k:=.inl (k:Int)) rfl (Qq rfl)<|RQ N.1 N.2) ?_)
    walk_at"d"
    refine QH (Zv (b:=false) (YL (b:=false) (c:=false) (VN (b:=true)<|ZJ<|Jp (Qq rfl) rfl) fun _=>YL (b:=false) (c:=false) (ZJ<|Jp (Qq rfl) rfl) fun _=>Za.cast (Zy<|Vo (Qq rfl) QA)<|XH<|by omega) (by rintro⟨⟩) fun _=>Zz ?_);refine QH (Gu (Ve (Qq rfl) (Qq rfl)<|Gi N.1) (NY (ds:=rwL (rg.getD k default)) (ZT Zj<|ZT Zj<|ZT Zj<|ZT Zj<|ZT Zj Wt) rfl) ?_)
    walk_at"d"
    refine QH (Zv (b:=false) (YL (b:=false) (c:=false) (VN (b:=true)<|Za.cast (Zy<|UM (Qq rfl) (Qq rfl)<|Qq rfl) q1) fun _=>YL (b:=false) (c:=false) (Za.cast (Zy<|Vo (Qq rfl)<|Qq rfl)<|XH<|by omega) fun _=>Za.cast (Zy<|Vo (Qq rfl)<|Qq rfl)<|XH<|by omega) (by rintro⟨⟩) fun _=>Zz ?_);refine UN (j:=(rg.getD k default).line) rfl (Z8 (Ws rfl (Qq rfl)<|by rw[YO (by omega)<|by omega,Xp])<|Qq rfl) (Qq rfl) (by rw[JU (by omega)<|by rw[Xl,WC];omega,Xp]) ?_
    walk_at"d"
    rw[Uc (f:=fun l=>loS rg f (L.take i) l) (g:=fun l=>loS rg f (L.take<|i+1) l) ql (fun l _ hn=>by rw[q,Hy,Xa<|Ne.symm hn,YH])<|by rw[q,Hy,Xd rfl]]
    exact⟨_,_,_,_,_,_,_,rfl⟩
   case fin3 =>
    rintro _ ⟨Y,X,U,S,R,B,A,rfl⟩
    have el:(Zl L).length=L.length:=by simp[Zl]
    rw[el,WA];have Z:=fun l O=>UO M (ln:=fun k=>(rg.getD k default).line) hl f (l:=l) O;generalize ZK y rg.length (fun k=>(rg.getD k default).line) f=q at hd Z;have Z:∀l,l<y.ls.length->q l=loS rg f L l+Qz (fun c=>if Zd y c=some l then q c else 0) y.ls.length:=fun l O=>by rw[La l];exact Z l O
    have e0:((List.range y.ls.length).map fun l=>PyData.int<|loS rg f L l)=(List.range y.ls.length).map fun l=>PyData.int (ldL y q (loS rg f L) 0 l):=XX fun l _=>by rw[TQ]
    rw[e0];refine QH (V0 (ds:=Wd ((y.ls.length:Int)-1) y.ls.length) (fun i F=>∃J I G:Option OT,F=[some<|.zow<|DwZ o<|gfD f rg.length,some<|.fz<|QV y,some<|.fz<|.list<|rg.map eRw,some<|.fz<|.int (t:Int),some<|.ol<|(List.range y.ls.length).map fun l=>PyData.int<|ldL y q (loS rg f L) i l,Y,X,U,S,R,B,A,J,I,G]) ?ei4 ⟨_,_,_,rfl⟩ ?st4 ?fin4)
    case ei4 =>
     apply EvI.cast
     .walk_at"ei"
     .rw[Xl,WC]
      exact HU rfl (by omega)
    case st4 =>
     rintro i d _ x ⟨J,I,G,rfl⟩
     obtain⟨hi,rfl⟩:=BZ x;refine⟨_,Zj,?_⟩
     walk_at"d"
     have ej:(y.ls.length:Int)-1-(i:Int)=((y.ls.length-1-i:Nat):Int):=by omega
     rw[ej];generalize Q:y.ls.length-1-i=j;have p:j<y.ls.length:=by omega
     have hbl:=BV M p;have hbb:(ZE y j).bs.getD t 0=Z3 y j t:=(Ml p).symm;have ln:atI (y.ls.map ZY) (j:Int)=some (ZY<|ZE y j):=V1 (by simp[p,ZE])
     have ar:ldL y q (loS rg f L) i j=q j:=by
      rw[Z j p];unfold ldL;congr 1;refine Zi fun c hc=>?_
      by_cases u:Zd y c=some j
      .have:=JP M hc u
       rw[Xd u,Xd ⟨by omega,u⟩]
      .rw[Xa u,Xa fun z=>u z.2]
     refine QH (Gu (Yb (eL rfl) (Qq rfl) ln) (WK (ds:=[upD (ZE y j).up,.tuple<|(ZE y j).bs.map PyData.int]) (ZT Zj<|ZT Zj Wt) rfl) ?_)
     walk_at"d"
     have bj:=hd j p;refine QH (Zv (b:=false) (Za.cast (Zy<|Vo (Ws rfl (Qq rfl)<|YO (by omega)<|by omega)<|Yb (Qq rfl) (Qq rfl)<|DM (by omega)<|by omega) ?lb) (by rintro⟨⟩) fun _=>Zz ?_)
     case lb =>
      rw[Xp,Xp,hbb,ar];exact XH (by omega)
     refine Zv (b:=decide ((j:Int) > 0)) (Za.cast (Zy<|Vo (Qq rfl) QA) rfl) (fun c=>?_) (fun c=>Zz ?_)
     .have c:=XW c
      obtain⟨a,ea,la⟩:=M.ups j (by omega) p
      have eu:upD (ZE y j).up=.int (a:Int):=by
       have:(ZE y j).up=some a:=by rw[<- BU p];exact ea
       rw[this];rfl
      rw[eu];refine UN (j:=a) rfl (Z8 (Ws rfl (Qq rfl)<|YO (by omega)<|by omega)<|Ws rfl (Qq rfl)<|YO (by omega)<|by omega) (Qq rfl) (by rw[JU (by omega)<|by simp;omega,Xp]) ?_
      walk_at"d"
      rw[Xp,Xp,ar];rw[Uc (f:=fun l=>ldL y q (loS rg f L) i l) (g:=fun l=>ldL y q (loS rg f L) (i+1) l) (by omega) (fun l _ hn=>by rw[Dy (by omega) Q,ea,Xa<|by simpa using fun z=>hn z.symm,YH])<|by rw[Dy (by omega) Q,ea,Xd rfl]]
      exact⟨_,_,_,rfl⟩
     .have c:=Ug c
      have j0:j=0:=by omega
      have e1:(fun l=>PyData.int<|ldL y q (loS rg f L) (i+1) l)=fun l=>PyData.int (ldL y q (loS rg f L) i l):=funext fun l=>by
       rw[Dy (by omega) Q,j0,M.up0,Xa (by rintro⟨⟩),YH]
      dsimp only;rw[e1];exact⟨_,_,_,rfl⟩
    case fin4 =>
     rintro _ ⟨J,I,G,rfl⟩
     exact ZO Gh rfl
inductive R_lsh:List OT->OT->Prop
 |mk {y:Yd} {gs:List Gs} {sm:Qk} {n:Nat} (ok:y.Ok) (hs:SetOk gs sm) (hg:∀k (h:k<gs.length),k∈sm->gs[k].line<y.ls.length/\1<=gs[k].want) (hn:n<=y.T):R_lsh [.fz<|QV y,.fz<|.list<|gs.map eRw,.fz<|.list<|Zl sm,.fz<|.int (n:Int)] (.fz<|.int<|Ww gs sm-(V7 (fun t=>Vf y gs sm t) y.T-V7 (fun t=>Vf y gs sm t) n))
def Mx:Qp Zar Zal (Q2 Ms):=by walk_at"p"
def Ly (T:Bl mg) (D:Df K mg "_law_short" Ms Zal) (j:QG P w K mg base "_law_passes" Zai 1 (QL (K:=K) R_lpass)):QG P w K mg base "_law_short" Zal 2 (QL (K:=K) R_lsh):=by
 refine D.ev Mx (fun o r h=>by cases h;rfl) (fun _ _ _ _ s H E o r p h=>?_)
 cases h with
 |@mk y a b n l e u G =>
   refine⟨_,(Q3 (QW (i:=4) Mx.nd rfl Qa<|Zo D3 (by rfl) T.sum Ds<|Qo (YB (NX:=Zar) (sc:=Q2 Ms) (N:=["_law_number","_law_rows"]) (f:=[none,some 1]) rfl (by decide +kernel) rfl rfl (Wz<|pv 2) (fun _=>(QX (i:=0) (show(["_law_number","_law_rows"]:Qh).Nodup by decide +kernel) rfl Qa)) (fun _=>VC) (fun _=>Wv) fun _=>(QD QE (QD QE (pv 1)<|pv 0) Qw)) Qs)
 (Q3 (ZX PassesOwn.never rfl (Pz rfl T.range<|Qo (pv 3)<|Qo (QD QE (pv 0) Qw) Qs) (QX (i:=5) Mx.nd rfl Qa)<|Q4<|QW (i:=4) Mx.nd rfl Qa<|QU Ym (pv 4)<|QJ j p<|Qo (pv 0)<|Qo (pv 1)<|Qo (pv 2)<|Qo (pv 5) Qs)
 (Q4<|QN<|pv 4))),?_⟩
   show Q1 K _ [some _,some _,some _,some _,none,none] _
   walk_at"x"
   have F:=e.len;have B:=l.t8;refine QH (ZU (d:=.int (Ww a b)) (Bv (ns:=b.map fun k=>(a.getD k default).want) (Qu.cast (EvO.fz<|Ux (xs:=b) (enc:=fun(k:Nat)=>PyData.int (k:Int)) (h:=fun k=>.int (a.getD k default).want) ?ei (by omega) ?el)<|by rw[X7];rfl) rfl) ?_)
   case ei=>exact Jv (Qq rfl)
   case el =>
    intro k q c;have g:=e.mem k q;refine⟨_,Zj,?_⟩
    walk_at"e"
    exact Ve (ds:=rwL (a.getD k default)) (Ve (Qq rfl) (Qq rfl)<|Gi g) QA rfl
   walk_at"d"
   refine QH (GH (ds:=ZI (n:Int) (y.T-n)) (fun i=>[some<|.fz<|QV y,some<|.fz<|.list<|a.map eRw,some<|.fz<|.list<|Zl b,some<|.fz<|.int (n:Int),some<|.fz<|.int<|Ww a b-(V7 (fun t=>Vf y a b t) (n+i)-V7 (fun t=>Vf y a b t) n),none]) ?ei2 ⟨rfl,rfl,rfl,rfl,?e0,trivial⟩ ?st2 ?fin2)
   case ei2=>exact EvI.cast (Hi (Qv (Qq rfl)<|Qv (Yb (ds:=[PyData.int (y.T:Int),.tuple<|y.ls.map ZY]) (Qq rfl) QA rfl) Q6)<|by rw[z62];omega) (YX rfl (by omega))
   case e0=>exact X5 (fun z=>some<|OT.fz<|.int z) (by rw[Nat.add_zero];omega)
   case st2 =>
    intro i d x;obtain⟨I,rfl⟩:=Y6 x;refine⟨_,Zj,?_⟩
    walk_at"d"
    have A:(n:Int)+(i:Int)=((n+i:Nat):Int):=by omega
    rw[A];refine ZU (Z8 (Qq rfl)<|Ze (Qv (Qq rfl)<|Qv (Qq rfl)<|Qv (Qq rfl)<|Qv (Qq rfl) Q6)<|R_lpass.mk l e u<|by omega) ⟨rfl,rfl,rfl,rfl,?_,trivial⟩;rw[<- Nat.add_assoc,Mh];exact X5 (fun z=>some<|OT.fz<|.int z) (by omega)
   case fin2 =>
    intro m v;refine Gy v ?_;rw[W0,show n+(y.T-n)=y.T by omega];exact ZO (Qq rfl) rfl
theorem HH {n:Nat}{gs:List Gs}{gv:Ql}(t l:Nat):∀a:Qk,(∀k∈a,k<gs.length)->Z6 (mT n gs gv []) (t:Int) l a=if n<=t then Z6 (mR gs gv) (t:Int) l a else 0
 |[],_=>by
   unfold Z6;split<;>rfl
 |k::a,h=>by
   have e:=HH (n:=n) (gs:=gs) (gv:=gv) t l a fun j f=>h j (Xe _ f);have b:=h k Xb;have i:(mT n gs gv [])[k]?=some (stl gs n (rsT gs gv []) k):=by simp[mT,b]
   have g:(mR gs gv)[k]?=some { gs.getD k default with want:=rsT gs gv [] k }:=by simp[mR,b]
   simp only[Z6,i,g];rw[e];have d:ZH (stl gs n (rsT gs gv []) k) (t:Int)=(decide (n<=t)&&ZH { gs.getD k default with want:=rsT gs gv [] k } (t:Int)):=by
    unfold ZH stl;rw[<- Bool.and_assoc];congr 1;rw[<- Bool.decide_and];refine decide_eq_decide.mpr ?_
    show(((max (gs.getD k default).first n:Nat):Int)<=(t:Int))↔(n<=t/\((gs.getD k default).first:Int)<=(t:Int))
    omega
   rw[d];by_cases c:n<=t
   .rw[Xd c,Xd c,XJ c,Bool.true_and]
    rfl
   .rw[Xa c,Xa c,XH c,Bool.false_and,Xa fun z=>nomatch z.2]
    rfl
def Oi   (p:y.Ok)(hn:n<=y.T)(d:∀k∈sm,k<gs.length)(b:(List.range gs.length).filter (fun k=>decide (k∈sm))=sm)(f:∀S,ZB y (Qx<|mT n gs gv []) S<=0) :
 Ww (mR gs gv) sm-(V7 (fun t=>Vf y (mR gs gv) sm t) y.T-V7 (fun t=>Vf y (mR gs gv) sm t) n)<=0:=by
 have a:=f fun k=>decide (k∈sm);rw[HR]at a;have e:Yt (mT n gs gv []) (fun k=>decide (k∈sm))=sm:=by unfold Yt;rw[Y0];exact b
 rw[e]at a;have w:Ww (mT n gs gv []) sm=Ww (mR gs gv) sm:=by
  unfold Ww;congr 1;exact XX fun k r=>by rw[Yl<|d k r,JM<|d k r];rfl
 have s:∀t,Vf y (mT n gs gv []) sm t=if n<=t then Vf y (mR gs gv) sm t else 0:=fun t=>by
  unfold Vf;by_cases c:n<=t
  .rw[Xd c]
   have:Wn (mT n gs gv []) t sm=Wn (mR gs gv) t sm:=funext fun l=>(HH t l sm d).trans (Xd c)
   rw[this]
  .rw[Xa c]
   have:Wn (mT n gs gv []) t sm=fun _=>0:=funext fun l=>(HH t l sm d).trans (Xa c)
   rw[this];exact Tp p (fun l=>B0 p l t)
 have g:GS y (mT n gs gv []) sm=V7 (fun t=>Vf y (mR gs gv) sm t) y.T-V7 (fun t=>Vf y (mR gs gv) sm t) n:=by
  show V7 (fun t=>Vf y (mT n gs gv []) sm t) y.T=_;have u:(fun t=>Vf y (mT n gs gv []) sm t)=fun t=>if n<=t then Vf y (mR gs gv) sm t else 0:=funext s
  rw[u];have m:∀(q:Qn) i,n<=i->V7 (fun t=>if n<=t then q t else 0) i=V7 q i-V7 q n:=fun q i=>by
   induction i with
   |zero =>
     intro h;have:n=0:=by omega
     subst this;simp[V7]
   |succ i o =>
     intro h;by_cases c:n<=i
     .rw[Mh,Mh,o c,Xd c]
      omega
     .have:n=i+1:=by omega
      subst this;have z:∀j,j<=i+1->V7 (fun t=>if i+1<=t then q t else 0) j=0:=fun j=>by
       induction j with
       |zero=>intro _;rfl
       |succ j o=>intro h;rw[Mh,o<|by omega,Xa<|by omega];rfl
      rw[z _<|Xv _];omega
  exact m (fun t=>Vf y (mR gs gv) sm t) y.T hn
 rw[w,g]at a;exact a
def Oy {l:Qk}(h:l.Sublist xs):xs.Nodup->xs.filter (fun k=>decide (k∈l))=l:=by
 induction h with
 |slnil=>intro _;rfl
 |@cons l xs a h c =>
   intro b;have d:=(Xt.mp b).1;rw[J7,Xa<|by simp only[decide_eq_true_eq];exact fun z=>d<|h.subset z];exact c (Xt.mp b).2
 |@cons_cons l xs a h c =>
   intro b;have d:=(Xt.mp b).1;have c:=c (Xt.mp b).2
   rw[J7,Xd<|by simp];have e:xs.filter (fun k=>decide (k∈a::l))=xs.filter (fun k=>decide (k∈l)):=List.filter_congr fun k f=>by
    have:k≠a:=fun z=>d (z▸f)
    simp[this]
   rw[e,c]
noncomputable def Be (i k:Nat):Bool:=decide (i/2^k%2=1)
noncomputable def pkL (L:Qk)(i:Nat):Qk:=((List.range L.length).filter (Be i)).map fun k=>L.getD k 0
def DO (L:Qk)(i:Nat):(pkL L i).Sublist L:=by
 have e:(List.range L.length).map (fun k=>L.getD k 0)=L:=by
  apply List.ext_getElem?
  intro j;by_cases h:j<L.length
  .simp[h]
  .simp[h]
 have:=(List.filter_sublist (l:=List.range L.length) (p:=Be i)).map fun k=>L.getD k 0
 rwa [e]at this
inductive R_lkept:List OT->OT->Prop
 |mk {y:Yd} {n:Nat} {gs:List Gs} {gv:Ql} (ok:y.Ok) (hg:∀x∈gs,G30 y x) (g8:gs.length<=8) (hn:n<=y.T) (nsh:∀S,ZB y (Qx<|mT n gs gv []) S<=0):R_lkept [.fz<|QV y,.fz<|.list<|(mR gs gv).map eRw,.fz<|.int (n:Int)] (.fz<|.bool true)
def M5:Qp Zah Zas (Q2 Ba):=by walk_at"p"
def Ea (T:Bl mg) (D:Df K mg "_law_all_kept" Ba Zas) (A:QG P w K mg base "_law_short" Zal 2 (QL (K:=K) R_lsh)):QG P w K mg base "_law_all_kept" Zas 3 (QL (K:=K) R_lkept):=by
 refine D.ev M5 (fun U r h=>by cases h;rfl) (fun _ _ _ _ s H E U r hr h=>?_)
 cases h with
 |@mk y n a g I hg g8 Q x =>
   refine⟨_,(Q3 (QW (i:=3) M5.nd rfl (Or.inr rfl)<|YB (NX:=Zah) (sc:=Q2 Ba) (N:=ZaH) (f:=[none,some 1]) rfl (by decide +kernel) rfl rfl (VW rfl T.range<|Qo (Zo Vw (by rfl) T.len Vy<|Qo (pv 1) Qs) Qs) (fun _=>(QX (i:=0) (show(ZaH:Qh).Nodup by decide +kernel) rfl Qa)) (fun _=>VC) (fun _=>(Ua<|Z5 VJ (QD QE (QD QE (pv 1)<|pv 0) Qw) Qw<|Zx _)) fun _=>(pv 0))
 (Q3 (ZX PassesOwn.never rfl (VW rfl T.range<|Qo (QU FV Qw<|Zo Vw (by rfl) T.len Vy<|Qo (pv 3) Qs) Qs) (QX (i:=4) M5.nd rfl (Or.inr rfl)) (Q3 (HJ (i:=5) M5.nd rfl rfl (NX:=Zah) (sc:=Q2 Ba) (N:=["_law_k","_law_numbers","_law_bits"]) (f:=[none,some 3,some 4]) rfl (by decide +kernel) rfl rfl (VW rfl T.range<|Qo (Zo Vw (by rfl) T.len Vy<|Qo (pv 3) Qs) Qs) (fun _=>(QX (i:=0) (show(["_law_k","_law_numbers","_law_bits"]:Qh).Nodup by decide +kernel) rfl Qa)) (fun _=>VC) (fun _=>(Ua<|Z5 Br (QU Jq (QU LP (pv 2)<|pv 0) Qw) Qw<|Zx _)) (fun _=>(QD QE (pv 1)<|pv 0)) rfl)
 (Q4<|Zq (Z5 VJ (QJ A hr<|Qo (pv 0)<|Qo (pv 1)<|Qo (pv 5)<|Qo (pv 2) Qs) Qw<|Zx _) (Q4<|QN Vn) Zr)))
 (Q4<|QN Vn))),?_⟩
   show Q1 K _ [some _,some _,some _,none,none,none] _
   walk_at"x"
   have J:=Dw a g;refine QH (VM (r:=.ol (Zl<|(List.range a.length).filter fun k=>decide (rsT a g [] k > 0))) (JY (xs:=List.range a.length) (enc:=fun(k:Nat)=>PyData.int (k:Int)) (h:=fun(k:Nat)=>PyData.int (k:Int)) (p:=fun k=>decide (rsT a g [] k > 0)) ?ei1 (by rw[WC];omega) ?el1) ?_)
   case ei1 =>
    refine EvI.cast (Yg (Qv (Qu.cast (WP<|Qq rfl) (show _=PyData.int (a.length:Int) by rw[Xl,J])) Q6) (by rw[z62];omega)<|by rw[z62];omega) ?_;rw[Xp];unfold ZI;exact XX fun i _=>by rw[Yp]
   case el1 =>
    intro k l c;have l:=XI.mp l;refine⟨_,Zj,?_⟩
    walk_at"e"
    refine⟨Za.cast (Zy<|Vo (Ve (ds:=rwL ((mR a g).getD k default)) (Ve (Qq rfl) (Qq rfl)<|Gi<|by omega) QA rfl) QA) ?_,fun _=>Qq rfl⟩;rw[JM l]
   walk_at"d"
   refine JS 3 rfl ?_
   walk_at"d"
   have S:∀j,j∈((List.range a.length).filter fun k=>decide (rsT a g [] k > 0))->j<a.length/\rsT a g [] j > 0:=fun j hj=>by rwa [JE,XI,decide_eq_true_eq]at hj
   have B:((List.range a.length).filter fun k=>decide (rsT a g [] k > 0)).Sublist (List.range a.length):=List.filter_sublist;generalize ((List.range a.length).filter fun k=>decide (rsT a g [] k > 0))=L at S B;have M:L.length<=8:=X4 B.length_le (by rw[WC];exact g8);have O:∀{F:QF},F[3]?=some (some<|.fz<|.list<|Zl L)->Qu K (tCB (Jf K)<|QI (Q8 3) QQ) F (.int (L.length:Int)):=fun e=>Qu.cast (WP<|Qq e) (by unfold Zl;rw[Xl]);have v:∀i,∀k∈pkL L i,k<a.length/\rsT a g [] k > 0:=fun i k l=>S k ((DO L i).subset l);have X:∀i,SetOk (mR a g) (pkL L i):=fun i=>⟨fun k l=>by rw[J];exact(v i k l).1,X4 (DO L i).length_le M⟩
   have sg:∀i k (h:k<(mR a g).length),k∈pkL L i->(mR a g)[k].line<y.ls.length/\1<=(mR a g)[k].want:=fun i k h l=>by
    have h2:=v i k l;have e:(mR a g)[k]={ a.getD k default with want:=rsT a g [] k }:=by simp[mR]
    rw[e];exact⟨(hg (a.getD k default)<|by simp[h2.1]).ok.ln,by show 1<=rsT a g [] k;omega⟩
   have Z:∀i,Ww (mR a g) (pkL L i)-(V7 (fun t=>Vf y (mR a g) (pkL L i) t) y.T-V7 (fun t=>Vf y (mR a g) (pkL L i) t) n)<=0:=fun i=>Oi I Q (fun k l=>(v i k l).1) (Oy ((DO L i).trans B) List.nodup_range) x
   have cs:Nn 1 (L.length:Int):=⟨by omega,by
    have:(Builtin.Int.intBits 1:Int)=1:=by decide
    rw[this];have:(2:Int)^27=134217728:=by decide
    omega⟩
   have G:2^L.length<=2^8:=Nat.pow_le_pow_right (by decide) M
   have R:(1:Int)*2^(L.length:Int).toNat=((2^L.length:Nat):Int):=by
    rw[Int.one_mul,Xp,Int.natCast_pow];rfl
   have p8:2^L.length<=256:=G;clear G;generalize hq:2^L.length=q at p8 R;refine QH (V0 (ds:=ZI 0 q) (fun i m=>∃u o:Option OT,m=[some<|.fz<|QV y,some<|.fz<|.list<|(mR a g).map eRw,some<|.fz<|.int (n:Int),some<|.fz<|.list<|Zl L,u,o]) ?ei ⟨_,_,rfl⟩ ?st ?fin)
   case ei =>
    refine EvI.cast (Yg (Qv (Qu.cast (Vd QA (O rfl) cs) (show _=PyData.int (q:Int) by rw[R])) Q6) (by rw[z62];omega)<|by rw[z62];omega) (YX rfl (by omega))
   case st =>
    rintro i d _ hd ⟨u,o,rfl⟩
    obtain⟨hi,rfl⟩:=Y6 hd;refine⟨_,Zj,?_⟩
    walk_at"d"
    rw[Yp];refine QH (VM (r:=.ol (Zl<|pkL L i)) (EvO.cast (JY (xs:=List.range L.length) (enc:=fun(k:Nat)=>PyData.int (k:Int)) (h:=fun(k:Nat)=>PyData.int ((L.getD k 0:Nat):Int)) (p:=Be i) ?ei2 (by rw[WC];omega) ?el2)<|by unfold pkL Zl;rw[X7];rfl) ?_)
    case ei2 =>
     refine EvI.cast (Yg (Qv (O rfl) Q6) (by rw[z62];omega)<|by rw[z62];omega) ?_;rw[Xp];unfold ZI;exact XX fun i _=>by rw[Yp]
    case el2 =>
     intro k l c;have l:=XI.mp l;refine⟨_,Zj,?_⟩
     walk_at"e"
     refine⟨Za.cast (Zy<|Gq (Vd (Vd (Qq rfl) (Qq rfl)<|by omega) QA<|by decide) QA) ?_,fun _=>Ve (Qq rfl) (Qq rfl)<|V1<|by unfold Zl;simp[l]⟩
     rw[Xp];unfold Be;have e3:((i:Int)/2^k%2)=((i/2^k%2:Nat):Int):=by
      rw[Int.natCast_emod,Int.natCast_ediv,Int.natCast_pow];rfl
     rw[e3];exact decide_eq_decide.mpr ⟨fun z=>by omega,fun z=>by omega⟩
    walk_at"d"
    refine JS 5 rfl ?_
    walk_at"d"
    have Y:=Z i;exact Zv (b:=false) (Za.cast (Zy<|Vo (Ze (Qv (Qq rfl)<|Qv (Qq rfl)<|Qv (Qq rfl)<|Qv (Qq rfl) Q6)<|R_lsh.mk I (X i) (sg i) Q) QA)<|XH<|by omega) (by rintro⟨⟩) (fun _=>Zz ⟨_,_,rfl⟩)
   case fin =>
    rintro _ ⟨u,o,rfl⟩
    exact ZO Gh rfl
def AH    (a:k<gs.length)(gl:gv.length=gs.length):(hT y n gs gv go ms).given[k]?=some (gv.getD k 0):=by
 show gv[k]?=_
 simp[gl,a]
inductive R_lstands (CH:Addr):List OT->OT->Prop
 |mk {y:Yd} {n:Nat} {gs:List Gs} {gv:Ql} {ms:List Zb} (vl:gv.length=gs.length) (h0:∀k,k<gs.length->0<=rsT gs gv [] k) (g8:gs.length<=8) (hov:∀k,k<gs.length->(gs.getD k default).last<n->rsT gs gv [] k=0):R_lstands CH [.zow<|QY CH<|hT y n gs gv [] ms,.fz<|.list<|(mR gs gv).map eRw,.fz<|.list<|gs.map fun g=>PyData.int g.want,.fz<|.int (n:Int)] (.fz<|.bool true)
def T4:Qp ZaA Zan (Q2 Mw):=by walk_at"p"
def Ol (T:Bl mg) (x:HandC K CH) (D:Df K mg "_law_stands" Mw Zan) (J:Zu P w K mg base CH "now" Zam 1 (Zk K<|R_hnow CH)) (I:Zu P w K mg base CH "open_ones" Zam 5 (Zk K<|R_hopen CH)) (G:Zu P w K mg base CH "got" Zag 4 (Zk K<|R_hgot CH)) (L:Zu P w K mg base CH "rest" Zag 4 (Zk K<|R_hrest CH)):QG P w K mg base "_law_stands" Zan 6 (QL (K:=K)<|R_lstands CH):=by
 refine D.ev T4 (fun S r h=>by cases h;rfl) (fun _ _ _ _ s H E S r v h=>?_);have X:=v.units
 cases h with
 |@mk y n l o M A h0 g8 B =>
   refine⟨_,(Q3 (Zq (Z5 Bs (WV J x v<|pv 0) (pv 3)<|Zx _) (Q4<|QN Vn) Zr)
 (Q3 (Zq (Z5 (Fj X) (WV I x v<|pv 0) (YB (NX:=ZaA) (sc:=Q2 Mw) (N:=ZaH) (f:=[none,some 1]) rfl (by decide +kernel) rfl rfl (VW rfl T.range<|Qo (Zo Vw (by rfl) T.len Vy<|Qo (pv 1) Qs) Qs) (fun _=>(QX (i:=0) (show(ZaH:Qh).Nodup by decide +kernel) rfl Qa)) (fun _=>VC) (fun _=>(Ua<|Z5 VJ (QD QE (QD QE (pv 1)<|pv 0) Qw) Qw<|Zx _)) fun _=>(pv 0))<|Zx _) (Q4<|QN Vn) Zr)
 (Q3 (ZX PassesOwn.never rfl (VW rfl T.range<|Qo (Zo Vw (by rfl) T.len Vy<|Qo (pv 1) Qs) Qs) (QX (i:=4) T4.nd rfl Qa) (Q3 (Zq (PW.pt<|Wh (Z5 Bs (U8 G x v (pv 0)<|Qo (pv 4) Qs) (QU Ym (QD QE (pv 2)<|pv 4)<|QD QE (QD QE (pv 1)<|pv 4) Qw)<|Zx _)<|U5<|Z5 Bs (U8 L x v (pv 0)<|Qo (pv 4) Qs) (QD QE (QD QE (pv 1)<|pv 4) Qw)<|Zx _) (Q4<|QN Vn) Zr)
 (Q4<|Zq (PW.pt<|U4 (Z5 Wj (QD QE (QD QE (pv 1)<|pv 4) Qw) (pv 3)<|Zx _)<|UB<|Z5 VJ (QD QE (QD QE (pv 1)<|pv 4) Qw) Qw<|Zx _) (Q4<|QN Vn) Zr)))
 (Q4<|QN Vn)))),?_⟩
   show Q1 K _ [some _,some _,some _,some _,none] _
   walk_at"x"
   have U:=Dw l o;have O:∀{u:QF},u[1]?=some (some<|.fz<|.list<|(mR l o).map eRw)->Qu K (tCB (Jf K)<|QI (Q8 1) QQ) u (.int (l.length:Int)):=fun e=>Qu.cast (WP<|Qq e) (by rw[Xl,U]);refine QH (Zv (b:=false) (Za.cast (Zy<|Gr (UF Fv rfl Q6 R_hnow.mk)<|Qq rfl)<|by show(!decide ((n:Int)=(n:Int)))=false;rw[XJ rfl];rfl) (by rintro⟨⟩) fun _=>Zz ?_);have F:=So ((List.range l.length).filter fun k=>decide (rsT l o [] k > 0));refine QH (Zv (b:=false) (Za.cast (Zy<|NQ (a:=.list (Zl<|(List.range l.length).filter fun k=>decide (rsT l o [] k > 0))) (b:=.list (Zl<|(List.range l.length).filter fun k=>decide (rsT l o [] k > 0))) (Qu.cast (EvO.fz<|ZA.o<|J1 C7 rfl Q6<|R_hopen.mk (N:=hT y n l o [] M) (rsT l o []) (fun j Y=>BE A<|by simpa [hT] using Y)<|by show(l.map QO).length<=1000;rw[Xl];omega) ?op1) (EvO.fz<|JY (xs:=List.range l.length) (enc:=fun(k:Nat)=>PyData.int (k:Int)) (h:=fun(k:Nat)=>PyData.int (k:Int)) (p:=fun k=>decide (rsT l o [] k > 0)) ?ei1 (by rw[WC];omega) ?el1) F F)<|by rw[BQ F];rfl) (by rintro⟨⟩) fun _=>Zz ?_)
   case op1 =>
    show PyData.list (Zl<|(List.range (l.map QO).length).filter fun j => !decide (rsT l o [] j=0))=_;rw[Xl,List.filter_congr fun k q=>?_]
    have:=h0 k (XI.mp q)
    rw[<- decide_not];exact decide_eq_decide.mpr ⟨fun z=>by omega,fun z=>by omega⟩
   case ei1 =>
    refine EvI.cast (Yg (Qv (O rfl) Q6) (by rw[z62];omega)<|by rw[z62];omega) ?_;rw[Xp];unfold ZI;exact XX fun i _=>by rw[Yp]
   case el1 =>
    intro k q c;have q:=XI.mp q;refine⟨_,Zj,?_⟩
    walk_at"e"
    refine⟨Za.cast (Zy<|Vo (Ve (ds:=rwL ((mR l o).getD k default)) (Ve (Qq rfl) (Qq rfl)<|Gi<|by omega) QA rfl) QA) ?_,fun _=>Qq rfl⟩;rw[JM q]
   refine QH (GH (ds:=ZI 0 l.length) (fun i=>[some<|.zow<|QY CH<|hT y n l o [] M,some<|.fz<|.list<|(mR l o).map eRw,some<|.fz<|.list<|l.map fun g=>PyData.int g.want,some<|.fz<|.int (n:Int),none]) ?ei ⟨rfl,rfl,rfl,rfl,trivial⟩ ?st ?fin)
   case ei=>exact EvI.cast (Yg (Qv (O rfl) Q6) (by rw[z62];omega)<|by rw[z62];omega) (YX rfl (by omega))
   case st =>
    intro k d hd;obtain⟨q,rfl⟩:=Y6 hd;refine⟨_,Zj,?_⟩
    walk_at"d"
    rw[Yp];have t:∀{u:QF} {m:Int} {d:PyData},u[1]?=some (some<|.fz<|.list<|(mR l o).map eRw)->u[4]?=some (some<|.fz<|.int (k:Int))->atI (rwL { l.getD k default with want:=rsT l o [] k }) m=some d->Qu K (tOp (rIx K) (tOp (rIx K) (Q8 1)<|Q8 4)<|tC<|.int m) u d:=fun{u m d} e1 e4 h=>Ve (ds:=rwL { l.getD k default with want:=rsT l o [] k }) (Qu.cast (Ve (Qq e1) (Qq e4)<|Gi<|by omega)<|by rw[JM q]) QA h;have R:atI (l.map fun g=>PyData.int g.want) (k:Int)=some (.int (l.getD k default).want):=V1 (by simp[q]);have ge:o.getD k 0=(l.getD k default).want-rsT l o [] k:=by unfold rsT;rw[Xa<|by simp];omega
    refine QH (Zv (b:=false) (YL (b:=false) (c:=false) (Za.cast (Zy<|Gr (UF LI rfl (Qv (Qq rfl) Q6)<|R_hgot.mk (by simp[hT,q])<|AH q A)<|Z8 (Ve (Qq rfl) (Qq rfl) R)<|t rfl rfl rfl)<|by rw[XJ ge];rfl) fun _=>Za.cast (Zy<|Gr (UF Hg rfl (Qv (Qq rfl) Q6)<|R_hrest.mk<|BE A q)<|t rfl rfl rfl)<|by rw[XJ rfl];rfl) (by rintro⟨⟩) fun _=>Zz ?_);refine Zv (b:=false) (Za.cast (U0 (Zy<|Vo (t rfl rfl rfl)<|Qq rfl) fun _=>Zy<|Vo (t rfl rfl rfl) QA) ?lb) (by rintro⟨⟩) (fun _=>Zz ⟨rfl,rfl,rfl,rfl,trivial⟩)
    case lb =>
     by_cases c:(l.getD k default).last<n
     .have:=B k q c
      show(decide (((l.getD k default).last:Int)<(n:Int))&&decide (rsT l o [] k > 0))=false
      rw[this];exact Bool.and_false _
     .show(decide (((l.getD k default).last:Int)<(n:Int))&&decide (rsT l o [] k > 0))=false
      rw[XH<|by omega];rfl
   case fin =>
    intro Q Z;refine Gy Z ?_;exact ZO Gh rfl
def Pr (s:Str) (h:s = "in" \/ s = "room"):Yq (.str s):=by rcases h with rfl|rfl<;>exact⟨by decide +kernel,XQ _⟩
def Mb  : rsT gs (List.replicate gs.length 0) [] k=(gs.getD k default).want:=by
 unfold rsT;rw[Xa<|by simp];have:(List.replicate gs.length (0:Int)).getD k 0=0:=by
  rw[List.getD,MC];split<;>rfl
 rw[this,Int.sub_zero]
def Sj (gs:List Gs):mT 0 gs (List.replicate gs.length 0) []=gs:=by
 apply List.ext_getElem?
 intro i;unfold mT;by_cases h:i<gs.length
 .rw[Xn,List.getElem?_range h,XL h]
  show some (stl gs 0 (rsT gs (List.replicate gs.length 0) []) i)=_;unfold stl;rw[Mb];simp[h]
 .rw[JB<|by simp;omega,JB<|by omega]
def Ev (c:y.Ok)(S:Qm):ZB y (Qx []) S<=0:=by
 unfold ZB;have a:0<=Qz (fun t=>passes y (fun l=>Z3 y l t) (V2 (Qx []) S t) 0) y.T:=BB fun t _=>P1 c (fun l=>B0 c l t) (fun l=>Wb _);have b:Qz (QZ S (Qx []).wa) (Qx []).m=0:=rfl;rw[b];omega
noncomputable def V3 (gs:List Gs)(W:Qn):List (Qd):=(List.range gs.length).map fun k=>rwL { gs.getD k default with want:=W k }
def BW (gs:List Gs)(W:Qn):(V3 gs W).length=gs.length:=by simp[V3]
def GA  (h:k<gs.length):(V3 gs W)[k]?=some (rwL { gs.getD k default with want:=W k }):=by simp[V3,h]
def Cz  (h:∀k,k<gs.length->W k=W' k):V3 gs W=V3 gs W':=XX fun k a=>by rw[h k<|XI.mp a]
def Cn (gs:List Gs)(gv:Ql):(V3 gs<|rsT gs gv []).map PyData.list=(mR gs gv).map eRw:=by
 unfold V3 mR;rw[X7,X7];rfl
def Fr (gs:List Gs):gs.map rwL=V3 gs (rsT gs (List.replicate gs.length 0) []):=by
 apply List.ext_getElem?
 intro i;unfold V3;by_cases h:i<gs.length
 .rw[Xn,Xn,List.getElem?_range h,XL h]
  show some (rwL gs[i])=some (rwL { gs.getD i default with want:=rsT gs (List.replicate gs.length 0) [] i });rw[Mb];simp[h]
 .rw[JB<|by simp;omega,JB<|by simp;omega]
def Es  (h:k<gs.length)(v:Int):(V3 gs W).set k ((rwL { gs.getD k default with want:=W k }).set 3 (.int v))=V3 gs fun j=>if j=k then v else W j:=by
 apply List.ext_getElem?
 intro j;by_cases e:j=k
 .subst e
  rw[Xj<|by rw[BW];exact h,GA h,Xd rfl];rfl
 .rw[Xo<|Ne.symm e]
  by_cases a:j<gs.length
  .rw[GA a,GA a,Xa e]
  .rw[JB<|by rw[BW];omega,JB<|by rw[BW];omega]
def Eu    (j:y.Ok)(m:∀x∈gs,G30 y x)(h0:∀k,k<gs.length->0<=rsT gs gv [] k)(h:t<y.T)(s:gs.length<=8)(f:WJ y (Qx<|mT t gs gv []) φ) :
 R_lghold [.zow<|DwZ o<|gfD (QM (Qx<|mT t gs gv []) φ t) gs.length,.fz<|QV y,.fz<|.list<|(mR gs gv).map eRw,.fz<|.int (t:Int)] (.fz<|.bool true):=by
 have g:=Dw gs gv;have i:(Qx<|mT t gs gv []).m=gs.length:=Y0 t gs gv [];have F:=f.1
 have r:R_lghold [.zow<|DwZ o<|gfD (QM (Qx<|mT t gs gv []) φ t) (mR gs gv).length,.fz<|QV y,.fz<|.list<|(mR gs gv).map eRw,.fz<|.int (t:Int)] (.fz<|.bool true):=by
  refine R_lghold.mk j h (by rw[g];exact s) (fun k d=>?_) (fun k d=>?_) (fun k d v=>?_) (fun l q=>?_)
  .rw[g]at d
   rw[JM d];exact(m (gs.getD k default)<|by simp[d]).ok.ln
  .rw[g]at d
   exact(F.tak (by rw[i];exact d) h).1
  .rw[g]at d
   have a:=(F.tak (show k<(Qx<|mT t gs gv []).m by rw[i];exact d) h).2;have b:=DV f h d
   have n:(Qx<|mT t gs gv []).th k t=ZH (stl gs t (rsT gs gv []) k) (t:Int):=by
    show ZH ((mT t gs gv []).getD k default) (t:Int)=_;rw[Yl d]
   have p:(Qx<|mT t gs gv []).mo k=(gs.getD k default).most:=by
    show((mT t gs gv []).getD k default).most=_
    rw[Yl d];rfl
   unfold moT at a;rw[n,p]at a;rw[JM d];by_cases c:ZH (stl gs t (rsT gs gv []) k) (t:Int)=true
   .rw[Xd c]at a
    refine⟨?_,a,b⟩;unfold ZH stl at c;unfold ZH;simp only[WB,decide_eq_true_eq]at c ⊢;refine⟨?_,c.2⟩
    have:=c.1
    have:(((max (gs.getD k default).first t:Nat):Int)<=(t:Int)):=this
    show((gs.getD k default).first:Int)<=(t:Int)
    omega
   .rw[Xa c]at a
    omega
  .have a:=F.load j (G2<|Bq m h0) h q
   have e:ZK y (mR gs gv).length (fun k=>((mR gs gv).getD k default).line) (QM (Qx<|mT t gs gv []) φ t) l=ZK y (Qx<|mT t gs gv []).m (Qx<|mT t gs gv []).ln (QM (Qx<|mT t gs gv []) φ t) l:=by
    unfold ZK;rw[g,i];refine Zi fun k d=>?_
    have u:(Qx<|mT t gs gv []).ln k=((mR gs gv).getD k default).line:=by
     show((mT t gs gv []).getD k default).line=_
     rw[Yl d,JM d];rfl
    rw[u]
   rw[e];exact a
 rw[g]at r;exact r
def YQ:Qp Zab ["_law_script"] (Q2 Wi):=by walk_at"p"
def Fw  (T:Bl mg) (UH:HandC K CH) (F:Fun K "law" "law" Wi f fd) (Xbh:QG P w K mg base "_law_cell_at" ZaB 1 (QL (K:=K) R_cell)) (Xbr:QG P w K mg base "_law_feed" ["_law_cell"] 1 (Zk K R_feed)) (XbQ:QG P w K mg base "_law_yard" ZaU 2 (spP K olP R_dyard)) (XbR:QG P w K mg base "_law_guest" Zao 2 (spP K olP R_dguest)) (XbS:Dc P w K mg base "Hand" CH ZaN 1)
 (XbT:QG P w K mg base "_law_come" Zaz 9 (Bi K CH R_lcome<|X_lcome CH)) (Xbg:YA P w K mg base CH "turn" Zam 7 (JG K CH ct WE R_hturn<|X_hturn CH)) (XbU:QG P w K mg base "_law_gifts_hold" Zak 1 (QL (K:=K) R_lghold)) (Xbs:Zu P w K mg base CH "gifts" Zam 1 (Zk K<|R_hgifts CH)) (Xbt:QG P w K mg base "_law_stands" Zan 6 (QL (K:=K)<|R_lstands CH)) (XbV:QG P w K mg base "_law_all_kept" Zas 3 (QL (K:=K) R_lkept)) (XbW:QG P w K mg base "_law_over" ["_law_hand"] 8 (Zk K<|R_lover CH)) (XbX:Zu P w K mg base CH "yard_now" Zam 1 (Zk K<|R_hyard CH)) :
 FnOk P w K mg base CX0 10 f fd ["_law_script"] (B3 K):=by
 refine F.evLaw YQ (fun cdv A outer s H E ns p hl hb=>?_);have hu:=p.units;refine⟨_,(Q3 (QW (i:=1) YQ.nd rfl Qa<|QJ XbQ p<|Qo (QJ Xbr p<|Qo (QJ Xbh p<|Qo (pv 0)<|Qo Qw Qs) Qs) Qs)
 (Q3 (QW (i:=2) YQ.nd rfl Qa<|A8 XbS p<|Qo (pv 1) Qs)
 (Q3 (QW (i:=3) YQ.nd rfl Qa<|ZC Qs)
 (Q3 (ZX PassesOwn.never rfl (VW rfl T.range<|Qo (QU Vx Qw<|QU Jq (QJ Xbh p<|Qo (pv 0)<|Qo Qw Qs) Qw) Qs) (QX (i:=4) YQ.nd rfl Qa) (Q3 (QW (i:=5) YQ.nd rfl Qa<|QJ XbR p<|Qo (QJ Xbr p<|Qo (QJ Xbh p<|Qo (pv 0)<|Qo (QU Vx Qw<|pv 4) Qs) Qs)<|Qo (pv 1)<|Qo Qw Qs)
 (Q4<|Zq (Z5 (Bz hu) (QD QE (QJ XbT p<|Qo (pv 2)<|Qo (pv 5) Qs) Qw) Yc<|Zx _) (Q4<|Z2<|VL PySem.F.plainAttrs_list PySem.F.slot_list_append PySem.F.type_list_append VP (pv 3)<|Qo (WS RS (by rfl) T.list Sv<|Qo (pv 5) Qs) Qs) Zr)))
 (Q3 (HJ (i:=6) YQ.nd rfl rfl (NX:=Zab) (sc:=Q2 Wi) (N:=["_law_row"]) (f:=[none]) rfl (by decide +kernel) rfl rfl (Wz<|pv 3) (fun _=>(QX (i:=0) (show(["_law_row"]:Qh).Nodup by decide +kernel) rfl Qa)) (fun _=>VC) (fun _=>Wv) (fun _=>(QD QE (pv 0) Qw)) rfl)
 (Q3 (QW (i:=7) YQ.nd rfl Qa<|ZC Qs)
 (Q3 (ZX PassesOwn.never rfl (VW rfl T.range<|Qo (QD QE (pv 1) Qw) Qs) (QX (i:=8) YQ.nd rfl Qa) (Q3 (QW (i:=9) YQ.nd rfl Qa<|PL Xbg UH p (Dm (C:=ct))<|pv 2)
 (Q3 (Fq 9<|Zq (VU<|Vl<|QJ XbU p<|Qo (pv 9)<|Qo (pv 1)<|Qo (pv 3)<|Qo (pv 8) Qs) (Q4<|QN Vn) Zr)
 (Q3 (ZX PassesOwn.never rfl (S6<|pv 9) (QX (i:=10) YQ.nd rfl Qa)<|Q4<|Y1 (QU Ym (QD QE (QD QE (pv 3)<|pv 10) Qw)<|BD (Ys p) (pv 9) (pv 10) fun _ _=>rfl)<|WN (QD QE (pv 3)<|pv 10) Qw Yn)
 (Q3 (Z2<|VL PySem.F.plainAttrs_list PySem.F.slot_list_append PySem.F.type_list_append VP (pv 7)<|Qo (WS Ah (by rfl) T.dict GF<|Qo (pv 9) Qs) Qs)
 (Q3 (Zq (PW.pt<|Wh (VU<|Vl<|QJ Xbt p<|Qo (pv 2)<|Qo (pv 3)<|Qo (pv 6)<|Qo (QU Vx (pv 8) Qw) Qs)<|U5<|Z5 (RY hu) (WV Xbs UH p<|pv 2) (pv 7)<|Zx _) (Q4<|QN Vn) Zr)
 (Q4<|Zq (VU<|Vl<|QJ XbV p<|Qo (pv 1)<|Qo (pv 3)<|Qo (QU Vx (pv 8) Qw) Qs) (Q4<|QN Vn) Zr)))))))
 (Q3 (Zq (PW.pt<|Wh (VU<|Vl<|QJ XbW p<|Qo (pv 2) Qs)<|Wh (Z5 (RY hu) (WV Xbs UH p<|pv 2) (pv 7)<|Zx _)<|U5<|VU<|Vl<|QJ Xbt p<|Qo (pv 2)<|Qo (pv 3)<|Qo (pv 6)<|Qo (QD QE (pv 1) Qw) Qs) (Q4<|QN Vn) Zr)
 (Q4<|QN<|DP (Bz hu) (WV XbX UH p<|pv 2) (pv 1)<|Zx _))))))))),?_⟩
 show Q1 K _ [some _,none,none,none,none,none,none,none,none,none,none] _
 walk_at"x"
 refine QH (WQ (Ts (Φ:=fun r=>∃y:Yd,y.Ok/\r=.fz (QV y)) (Wx (Qv (Ze (Bw rfl (Qv QA Q6))<|R_cell.mk<|by decide) Q6) R_feed.mk) Q6 fun r G=>?_) fun r G=>?_)
 .obtain⟨a,b,rfl⟩:=G
  refine⟨_,_,rfl,R_dyard.mk,?_⟩;rintro r ds' ⟨y,J,_,e⟩;exact⟨y,J,e⟩
 obtain⟨y,J,rfl⟩:=G
 walk_at"d"
 have t1:=J.t1;have t8:=J.t8;refine QH (BG (AB<|Qq rfl) fun v=>?_)
 walk_at"d"
 refine QH (VM (V9 (ds:=[]) ZG<|by decide) ?_)
 walk_at"d"
 refine C3 3 rfl ?_
 walk_at"d"
 have n0:0<=YC ns 1%6/\YC ns 1%6<6:=by omega
 refine QH (V0 (ds:=ZI 0 (1+YC ns 1%6).toNat) (fun i O=>∃(l:List Gs) (u4 u5:Option OT),l.length<=i/\(∀g∈l,G30 y g)/\(∀S,ZB y (Qx l) S<=0)/\O=[some<|.scr ns,some<|.fz<|QV y,some<|.own v<|Zc CH<|hT y 0 l (List.replicate l.length 0) [] [],some<|.oll<|l.map rwL,u4,u5,none,none,none,none,none]) ?ei ⟨[],_,_,Xv _,(by rintro g ⟨⟩),Ev J,rfl⟩ ?st ?fin)
 case ei=>exact Yg (Qv (Z8 QA<|Vd (Ze (Bw rfl (Qv QA Q6))<|R_cell.mk<|by decide) QA<|by decide) Q6) (by rw[z62];omega) (by rw[z62];omega)
 case st =>
  rintro i d _ X ⟨l,u4,u5,gl,I,ns0,rfl⟩
  obtain⟨hi,rfl⟩:=Y6 X;have hi:i<(1+YC ns 1%6).toNat:=hi;have l7:l.length<=7:=by omega
  refine⟨_,Zj,?_⟩
  walk_at"d"
  rw[Yp];refine QH (WQ (Ts (Φ:=fun r=>∃g:Gs,G30 y g/\r=.fz (QO g)) (Wx (Qv (Ze (Bw rfl (Qv (Z8 QA<|Qq rfl) Q6))<|R_cell.mk<|by omega) Q6) R_feed.mk) (Qv (Qq rfl)<|Qv QA Q6) fun r G=>?_) fun r G=>?_)
  .obtain⟨a,b,rfl⟩:=G
   exact⟨_,_,rfl,R_dguest.mk J,fun r ds' z=>z⟩
  obtain⟨g,gk,rfl⟩:=G
  walk_at"d"
  have zl:(List.replicate l.length (0:Int)).length=l.length:=List.length_replicate
  have Z:∀k,k<l.length->0<=rsT l (List.replicate l.length 0) [] k:=fun k u=>by
   rw[Mb];have:=(I (l.getD k default)<|by simp[u]).ok.w1;omega
  have fin:=Pr "in" (.inl rfl);have frm:=Pr "room" (.inr rfl);have mz:=Sj l
  by_cases hS:∀S,ZB y (Qx<|l++[g]) S<=0
  .have lc:=R_lcome.mk (ms:=[]) J I gk zl (XQ _) Z l7 (by rw[mz];exact hS)
   refine Sb (i:=2) (s:=fun te=>Gc (Gj<|tOp _ te _) _ _) (Θ:=fun d o=>d=.str "in" /\ o=.own v (Zc CH<|hT y 0 (l++[g]) (List.replicate l.length 0++[0]) [] [])) (SH rfl (Qv (Qq rfl) Q6)<|.inl ⟨_,lc,?_⟩) (fun _ _ _ _ _ _ h=>h _ fun _ _ z=>z) ?_
   .rintro r N' ⟨rfl,rfl⟩
    exact⟨_,_,_,rfl,rfl,rfl,rfl⟩
   rintro d w o ⟨rfl,rfl⟩ hf
   cases hf
   walk_at"d"
   refine Zv (b:=true) (Za.cast (Zy<|Gx (a:=.str "in") (b:=.str "in") Yu Yu fin fin)<|by rw[BQ fin]) (fun _=>?_) (by rintro⟨⟩);refine FT rfl (R9 (ds:=rwL g)<|Qq rfl) (by rw[Xl];omega) ?_
   walk_at"d"
   have e1:List.replicate l.length (0:Int)++[0]=List.replicate (l++[g]).length 0:=by
    rw[Xs,List.length_singleton,List.replicate_succ']
   have e2:l.map rwL++[rwL g]=(l++[g]).map rwL:=by rw[XB];rfl
   rw[e1,e2];refine⟨l++[g],_,_,by rw[Xs];show l.length+1<=_;omega,fun x hx=>?_,hS,rfl⟩
   rcases Xy.mp hx with hx|hx
   .exact I x hx
   .rw[Xh.mp hx];exact gk
  .obtain⟨S0,hS0⟩:∃S,0<ZB y (Qx<|l++[g]) S:=Classical.byContradiction fun c=>hS fun S=>Int.not_lt.mp fun z=>c ⟨S,z⟩
   have lc:=X_lcome.mk (CH:=CH) (ms:=[]) J I gk zl (XQ _) Z l7 (S:=S0) (by rw[mz];exact hS0);refine Sb (i:=2) (s:=fun te=>Gc (Gj<|tOp _ te _) _ _) (Θ:=fun d o=>d=.str "room" /\ o=.own v (Zc CH<|hT y 0 l (List.replicate l.length 0) [] [])) (SH rfl (Qv (Qq rfl) Q6)<|.inr ⟨_,lc,?_⟩) (fun _ _ _ _ _ _ h=>h _ fun _ _ z=>z) ?_
   .rintro r ⟨v',S,_,rfl⟩
    exact⟨_,_,_,_,rfl,rfl,rfl,rfl⟩
   rintro d w o ⟨rfl,rfl⟩ hf
   cases hf
   walk_at"d"
   exact Zv (b:=false) (Za.cast (Zy<|Gx (a:=.str "room") (b:=.str "in") Yu Yu frm fin)<|by decide +kernel) (by rintro⟨⟩) (fun _=>Zz ⟨l,_,_,by omega,I,ns0,rfl⟩)
 case fin =>
  rintro _ ⟨l,u4,u5,gl,I,ns0,rfl⟩
  rw[W0]at gl;have g8:l.length<=8:=by omega
  clear gl n0;have fz0:Ji (.oll<|l.map rwL)=some (.list<|l.map eRw):=by
   show some (PyData.list<|(l.map rwL).map PyData.list)=_;rw[X7];rfl
  refine QH (VM (r:=.ol (l.map fun g=>PyData.int g.want)) (Ao 3 rfl fz0 (fun d X=>by obtain⟨g,_,rfl⟩:=XO.mp X;exact⟨_,rfl⟩)<|Ux (xs:=l) (enc:=eRw) (h:=fun g=>PyData.int g.want) (Jv<|Qq rfl) (by omega) ?el1) ?_)
  case el1 =>
   intro g hg' c;refine⟨_,Zj,?_⟩;exact Ve (ds:=rwL g) (Qq rfl) QA rfl
  walk_at"d"
  refine JS 6 rfl ?_
  walk_at"d"
  refine QH (VM (V9 (ds:=[]) ZG<|by decide) ?_)
  walk_at"d"
  refine C6 7 rfl fun w7=>?_
  walk_at"d"
  have h00:∀k,k<l.length->0<=rsT l (List.replicate l.length 0) [] k:=fun k u=>by
   rw[Mb];have:=(I (l.getD k default)<|by simp[u]).ok.w1;omega
  have ns1:∀S,ZB y (Qx<|mT 0 l (List.replicate l.length 0) []) S<=0:=by rw[Sj];exact ns0
  rw[Fr l];have fzW:∀n:Ql,Ji (.oll<|V3 l<|rsT l n [])=some (.list<|(mR l n).map eRw):=fun n=>by
   show some (PyData.list<|(V3 l<|rsT l n []).map PyData.list)=_;rw[Cn]
  refine QH (V0 (ds:=ZI 0 y.T) (fun t O=>∃(n:Ql) (ms:List Zb) (u8 u9 D:Option OT),n.length=l.length/\(∀k,k<l.length->0<=rsT l n [] k)/\(∀S,ZB y (Qx<|mT t l n []) S<=0)/\ms.length=t/\(∀k∈ms,JQ k)/\O=[some<|.scr ns,some<|.fz<|QV y,some<|.own v<|Zc CH<|hT y t l n [] ms,some<|.oll<|V3 l<|rsT l n [],u4,u5,some<|.fz<|.list<|l.map fun g=>PyData.int g.want,some<|.own w7<|dlP ms,u8,u9,D]) ?ei2 ⟨_,[],_,_,_,List.length_replicate,h00,ns1,rfl,(by rintro k ⟨⟩),rfl⟩ ?st2 ?fin2)
  case ei2=>exact EvI.cast (Yg (Qv (Yb (ds:=[PyData.int (y.T:Int),.tuple<|y.ls.map ZY]) (Qq rfl) QA rfl) Q6) (by rw[z62];omega)<|by rw[z62];omega) (YX rfl (by omega))
  case st2 =>
   rintro t d _ X ⟨n,ms,u8,u9,D,vl,Z,Q,ml,mf,rfl⟩
   obtain⟨ht,rfl⟩:=Y6 X;have ht:t<y.T:=ht;refine⟨_,Zj,?_⟩
   walk_at"d"
   rw[Yp];refine QH (Eb (i:=2) (j:=9) Sc rfl Q6 (R_hturn.mk J I vl ht Z g8<|by omega) DX ?_)
   rintro r N' ⟨φ,v3,B,rfl,rfl⟩
   walk_at"d"
   have hold:=fun o=>Eu (o:=o) J I Z ht g8 B;have R:=ER B ht;have q:=IX J I Z B ht Q;have Y:=CB n (QM (Qx<|mT t l n []) φ t) l.length l.length;have Gm:(Qx<|mT t l n []).m=l.length:=Y0 t l n [];have fn:∀k,k<l.length->0<=QM (Qx<|mT t l n []) φ t k:=fun k u=>(B.1.tak (by rw[Gm];exact u) ht).1;generalize hf:QM (Qx<|mT t l n []) φ t=f at hold R q Y fn;clear B hf Q;refine QH (El 9 rfl fun o=>?_)
   walk_at"d"
   refine Zv (b:=false) (GM 3 rfl (fzW n)<|VN (b:=true)<|ZJ<|Ze (U3 rfl (Qv (Qq rfl)<|Qv (Qq rfl)<|Qv (Qq rfl) Q6))<|hold o) (by rintro⟨⟩) (fun _=>Zz ?_);have Lm:∀j,j∈((List.range l.length).filter fun k=>decide (f k > 0))↔j<l.length/\f j > 0:=fun j=>by rw[JE,XI,decide_eq_true_eq]
   have Ln:((List.range l.length).filter fun k=>decide (f k > 0)).Nodup:=List.Pairwise.filter _ List.nodup_range;have Lk:=Su f l.length;have gfl:=EB f l.length;generalize ((List.range l.length).filter fun k=>decide (f k > 0))=L at Lm Ln Lk;refine QH (V0 (ds:=Zl L) (fun i O=>∃(W:Qn) (D:Option OT),(∀j,j∈L.take i->W j=rsT l n [] j-f j)/\(∀j,j∉L.take i->W j=rsT l n [] j)/\O=[some<|.scr ns,some<|.fz<|QV y,some<|.own v<|Zc CH<|hT y (t+1) l (gvT n f l.length l.length) []<|ms++[gfD f l.length],some<|.oll<|V3 l W,u4,u5,some<|.fz<|.list<|l.map fun g=>PyData.int g.want,some<|.own w7<|dlP ms,some<|.fz<|.int (t:Int),some<|.zow<|DwZ o<|gfD f l.length,D]) (EvI.cast (RV rfl) Lk) ⟨_,_,(fun j M=>by simp at M),(fun _ _=>rfl),rfl⟩ ?st4 ?fin4)
   case st4 =>
    rintro i d _ X ⟨W,D,W1,W2,rfl⟩
    have hi:i<L.length:=by
     have:=(Xf.mp X).1
     simpa [Zl] using this
    obtain rfl:d=.int ((L[i]:Nat):Int):=by
     unfold Zl at X;rw[Xn,XL hi]at X;exact(Option.some.inj X).symm
    have hm:=(Lm L[i]).mp (X0 hi);have tk:L.take (i+1)=L.take i++[L[i]]:=by rw[W8,XL hi];rfl
    have nin:L[i]∉L.take i:=fun z=>by
     have nd:=Ln;rw[<- List.take_append_drop i L,WZ]at nd;exact nd.2.2 L[i] z L[i] (by rw[Ng hi];exact Xb) rfl
    generalize L[i]=k at hm tk nin;refine⟨_,Zj,?_⟩
    walk_at"d"
    have rk:atI ((V3 l W).map PyData.list) (k:Int)=some (.list<|rwL { l.getD k default with want:=W k }):=V1 (by rw[Xn,GA hm.1];rfl);refine Oh (d:=.int (W k-f k)) (k:=(k:Int)) (m:=3) (k':=k) (m':=3) (ds:=rwL { l.getD k default with want:=W k }) rfl (Z8 (Ax 3 rfl rfl rfl (Ve (ds:=rwL { l.getD k default with want:=W k }) (Ve (Qq rfl) (Qq rfl) rk) QA rfl))<|SM (k:=.inl (k:Int)) rfl (Qq rfl)<|RQ hm.1 hm.2) (Qq rfl) QA (by rw[BW,JU (by omega)<|by omega,Xp]) (GA hm.1) rfl ?_
    walk_at"d"
    rw[Es hm.1];refine⟨fun j=>if j=k then W k-f k else W j,_,fun j M=>?_,fun j M=>?_,rfl⟩
    .rw[tk]at M
     dsimp only;by_cases c:j=k
     .subst c
      rw[Xd rfl,W2 j nin]
     .rw[Xa c]
      exact W1 j ((Xy.mp M).resolve_right fun z=>c<|Xh.mp z)
    .rw[tk]at M
     dsimp only;have c:j≠k:=fun z=>M (XV _<|by rw[z];exact List.mem_singleton_self _);rw[Xa c];exact W2 j fun z=>M (Uj _ z)
   case fin4 =>
    rintro _ ⟨W,D,W1,W2,rfl⟩
    have ll:(Zl L).length=L.length:=by unfold Zl;rw[Xl]
    rw[ll,WA]at W1 W2;have We:V3 l W=V3 l (rsT l (gvT n f l.length l.length) []):=Cz fun j M=>by
     have e1:rsT l (gvT n f l.length l.length) [] j=rsT l n [] j-f j:=by
      unfold rsT;rw[Xa<|by simp,Xa<|by simp,DS M];omega
     rw[e1];by_cases c:j∈L
     .exact W1 j c
     .rw[W2 j c]
      have a:=fn j M;have b:¬f j > 0:=fun z=>c ((Lm j).mpr ⟨M,z⟩);omega
    rw[We];clear We W1 W2;generalize gvT n f l.length l.length=U at R q Y;have m8:(ms++[gfD f l.length]).length=t+1:=by rw[Xs,ml];rfl
    have mf':∀k∈ms++[gfD f l.length],JQ k:=fun k u=>by
     rcases Xy.mp u with u|u
     .exact mf k u
     .rw[Xh.mp u];exact gfl
    refine QH (IZ (i:=7) (j:=9) rfl rfl (by omega) ?_)
    walk_at"d"
    have hov:∀k,k<l.length->(l.getD k default).last<t+1->rsT l U [] k=0:=fun k u hl=>Pm J I R q u hl;have tt:(t:Int)+1=((t+1:Nat):Int):=by omega
    refine QH (Zv (b:=false) (BR 2 rfl (GM 3 rfl (fzW U)<|SV (Ψ:=DlZ (ms++[gfD f l.length])) 7 rfl (fun a b c=>dlP.fz a b c)<|YL (b:=false) (c:=false) (VN (b:=true)<|ZJ<|Ze (U3 rfl (Qv (Qq rfl)<|Qv (Qq rfl)<|Qv (Qu.cast (Z8 (Qq rfl) QA)<|by rw[tt]) Q6))<|R_lstands.mk Y R g8 hov) fun _=>Zy<|Pl mf' (J1 SA rfl Q6<|R_hgifts.mk (N:=hT y (t+1) l U [] (ms++[gfD f l.length]))<|by show(ms++[gfD f l.length]).length<=1000;omega) rfl)) (by rintro⟨⟩) fun _=>Zz ?_);refine Zv (b:=false) (GM 3 rfl (fzW U)<|VN (b:=true)<|ZJ<|Ze (Qv (Qq rfl)<|Qv (Qq rfl)<|Qv (Qu.cast (Z8 (Qq rfl) QA)<|by rw[tt]) Q6)<|R_lkept.mk J I g8 (by omega) q) (by rintro⟨⟩) (fun _=>Zz ?_)
    exact⟨U,ms++[gfD f l.length],_,_,_,Y,R,q,m8,mf',rfl⟩
  case fin2 =>
   rintro _ ⟨n,ms,u8,u9,D,vl,Z,Q,ml,mf,rfl⟩
   rw[W0]at Q ml ⊢;have hov:∀k,k<l.length->(l.getD k default).last<y.T->rsT l n [] k=0:=fun k u hl=>Pm J I Z Q u hl;refine QH (Zv (b:=false) (BR 2 rfl (GM 3 rfl (fzW n)<|SV (Ψ:=DlZ ms) 7 rfl (fun a b c=>dlP.fz a b c)<|YL (b:=false) (c:=false) (VN (b:=true)<|ZJ<|EvO.e<|ZA.o<|Wx (U3 rfl Q6) R_lover.mk) fun _=>YL (b:=false) (c:=false) (Zy<|Pl mf (J1 SA rfl Q6<|R_hgifts.mk (N:=hT y y.T l n [] ms)<|by show ms.length<=1000;omega) rfl) fun _=>VN (b:=true)<|ZJ<|Ze (U3 rfl (Qv (Qq rfl)<|Qv (Qq rfl)<|Qv (Yb (ds:=[PyData.int (y.T:Int),.tuple<|y.ls.map ZY]) (Qq rfl) QA rfl) Q6))<|R_lstands.mk vl Z g8 hov)) (by rintro⟨⟩) fun _=>Zz ?_);exact ZO (Qu.cast (BL (d:=.bool true) 2 rfl rfl (Qu.cast (Gx (a:=QV y) (b:=QV y) (UF Cw rfl Q6 R_hyard.mk) (Qq rfl) (B8 y)<|B8 y)<|by rw[BQ<|B8 y])) rfl) rfl
end
inductive DH (K:W.Frag)(x:Str)(st:Stmt):Prop
 |mk {f:Addr} {oc kV dc pm cd ct:Value} {od an:Qj} {sl:Array (Qf)} (a:W.nsIn K mainGlobals x=some (some<|.ref f)) (l:K.lookup f=some ⟨oc,od,.func<|W.fnOf x x (Y2 st) (Z9 st) (Q2 st) .none kV dc pm an cd ct,sl⟩) (c:W.codeIn K cd x=true) (k:W.keepIn K (.ref f)=true):DH K x st
def DH.df    (X:K.In h)(G:h.Ns mainGlobals mg)(H:DH K x st)(e:∀(z:Value×Value×Value×Qj×Value×Value) (us:Qe),us.length=ps.length->bindArgs (W.fnOf x x (Y2 st) (Z9 st) (Q2 st) .none z.1 z.2.1 z.2.2.1 z.2.2.2.1 z.2.2.2.2.1 z.2.2.2.2.2) ⟨us,[]⟩=pure (ps.zip us)):Df K mg x st ps:=by
 cases H with
 |mk a l c k=>exact⟨_,_,Ju l c k,W.mg_of X G a,(Ju l c k).binds fun kV f b j i g us d=>e (kV,f,b,j,i,g) us d⟩
inductive MH (K:W.Frag)(C:Addr)(m q:Str)(st:Stmt):Prop
 |mk {f:Addr} {oc kV dc pm cd ct:Value} {od an:Qj} {sl:Array (Qf)} (a:W.findIn K (.ref C) m=some (some<|.ref f)) (i:W.isFn K (.ref f)=true) (l:K.lookup f=some ⟨oc,od,.func<|W.fnOf m q (Y2 st) (Z9 st) (Q2 st) .none kV dc pm an cd ct,sl⟩) (c:W.codeIn K cd q=true) (k:W.keepIn K (.ref f)=true):MH K C m q st
def MH.mf   (H:MH K C m q st)(e:∀(z:Value×Value×Value×Qj×Value×Value) (us:Qe),us.length=ps.length->bindArgs (W.fnOf m q (Y2 st) (Z9 st) (Q2 st) .none z.1 z.2.1 z.2.2.1 z.2.2.2.1 z.2.2.2.2.1 z.2.2.2.2.2) ⟨us,[]⟩=pure (ps.zip us)):Mf K C m q st ps:=by
 cases H with
 |mk a i l c k=>exact⟨_,_,Ju l c k,⟨a,i,k⟩,(Ju l c k).binds fun kV f b j h g us d=>e (kV,f,b,j,h,g) us d⟩
@[elab_as_elim] theorem ln1 {α:Type}{p:List α->Prop}{us:List α}(h:us.length=1)(k:∀a0,p [a0]):p us:=by
 match us,h with
 |[a0],_=>exact k a0
@[elab_as_elim] theorem ln2 {α:Type}{p:List α->Prop}{us:List α}(h:us.length=2)(k:∀a0 a1,p [a0,a1]):p us:=by
 match us,h with
 |[a0,a1],_=>exact k a0 a1
@[elab_as_elim] theorem ln3 {α:Type}{p:List α->Prop}{us:List α}(h:us.length=3)(k:∀a0 a1 a2,p [a0,a1,a2]):p us:=by
 match us,h with
 |[a0,a1,a2],_=>exact k a0 a1 a2
@[elab_as_elim] theorem ln4 {α:Type}{p:List α->Prop}{us:List α}(h:us.length=4)(k:∀a0 a1 a2 a3,p [a0,a1,a2,a3]):p us:=by
 match us,h with
 |[a0,a1,a2,a3],_=>exact k a0 a1 a2 a3
def Zu9 {P:Program} {w:World} {K:W.Frag} {h:Heap} {f:Str->Qf} {fa C y z:Addr} (X:K.In h) (G:h.Ns mainGlobals f) (hfa:f "law"=some (.ref fa))
 {cg c:Addr}
 {CH:Addr}
 {m CR N:Addr} {odR anR:Qj} {slR:Array (Qf)} {kVR dcR pmR cdR ctR:Value}
 {A l k:Addr} {od42 x od61 an61 od62 an62 dS dE:Qj} {S R Q slS slE:Array (Qf)} {oc42 p q o j r oc61 kV61 dc61 Z u ct61 oc62 kV62 dc62 Y t ct62:Value} {tS tE nS nE:Nat}
 (aC:W.nsIn K mainGlobals "Net"=some (some<|.ref C))
 (aH:W.nsIn K mainGlobals "Hand"=some (some<|.ref CH))
 (h0:DH K "is_whole" Ku)
 (h1:DH K "is_whole_within" KZ)
 (h2:DH K "is_amount" K0)
 (h3:DH K "is_tuple_of" KU)
 (h4:DH K "is_guest" Kw)
 (h5:DH K "turns_of" Kr)
 (h6:DH K "line_count" KJ)
 (h7:DH K "above_of" Kk)
 (h8:DH K "bound_at" Ks)
 (h9:DH K "line_of" HX)
 (h10:DH K "is_there" Ky)
 (h11:DH K "want_of" HZ)
 (h12:DH K "most_of" HV)
 (h13:DH K "with_want" K6)
 (h14:DH K "staying_from" KF)
 (h15:DH K "guest_node" KM)
 (h16:DH K "line_node" K8)
 (h17:DH K "lay_guest" KB)
 (h18:DH K "lay_turn" Km)
 (h19:DH K "filled_net" KL)
 (h20:DH K "takes_by" Mi)
 (h21:DH K "greatest_filling" M6)
 (h22:DH K "guests_reached" M4)
 (h23:DH K "reaching_at" Mz)
 (h24:DH K "given_at" Kt)
 (h25:DH K "given_most" Mt)
 (h26:DH K "short_of" Mq)
 (h27:DH K "best_filling" KG)
 (h28:DH K "lacking_set" KW)
 (h29:DH K "refuse_lack" KO)
 (h30:DH K "_law_cell_at" KH)
 (h31:DH K "_law_feed" K5)
 (h32:DH K "_law_digit" KI)
 (h33:DH K "_law_yard" K2)
 (h34:DH K "_law_guest" Mu)
 (h35:DH K "_law_passes" KQ)
 (h36:DH K "_law_short" Ms)
 (h37:DH K "_law_all_kept" Ba)
 (h38:DH K "_law_come" GY)
 (h39:DH K "_law_gifts_hold" KY)
 (h40:DH K "_law_stands" Mw)
 (h41:DH K "_law_over" KA)
 (a42:W.nsIn K mainGlobals "law"=some (some<|.ref A))
 (l42:K.lookup A=some ⟨oc42,od42,.func<|W.fnOf "law" "law" (Y2 Wi) (Z9 Wi) (Q2 Wi) .none p q o x j r,S⟩)
 (c42:W.codeIn K j "law"=true)
 (k42:W.keepIn K (.ref A)=true)
 (m43:MH K C "lay" "Net.lay" HS)
 (m44:MH K C "lay_one" "Net.lay_one" KR)
 (m45:MH K C "flow" "Net.flow" Ko)
 (m46:MH K C "reached" "Net.reached" KP)
 (m47:MH K C "push" "Net.push" Mj)
 (m48:MH K C "fill" "Net.fill" Kx)
 (m49:MH K C "way_to" "Net.way_to" KN)
 (m50:MH K CH "now" "Hand.now" Kv)
 (m51:MH K CH "come" "Hand.come" K9)
 (m52:MH K CH "turn" "Hand.turn" K4)
 (m53:MH K CH "got" "Hand.got" Kq)
 (m54:MH K CH "rest" "Hand.rest" K3)
 (m55:MH K CH "open_ones" "Hand.open_ones" M3)
 (m56:MH K CH "gifts" "Hand.gifts" Mv)
 (m57:MH K CH "yard_now" "Hand.yard_now" Nc)
 (m58:MH K CH "still_there" "Hand.still_there" Na)
 (m59:MH K CH "refuse_past" "Hand.refuse_past" Nb)
 (m60:MH K CH "refuse_number" "Hand.refuse_number" Nf)
 (a61:W.findIn K (.ref C) "__init__"=some (some<|.ref l))
 (i61:W.isFn K (.ref l)=true)
 (l61:K.lookup l=some ⟨oc61,od61,.func<|W.fnOf "__init__" "Net.__init__" (Y2 UV) (Z9 UV) (Q2 UV) .none kV61 dc61 Z an61 u ct61,R⟩)
 (c61:W.codeIn K u "Net.__init__"=true)
 (k61:W.keepIn K (.ref l)=true)
 (a62:W.findIn K (.ref CH) "__init__"=some (some<|.ref k))
 (i62:W.isFn K (.ref k)=true)
 (l62:K.lookup k=some ⟨oc62,od62,.func<|W.fnOf "__init__" "Hand.__init__" (Y2 UT) (Z9 UT) (Q2 UT) .none kV62 dc62 Y an62 t ct62,Q⟩)
 (c62:W.codeIn K t "Hand.__init__"=true)
 (k62:W.keepIn K (.ref k)=true)
 (pg:W.plainGet K C Str.empty=true)
 (hd:W.hasDictIn K C=true)
 (po:W.plainOver K C=true)
 (sa:W.findIn K (.ref C) "__setattr__"=some (some<|.builtin "object.__setattr__"))
 (mk:W.makesIn K C=true)
 (kc:W.keepIn K (.ref C)=true)
 (Hpg:W.plainGet K CH Str.empty=true)
 (Hhd:W.hasDictIn K CH=true)
 (Hpo:W.plainOver K CH=true)
 (Hsa:W.findIn K (.ref CH) "__setattr__"=some (some<|.builtin "object.__setattr__"))
 (Hmk:W.makesIn K CH=true)
 (Hkc:W.keepIn K (.ref CH)=true)
 (Hn0:W.findIn K (.ref CH) "yard"=some none)
 (Hn1:W.findIn K (.ref CH) "present"=some none)
 (Hn2:W.findIn K (.ref CH) "known"=some none)
 (Hn3:W.findIn K (.ref CH) "given"=some none)
 (Hn4:W.findIn K (.ref CH) "gone"=some none)
 (Hn5:W.findIn K (.ref CH) "made"=some none)
 (n0:W.findIn K (.ref C) "ends"=some none)
 (n1:W.findIn K (.ref C) "rooms"=some none)
 (n2:W.findIn K (.ref C) "leaving"=some none)
 (n3:W.findIn K (.ref C) "laid"=some none)
 (aS:W.nsIn K mainGlobals "START"=some (some<|.ref y))
 (lS:K.lookup y=some ⟨.type "tuple",dS,.seq #[.str "start" tS] nS,slS⟩)
 (aE:W.nsIn K mainGlobals "END"=some (some<|.ref z))
 (lE:K.lookup z=some ⟨.type "tuple",dE,.seq #[.str "end" tE] nE,slE⟩)
 (rC:W.nsIn K mainGlobals "NoRoom"=some (some<|.ref CR))
 (rY:W.nsIn K mainGlobals "YardError"=some (some<|.ref m))
 (rf:W.findIn K (.ref CR) "__init__"=some (some<|.ref N))
 (rl:K.lookup N=some ⟨.type "function",odR,.func<|W.fnOf "__init__" "NoRoom.__init__" (Y2 UU) (Z9 UU) (Q2 UU) .none kVR dcR pmR anR cdR ctR,slR⟩)
 (rc:W.codeIn K cdR "NoRoom.__init__"=true)
 (rk:W.keepIn K (.ref N)=true)
 (rx:D6 K CR N=true)
 (rg:W.specialIn K (.ref m) "__getattribute__"=some (some<|.builtin "type.__getattribute__"))
 (rr:W.readsIn K m (.type "type")=true)
 (ri:W.findCls K (.ref m) (.type "type") "__init__"=some (.val<|.builtin "ValueError.__init__"))
 (rs:W.findIn K (.ref CR) "__setattr__"=some (some<|.builtin "object.__setattr__"))
 (ro:((W.clsIn K CR).any fun cd=>WM cd.mro)=true)
 (xa0:W.nsIn K mainGlobals "NoGuest"=some (some<|.ref cg))
 (O:W.nsIn K mainGlobals "NoTime"=some (some<|.ref c))
 (xe:W.exmOne K (.ref CR) (.ref m)=some true)
 (xp:W.findIn K (.ref CR) "__getattribute__"=some (some<|.builtin "BaseException.__getattribute__"))
 (xn:W.findIn K (.ref CR) "some"=some none)
 (xq:W.findIn K (.ref CR) "__getattr__"=some none)
 (xb:W.mroIn K CR (.type "BaseException")=some true)
 (xc:W.findIn K (.ref CR) "__class__"=some (some<|.builtin "object.__class__"))
 (xs:W.specialIn K (.builtin "object.__class__") "__get__"=some (some<|.builtin "getset_descriptor.__get__"))
 (xt:W.takesIn K (.builtin "object.__class__")=some true)
 (xm:W.mroIn K CR (.type "object")=some true)
 (xk1:W.kitOne K (.ref CR) (.ref CR)=some true)
 (xk2:W.kitOne K (.ref CR) (.type "ValueError")=some true)
 (xk3:W.kitOne K (.ref CR) (.ref cg)=some false)
 (xk4:W.kitOne K (.ref CR) (.ref c)=some false)
 (rd:W.hasDictIn K CR=true)
 (rt:W.takerIn K CR "some"=some none)
 (rK:W.keepIn K (.ref CR)=true)
 (tx:DF K c=true)
 (tK:W.keepIn K (.ref c)=true)
 (te:W.exmOne K (.ref c) (.ref m)=some true)
 (tp:W.findIn K (.ref c) "__getattribute__"=some (some<|.builtin "BaseException.__getattribute__"))
 (tq:W.findIn K (.ref c) "__getattr__"=some none)
 (tb:W.mroIn K c (.type "BaseException")=some true)
 (td:W.hasDictIn K c=true)
 (tcl:W.findIn K (.ref c) "__class__"=some (some<|.builtin "object.__class__"))
 (tm:W.mroIn K c (.type "object")=some true)
 (tk1:W.kitOne K (.ref c) (.ref c)=some true)
 (tk2:W.kitOne K (.ref c) (.type "ValueError")=some true)
 (z0:W.nsIn K mainGlobals "abs"=some none)
 (z1:W.nsIn K mainGlobals "len"=some none)
 (z2:W.nsIn K mainGlobals "max"=some none)
 (z3:W.nsIn K mainGlobals "min"=some none)
 (z4:W.nsIn K mainGlobals "sum"=some none)
 (z5:W.nsIn K mainGlobals "any"=some none)
 (z6:W.nsIn K mainGlobals "all"=some none)
 (z7:W.nsIn K mainGlobals "isinstance"=some none)
 (z8:W.nsIn K mainGlobals "int"=some none)
 (z9:W.nsIn K mainGlobals "bool"=some none)
 (z10:W.nsIn K mainGlobals "list"=some none)
 (z11:W.nsIn K mainGlobals "tuple"=some none)
 (z12:W.nsIn K mainGlobals "range"=some none)
 (z13:W.nsIn K mainGlobals "zip"=some none)
 (z14:W.nsIn K mainGlobals "enumerate"=some none)
 (z15:W.nsIn K mainGlobals "dict"=some none)
 (z16:W.nsIn K mainGlobals "ValueError"=some none)
 : (∃y z,W.nsIn K mainGlobals "START"=some (some<|.ref y)/\W.nsIn K mainGlobals "END"=some (some<|.ref z)/\KTup K y "start" /\ KTup K z "end")/\∃fd:FuncData,(∀(s:Shared) (v:Value),BindsTo s fd ⟨[v],[]⟩ [("_law_script",v)])/\∀base:Heap,K.In base->base.Ns mainGlobals f->FnOk P w K f base CX0 10 fa fd ["_law_script"] (B3 K):=by
 have e:=hfa.symm.trans (W.mg_of X G a42)
 cases e
 have T:Bl f:=⟨W.mg_none_of X G z0,W.mg_none_of X G z1,W.mg_none_of X G z2,W.mg_none_of X G z3,W.mg_none_of X G z4,W.mg_none_of X G z5,W.mg_none_of X G z6,W.mg_none_of X G z7,W.mg_none_of X G z8,W.mg_none_of X G z9,W.mg_none_of X G z10,W.mg_none_of X G z11,W.mg_none_of X G z12,W.mg_none_of X G z13,W.mg_none_of X G z14,W.mg_none_of X G z15,W.mg_none_of X G z16⟩;have U:Tx K f C y z:=⟨⟨⟨pg,hd,po,sa⟩,n0,n1,n2,n3⟩,W.mg_of X G aS,W.mg_of X G aE,aS,aE⟩;have d:HandC K CH:=⟨⟨Hpg,Hhd,Hpo,Hsa⟩,Hn0,Hn1,Hn2,Hn3,Hn4,Hn5⟩;have XR:XC K f "NoRoom" m CR N:=⟨LY rx rl rfl rg rr ri,rK,W.mg_of X G rC⟩;have XA:TF K f m CR cg c:=⟨xe,W.mg_of X G rY,⟨⟨xp,xq,xb⟩,rd⟩,xn,⟨⟨xp,xq,xb⟩,rd,xc,xs,xt,xm⟩,xk1,xk2,xk3,xk4,W.mg_of X G xa0,W.mg_of X G O⟩;have XbY:=Ju (st:=UU) rl rc rk;have i:=XbY.binds (ps:=ZaM) fun _ _ _ _ _ _ b a=>ln2 a fun _ _=>rfl;have XZ:MD K f "NoTime" c:=⟨Ft tx,tK,W.mg_of X G O⟩;have XY:TD K f m c:=⟨te,W.mg_of X G rY,⟨⟨tp,tq,tb⟩,td,tcl,xs,xt,tm⟩,tk1,tk2⟩;have Xb1:=Ju (st:=Wi) l42 c42 k42;have XbZ:=Ju (st:=UV) l61 c61 k61;have M:=XbZ.binds (ps:=Zam) fun _ _ _ _ _ _ b a=>ln1 a fun _=>rfl;have Xb0:=Ju (st:=UT) l62 c62 k62;have n:=Xb0.binds (ps:=ZaN) fun _ _ _ _ _ _ b a=>ln2 a fun _ _=>rfl;refine⟨⟨y,z,aS,aE,⟨_,_,_,_,lS⟩,⟨_,_,_,_,lE⟩⟩,W.fnOf "law" "law" (Y2 Wi) (Z9 Wi) (Q2 Wi) .none p q o x j r,fun s v=>.of_eq rfl,fun base _ _=>?_⟩;have Xbh:=Cv (P:=P) (w:=w) (base:=base) T (h30.df X G fun _ b a=>ln2 a fun _ _=>rfl);have Xbr:=CJ (P:=P) (w:=w) (base:=base) T (h31.df X G fun _ b a=>ln1 a fun _=>rfl);have XaY:=A1 (P:=P) (w:=w) (base:=base) T (h32.df X G fun _ b a=>ln2 a fun _ _=>rfl);have XbQ:=CP T (h33.df X G fun _ b a=>ln1 a fun _=>rfl) XaY;have XbR:=ES T (h34.df X G fun _ b a=>ln3 a fun _ _ _=>rfl) XaY;have XbS:Dc P w K f base "Hand" CH ZaN 1:=⟨_,_,⟨Hmk,a62,i62,Hkc⟩,W.mg_of X G aH,n,FY (P:=P) (w:=w) (base:=base) T d Xb0⟩;have XbI:=As (P:=P) (w:=w) (base:=base) T (h3.df X G fun _ b a=>ln2 a fun _ _=>rfl);have XbH:=Iw (P:=P) (w:=w) (base:=base) T (h0.df X G fun _ b a=>ln1 a fun _=>rfl);have L:=EK T (h1.df X G fun _ b a=>ln3 a fun _ _ _=>rfl) XbH;have J:=Aq (P:=P) (w:=w) (base:=base) T (h6.df X G fun _ b a=>ln1 a fun _=>rfl);have g:=CS (P:=P) (w:=w) (base:=base) T (h5.df X G fun _ b a=>ln1 a fun _=>rfl);have Xbm:=OX T (h2.df X G fun _ b a=>ln2 a fun _ _=>rfl) L;have Xbn:=Iy T (h4.df X G fun _ b a=>ln2 a fun _ _=>rfl) XbI L J g Xbm;have Xa8:=AV (P:=P) (w:=w) (base:=base) T d XZ (m59.mf fun _ b a=>ln2 a fun _ _=>rfl);have Xby:MO P w K f base "Net" C 1:=⟨_,_,⟨mk,a61,i61,kc⟩,W.mg_of X G aC,M,LX (P:=P) (w:=w) (base:=base) T U XbZ⟩;have Xbi:=FW (P:=P) (w:=w) (base:=base) T U (m44.mf fun _ b a=>ln4 a fun _ _ _ _=>rfl);have Xa7:=Lq T U (m43.mf fun _ b a=>ln4 a fun _ _ _ _=>rfl) Xbi;have E:=CA (P:=P) (w:=w) (base:=base) T (h11.df X G fun _ b a=>ln1 a fun _=>rfl);have H:=AU (P:=P) (w:=w) (base:=base) T (h15.df X G fun _ b a=>ln1 a fun _=>rfl);have Xbb:=AT (P:=P) (w:=w) (base:=base) T (h10.df X G fun _ b a=>ln2 a fun _ _=>rfl);have Xbc:=Cb (P:=P) (w:=w) (base:=base) T (h12.df X G fun _ b a=>ln1 a fun _=>rfl);have B:=Et (P:=P) (w:=w) (base:=base) T (h16.df X G fun _ b a=>ln2 a fun _ _=>rfl);have F:=EY (P:=P) (w:=w) (base:=base) T (h9.df X G fun _ b a=>ln1 a fun _=>rfl);have Xbz:=Ez T U (h17.df X G fun _ b a=>ln4 a fun _ _ _ _=>rfl) Xa7 E H g Xbb Xbc B F;have I:=Ec (P:=P) (w:=w) (base:=base) T (h8.df X G fun _ b a=>ln3 a fun _ _ _=>rfl);have Xbd:=AF (P:=P) (w:=w) (base:=base) T (h7.df X G fun _ b a=>ln2 a fun _ _=>rfl);have XbA:=AY T U (h18.df X G fun _ b a=>ln3 a fun _ _ _=>rfl) Xa7 I B J Xbd;have Xba:=Ou (P:=P) (w:=w) (base:=base) T U (m46.mf fun _ b a=>ln2 a fun _ _=>rfl);have Xbw:=FE (P:=P) (w:=w) (base:=base) T U (m47.mf fun _ b a=>ln2 a fun _ _=>rfl);have Xbx:=Fp (P:=P) (w:=w) (base:=base) T U (m49.mf fun _ b a=>ln3 a fun _ _ _=>rfl);have XbB:=CI T U (m48.mf fun _ b a=>ln3 a fun _ _ _=>rfl) Xba Xbw Xbx;have Xbe:=EO T U (h19.df X G fun _ b a=>ln2 a fun _ _=>rfl) Xby Xbz g XbA XbB;have XbF:=OS T U (h22.df X G fun _ b a=>ln2 a fun _ _=>rfl) Xbe Xba H;have Xbj:=Ck T (h28.df X G fun _ b a=>ln2 a fun _ _=>rfl) XbF;have Xbu:=OI T (h23.df X G fun _ b a=>ln4 a fun _ _ _ _=>rfl) J Xbb F Xbc Xbd I;have Xbv:=A6 T (h24.df X G fun _ b a=>ln4 a fun _ _ _ _=>rfl) Xbu I;have XbG:=EV T (h25.df X G fun _ b a=>ln3 a fun _ _ _=>rfl) g Xbv;have Xbk:=AD T (h26.df X G fun _ b a=>ln3 a fun _ _ _=>rfl) E XbG;have Xbl:De P w K f base N ZaM 1 (G9 K CR "some"):=⟨_,i,IT (P:=P) (w:=w) (base:=base) T XbY XR.cl ⟨rs,ro,rd⟩ rt<|W.mg_of X G rY⟩;have Xbo:=E5 T XR (h29.df X G fun _ b a=>ln2 a fun _ _=>rfl) Xbj Xbk Xbl;have XbJ:=CL (P:=P) (w:=w) (base:=base) T (h13.df X G fun _ b a=>ln2 a fun _ _=>rfl);have XbK:=FG (P:=P) (w:=w) (base:=base) T (h14.df X G fun _ b a=>ln2 a fun _ _=>rfl);have Xbf:=Fd T d (m60.mf fun _ b a=>ln2 a fun _ _=>rfl) L;have D:=Eo T d (m54.mf fun _ b a=>ln2 a fun _ _=>rfl) Xbf E;have Xa9:=E3 T d (m58.mf fun _ b a=>ln1 a fun _=>rfl) XbJ XbK D;have Xbq:=Aa T d XR (m51.mf fun _ b a=>ln2 a fun _ _=>rfl) Xbn Xa8 Xbo Xa9;have XbT:=Ay T d XR XA (h38.df X G fun _ b a=>ln2 a fun _ _=>rfl) Xbq;have XbC:=Ct (P:=P) (w:=w) (base:=base) T U (m45.mf fun _ b a=>ln3 a fun _ _ _=>rfl);have XbD:=AK T U (h20.df X G fun _ b a=>ln4 a fun _ _ _ _=>rfl) g XbC B F H;have XbE:=Ei T U (h21.df X G fun _ b a=>ln2 a fun _ _=>rfl) Xbe XbD;have Xbp:=C9 T (h27.df X G fun _ b a=>ln2 a fun _ _=>rfl) XbE;have Xbg:=CK T d (m52.mf fun _ b a=>ln1 a fun _=>rfl) Xa8 g Xbp Xa9;have XbU:=EG (P:=P) (w:=w) (base:=base) T (h39.df X G fun _ b a=>ln4 a fun _ _ _ _=>rfl);have Xbs:=EE (P:=P) (w:=w) (base:=base) T d (m56.mf fun _ b a=>ln1 a fun _=>rfl);have XbN:=FO (P:=P) (w:=w) (base:=base) T d (m50.mf fun _ b a=>ln1 a fun _=>rfl);have XbO:=AX T d (m55.mf fun _ b a=>ln1 a fun _=>rfl) D;have XbP:=F9 T d (m53.mf fun _ b a=>ln2 a fun _ _=>rfl) Xbf;have Xbt:=Ol T d (h40.df X G fun _ b a=>ln4 a fun _ _ _ _=>rfl) XbN XbO XbP D;have XbL:=Ab (P:=P) (w:=w) (base:=base) T (h35.df X G fun _ b a=>ln4 a fun _ _ _ _=>rfl);have XbM:=Ly T (h36.df X G fun _ b a=>ln4 a fun _ _ _ _=>rfl) XbL;have XbV:=Ea T (h37.df X G fun _ b a=>ln3 a fun _ _ _=>rfl) XbM;have XbW:=Am T d XZ XY (h41.df X G fun _ b a=>ln1 a fun _=>rfl) Xbg;have XbX:=CY (P:=P) (w:=w) (base:=base) T d (m57.mf fun _ b a=>ln1 a fun _=>rfl);exact Fw T d Xb1 Xbh Xbr XbQ XbR XbS XbT Xbg XbU Xbs Xbt XbV XbW XbX
end My
namespace PySem.W.Fast
def tw6657082686013950315:=Nat
def tw14189202435427008886:=Nat
def tw8568886582605925139:=Nat
def tw6361248460307567374:=Nat
def tw16422532005003709161:=Nat
def tw4476187073760174113:=Nat
def tw2402873237091429517:=Nat
def tw5489931319910265263:=Nat
def tw11048319732910482163:=Nat
def tw1308625019393820118:=Nat
def tw137090347584378214:=Nat
def tw14581271767622014908:=Nat
def tw11961737850765207766:=Nat
def tw12449175743374188761:=Nat
def tw5903377118128224791:=Nat
def tw3497179531536818175:=Nat
def tw11712142040624007715:=Nat
def tw10058207624124349977:=Nat
def tw17401608204020696355:=Nat
def tw18144883187725761765:=Nat
def tw16725076102505249323:=Nat
def tw1208376350894795320:=Nat
def tw13044173315703541141:=Nat
def tw3298017026918951509:=Nat
def tw1952905330600947550:=Nat
def tw3696036141612620832:=Nat
def tw11034810560143564529:=Nat
def tw4454821543422283294:=Nat
def tw3251560094433990742:=Nat
def tw7445053392514083887:=Nat
def tw14540816478163384957:=Nat
def tw3657147744897812011:=Nat
def tw15624837039854633106:=Nat
def tw18433652828450294079:=Nat
def tw14027864323902424297:=Nat
def tw4817875029636564604:=Nat
def tw477765298636685492:=Nat
def tw13338582314157224391:=Nat
def tw14101797451142117086:=Nat
def tw3130941691614999559:=Nat
def tw2706500774621620584:=Nat
def tw2722853224275371267:=Nat
def tw6050055905093668970:=Nat
def tw14494434943634982415:=Nat
def tw8050009393918218794:=Nat
def tw6746438510747506858:=Nat
def tw13132215811405245804:=Nat
def tw17194106228890192849:=Nat
def tw12778092570633361692:=Nat
def tw4204833111840371948:=Nat
def tw8204401075576682615:=Nat
def tw8404468161501916175:=Nat
def tw6062407919102862726:=Nat
def tw8002558046277528789:=Nat
def tw8579706690022267876:=Nat
def tw12356013609400250558:=Nat
def tw417629736592022229:=Nat
def tw10040537990781259259:=Nat
def tw13585888527733729017:=Nat
def tw10387160417705100617:=Nat
def tw2585058709106860995:=Nat
def tw17367807835675034284:=Nat
def tw714383946645596563:=Nat
def tw18391431975290619960:=Nat
def tw6653113656716513736:=Nat
def tw8415651273421546885:=Nat
def tw12394043231600736916:=Nat
def tw18092428104691349048:=Nat
def tw10339485666309205914:=Nat
def tw5301808721597067541:=Nat
def tw10388940664741502812:=Nat
def tw6629231132439012506:=Nat
def tw11244142462384204411:=Nat
def tw4313237236820624921:=Nat
def tw15332051914918561195:=Nat
def tw10290818007277673237:=Nat
def tw9308972024928591450:=Nat
def tw14740715198698707479:=Nat
def tw16855393653442696304:=Nat
def tw7296341738885723016:=Nat
def tw13381011170942410653:=Nat
def tw308473506931470790:=Nat
def tw16787028509559148606:=Nat
def tw3491471035253223363:=Nat
def tw13934695162145690996:=Nat
def tw18252342241561622686:=Nat
def tw8538649692141966711:=Nat
def tw6635104109228692135:=Nat
def tw15419764683014258339:=Nat
def tw12707059463155235029:=Nat
def tw8807852737301058552:=Nat
def tw790126096416184961:=Nat
def tw1984292692617566173:=Nat
def tw5381963903481933395:=Nat
def tw12131057889359686650:=Nat
def tw10913524469928213647:=Nat
def tw10329050214306764806:=Nat
def tw1100860720183257507:=Nat
def tw13753247867465328623:=Nat
def tw4667343051124010029:=Nat
def tw8406909085760499104:=Nat
def tw18185120014485026577:=Nat
def tw10362709986993716528:=Nat
def tw12918962628177810339:=Nat
def tw9218337684788312007:=Nat
def tw6087628841227385650:=Nat
def tw12770523997505475435:=Nat
def tw8424886570560387075:=Nat
def tw12522412769955366122:=Nat
def tw11744318616108427939:=Nat
def tw4809534545450016755:=Nat
def tw2485681079824448998:=Nat
def tw2874538997249230743:=Nat
def tw10176136751941777026:=Nat
def tw181180638126595612:=Nat
def tw6085360883376677472:=Nat
def tw16713037672321342796:=Nat
def tw10118554496364364800:=Nat
def tw15691688184331708602:=Nat
def tw10955479598163868406:=Nat
def tw14932634257619400814:=Nat
def tw1206121751206347755:=Nat
def tw17564078527242906206:=Nat
def tw11290458254868254282:=Nat
def tw4613797580673776643:=Nat
def tw4340807335985411384:=Nat
def tw18205480681223843922:=Nat
def tw16053321432673706051:=Nat
def tw13256183987208383279:=Nat
def tw18010538639600517797:=Nat
def tw9853831440570992287:=Nat
def tw12236689043171613150:=Nat
def tw13273070872701864677:=Nat
def tw11127491211086651356:=Nat
def tw10458080278958054042:=Nat
def tw17376142620073286124:=Nat
def tw13090418492870937536:=Nat
def tw1954282330743441139:=Nat
def tw8936016934757471600:=Nat
def tw11559680902813829681:=Nat
def tw14911735374404895722:=Nat
def tw1976507175612985246:=Nat
def tw17938065185270475387:=Nat
def tw10135908509186415259:=Nat
def tw7748516026271261739:=Nat
def tw13901610783308261456:=Nat
def tw11318329527238465490:=Nat
def tw4318029754360034146:=Nat
def tw7497297181347041445:=Nat
def tw17790281924400391846:=Nat
def tw3534527597971173682:=Nat
def tw10092318744064345242:=Nat
def tw6167656163184706555:=Nat
def tw3002078349503863988:=Nat
def tw6906138309938707771:=Nat
def tw11121680360058766132:=Nat
def tw6055466971066552096:=Nat
def tw9508629035248733812:=Nat
def tw11530109091920758800:=Nat
def tw5019735049854789725:=Nat
def tw14952715488910942390:=Nat
def tw7532106101684013397:=Nat
def tw16707664498350443500:=Nat
def tw14966900663949410736:=Nat
def tw12767983079715169345:=Nat
def tw16572548195383339296:=Nat
def tw1571836366816005282:=Nat
def tw694035464982014626:=Nat
def tw8127523261202698476:=Nat
def tw10549652838768056468:=Nat
def tw3514876470337833942:=Nat
def tw11565455401338930198:=Nat
def tw14227816483593338660:=Nat
def tw17956661188444847744:=Nat
def tw81408111904367066:=Nat
def tw8360313829278402958:=Nat
def tw8547767390318305327:=Nat
def tw7130374130558417836:=Nat
def tw13081741086064762100:=Nat
def tw15779660574718320943:=Nat
def tw3857044404620496169:=Nat
def tw14569560116832557567:=Nat
def tw12074347149634097884:=Nat
def tw6239830601433814259:=Nat
def tw2054390252977211066:=Nat
def tw3388387609334969284:=Nat
def tw5470149278603817811:=Nat
def tw4598061385280870473:=Nat
def tw8123801273600623793:=Nat
def tw11808098638819716863:=Nat
def tw3696340535123999009:=Nat
def tw11203841474372286234:=Nat
def tw10944062349425500058:=Nat
def tw10663787780334209969:=Nat
def tw1418590449190933153:=Nat
def tw17809792994238643729:=Nat
def tw16382388893989734988:=Nat
def tw5196292082073896271:=Nat
def tw18336540494074996835:=Nat
def tw14943402802796736134:=Nat
def tw1354757506818123121:=Nat
def tw4182265705620213940:=Nat
def tw13673223751451429611:=Nat
def tw15882150373703579463:=Nat
def tw4778376920946917061:=Nat
def tw2093168369709895076:=Nat
def tw8639312834307310612:=Nat
def tw13048198024983312189:=Nat
def tw8601583332924569582:=Nat
def tw14515886336817746862:=Nat
def tw10278824899027073102:=Nat
def tw3424989315993194930:=Nat
def tw17371848591088527562:=Nat
def tw1962110255436713101:=Nat
def tw14401735094971564425:=Nat
def tw3985354803241859420:=Nat
def tw12432251683201905141:=Nat
def tw9920032590509318014:=Nat
def tw12682857690199489526:=Nat
def tw17146744233248440191:=Nat
def tw17224124133926441149:=Nat
def tw4557196718408623833:=Nat
def tw16882994181562001536:=Nat
def tw8244084848222109910:=Nat
def tw9134460703514756814:=Nat
def tw6092616445788307166:=Nat
def tw16300061036209071618:=Nat
def tw4667821717660997121:=Nat
def tw11501697772726576888:=Nat
def tw7997766215983204083:=Nat
def tw6253529854428135594:=Nat
def tw10460796404178943029:=Nat
def tw11027608438129525451:=Nat
def tw17588929508685642534:=Nat
def tw11801410747290809847:=Nat
def tw17309139185947713410:=Nat
def tw9140330265093356561:=Nat
def tw5055604909167301380:=Nat
def tw12836735535940464002:=Nat
def tw10899471485443280510:=Nat
def tw9658599328202761618:=Nat
def tw8435260898011037731:=Nat
def tw9210954531889802507:=Nat
def tw11188730849967198036:=Nat
def tw8297458880382164187:=Nat
def tw12871113343548344084:=Nat
def tw7648734537025893310:=Nat
def tw7183942321194882056:=Nat
def tw3794736334507258478:=Nat
def tw2412043762884586919:=Nat
def tw12370497412095999645:=Nat
def tw2804794055726210728:=Nat
def tw10678625734389819280:=Nat
def tw16423989270866828785:=Nat
def tw8151914500135116941:=Nat
def tw2564136447105728238:=Nat
def tw18350101362131667774:=Nat
def tw1764607841328185487:=Nat
def tw10350607570321726411:=Nat
def tw5736443074811859773:=Nat
def tw8957384319867984369:=Nat
def tw16967148601761816238:=Nat
def tw1980911597464224752:=Nat
def tw16298313146967913109:=Nat
def tw15187522037201941248:=Nat
def tw2651691046714578209:=Nat
def tw5696911889366196026:=Nat
def tw9319750527119409719:=Nat
def tw6621890894011655650:=Nat
def tw5445041560335457507:=Nat
def tw14416421341870687308:=Nat
def tw15220353692534650586:=Nat
def tw6587970739305681317:=Nat
def tw10281747132404645632:=Nat
def tw8334073499066318481:=Nat
def tw12580965290318503286:=Nat
def tw10332428648265383854:=Nat
def tw3079204777039390471:=Nat
def tw8618764896461234821:=Nat
def tw394549369798815780:=Nat
def tw3716411819047422217:=Nat
def tw8679495505593985197:=Nat
def tw6388976316489439842:=Nat
def tw4488929780930253221:=Nat
def tw3988976413850373249:=Nat
def tw17886025223909972401:=Nat
def tw15930532395537506505:=Nat
def tw14299541202117598676:=Nat
def tw14248283776301441579:=Nat
def tw13520722665345816252:=Nat
def tw11331461795430886878:=Nat
def tw9988270682849741729:=Nat
def tw9923960117995426186:=Nat
def tw9628631492884578325:=Nat
def tw8310604242002400058:=Nat
def tw7914111912081113969:=Nat
def tw6949700808751067992:=Nat
def tw6517788451530437916:=Nat
def tw4138888565547550696:=Nat
def tw3749163497139207171:=Nat
def tw3460433510760656018:=Nat
def tw2816346434371318211:=Nat
def tw17937294560709496724:=Nat
def tw17773069398263904424:=Nat
def tw17436112107853740526:=Nat
def tw17256580658946034191:=Nat
def tw16593473186249220744:=Nat
def tw14495012070092221967:=Nat
def tw14275009536963067373:=Nat
def tw13887462562048749607:=Nat
def tw13135145816418822686:=Nat
def tw12656208687329732230:=Nat
def tw12368388250661261535:=Nat
def tw12301746541947517590:=Nat
def tw11677742760565757979:=Nat
def tw17569843922432588248:=Nat
def tw6900276683840106087:=Nat
def tw7295469238076172515:=Nat
def tw1879604652159553110:=Nat
def tw4916233297054659624:=Nat
def tw8911813416020264798:=Nat
def tw16903370613490201372:=Nat
def tw1632724943756862686:=Nat
def tw12432318134316059663:=Nat
def tw9518421916066638413:=Nat
def tw6636419184833267365:=Nat
def tw6303185541273038242:=Nat
def tw12958654359765078990:=Nat
def tw8935083601147273546:=Nat
def tw6734793517493143300:=Nat
def tw5265529387032328412:=Nat
def tw3598427813217500583:=Nat
def tw248954201281496520:=Nat
def tw18017984758717265959:=Nat
def tw12384023802403842685:=Nat
def tw6623385484369003704:=Nat
def tw16870308020747979175:=Nat
def tw598133183967187915:=Nat
def tw8470529677509441127:=Nat
def tw8525940365423037605:=Nat
def tw5548514801126067770:=Nat
def tw12388298458623427499:=Nat
def tw16738513485519189147:=Nat
def tw3804543711294835982:=Nat
def tw9949390407343707663:=Nat
def tw8730202762191082320:=Nat
def tw8452609733139262522:=Nat
def tw8400429263061387654:=Nat
def tw8340012453681553103:=Nat
def tw7326911711107536104:=Nat
def tw6909684847826046763:=Nat
def tw3306880988868780565:=Nat
def tw17239651015365358697:=Nat
def tw16960974433655085095:=Nat
def tw1606655895262403709:=Nat
def tw15244238276724297507:=Nat
def tw11124867894928863440:=Nat
def tw7034061081521135522:=Nat
def tw1903599902761936014:=Nat
def tw14558276492276232008:=Nat
def tw8216453098501711921:=Nat
def tw7834211532167069834:=Nat
def tw7535112284896028379:=Nat
def tw208737579162108722:=Nat
def tw18153785137989064447:=Nat
def tw10791028838037812626:=Nat
end PySem.W.Fast
open PySem PySem.W PyProof.Rows
set_option maxRecDepth 100000 in
set_option maxHeartbeats 0 in
theorem PySem.Challenge.cw_chargeyard_k62_turns_made_holds : PySem.Challenge.rw_chargeyard_k62_turns_made.Holds := by
 w_on; o_law; k_head; (case hw=>w_witness2)
 k_fill
 refine L2.Znu (l:=PySem.Challenge.rw_chargeyard_k62_turns_made) (k:=10) (x := "_law_script") rfl rfl ⟨rfl,by decide,by decide⟩ (fun w h Y=>W.kIn_of Y) ?F
 case F =>
  intro w mg fa h KX G hmg
  refine' My.Zu9 KX G hmg ?aC ?aH ?h0 ?h1 ?h2 ?h3 ?h4 ?h5 ?h6 ?h7 ?h8 ?h9 ?h10 ?h11 ?h12 ?h13 ?h14 ?h15 ?h16 ?h17 ?h18 ?h19 ?h20 ?h21 ?h22 ?h23 ?h24 ?h25 ?h26 ?h27 ?h28 ?h29 ?h30 ?h31 ?h32 ?h33 ?h34 ?h35 ?h36 ?h37 ?h38 ?h39 ?h40 ?h41 ?a42 ?l42 ?c42 ?k42 ?m43 ?m44 ?m45 ?m46 ?m47 ?m48 ?m49 ?m50 ?m51 ?m52 ?m53 ?m54 ?m55 ?m56 ?m57 ?m58 ?m59 ?m60 ?a61 ?i61 ?l61 ?c61 ?k61 ?a62 ?i62 ?l62 ?c62 ?k62 ?pg ?hd ?po ?sa ?mk ?kc ?Hpg ?Hhd ?Hpo ?Hsa ?Hmk ?Hkc ?Hn0 ?Hn1 ?Hn2 ?Hn3 ?Hn4 ?Hn5 ?n0 ?n1 ?n2 ?n3 ?aS ?lS ?aE ?lE ?rC ?rY ?rf ?rl ?rc ?rk ?rx ?rg ?rr ?ri ?rs ?ro ?xa0 ?xa1 ?xe ?xp ?xn ?xq ?xb ?xc ?xs ?xt ?xm ?xk1 ?xk2 ?xk3 ?xk4 ?rd ?rt ?rK ?tx ?tK ?te ?tp ?tq ?tb ?td ?tcl ?tm ?tk1 ?tk2 ?z0 ?z1 ?z2 ?z3 ?z4 ?z5 ?z6 ?z7 ?z8 ?z9 ?z10 ?z11 ?z12 ?z13 ?z14 ?z15 ?z16
  case aC | aH | a42 | l42 | c42 | k42 | a61 | i61 | l61 | c61 | k61 | a62 | i62 | l62 | c62 | k62 | pg | hd | po | sa | mk | kc | Hpg | Hhd | Hpo | Hsa | Hmk | Hkc | Hn0 | Hn1 | Hn2 | Hn3 | Hn4 | Hn5 | n0 | n1 | n2 | n3 | aS | lS | aE | lE | rC | rY | rf | rl | rc | rk | rg | rr | ri | rs | xa0 | xa1 | xp | xn | xq | xb | xc | xs | xt | xm | rd | rt | rK | tK | tp | tq | tb | td | tcl | tm | z0 | z1 | z2 | z3 | z4 | z5 | z6 | z7 | z8 | z9 | z10 | z11 | z12 | z13 | z14 | z15 | z16=>k_is
  case xk1 | xk2 | xk3 | xk4 | tk1 | tk2=>kit_is
  case xe | te=>kts_exm
  case h0 | h1 | h2 | h3 | h4 | h5 | h6 | h7 | h8 | h9 | h10 | h11 | h12 | h13 | h14 | h15 | h16 | h17 | h18 | h19 | h20 | h21 | h22 | h23 | h24 | h25 | h26 | h27 | h28 | h29 | h30 | h31 | h32 | h33 | h34 | h35 | h36 | h37 | h38 | h39 | h40 | h41 =>
   refine' My.DH.mk ?a ?l ?c ?k
   case a | l | c | k=>k_is
  case m43 | m44 | m45 | m46 | m47 | m48 | m49 | m50 | m51 | m52 | m53 | m54 | m55 | m56 | m57 | m58 | m59 | m60 =>
   refine' My.MH.mk ?a ?i ?l ?c ?k
   case a | i | l | c | k=>k_is
  case rx | ro | tx=>with_unfolding_all exact Eq.refl true
end
end
