import PyProof.Rows.All
import Wide.All
import OpenK.AllK
import Wide.FinOn
import Lean
import PyProof.EqAt
import PyProof.EqKinds
import PyProof.TupleCall
import PyProof.EqLayable
import PyProof.SumAny
import PyProof.ListRange
import PyProof.WalksEnum
import PyProof.ZipIter
import PyProof.EnumMake
import PyProof.ConsumeS
import PyProof.SeqI3
import PyProof.MaxThree
import PyProof.Rows.TupAdd
import KE.KEqDict
import KE.KIntText
import KE.KIsAll
import KE.KTryMore
import OpenK.KOwn
import PyProof.CollectWalk
import PyProof.DictRoadsH
import PyProof.DictWalks
import PyProof.ExcArgs
import PyProof.ExcBaseAll.ValueError
import PyProof.ExcClass3
import PyProof.FactsAll.dict
import PyProof.FactsAll.set
import PyProof.FactsLen
import PyProof.InstSpecial
import PyProof.MeetsDict
import PyProof.MinMaxWalk
import PyProof.NeKinds
import PyProof.NsDelKeeps
import PyProof.Rows.CatchBare
import PyProof.Rows.SetFrom
import PyProof.Rows.SortWalk
import PyProof.Rows.TupDisplay
import PyProof.RulesAs
import PyProof.SetRoads
import PyProof.SliceStr2
import PyProof.StationsW
import PyProof.StrBlockI
import PyProof.StrCalls6
import PyProof.StrLawsIdx
import PyProof.StrLawsTight
import PyProof.StrOps2
import PyProof.WalkLemmas
import PyProof.WalksMore
import PySem.Challenge.RW_chargeyard_k61_no_guests
set_option Elab.async false
set_option linter.all false
set_option maxRecDepth 100000
set_option maxHeartbeats 4000000
set_option compiler.extract_closed false
set_option genSizeOf false
section
open PySem PySem.Spec PyProof.Rows
def Qa {b:Sort _}{a:b}{q:Prop}:a=a\/q:=Or.inl rfl
abbrev Qb:=Value->Shared->Prop
abbrev Qc:=List (Addr×Obj)
abbrev Qd:=List PyData
abbrev Qe:=List Value
abbrev Qf:=Option Value
abbrev Qg:=List Addr
abbrev Qh:=List Str
abbrev Zaa:Qh:=["yard","guests"]
abbrev Zab:Qh:=["_law_hand","_law_guest_here","_law_told","e","_law_marks","_law_others"]
abbrev Zac:Qh:=["self","start","end","room"]
abbrev Zad:Qh:=["net","yard","number","guest"]
abbrev Zae:Qh:=["_law_hand","_law_guest_here"]
abbrev Zaf:Qh:=["yard","guests","some"]
abbrev Zag:Qh:=["yard","guests","some","turn"]
abbrev Zah:Qh:=["self","number"]
abbrev Zai:Qh:=["_law_feed_here","_law_yard_here","_law_now","_law_first","_law_last","_law_line","_law_scale","_law_want"]
abbrev Zaj:Qh:=["self"]
abbrev Zak:Qh:=["_law_guest_here","_law_yard_here","_law_cell"]
abbrev Zal:Qh:=["_law_feed_here","_law_yard_here","_law_now"]
abbrev Zam:Qh:=["self","start","end"]
abbrev Zan:Qh:=["_law_k","_law_marks"]
abbrev Zao:Qh:=["guest","turn"]
abbrev Zap:Qh:=["self","guest"]
abbrev Zaq:Qh:=["thing","least","end"]
abbrev Zar:Qh:=["_law_feed_here","_law_many"]
abbrev Zas:Qh:=["yard","line","turn"]
abbrev Zat:Qh:=["guest"]
abbrev Zau:Qh:=["yard","guests","some","turn","reaching","number","guest","line"]
abbrev Zav:Qh:=["_law_script","_law_k"]
abbrev Zaw:Qh:=["self","turn"]
abbrev Zax:Qh:=["yard","thing"]
abbrev Zay:Qh:=["_law_hand","_law_many"]
abbrev Zaz:Qh:=["yard"]
abbrev ZaA:Qh:=["line","turn"]
abbrev ZaB:Qh:=["number","guest","net","yard"]
abbrev ZaC:Qh:=["self","edges","end"]
abbrev ZaD:Qh:=["_law_above","_law_bounds"]
abbrev ZaE:Qh:=["thing","length"]
abbrev ZaF:Qh:=["yard","line"]
abbrev ZaG:Qh:=["net","yard","turn"]
abbrev ZaH:Qh:=["self","some"]
abbrev ZaI:Qh:=["self","yard"]
abbrev ZaJ:Qh:=["thing","least"]
abbrev ZaK:Qh:=["self","start"]
abbrev ZaL:Qh:=["guest","want"]
abbrev ZaM:Qh:=["_law_feed_here"]
abbrev ZaN:Qh:=["number"]
abbrev Qi:=List Expr
abbrev Qj:=Option Addr
abbrev Qk:=List Nat
abbrev Ql:=List Int
abbrev Qm:=Nat->Bool
abbrev Qn:=Nat->Int
def Xa:=@wpAny_bind
def Xb:=@List.mem_cons_self
def Xc:=@if_neg
def Xd:=@if_pos
def Xe:=@List.mem_cons_of_mem
def Xf:=@List.mem_cons
def Xg:=@Heap.get?_push_of_some
def Xh:=@List.getElem?_eq_some_iff
def Xi:=@List.mem_singleton
def Xj:=@Heap.lt_size
def Xk:=@wpAny_pure
def Xl:=@List.getElem?_set_self
def Xm:=@absurd
def Xn:=@List.length_map
def Xo:=@List.length_append
def Xp:=@Nat.lt_of_lt_of_le
def Xq:=@Nat.le_refl
def Xr:=@Nat.ne_of_lt
def Xs:=@List.getElem?_set_ne
def Xt:=@List.getElem?_map
def Xu:=@List.map_cons
def Xv:=@List.size_toArray
def Xw:=@Bool.false_ne_true
def Xx:=@List.find?_cons
def Xy:=@List.map_append
def Xz:=@Heap.get?_push_size
def XB:=@List.mem_append
def XD:=@List.nodup_cons
def XF:=@List.append_nil
def XG:=@List.getElem?_append_left
def XH:=@List.lookup_cons
def XI:=@Int.toNat_natCast
def XJ:=@of_decide_eq_true
def XL:=@List.mem_map
def XM:=@Nat.zero_le
def XN:=@List.length_cons
def XO:=@List.not_mem_nil
def XQ:=@Heap.get?_update_other
def XT:=@decide_eq_false
def XU:=@List.mem_range
def XX:=@List.mem_append_right
def X0:=@List.getElem?_append_right
def X7:=@Nat.le_trans
def X8:=@congrArg
def X9:=@List.getElem?_eq_getElem
def Wz:=@Heap.get?_update_self
def VY:=@Nat.ne_of_gt
def Wy:=@Int.toNat_of_nonneg
def Yt:=@Nat.lt_irrefl
def Wx:=@Bool.false_eq_true
def YZ:=@Bool.and_eq_true
def YY:=@List.mem_flatMap
def Ys:=@Nat.le_of_lt
def YX:=@List.range_succ
def YW:=@Option.map_some
def WN:=@Nat.lt_succ_self
def WM:=@List.getElem_mem
def YM:=@List.map_map
def Ww:=@Heap.size_push
def Wv:=@decide_eq_true
def UL:=@List.getElem?_cons_succ
def Js:=@Option.isSome_map
def JT:=@List.flatMap_append
def Jr:=@List.take_length
def Jq:=@List.cons_append
def JS:=@Int.emod_lt_of_pos
def YV:=@wpAny_field
def UK:=@List.mem_append_left
def UJ:=@List.mem_iff_getElem
def Jp:=@Int.emod_nonneg
def UI:=@List.map_congr_left
def Ju:=@List.nodup_nil
def UU:=@List.filter_append
def UT:=@of_decide_eq_false
def WO:=@Int.zero_add
def US:=@Nat.lt_succ_of_lt
def UR:=@List.nodup_append
def UQ:=@List.append_assoc
def JV:=@List.take_succ
def UP:=@List.filter_cons
def MC:=@List.getElem?_replicate
def JU:=@Bool.not_true
def Jt:=@Int.le_refl
def Nc:=@List.eq_nil_of_length_eq_zero
def MB:=@List.pairwise_flatMap
def MA:=@List.getElem?_eq_none
def GL:=@List.length_take
def M9:=@List.length_pos_iff
def Nb:=@List.getElem?_eq_none_iff
def UO:=@List.map_nil
def M8:=@Nat.lt_of_le_of_lt
def UN:=@Int.add_zero
def M7:=@List.flatMap_cons
def M6:=@Heap.get?_push_at
def M5:=@List.length_range
def UM:=@Int.mul_sub
def GK:=@List.sum_cons
end
namespace L2
open PySem PySem.Spec PyProof.Rows
abbrev Key:=Sum Int Str
def JD:Key->Value->Bool
 |.inl k,v=>Value.isInt k v
 |.inr x,v=>Value.isStrOf x v
def TV (w:World):Key->Int
 |.inl k=>hashInt k
 |.inr x=>hashStr w x
theorem WH:∀{k:Key} {v:Value},JD k v=true->(∃i t,k=Sum.inl i/\v=Value.int i t)\/(∃x t,k=Sum.inr x/\v=Value.str x t)
 |.inl i,v,h=>by
   obtain⟨t,e⟩:=Value.isInt_shape (k:=i) (v:=v) h;exact .inl ⟨i,t,rfl,e⟩
 |.inr x,v,h=>by
   obtain⟨t,e⟩:=Value.isStrOf_shape (x:=x) (v:=v) h;exact .inr ⟨x,t,rfl,e⟩
def ER (i:Int)(t:Tok):JD (.inl i) (.int i t)=true:=by simp[JD,Value.isInt]
def EL (x:Str)(t:Tok):JD (.inr x) (.str x t)=true:=by simp[JD,Value.isStrOf]
def La (a b:Int):decide ((Sum.inl a:Key)=Sum.inl b)=(a==b):=by
 by_cases e:a=b
 .subst e;simp
 .have h:¬(Sum.inl a:Key)=Sum.inl b:=fun q=>e (Sum.inl.inj q)
  rw[XT h];exact(beq_eq_false_iff_ne.mpr e).symm
def LD (a b:Str):decide ((Sum.inr a:Key)=Sum.inr b)=decide (a=b):=by
 by_cases e:a=b
 .subst e;simp
 .have h:¬(Sum.inr a:Key)=Sum.inr b:=fun q=>e (Sum.inr.inj q)
  rw[XT h,XT e]
def LE (a:Int)(b:Str):decide ((Sum.inl a:Key)=Sum.inr b)=false:=XT (by rintro⟨⟩)
def Li (a:Str)(b:Int):decide ((Sum.inr a:Key)=Sum.inl b)=false:=XT (by rintro⟨⟩)
def ZI (prog:Program)(w:World):PySem.KeyKind prog w Key where
 is:=JD
 hash:=TV w
 inj:=fun v a b l f=>by
  rcases WH l with ⟨i,t,rfl,rfl⟩|⟨x,t,rfl,rfl⟩
  .rcases WH f with ⟨j,u,rfl,e⟩|⟨y,u,rfl,e⟩
   .injection e with c _;rw[c]
   .exact nomatch e
  .rcases WH f with ⟨j,u,rfl,e⟩|⟨y,u,rfl,e⟩
   .exact nomatch e
   .injection e with c _;rw[c]
 byValue:=fun k v h=>by
  rcases WH h with ⟨i,t,rfl,rfl⟩|⟨x,t,rfl,rfl⟩<;>rfl
 pyHash:=fun d h=>by
  rcases WH d with ⟨i,t,rfl,rfl⟩|⟨x,t,rfl,rfl⟩
  .exact wpAny_pyHash_int h
  .exact wpAny_pyHash_str h
 eqBool:=fun g d h=>by
  rcases WH g with ⟨i,t,rfl,rfl⟩|⟨x,t,rfl,rfl⟩
  .rcases WH d with ⟨j,u,rfl,rfl⟩|⟨y,u,rfl,rfl⟩
   .rw[La]at h;exact wpAny_eqBool_int h
   .rw[LE]at h;exact SeqAt.EqAt.int_str i t y u _ _ _ _ h
  .rcases WH d with ⟨j,u,rfl,rfl⟩|⟨y,u,rfl,rfl⟩
   .rw[Li]at h;exact SeqAt.EqAt.str_int x t j u _ _ _ _ h
   .rw[LD]at h;exact wpAny_eqBool_str h
 «strs» := fun k x t v h=>by
  rcases WH h with ⟨i,u,rfl,e⟩|⟨y,u,rfl,e⟩
  .exact nomatch e
  .injection e with c _
   subst c;cases v<;>rfl
def OP (prog:Program)(w:World)(i:Int)(t:Tok):(ZI prog w).is (.inl i) (.int i t)=true:=ER i t
def OC (prog:Program)(w:World)(x:Str)(t:Tok):(ZI prog w).is (.inr x) (.str x t)=true:=EL x t
inductive V where
 |non|bl (b:Bool)|int (i:Int)|str (x:Str)|byt (b:Array UInt8)|flt (b:UInt64)|ref (a:Addr)|ty (n:String)
 deriving DecidableEq
def QM:V->Value->Prop
 |.non,u=>u=Value.none
 |.bl b,u=>u=Value.bool b
 |.int i,u=>∃t,u=Value.int i t
 |.str x,u=>∃t,u=Value.str x t
 |.byt b,u=>∃t,u=Value.bytes b t
 |.flt b,u=>∃t,u=Value.float b t
 |.ref a,u=>u=Value.ref a
 |.ty n,u=>u=Value.type n
abbrev QP:List V->Qe->Prop:=Paired QM
def QP.length  (r:QP xs us):xs.length=us.length:=Paired.length r
theorem QP.get:∀{xs:List V} {us:Qe} {i:Nat} {x:V},QP xs us->xs[i]?=some x->∃u,us[i]?=some u/\QM x u
 |_,_,_,_,.nil,e=>by simp at e
 |_,_,0,_,.cons r _,e=>by simp at e;subst e;exact⟨_,rfl,r⟩
 |_,_,i+1,x,.cons _ t,e=>by
   obtain⟨u,b,a⟩:=QP.get (i:=i) (x:=x) t (by simpa using e)
   exact⟨u,by simpa using b,a⟩
theorem QP.set {x:V}{u:Value}(r:QM x u):∀{xs:List V} {us:Qe} (i:Nat),QP xs us->QP (xs.set i x) (us.set i u)
 |_,_,_,.nil=>.nil
 |_,_,0,.cons _ t=>.cons r t
 |_,_,i+1,.cons q t=>.cons q (QP.set r i t)
theorem QP.append:∀{xs ys:List V} {us ws:Qe},QP xs us->QP ys ws->QP (xs++ys) (us++ws)
 |_,_,_,_,.nil,s=>s
 |_,_,_,_,.cons r t,s=>.cons r (QP.append t s)
theorem QP.take:∀{xs:List V} {us:Qe} (n:Nat),QP xs us->QP (xs.take n) (us.take n)
 |_,_,0,_=>.nil
 |_,_,_+1,.nil=>.nil
 |_,_,n+1,.cons r t=>.cons r (QP.take n t)
theorem QP.drop:∀{xs:List V} {us:Qe} (n:Nat),QP xs us->QP (xs.drop n) (us.drop n)
 |_,_,0,r=>r
 |_,_,_+1,.nil=>.nil
 |_,_,n+1,.cons _ t=>QP.drop n t
def ZO:Option V->Qf->Prop
 |some v,some u=>QM v u
 |none,none=>True
 |_,_=>False
def KV {a:Type}:List (a×V)->List (a×Value)->Prop:=Paired fun(p:a×V) (q:a×Value)=>p.1=q.1/\QM p.2 q.2
def kV:Key->V
 |.inl i=>.int i
 |.inr x=>.str x
inductive HO where
 |lst (xs:List V)
 |tup (xs:List V)
 |dK (kvs:List (Key×V))|dT (kvs:List (List Key×V))
 |set (S:Int->Bool) (n:Nat)
 |ins (C dx:Addr) (fs:List (Str×V))
 |own (x:Addr)
 |xd (fs:List (Str×V))
 |met (f x:Addr)
 |rng (lo hi:Int)
 |frz (o:Obj) (u:HO)
 |tbl (ps:Array Value)
 |ext (φ:Heap->Prop)
abbrev Hp:=Addr->Option HO
def upd (H:Hp)(a:Addr)(o:HO):Hp:=fun b=>if b=a then some o else H b
def QC  : upd H a o a=some o:=by unfold upd;rw[Xd rfl]
def Qu  (h:b≠a):upd H a o b=H b:=by unfold upd;rw[Xc h]
def NG {H:Hp}{a b:Addr}{o u:HO}(h:H a=some o)(h':H b=some u)(d:o≠u):a≠b:=by
 intro e;subst e;rw[h]at h';exact d (Option.some.inj h')
def Zs {H:Hp}{a b:Addr}{o:HO}(h:H a=some o)(h':H b=none):a≠b:=by
 intro e;subst e;rw[h]at h';cases h'
def Jw:1<=1000:=by decide
def W1:2<=1000:=by decide
section
variable (P:Program)(w:World)
def ZA (H:Hp)(h:Heap)(a:Addr):HO->Prop
 |.lst d=>d.length<=sizeLine/\∃(c:Qe) (n:Nat),QP d c/\h.get? a=some { cls:=.type "list",data:=.seq c.toArray n }
 |.tup d=>d.length<=sizeLine/\∃c:Qe,QP d c/\IsTup h a c.toArray
 |.dK b=>b.length<=sizeLine/\(a==sysModules)=false/\∃k,KV b k/\h.DictOf (ZI P w) a k
 |.dT b=>b.length<=sizeLine/\(a==sysModules)=false/\∃d:List (List Key×Addr×Value),
  Paired (fun(p:List Key×V) (q:List Key×Addr×Value)=>p.1=q.1/\H q.2.1=some (.tup<|p.1.map kV)/\QM p.2 q.2.2) b d /\
  ∃o r A,h.get? a=some o/\o.ExactDict/\o.data=.dict r A/\r.toList=d.map (entryOfKey<|tupleKind<|ZI P w)/\(d.map (·.1)).Nodup
 |.set S n=>h.SetOf (intKind P w) a S n
 |.ins C i g=>H i=some (.own a)/\g.length<=1000/\i≠a/\h.get? a=some (W.instObj C i) /\
  ∃e,h.Ns1 i e/\(∀f,ZO (g.lookup f)<|e f)/\PySem.Within e (g.map (·.1))
 |.own _=>∃o,h.get? a=some o
 |.xd g=>∃e,h.Ns1 a e/\∀f,ZO (g.lookup f) (e f)
 |.rng y z=>∃t u v,h.get? a=some { cls:=.type "range",data:=.fields #[.int y t,.int z u,.int 1 v] }
 |.frz o u=>h.get? a=some o/\ZA H h a u
 |.tbl s=>h.get? a=some { cls:=.none,data:=.fields s }
 |.met f x=>h.get? a=some (W.methodObj (.ref f)<|.ref x)
 |.ext j=>j h/\(∃o,h.get? a=some o)/\∀m l:Heap,j m->(∀o,m.get? a=some o->l.get? a=some o)->j l
def HOk (H:Hp)(h:Heap):Prop := ∀a o,H a=some o->ZA P w H h a o
end
section
variable {P:Program}{w:World}{H H':Hp}{h h':Heap}{a:Addr}{o:HO}
def ZA.lt (x:ZA P w H h a o):a<h.objs.size:=by
 cases o with
 |lst c=>obtain⟨_,_,_,_,e⟩:=x;exact Xj e
 |tup c=>obtain⟨_,_,_,p⟩:=x;exact p.lt
 |dK b=>obtain⟨_,_,_,_,o,_,_,e,_⟩:=x;exact Xj e
 |dT b=>obtain⟨_,_,_,_,o,_,_,e,_⟩:=x;exact Xj e
 |set S n=>obtain⟨o,_,_,_,e,_⟩:=x;exact Xj e
 |ins C m d=>obtain⟨_,_,_,e,_⟩:=x;exact Xj e
 |own y=>obtain⟨_,e⟩:=x;exact Xj e
 |xd d=>obtain⟨_,⟨_,_,_,e,_⟩,_⟩:=x;exact Xj e
 |rng k l=>obtain⟨_,_,_,e⟩:=x;exact Xj e
 |frz j u=>obtain⟨e,_⟩:=x;exact Xj e
 |tbl i=>exact Xj (show h.get? a=some _ from x)
 |met f y=>exact Xj (show h.get? a=some _ from x)
 |ext g=>obtain⟨_,⟨_,e⟩,_⟩:=x;exact Xj e
theorem Paired.mapP {d c:Type}{F G:d->c->Prop}:∀{g:List d} {e:List c},Paired F g e->(∀a b,F a b->G a b)->Paired G g e
 |_,_,.nil,_=>.nil
 |_,_,.cons r t,f=>.cons (f _ _ r) (Paired.mapP t f)
def ZA.stay (x:ZA P w H h a o)(k:∀b u,(b=a\/H b=some (.own a))->h.get? b=some u->h'.get? b=some u)
 (J:∀b,H b=some (.own a)->H' b=some (.own a)) (I:∀b xs,H b=some (.tup xs)->H' b=some (.tup xs)):ZA P w H' h' a o:=by
 induction o with
 |lst xs=>obtain⟨z,l,n,r,e⟩:=x;exact⟨z,l,n,r,k _ _ (.inl rfl) e⟩
 |tup xs=>obtain⟨z,l,r,g,e,c⟩:=x;exact⟨z,l,r,g,k _ _ (.inl rfl) e,c⟩
 |dK A=>obtain⟨z,y,E,r,g,i,j,e,c⟩:=x;exact⟨z,y,E,r,g,i,j,k _ _ (.inl rfl) e,c⟩
 |dT A =>
   obtain⟨z,y,xs,r,g,i,j,e,c⟩:=x
   exact⟨z,y,xs,Paired.mapP r fun p q z=>⟨z.1,I _ _ z.2.1,z.2.2⟩,g,i,j,k _ _ (.inl rfl) e,c⟩
 |set S n=>obtain⟨g,i,j,t,e,c⟩:=x;exact⟨g,i,j,t,k _ _ (.inl rfl) e,c⟩
 |ins C R L =>
   obtain⟨d,z,F,e,s,⟨m,i,j,M,c⟩,r⟩:=x
   exact⟨J _ d,z,F,k _ _ (.inl rfl) e,s,⟨m,i,j,k _ _ (.inr d) M,c⟩,r⟩
 |own y=>obtain⟨g,e⟩:=x;exact⟨g,k _ _ (.inl rfl) e⟩
 |xd L=>obtain⟨s,⟨m,i,j,e,c⟩,r⟩:=x;exact⟨s,⟨m,i,j,k _ _ (.inl rfl) e,c⟩,r⟩
 |rng O Q=>obtain⟨t,u,v,e⟩:=x;exact⟨t,u,v,k _ _ (.inl rfl) e⟩
 |frz g u G=>obtain⟨e,q⟩:=x;exact⟨k _ _ (.inl rfl) e,G q⟩
 |tbl D =>
   have e:h.get? a=some { cls:=.none,data:=.fields D }:=x;show h'.get? a=some { cls:=.none,data:=.fields D };exact k a _ (.inl rfl) e
 |met f y =>
   have e:h.get? a=some (W.methodObj (.ref f)<|.ref y):=x;show h'.get? a=some (W.methodObj (.ref f)<|.ref y);exact k a _ (.inl rfl) e
 |ext N=>obtain⟨p,⟨o,e⟩,B⟩:=x;exact⟨B _ _ p fun o q=>k _ _ (.inl rfl) q,⟨o,k _ _ (.inl rfl) e⟩,B⟩
def HOk.lt (x:HOk P w H h)(e:H a=some o):a<h.objs.size:=(x a o e).lt
def HOk.fresh (x:HOk P w H h)(e:h.objs.size<=a):H a=none:=by
 cases q:H a with
 |none=>rfl
 |some u=>exact Xm (Xp (x.lt q) e) (Yt _)
def HOk.kept (x:HOk P w H h)(k:∀b u,h.get? b=some u->h'.get? b=some u):HOk P w H h':=fun a o e =>
 (x a o e).stay (fun b u _ q=>k b u q) (fun _ q=>q) fun _ _ q=>q
def HOk.laid (x:HOk P w H h)(k:∀b u,h.get? b=some u->h'.get? b=some u)(i:h.objs.size<=a)(d:ZA P w (upd H a o) h' a o):HOk P w (upd H a o) h':=fun b u e=>by
 have f:=x.fresh i
 by_cases g:b=a
 .subst g;rw[QC]at e;cases e;exact d
 .rw[Qu g]at e
  exact(x b u e).stay (fun c v _ q=>k c v q) (fun c q=>by rw[Qu<|Zs q f];exact q) fun c j q=>by rw[Qu<|Zs q f];exact q
end
def Rd (H:Hp)(a:Addr)(u:HO):Prop:=H a=some u\/∃o,H a=some (.frz o u)
def Rd.of  (h:H a=some u):Rd H a u:=.inl h
def Rd.ok    (r:Rd H a u)(x:HOk P w H h):ZA P w H h a u:=by
 rcases r with r|⟨o,r⟩
 .exact x a u r
 .obtain⟨_,q⟩:=x a _ r
  exact q
def Mut:Option HO->Prop
 |some (.lst _)=>True
 |some (.dK _)=>True
 |some (.dT _)=>True
 |some (.set _ _)=>True
 |some (.ins _ _ _)=>True
 |some (.ext _)=>True
 |_=>False
section
variable {P:Program}{w:World}{H:Hp}{h h':Heap}{x e:Addr}{o':HO}
def HOk.write (s:HOk P w H h)(i:Mut (H x))(p:e=x\/H e=some (.own x))(k:∀b u,b≠e->h.get? b=some u->h'.get? b=some u)(n:∃u,h'.get? e=some u)
 (m:ZA P w (upd H x o') h' x o'):HOk P w (upd H x o') h':=fun b u q=>by
 have d:∀c y,H c=some (.own y)->c≠x:=fun c y r z=>by subst z;rw[r]at i;exact i
 have f:∀c g,H c=some (.tup g)->c≠x:=fun c g r z=>by subst z;rw[r]at i;exact i
 by_cases l:b=x
 .subst l;rw[QC]at q;cases q;exact m
 .rw[Qu l]at q
  by_cases a:b=e
  .have o:H b=some (.own x):=by
    rcases p with z|z
    .exact Xm (a.trans z) l
    .rw[a];exact z
   rw[q]at o;cases o;obtain⟨v,t⟩:=n
   exact⟨v,by rw[a];exact t⟩
  .refine(s b u q).stay (fun c v j r=>k c v ?_ r) (fun c r=>by rw[Qu<|d c b r];exact r) fun c g r=>by rw[Qu<|f c g r];exact r
   rcases j with rfl|j
   .exact a
   .rintro rfl
    rcases p with z|z
    .exact d c b j z
    .rw[j]at z;cases z;exact l rfl
end
structure Un (fs ex:Qg)(H H':Hp)(h h':Heap):Prop where
 keep:∀b o,h.get? b=some o->H b=none->b∉fs->b∉ex->h'.get? b=some o
 slot:∀b o,h.get? b=some o->H b=none->b∈fs->b∉ex->∃sl,h'.get? b=some { o with slots:=sl }
 free:∀b o,h.get? b=some o->H b=none->b∉ex->H' b=none
 there:∀b o,h.get? b=some o->b∉ex->∃o',h'.get? b=some o'
 tups:∀b xs,H b=some (.tup xs)->H' b=some (.tup xs)
 frzs:∀b o u,H b=some (.frz o u)->H' b=some (.frz o u)
 tupo:∀b xs o,H b=some (.tup xs)->h.get? b=some o->b∉ex->h'.get? b=some o
 tbls:∀b ps,H b=some (.tbl ps)->∃more,H' b=some (.tbl<|ps++more)
section
variable {fs ex:Qg}{H H1:Hp}{h h1 h':Heap}{a x e:Addr}{o:HO}
def Un.any (u:Un fs ex H H1 h h1)  (q:h.get? b=some ob)(n:H b=none)(c:b∉ex):∃f,h1.get? b=some { ob with slots:=f }:=by
 by_cases d:b∈fs
 .exact u.slot b ob q n d c
 .exact⟨ob.slots,u.keep b ob q n d c⟩
def Un.kept (k:∀b u,h.get? b=some u->h'.get? b=some u):Un fs ex H H h h' :=
 ⟨fun b c q _ _ _=>k b c q,fun b c q _ _ _=>⟨c.slots,k b c q⟩,fun _ _ _ n _=>n,fun b c q _=>⟨c,k b c q⟩,fun _ _ q=>q,fun _ _ _ q=>q,fun b _ c _ e _=>k b c e,fun _ d q=>⟨#[],by rw[q];simp⟩⟩
def Un.refl:Un fs ex H H h h:=Un.kept fun _ _ q=>q
theorem Un.laid (k:∀b u,h.get? b=some u->h'.get? b=some u)(f:h.objs.size<=a)(hn:H a=none):Un fs ex H (upd H a o) h h' where
 keep:=fun b u q _ _ _=>k b u q
 slot:=fun b u q _ _ _=>⟨u.slots,k b u q⟩
 free:=fun b u q n _=>by rw[Qu<|Xr<|Xp (Xj q) f];exact n
 there:=fun b u q _=>⟨u,k b u q⟩
 tups:=fun b c q=>by rw[Qu<|Zs q hn];exact q
 frzs:=fun b u c q=>by rw[Qu<|Zs q hn];exact q
 tupo:=fun b _ d _ e _=>k b d e
 tbls:=fun b g q=>⟨#[],by rw[Qu<|Zs q hn,q];simp⟩
def Un.write (d:Mut (H x))(l:e=x\/H e=some (.own x))(k:∀b u,b≠e->h.get? b=some u->h'.get? b=some u)(g:∃u,h'.get? e=some u):Un fs ex H (upd H x o) h h':=by
 have j:∀b,H b=none->b≠x:=fun b n z=>by subst z;rw[n]at d;exact d
 have m:∀b,H b=none->b≠e:=fun b n z=>by
  subst z;rcases l with r|r
  .exact j b n r
  .rw[n]at r;cases r
 have f:∀b u,H b=some u->¬Mut (some u)->b≠x:=fun b u q p z=>by subst z;rw[q]at d;exact p d
 refine⟨fun b u q n _ _=>k b u (m b n) q,fun b u q n _ _=>⟨u.slots,k b u (m b n) q⟩,fun b u q n _=>by rw[Qu<|j b n];exact n,fun b u q _=>?_,
  fun b i q=>by rw[Qu<|f b _ q fun z=>z];exact q,fun b u i q=>by rw[Qu<|f b _ q fun z=>z];exact q,fun b i u q s _=>k b u (fun z=>by
   rcases l with r|r
   .exact f b _ q (fun y=>y) (z.trans r)
   .rw[<- z,q]at r;cases r) s,fun b t q=>⟨#[],by rw[Qu<|f b _ q fun z=>z,q];simp⟩⟩
 by_cases c:b=e
 .subst c;exact g
 .exact⟨u,k b u c q⟩
end
def trk (h:Heap)(H:Hp):Qg:=(List.range h.objs.size).filter fun a=>(H a).isSome
def W0 (h:Heap)(H:Hp):Heap:=W.hideAll h (trk h H)
def EE (h:Heap)(H:Hp):(W0 h H).objs.size=h.objs.size:=W.hideAll_size _ _
def AR   (e:h.get? b=some o)(n:H b=none):(W0 h H).get? b=some o :=
 W.hideAll_get _ e fun a=>by
  have q:(H b).isSome=true:=(List.mem_filter.mp a).2;rw[n]at q;simp at q
def Cp   (e:(W0 h H).get? b=some o):h.get? b=some o/\H b=none:=by
 have a:h.get? b=some o:=W.of_hideAll (trk h H) e;refine⟨a,?_⟩
 cases q:H b with
 |none=>rfl
 |some x =>
   have c:b∈trk h H:=List.mem_filter.mpr ⟨XU.mpr<|Xj a,by simp[q]⟩;have z:(W0 h H).get? b=none:=W.hideAll_none (trk h H) c;rw[z]at e;cases e
structure Mod (K:W.Frag)(mg:Str->Qf)(base:Heap):Prop where
 kin:K.In base
 glob:base.Ns mainGlobals mg
 blt:∃mb,base.Ns builtinsNs mb/\∀x:Str,x ≠ "__name__" -> mb x=bootBuiltins x
 nolimit:base.NoLimit
structure Cx where
 prog:Program
 w:World
 K:W.Frag
 mg:Str->Qf
 base:Heap
 A:Around
 N:Qh
 s₀:Shared
 H₀:Hp
 env:Env
 outer:List Env
 stack:List Env
 ex:Qg
 fn:Str->Bool
 calm:Bool
 pn:Qc
 xe:Qb
def frs (l:List Env):Qg:=l.filterMap (·.frame)
abbrev Cx.fs (X:Cx):Qg:=frs X.outer
def Vis (sc:Scope)(x:Str):Prop:=sc.names.lookup x=some .local\/sc.names.lookup x=some .cell\/sc.names.lookup x=some .free
def Loc (sc:Scope)(x:Str):Prop:=sc.names.lookup x=some .local\/sc.names.lookup x=some .cell
def TU (env:Env)(h:Heap)(m:Str->Qf)(x:Str)(u:Value):Prop :=
 (env.kindOf x=some .local/\m x=some u)\/((env.kindOf x=some .cell\/env.kindOf x=some .free)/\∃c,env.cells.lookup x=some c/\h.IsCell c (some u))
structure Cx.Ok (X:Cx):Prop where
 mod:Mod X.K X.mg X.base
 kind:X.env.scope.kind=.function
 glob:X.env.globals=mainGlobals
 blt:X.env.builtins=builtinsNs
 above:X.s₀.heap.objs.size<=X.env.locals
 inj:∀x y c,X.env.cells.lookup x=some c->X.env.cells.lookup y=some c->x=y
 has:∀x,(X.env.kindOf x=some .cell\/X.env.kindOf x=some .free)->∃c,X.env.cells.lookup x=some c
 cab:∀x c,X.fn x=true->X.env.cells.lookup x=some c->X.s₀.heap.objs.size<=c
 hd:X.calm=true->X.A.handled=none
 frames:X.A.frames=some X.stack
 stk:X.stack=X.outer\/(X.stack=X.env::X.outer/\X.env.frame=some X.env.locals)
 exf:∀b∈X.ex,b≠X.env.locals/\∀x c,X.env.cells.lookup x=some c->c≠b
 bs:∀b o,X.base.get? b=some o->X.s₀.heap.get? b=some o/\(X.H₀ b=none\/∃xs,X.H₀ b=some (.tup xs))
 bsz:X.base.objs.size<=X.s₀.heap.objs.size
 noex:∀b o,X.base.get? b=some o->b∉X.ex
 exfs:∀b∈X.ex,b∉X.fs
 funs:X.s₀.heap.FunFrames X.base X.outer
 frf:∀b∈X.fs,X.H₀ b=none
structure Qr (X:Cx)(Xa0:Qc)(σ:List (Option V))(H:Hp)(s:Shared):Prop where
 ok:X.Ok
 os:s.os=X.s₀.os
 bare:AllBare s.gens
 base:Un X.fs X.ex X.H₀ H X.s₀.heap s.heap
 loc:∃m,s.heap.Ns X.env.locals m/\∀(i:Nat) (x:Str) (v:V),X.N[i]?=some x->σ[i]?=some (some v)->Vis X.env.scope x->∃u,QM v u/\TU X.env s.heap m x u
 cell:∀x c,X.env.cells.lookup x=some c->∃v,s.heap.IsCell c v
 free:H X.env.locals=none
 freeC:∀x c,X.env.cells.lookup x=some c->H c=none
 pin:∀p∈X.pn++Xa0,s.heap.get? p.1=some p.2/\H p.1=none/\p.1≠X.env.locals/\p.1∉X.fs/\∀v,p.2.data≠.cell v
 hok:HOk X.prog X.w H s.heap
 len:σ.length=X.N.length
section
variable {X:Cx}{Xa0:Qc}{σ:List (Option V)}{H H':Hp}{s:Shared}{h':Heap}
def Cx.Ok.nofr (a:X.Ok)  (e:X.base.get? b=some o):b∉X.fs:=fun c=>by
 have:=(a.funs.mem c).1
 rw[e]at this;cases this
def Qr.bs (I:Qr X Xa0 σ H s):∀b o,X.base.get? b=some o->s.heap.get? b=some o/\(H b=none\/∃xs,H b=some (.tup xs)):=fun b o e=>by
 obtain⟨c,a⟩:=I.ok.bs b o e
 rcases a with a|⟨xs,a⟩
 .exact⟨I.base.keep b o c a (I.ok.nofr e)<|I.ok.noex b o e,.inl<|I.base.free b o c a<|I.ok.noex b o e⟩
 .exact⟨I.base.tupo b xs o a c<|I.ok.noex b o e,.inr ⟨xs,I.base.tups b xs a⟩⟩
def Qr.bk (I:Qr X Xa0 σ H s):∀b o,X.base.get? b=some o->s.heap.get? b=some o:=fun b o e=>(I.bs b o e).1
def Qr.mod (I:Qr X Xa0 σ H s):Mod X.K X.mg X.base:=I.ok.mod
def Qr.kIn (I:Qr X Xa0 σ H s):X.K.In s.heap:=I.ok.mod.kin.keeps I.bk
def Qr.fr (I:Qr X Xa0 σ H s):∃m,Fr X.base X.env.locals s.heap m :=
 let ⟨m,hn,_⟩:=I.loc
 ⟨m,hn,I.bk,X7 I.ok.bsz I.ok.above⟩
def Qr.lt (I:Qr X Xa0 σ H s):X.env.locals<s.heap.objs.size:=let ⟨_,hn,_⟩:=I.loc;hn.lt
def Qr.sz (I:Qr X Xa0 σ H s):X.s₀.heap.objs.size<=s.heap.objs.size:=X7 I.ok.above (Ys I.lt)
def Qr.nofs (I:Qr X Xa0 σ H s){a:Addr}(h:s.heap.objs.size<=a):a∉X.fs:=fun c=>by
 obtain⟨_,o,b,_⟩:=I.ok.funs.mem c;exact Xm (Xp (Xj b)<|X7 I.sz h) (Yt _)
def Qr.cne (I:Qr X Xa0 σ H s):∀x c,X.env.cells.lookup x=some c->c≠X.env.locals:=fun x c e z=>by
 obtain⟨v,o,d,f⟩:=I.cell x c e;obtain⟨m,⟨g,h,i,a,b,_⟩,_⟩:=I.loc;rw[z,a]at d;cases d;rw[b]at f;cases f
def Qr.funs (I:Qr X Xa0 σ H s):s.heap.FunFrames X.base X.outer:=by
 have f:∀(l:List Env),(∀b∈frs l,b∈X.fs)->X.s₀.heap.FunFrames X.base l->s.heap.FunFrames X.base l:=by
  intro l;induction l with
  |nil=>intro _ _;trivial
  |cons q r h =>
    intro g m;obtain⟨n,⟨L,o,a,k,j,p⟩,i⟩:=m;have d:L∈X.fs:=g L (by unfold frs;rw[List.filterMap_cons,a];exact Xb);obtain⟨t,e⟩:=I.base.slot L o j (I.ok.frf L d) d fun z=>I.ok.exfs L z d
    exact⟨n,⟨L,_,a,k,e,p⟩,h (fun b c=>g b<|by unfold frs;rw[List.filterMap_cons,a];exact Xe _ c) i⟩
 exact f X.outer (fun _ c=>c) I.ok.funs
def Qr.stack (I:Qr X Xa0 σ H s):s.heap.FunFrames X.base X.stack:=by
 rcases I.ok.stk with e|⟨e,b⟩
 .rw[e];exact I.funs
 .rw[e]
  obtain⟨m,a,_⟩:=I.loc;refine .cons (by rw[I.ok.kind];decide) b a ?_ I.funs;exact Heap.get?_none_of_le (X7 I.ok.bsz I.ok.above)
def Qr.stkSub (I:Qr X Xa0 σ H s):∀b∈frs X.stack,b∈X.env.locals::X.fs:=fun b a=>by
 rcases I.ok.stk with e|⟨e,c⟩
 .rw[e]at a;exact Xe _ a
 .rw[e]at a
  unfold frs at a;rw[List.filterMap_cons,c]at a;exact a
def Qr.stkFree (I:Qr X Xa0 σ H s):∀b∈frs X.stack,H b=none:=fun b a=>by
 rcases Xf.mp (I.stkSub b a) with e|a
 .rw[e];exact I.free
 .obtain⟨_,o,c,_⟩:=I.ok.funs.mem a
  exact I.base.free b o c (I.ok.frf b a) fun z=>I.ok.exfs b z a
def Qr.step {t':Nat}{ch:Qg}(I:Qr X Xa0 σ H s)
 (t:∀b∈ch,(b∈X.ex\/X.s₀.heap.objs.size<=b)/\b≠X.env.locals/\(∀x c,X.env.cells.lookup x=some c->c≠b)/\∀p∈X.pn++Xa0,p.1≠b)
 (j:∀b o,b≠X.env.locals->b∉X.fs->b∉ch->s.heap.get? b=some o->H b=none->h'.get? b=some o)
 (A:∀b o,b≠X.env.locals->b∈X.fs->b∉ch->s.heap.get? b=some o->H b=none->∃Q,h'.get? b=some { o with slots:=Q }) (f:∀b o,b∉ch->s.heap.get? b=some o->H b=none->H' b=none)
 (B:∀b o,b∉ch->s.heap.get? b=some o->∃J,h'.get? b=some J)
 (E:∀b xs,H b=some (.tup xs)->H' b=some (.tup xs)) (N:∀b o u,H b=some (.frz o u)->H' b=some (.frz o u)) (G:∀b ps,H b=some (.tbl ps)->∃M,H' b=some (.tbl<|ps++M))
 (ns:∀m,s.heap.Ns X.env.locals m->h'.Ns X.env.locals m) (R:HOk X.prog X.w H' h') (hg:AllBare g') (F:∀b xs o,b∉ch->H b=some (.tup xs)->s.heap.get? b=some o->h'.get? b=some o) :
 Qr X Xa0 σ H' { s with heap:=h',gens:=g',drawn:=d',toks:=t' }:=by
 have L:∀b o,X.s₀.heap.get? b=some o->b≠X.env.locals:=fun b o e=>Xr (Xp (Xj e) I.ok.above)
 have g:∀b o,X.s₀.heap.get? b=some o->b∉X.ex->b∉ch:=fun b o e a C=>by
  rcases(t b C).1 with z|z
  .exact a z
  .exact Xm (Xp (Xj e) z) (Yt _)
 have w:∀x c,X.env.cells.lookup x=some c->∀v,s.heap.IsCell c v->h'.IsCell c v:=fun x c e v ⟨o,D,S⟩=>by
  have h:c∉ch:=fun z=>(t c z).2.2.1 x c e rfl
  by_cases Y:c∈X.fs
  .obtain⟨Q,q⟩:=A c o (I.cne x c e) Y h D (I.freeC x c e)
   exact⟨_,q,S⟩
  .exact⟨o,j c o (I.cne x c e) Y h D<|I.freeC x c e,S⟩
 refine⟨I.ok,I.os,hg,⟨fun b o e n C a=>?_,fun b o e n C a=>?_,fun b o e n a=>?_,fun b o e a=>?_,fun b xs e=>E b xs<|I.base.tups b xs e,fun b o xs e=>N b o xs<|I.base.frzs b o xs e,fun b xs o q e a=>F b xs o (g b o e a) (I.base.tups b xs q)<|I.base.tupo b xs o q e a,fun b ps e=>?_⟩,?_,fun x c e=>?_,?_,fun x c e=>?_,fun p W=>?_,R,I.len⟩
 .exact j b o (L b o e) C (g b o e a) (I.base.keep b o e n C a) (I.base.free b o e n a)
 .obtain⟨Q,y⟩:=I.base.slot b o e n C a
  obtain⟨P,O⟩:=A b _ (L b o e) C (g b o e a) y (I.base.free b o e n a)
  exact⟨P,O⟩
 .obtain⟨J,y⟩:=I.base.there b o e a
  exact f b J (g b o e a) y (I.base.free b o e n a)
 .obtain⟨J,y⟩:=I.base.there b o e a
  exact B b J (g b o e a) y
 .obtain⟨m1,y⟩:=I.base.tbls b ps e
  obtain⟨Z,O⟩:=G b _ y
  exact⟨m1++Z,by rw[O,Array.append_assoc]⟩
 .obtain⟨m,hn,hl⟩:=I.loc
  refine⟨m,ns m hn,fun i x v y O e3=>?_⟩;obtain⟨u,r,l⟩:=hl i x v y O e3;refine⟨u,r,?_⟩
  rcases l with l|⟨k,c,e,z⟩
  .exact .inl l
  .exact .inr ⟨k,c,e,w x c e _ z⟩
 .obtain⟨v,z⟩:=I.cell x c e
  exact⟨v,w x c e v z⟩
 .obtain⟨m,⟨o,_,_,D,_⟩,_⟩:=I.loc
  exact f _ o (fun z=>(t _ z).2.1 rfl) D I.free
 .obtain⟨v,o,D,S⟩:=I.cell x c e
  exact f c o (fun z=>(t c z).2.2.1 x c e rfl) D (I.freeC x c e)
 .obtain⟨e,n,U,T,d⟩:=I.pin p W
  have h:p.1∉ch:=fun z=>(t p.1 z).2.2.2 p W rfl
  exact⟨j p.1 p.2 U T h e n,f p.1 p.2 h e n,U,T,d⟩
def Qr.un (I:Qr X Xa0 σ H s)(u:Un X.fs [] H H' s.heap h')(c:HOk X.prog X.w H' h'):Qr X Xa0 σ H' { s with heap:=h',toks:=t' }:=by
 obtain⟨m,⟨o,w,x,h,r⟩,_⟩:=id I.loc;obtain⟨p,l⟩:=u.any h I.free (by simp)
 exact I.step (g':=s.gens) (d':=s.drawn) (ch:=[]) (by rintro _ ⟨⟩) (fun b o _ d _ e n=>u.keep b o e n d<|by simp) (fun b o _ d _ e n=>u.slot b o e n d<|by simp) (fun b o _ e n=>u.free b o e n<|by simp) (fun b o _ e=>u.there b o e<|by simp) u.tups u.frzs u.tbls (fun v k=>by
  obtain⟨t,f,g,a,j⟩:=k;rw[h]at a;cases a;exact⟨_,f,g,l,j⟩) c I.bare (fun b i o _ q e=>u.tupo b i o q e<|by simp)
def Qr.call   (I:Qr X Xa0 σ H s)(u:Un (frs X.stack) ch H H' s.heap h')(g:HOk X.prog X.w H' h')(w:AllBare g')
 (f:∀b∈ch,(b∈X.ex\/X.s₀.heap.objs.size<=b)/\b≠X.env.locals/\(∀x c,X.env.cells.lookup x=some c->c≠b)/\∀p∈X.pn++Xa0,p.1≠b) :
 Qr X Xa0 σ H' { s with heap:=h',gens:=g',drawn:=d',toks:=t' }:=by
 obtain⟨m,⟨o,D,E,k,r⟩,_⟩:=id I.loc;obtain⟨A,h⟩:=u.any k I.free fun z=>(f _ z).2.1 rfl
 exact I.step (ch:=ch) f (fun b o h y a e n=>u.keep b o e n (fun z=>(Xf.mp<|I.stkSub b z).elim h y) a) (fun b o _ _ a e n=>u.any e n a) (fun b o a e n=>u.free b o e n a) (fun b o a e=>u.there b o e a) u.tups u.frzs u.tbls (fun C v=>by
  obtain⟨B,i,j,d,t⟩:=v;rw[k]at d;cases d;exact⟨_,i,j,h,t⟩) g w (fun b l o a q e=>u.tupo b l o q e a)
def Qr.turned  (I:Qr X Xa0 σ H s)(k:∀b o,b≠it->s.heap.get? b=some o->h'.get? b=some o)(hn:H it=none)(f:it≠X.env.locals)
 (t:it∈X.ex\/X.s₀.heap.objs.size<=it) (l:∀x c,X.env.cells.lookup x=some c->c≠it) (j:∀p∈X.pn++Xa0,p.1≠it):Qr X Xa0 σ H { s with heap:=h',toks:=t' }:=by
 have d:∀b u,H b=some u->b≠it:=fun b u e z=>by rw[z,hn]at e;cases e
 refine I.step (g':=s.gens) (d':=s.drawn) (ch:=[it]) (fun b i=>?_) (fun b o _ _ a e _=>k b o (fun z=>a<|by simp[z]) e) (fun b o _ _ a e _=>⟨o.slots,k b o (fun z=>a<|by simp[z]) e⟩) (fun _ _ _ _ n=>n)
  (fun b o a e=>⟨o,k b o (fun z=>a<|by simp[z]) e⟩) (fun _ _ e=>e) (fun _ _ _ e=>e) (fun b A e=>⟨#[],by rw[e];simp⟩) (fun m h=>?_) (fun b u e=>?_) I.bare (fun b _ o a _ e=>k b o (fun z=>a<|by simp[z]) e)
 .have e:b=it:=by simpa using i
  subst e;exact⟨t,f,l,j⟩
 .obtain⟨o,w,y,g,r⟩:=h
  exact⟨o,w,y,k _ o (Ne.symm f) g,r⟩
 .refine(I.hok b u e).stay (fun c v a q=>k c v ?_ q) (fun _ q=>q) fun _ _ q=>q
  rcases a with z|z
  .rw[z];exact d b u e
  .exact d c _ z
def Qr.tok (I:Qr X Xa0 σ H s)(t:Nat):Qr X Xa0 σ H { s with toks:=t }:=I.un (h':=s.heap) (t':=t) Un.refl I.hok
def Qr.kept (I:Qr X Xa0 σ H s)(k:∀b u,s.heap.get? b=some u->h'.get? b=some u):Qr X Xa0 σ H { s with heap:=h',toks:=t' }:=I.un (Un.kept k) (I.hok.kept k)
def Qr.laid {a:Addr}{o:HO}{t':Nat}(I:Qr X Xa0 σ H s)(k:∀b u,s.heap.get? b=some u->h'.get? b=some u)(d:s.heap.objs.size<=a)(c:ZA X.prog X.w (upd H a o) h' a o) :
 Qr X Xa0 σ (upd H a o) { s with heap:=h',toks:=t' }:=I.un (Un.laid k d<|I.hok.fresh d) (I.hok.laid k d c)
def Qr.write  (I:Qr X Xa0 σ H s)(d:Mut (H x))(f:e=x\/H e=some (.own x))(k:∀b u,b≠e->s.heap.get? b=some u->h'.get? b=some u)(a:∃u,h'.get? e=some u)
 (c:ZA X.prog X.w (upd H x o) h' x o):Qr X Xa0 σ (upd H x o) { s with heap:=h',toks:=t' }:=I.un (Un.write d f k a) (I.hok.write d f k a c)
def Qr.weak (I:Qr X Xa0 σ H s)(a:σ'.length=σ.length)(w:∀(i:Nat) v,σ'[i]?=some (some v)->σ[i]?=some (some v)):Qr X Xa0 σ' H s :=
 ⟨I.ok,I.os,I.bare,I.base,let ⟨m,hn,hl'⟩:=I.loc;⟨m,hn,fun i x v d c b=>hl' i x v d (w i v c) b⟩,I.cell,I.free,I.freeC,I.pin,I.hok,a.trans I.len⟩
def Qr.pins_of (I:Qr X Xa0 σ H s)(h:∀p∈pins',s.heap.get? p.1=some p.2/\H p.1=none/\p.1≠X.env.locals/\p.1∉X.fs/\∀v,p.2.data≠.cell v):Qr X pins' σ H s :=
 ⟨I.ok,I.os,I.bare,I.base,I.loc,I.cell,I.free,I.freeC,fun p a=>(XB.mp a).elim (fun z=>I.pin p<|UK _ z) (h p),I.hok,I.len⟩
def BV {N:Qh}(c:N.Nodup){i j:Nat}(a:N[i]?=some x)(b:N[j]?=some x):i=j:=by
 obtain⟨g,e⟩:=Xh.mp a;obtain⟨f,d⟩:=Xh.mp b
 exact(List.getElem_inj c).mp (e.trans d.symm)
def P5     (I:Qr X Xa0 σ H s)(hN:X.N.Nodup)(R:X.N[i]?=some x)(l:Loc X.env.scope x)(r:QM v u)
 (h:∀s',Qr X Xa0 (σ.set i<|some v) H s'->(∃a,Heap.SameBut a s.heap s'.heap/\(a=X.env.locals\/X.env.cells.lookup x=some a))->Q () s') (hf:X.fn x=true\/X.env.scope.names.lookup x=some .local:=by first|exact .inl rfl|exact .inr rfl|assumption):wpAny M A (storeName X.env x u) Q E s:=by
 obtain⟨m,hn,hl⟩:=id I.loc;have S:(X.env.scope.kind==.class||(X.env.scope.kind==.module&&X.env.locals != X.env.globals))=false:=by rw[I.ok.kind];rfl
 have G:i<σ.length:=by rw[I.len];exact(Xh.mp R).1
 have N:=I.cne
 have g:∀{a:Addr} {h':Heap},(∃o,s.heap.get? a=some o/\H a=none)->Heap.SameBut a s.heap h'->HOk X.prog X.w H h':=fun{a h'} ha f b ob e=>by
  obtain⟨_,_,B⟩:=ha;refine(I.hok b ob e).stay (fun c W w q=>(f.2 c ?_).trans q) (fun _ q=>q) fun _ _ q=>q
  rintro rfl
  rcases w with rfl|w
  .rw[B]at e;cases e
  .rw[B]at w;cases w
 rcases l with F|F
 .refine wpAny_storeName_local F hn (fun h' hn' f=>?_) S
  obtain⟨oL,_,_,hoL,_⟩:=id hn;refine h _ ⟨I.ok,I.os,I.bare,⟨fun b o e n L l=>?_,fun b o e n L l=>?_,I.base.free,fun b o e l=>?_,I.base.tups,I.base.frzs,fun b xs o q e l=>(f.2 b<|Xr<|Xp (Xj e) I.ok.above).trans (I.base.tupo b xs o q e l),I.base.tbls⟩,⟨_,hn',fun j y v' t D e3=>?_⟩,fun y c e=>?_,I.free,I.freeC,fun p hp=>?_,g ⟨oL,hoL,I.free⟩ f,by simpa using I.len⟩ ⟨_,f,.inl rfl⟩
  .exact(f.2 b<|Xr<|Xp (Xj e) I.ok.above).trans (I.base.keep b o e n L l)
  .obtain⟨sl,t⟩:=I.base.slot b o e n L l
   exact⟨sl,(f.2 b<|Xr<|Xp (Xj e) I.ok.above).trans t⟩
  .obtain⟨o',t⟩:=I.base.there b o e l
   exact⟨o',(f.2 b<|Xr<|Xp (Xj e) I.ok.above).trans t⟩
  .by_cases J:j=i
   .subst J
    rw[R]at t;cases t;rw[Xl G]at D;cases D
    exact⟨u,r,.inl ⟨F,by simp⟩⟩
   .rw[Xs<|Ne.symm J]at D
    obtain⟨u',r',q⟩:=hl j y v' t D e3;refine⟨u',r',?_⟩
    rcases q with ⟨k,e⟩|⟨k,c,e,z⟩
    .refine .inl ⟨k,?_⟩
     have:y≠x:=fun e=>J (BV hN t<|e▸R)
     simp[this,e]
    .exact .inr ⟨k,c,e,z.sameBut f<|N y c e⟩
  .obtain⟨W,z⟩:=I.cell y c e
   exact⟨W,z.sameBut f<|N y c e⟩
  .obtain⟨e,n,Y,nf,d⟩:=I.pin p hp
   exact⟨(f.2 p.1 Y).trans e,n,Y,nf,d⟩
 .have C:X.fn x=true:=by
   rcases hf with z|z
   .exact z
   .rw[z]at F;cases F
  obtain⟨c,w⟩:=I.ok.has x (.inl F);obtain⟨W,z⟩:=I.cell x c w;refine wpAny_storeName_cell I.ok.kind F w z (fun h' U f=>?_);obtain⟨oc,P,O⟩:=id z;refine h { s with heap:=h' } ⟨I.ok,I.os,I.bare,⟨fun b o e n L l=>?_,fun b o e n L l=>?_,I.base.free,fun b o e l=>?_,I.base.tups,I.base.frzs,fun b xs o q e l=>(f.2 b<|Xr<|Xp (Xj e)<|I.ok.cab x c C w).trans (I.base.tupo b xs o q e l),I.base.tbls⟩,⟨m,hn.sameBut f<|Ne.symm<|N x c w,fun j y v' t D e3=>?_⟩,fun y Z e=>?_,I.free,I.freeC,fun p hp=>?_,g ⟨oc,P,I.freeC x c w⟩ f,by simpa using I.len⟩ ⟨c,f,.inr w⟩
  .exact(f.2 b<|Xr<|Xp (Xj e)<|I.ok.cab x c C w).trans (I.base.keep b o e n L l)
  .obtain⟨sl,t⟩:=I.base.slot b o e n L l
   exact⟨sl,(f.2 b<|Xr<|Xp (Xj e)<|I.ok.cab x c C w).trans t⟩
  .obtain⟨o',t⟩:=I.base.there b o e l
   exact⟨o',(f.2 b<|Xr<|Xp (Xj e)<|I.ok.cab x c C w).trans t⟩
  .by_cases J:j=i
   .subst J
    rw[R]at t;cases t;rw[Xl G]at D;cases D
    exact⟨u,r,.inr ⟨.inl F,c,w,U⟩⟩
   .rw[Xs<|Ne.symm J]at D
    obtain⟨u',r',q⟩:=hl j y v' t D e3;refine⟨u',r',?_⟩
    rcases q with q|⟨k,Z,e,z'⟩
    .exact .inl q
    .refine .inr ⟨k,Z,e,z'.sameBut f ?_⟩
     rintro rfl
     exact J (BV hN t<|I.ok.inj _ _ _ e w▸R)
  .by_cases T:Z=c
   .subst T;exact⟨_,U⟩
   .obtain⟨w2,z2⟩:=I.cell y Z e
    exact⟨w2,z2.sameBut f T⟩
  .obtain⟨e,n,Y,nf,d⟩:=I.pin p hp
   refine⟨(f.2 p.1 ?_).trans e,n,Y,nf,d⟩;intro q;rw[q,P]at e;have q':oc=p.2:=Option.some.inj e;exact d W (by rw[<- q'];exact O)
def BS     (I:Qr X Xa0 σ H s)(e:X.N.Nodup)(c:X.N[i]?=some x)(b:Loc X.env.scope x)(r:QM v u)
 (h:∀a,Qr X Xa0 (σ.set i<|some v) H a->Q () a) (d:X.fn x=true\/X.env.scope.names.lookup x=some .local:=by first|exact .inl rfl|exact .inr rfl|assumption):wpAny M A (storeName X.env x u) Q E s :=
 P5 I e c b r (fun a f _=>h a f) d
def Qr.call'  (I:Qr X Xa0 σ H s)(g:s'.os=s.os)(u:Un (frs X.stack) ch H H' s.heap s'.heap)(a:HOk X.prog X.w H' s'.heap)(h:AllBare s'.gens)
 (d:∀b∈ch,(b∈X.ex\/X.s₀.heap.objs.size<=b)/\b≠X.env.locals/\(∀x c,X.env.cells.lookup x=some c->c≠b)/\∀p∈X.pn++Xa0,p.1≠b):Qr X Xa0 σ H' s':=by
 obtain⟨h',g',d',t',f⟩:=s';have e:f=s.os:=g;subst e;exact I.call (g':=g') (t':=t') (d':=d') u a h d
end
abbrev XK:=Value->Qj->Hp->Prop
abbrev St:=List (Option V)
abbrev VK:=V->Hp->Prop
abbrev TE:=St->Hp->VK->Prop
abbrev TT:=St->Hp->(Bool->Hp->Prop)->Prop
abbrev TA:=St->Hp->(List V->Hp->Prop)->Prop
structure Ends where
 nx:St->Hp->Prop
 rt:VK
 bk:St->Hp->Prop:=fun _ _=>False
 ct:St->Hp->Prop:=fun _ _=>False
abbrev TS:=Ends->St->Hp->Prop
def EP (X:Cx)(a:Qc)(c:St)(Q:VK)(u:Value)(d:Shared):Prop := ∃v b,Qr X a c b d/\QM v u/\Q v b
def TP (X:Cx)(a:Qc)(d:St)(Q:Bool->Hp->Prop)(b:Bool)(e:Shared):Prop := ∃c,Qr X a d c e/\Q b c
def AP (X:Cx)(a:Qc)(d:St)(Q:List V->Hp->Prop)(us:Qe)(e:Shared):Prop := ∃b c,Qr X a d c e/\QP b us/\Q b c
def SP (X:Cx)(c:Qc)(D:Ends)(f:Flow)(d:Shared):Prop :=
 match f with
 |.next=>∃a b,Qr X c a b d/\D.nx a b
 |.brk=>∃a b,Qr X c a b d/\D.bk a b
 |.cont=>∃a b,Qr X c a b d/\D.ct a b
 |.ret u=>∃v a b,Qr X c a b d/\QM v u/\D.rt v b
def PE (X:Cx)(e:Expr)(t:TE):Prop :=
 ∀(a:Qc) (s:Shared) (b:St) (H:Hp) (Q:VK),Qr X a b H s->t b H Q->wpAny (model X.prog X.w) X.A (eval e X.env) (EP X a b Q) X.xe s
def PT (X:Cx)(e:Expr)(t:TT):Prop :=
 ∀(a:Qc) (s:Shared) (b:St) (H:Hp) (Q:Bool->Hp->Prop),Qr X a b H s->t b H Q->wpAny (model X.prog X.w) X.A (isTrue e X.env<|eval e X.env) (TP X a b Q) X.xe s
def PW (X:Cx)(e:Expr)(t:TT):Prop :=
 ∀(a:Sem Value) (b:Qc) (s:Shared) (c:St) (H:Hp) (Q:Bool->Hp->Prop),Qr X b c H s->t c H Q->wpAny (model X.prog X.w) X.A (isTrue e X.env a) (TP X b c Q) X.xe s
def PW.pt  (h:PW X e t):PT X e t:=h _
def PA (X:Cx)(es:Qi)(t:TA):Prop :=
 ∀(c:Pos) (a:Qc) (s:Shared) (b:St) (H:Hp) (Q:List V->Hp->Prop),Qr X a b H s->t b H Q->wpAny (model X.prog X.w) X.A (spliced<|backTo c<|starEach es X.env) (AP X a b Q) X.xe s
def PS (X:Cx)(st:Stmt)(t:TS):Prop :=
 ∀(a:Qc) (s:Shared) (b:St) (H:Hp) (D:Ends),Qr X a b H s->t D b H->wpAny (model X.prog X.w) X.A (exec st X.env) (SP X a D) X.xe s
def PSs (X:Cx)(st:List Stmt)(t:TS):Prop :=
 ∀(a:Qc) (s:Shared) (b:St) (H:Hp) (D:Ends),Qr X a b H s->t D b H->wpAny (model X.prog X.w) X.A (execs st X.env) (SP X a D) X.xe s
def Q7 {b:Type}{t:Sem b}{Q c:b->Shared->Prop}{M:Model}{A:Around}{E:Qb}{s:Shared}(h:wpAny M A t Q E s)(d:∀a s,Q a s->c a s):wpAny M A t c E s:=wpAny_mono h d fun _ _ x=>x
section
variable {X:Cx}
def QB (i:Nat):TE:=fun a H Q=>∃v,a[i]?=some (some v)/\Q v H
def tC (v:V):TE:=fun _ H Q=>Q v H
def RG {i:Nat} {x:Str} {f:Pos} (y:X.N[i]?=some x) (p:Vis X.env.scope x) (g:(x==("__debug__" : Str))=false:=by decide) (j:(x==("__classdict__" : Str))=false:=by decide):PE X (.Name x f) (QB i):=by
 intro k s o H Q I h;obtain⟨v,e,h⟩:=h;obtain⟨m,q,w⟩:=I.loc;obtain⟨u,r,l⟩:=w i x v y e p;have d:EP X k o Q u s:=⟨v,H,I,r,h⟩
 rcases l with ⟨b,t⟩|⟨b,c,n,a⟩
 .exact wpAny_Name (wpAny_loadName_local I.ok.kind b q t d) g
 .rcases b with b|b
  .exact wpAny_Name (wpAny_loadName_cell I.ok.kind b n a d) g
  .exact wpAny_Name (wpAny_loadName_free I.ok.kind b n a d j) g
def Qv {i j pos}:PE X (.Constant (.int i) j pos) (tC<|.int i):=fun _ _ _ H _ I h=>wpAny_Constant_int ⟨.int i,H,I.tok _,⟨_,rfl⟩,h⟩
def Wc {b j pos}:PE X (.Constant (.bool b) j pos) (tC<|.bl b):=fun _ _ _ H _ I h=>Constant_bool ⟨.bl b,H,I,rfl,h⟩
def Bq {j pos}:PE X (.Constant .none j pos) (tC .non):=fun _ _ _ H _ I h=>Constant_none ⟨.non,H,I,rfl,h⟩
def Z1 {x j pos}:PE X (.Constant (.str x) j pos) (tC<|.str x):=fun _ _ _ H _ I h=>Calls.Constant_str ⟨.str x,H,I.tok _,⟨_,rfl⟩,h⟩
def Gl (X:Cx)(x:Str):Prop:=X.env.kindOf x=some .globalImplicit
def Jg {E:Qb}{b:Qc}{s:Shared}{c:St}{H:Hp}{x:Str}{u:Value}{a:Pos}{Q:Qb}(I:Qr X b c H s)(e:Gl X x)(d:X.mg x=some u)(h:Q u s)
 (f:(x==("__debug__" : Str))=false:=by decide):wpAny (model X.prog X.w) X.A (eval (.Name x a) X.env) Q E s :=
 Calls.Name_function_global I.ok.kind e (Calls.loadGlobal_global (by rw[I.ok.glob];exact I.mod.glob.keeps I.bk) d h) f
def Jd {E:Qb}{b:Qc}{s:Shared}{c:St}{H:Hp}{x:Str}{u:Value}{a:Pos}{Q:Qb}(I:Qr X b c H s)(f:Gl X x)(e:X.mg x=none)(d:bootBuiltins x=some u)(h:Q u s)
 (hn:x ≠ "__name__" := by decide) (g:(x==("__debug__" : Str))=false:=by decide):wpAny (model X.prog X.w) X.A (eval (.Name x a) X.env) Q E s:=by
 obtain⟨k,j,i⟩:=I.mod.blt;exact Calls.Name_function_global I.ok.kind f (Calls.loadGlobal_builtin (by rw[I.ok.glob];exact I.mod.glob.keeps I.bk) e (by rw[I.ok.blt];exact j.keeps I.bk) ((i x hn).trans d) h) g
def Z9   (b:Gl X x) (a:X.mg x=some u) (r:QM v u) (c:(x==("__debug__" : Str))=false:=by decide):PE X (.Name x pos) (tC v) :=
 fun _ _ _ H _ I h=>Jg I b a ⟨v,H,I,r,h⟩ c
def JO {x:Str} {v:V} {u:Value} {a:Pos} (d:Gl X x) (c:X.mg x=none) (b:bootBuiltins x=some u) (r:QM v u) (hn:x ≠ "__name__" := by decide) (e:(x==("__debug__" : Str))=false:=by decide):PE X (.Name x a) (tC v) :=
 fun _ _ _ H _ I h=>Jd I d c b ⟨v,H,I,r,h⟩ hn e
variable {a b:Expr}{ta tb:TE}{pos:Pos}
def PC (X:Cx)(op:CmpOp)(a b:Expr)(t:TE):Prop :=
 ∀(c:Qc) (s:Shared) (d:St) (H:Hp) (Q:VK),Qr X c d H s->t d H Q ->
  wpAny (model X.prog X.w) X.A (eval a X.env) (fun v f=>wpAny (model X.prog X.w) X.A (eval b X.env) (fun u e=>wpAny (model X.prog X.w) X.A (compareOp op v u) (EP X c d Q) X.xe e) X.xe f) X.xe s
def A4 (b:Expr)(h:op≠.In)(c:op≠.NotIn):behindInMarks op b=false:=by
 have e:(op==CmpOp.In)=false:=by cases op<;>first|rfl|exact Xm rfl h
 have d:(op==CmpOp.NotIn)=false:=by cases op<;>first|rfl|exact Xm rfl c
 cases b<;>simp[behindInMarks,e,d]
def NL (ta:TE):TE:=fun c H Q=>ta c H fun x d=>Q (.bl<|!decide (x=.non)) d
def QM.none_iff  (r:QM x v):(v==Value.none)=decide (x=.non):=by
 cases x with
 |non=>cases r;rfl
 |bl _=>cases r;rfl
 |int _=>obtain⟨t,rfl⟩:=r;rfl
 |str _=>obtain⟨t,rfl⟩:=r;rfl
 |byt _=>obtain⟨t,rfl⟩:=r;rfl
 |flt _=>obtain⟨t,rfl⟩:=r;rfl
 |ref _=>cases r;rfl
 |ty _=>cases r;rfl
def F9 {j pos'}(g:PE X a ta):PC X .IsNot a (.Constant .none j pos') (NL ta):=by
 intro c s d H Q I h;refine Q7 (g c s d H _ I h) ?_;rintro v l ⟨x,k,i,e,f⟩;exact Constant_none (isnot_none_gen ⟨.bl _,k,i,by rw[e.none_iff];rfl,f⟩)
def tB (t:TE):TT:=fun d H Q=>t d H fun x e=>∃c,x=.bl c/\Q c e
def Uu  (h:PC X op a b t)(e:behindInMarks op b=false:=by first|exact A4 _ (by decide) (by decide)|rfl):PT X (.Compare a [op] [b] pos) (tB t):=by
 intro f s g H Q I k;refine wpAny_isTrue_Compare1 (Q7 (h f s g H _ I k) fun v r e=>Q7 e fun u p l=>Q7 l ?_) e;rintro c o ⟨x,n,m,i,j⟩;obtain⟨d,rfl,q⟩:=j
 cases i
 exact wpAny_truthy_bool ⟨n,m,q⟩
def Va  (h:PE X e t)(l:∀c,isTrue e X.env c=(do let v <- c;standAt e.pos;holding [v] (truthy v)):=by intro _;rfl):PT X e (tB t):=by
 intro f s g H Q I k;refine isTrue_plain (Q7 (h f s g H _ I k) ?_) (l _);rintro v o ⟨x,n,m,i,j⟩;obtain⟨d,rfl,q⟩:=j
 cases i
 exact wpAny_truthy_bool ⟨n,m,q⟩
variable {tA tB':TT}{rest:Qi}
def Nr (t u:TT):TT:=fun d H Q=>t d H fun c e=>if c=true then u d e Q else Q false e
def tOr (t u:TT):TT:=fun d H Q=>t d H fun c e=>if c=true then Q true e else u d e Q
def Nf (t:TT):TT:=fun d H Q=>t d H fun c e=>Q (!c) e
def B4 (g:PT X a tA):PW X (.BoolOp .And [a] pos) tA:=by
 intro i d s f H Q I h;refine isTrue_and (Q7 (g d s f H Q I h) fun c j e=>?_)
 cases c with
 |true=>exact isTrue_and_nil e
 |false=>exact e
def Gj (g:PT X a tA):PW X (.BoolOp .Or [a] pos) tA:=by
 intro i d s f H Q I h;refine isTrue_or (Q7 (g d s f H Q I h) fun c j e=>?_)
 cases c with
 |false=>exact isTrue_or_nil e
 |true=>exact e
def Bg (m:PT X a tA)(l:PW X (.BoolOp .And (b::rest) pos) tB'):PW X (.BoolOp .And (a::b::rest) pos) (Nr tA tB'):=by
 intro j d s e H Q I h;refine isTrue_and (Q7 (m d s e H _ I h) ?_);rintro c k ⟨i,g,f⟩
 cases c with
 |true=>exact l j d k e i Q g f
 |false=>exact⟨i,g,f⟩
def Gd (m:PT X a tA)(l:PW X (.BoolOp .Or (b::rest) pos) tB'):PW X (.BoolOp .Or (a::b::rest) pos) (tOr tA tB'):=by
 intro j d s e H Q I h;refine isTrue_or (Q7 (m d s e H _ I h) ?_);rintro c k ⟨i,g,f⟩
 cases c with
 |true=>exact⟨i,g,f⟩
 |false=>exact l j d k e i Q g f
def Y3 (f:PT X a tA):PT X (.UnaryOp .Not a pos) (Nf tA):=by
 intro d s e H Q I h;exact isTrue_not (f d s e H (fun c g=>Q (!c) g) I h)
def NB (ta tb:TE):TE:=fun d H Q=>ta d H fun x e=>∃c,x=.bl c/\if c=true then tb d e Q else Q (.bl false) e
def N7 (ta:TE):TE:=fun d H Q=>ta d H fun x e=>∃c,x=.bl c/\Q (.bl<|!c) e
def Bj {op}(h:PE X a t):PE X (.BoolOp op [a] pos) t:=fun c s d H Q I e=>BoolOp_one (h c s d H Q I e)
def Bz (m:PE X a ta)(l:PE X (.BoolOp .And (b::rest) pos) tb):PE X (.BoolOp .And (a::b::rest) pos) (NB ta tb):=by
 intro d s f H Q I h;refine BoolOp_and (Q7 (m d s f H _ I h) ?_);rintro v j ⟨x,i,g,k,e⟩;obtain⟨c,rfl,e⟩:=e
 cases k
 refine wpAny_truthy_bool ?_
 cases c with
 |true=>exact l d j f i Q g e
 |false=>exact⟨.bl false,i,g,rfl,e⟩
def LS (i:PE X a ta):PE X (.UnaryOp .Not a pos) (N7 ta):=by
 intro e s f H Q I h;refine UnaryOp_ (Q7 (i e s f H _ I h) ?_);rintro v l ⟨x,k,j,g,d⟩;obtain⟨c,rfl,d⟩:=d
 cases g
 exact not_of (wpAny_truthy_bool ⟨.bl<|!c,k,j,rfl,d⟩)
end
def SqL (K:W.Frag)(H:Hp)(a:Addr)(xs:List V):Prop :=
 Rd H a (.lst xs) \/
  ∃(o:Obj) (b:Array Value) (n:Nat),K.lookup a=some o/\o.cls=.type "list" /\ o.dict=none/\o.data=.seq b n/\b.size<=sizeLine/\QP xs b.toList
def SqT (K:W.Frag)(H:Hp)(a:Addr)(xs:List V):Prop :=
 Rd H a (.tup xs) \/
  ∃(o:Obj) (b:Array Value) (n:Nat),K.lookup a=some o/\o.cls=.type "tuple" /\ o.data=.seq b n/\b.size<=sizeLine/\QP xs b.toList
def TM:Value->Option V
 |.none=>some .non
 |.bool b=>some (.bl b)
 |.int i _=>some (.int i)
 |.str x _=>some (.str x)
 |.bytes b _=>some (.byt b)
 |.float b _=>some (.flt b)
 |.ref a=>some (.ref a)
 |.type n=>some (.ty n)
 |_=>none
def QM.abs  (r:QM x u):TM u=some x:=by
 cases x with
 |non=>cases r;rfl
 |bl _=>cases r;rfl
 |int _=>obtain⟨t,rfl⟩:=r;rfl
 |str _=>obtain⟨t,rfl⟩:=r;rfl
 |byt _=>obtain⟨t,rfl⟩:=r;rfl
 |flt _=>obtain⟨t,rfl⟩:=r;rfl
 |ref _=>cases r;rfl
 |ty _=>cases r;rfl
def QM.inj  (r:QM x u)(q:QM y u):x=y:=Option.some.inj (r.abs.symm.trans q.abs)
theorem QP.inj:∀{xs ys:List V} {us:Qe},QP xs us->QP ys us->xs=ys
 |_,_,_,.nil,.nil=>rfl
 |_,_,_,.cons r t,.cons b a=>by rw[r.inj b,QP.inj t a]
section
variable {X:Cx}{Xa0:Qc}{σ:St}{H:Hp}{s:Shared}{a:Addr}{xs ys:List V}
def SqL.of {K:W.Frag}(h:H a=some (.lst xs)):SqL K H a xs:=.inl (.inl h)
def SqT.of {K:W.Frag}(h:H a=some (.tup xs)):SqT K H a xs:=.inl (.inl h)
def Qr.list (I:Qr X Xa0 σ H s)(h:SqL X.K H a xs):∃b:Qe,QP xs b/\PlainL s.heap a b.toArray/\xs.length<=sizeLine:=by
 rcases h with h|⟨o,b,n,d,g,f,c,i,r⟩
 .obtain⟨z,b,n,r,e⟩:=h.ok I.hok
  exact⟨b,r,⟨_,n,e,rfl,rfl,rfl⟩,z⟩
 .refine⟨b.toList,r,⟨o,n,I.kIn a o d,g,f,by simpa using c⟩,?_⟩
  have e:=r.length;simp only[Array.length_toList]at e;omega
def Qr.tuple (I:Qr X Xa0 σ H s)(h:SqT X.K H a xs):∃b:Qe,QP xs b/\IsTup s.heap a b.toArray/\xs.length<=sizeLine:=by
 rcases h with h|⟨o,b,n,d,f,c,g,r⟩
 .obtain⟨z,b,r,p⟩:=h.ok I.hok
  exact⟨b,r,p,z⟩
 .refine⟨b.toList,r,⟨o,I.kIn a o d,f,n,by simpa using c⟩,?_⟩
  have e:=r.length;simp only[Array.length_toList]at e;omega
def Qr.list_inj (I:Qr X Xa0 σ H s)(h:SqL X.K H a xs)(h':SqL X.K H a ys):xs=ys:=by
 obtain⟨c,r,⟨o,n,e,_,_,d⟩,_⟩:=I.list h;obtain⟨b,i,⟨k,l,f,_,_,g⟩,_⟩:=I.list h';rw[e]at f;cases f;rw[d]at g;injection g with j _
 have:c=b:=by simpa using X8 Array.toList j
 subst this;exact r.inj i
def Qr.tuple_inj (I:Qr X Xa0 σ H s)(h:SqT X.K H a xs)(h':SqT X.K H a ys):xs=ys:=by
 obtain⟨c,r,⟨o,e,_,n,d⟩,_⟩:=I.tuple h;obtain⟨b,i,⟨k,f,_,l,g⟩,_⟩:=I.tuple h';rw[e]at f;cases f;rw[d]at g;injection g with j _
 have:c=b:=by simpa using X8 Array.toList j
 subst this;exact r.inj i
end
abbrev Cx.wish (X:Cx)(E:Qb):Cx:={ X with xe:=E }
abbrev Cx.nox (X:Cx):Cx:=X.wish fun _ _=>False
def Cx.Ok.wish {X:Cx}(a:X.Ok)(E:Qb):(X.wish E).Ok :=
 ⟨a.mod,a.kind,a.glob,a.blt,a.above,a.inj,a.has,a.cab,a.hd,a.frames,a.stk,a.exf,a.bs,a.bsz,a.noex,a.exfs,a.funs,a.frf⟩
def Cx.Ok.unwish {X:Cx}(a:(X.wish E).Ok):X.Ok :=
 ⟨a.mod,a.kind,a.glob,a.blt,a.above,a.inj,a.has,a.cab,a.hd,a.frames,a.stk,a.exf,a.bs,a.bsz,a.noex,a.exfs,a.funs,a.frf⟩
section
variable {X:Cx}{Xa0:Qc}{σ:St}{H:Hp}{s:Shared}{E:Qb}
def Qr.wish (I:Qr X Xa0 σ H s)(E:Qb):Qr (X.wish E) Xa0 σ H s:=⟨I.ok.wish E,I.os,I.bare,I.base,I.loc,I.cell,I.free,I.freeC,I.pin,I.hok,I.len⟩
def Qr.unwish (I:Qr (X.wish E) Xa0 σ H s):Qr X Xa0 σ H s:=⟨I.ok.unwish,I.os,I.bare,I.base,I.loc,I.cell,I.free,I.freeC,I.pin,I.hok,I.len⟩
def SP.unwish  (h:SP (X.wish E) Xa0 D f s'):SP X Xa0 D f s':=by
 cases f with
 |next=>obtain⟨a,b,I,q⟩:=h;exact⟨a,b,I.unwish,q⟩
 |brk=>obtain⟨a,b,I,q⟩:=h;exact⟨a,b,I.unwish,q⟩
 |cont=>obtain⟨a,b,I,q⟩:=h;exact⟨a,b,I.unwish,q⟩
 |ret u=>obtain⟨v,a,b,I,r,q⟩:=h;exact⟨v,a,b,I.unwish,r,q⟩
def PSs.nox {st:List Stmt}{t:TS}(h:PSs X.nox st t):PSs X st t:=fun Xa0 s σ H D I a =>
 wpAny_mono (h Xa0 s σ H D (I.wish _) a) (fun _ _ q=>q.unwish) fun _ _ z=>False.elim z
end
section
variable {X:Cx}{st:Stmt}{rest:List Stmt}{t u:TS}{e:Expr}{te:TE}{pos:Pos}
def NW:TS:=fun D a H=>D.nx a H
def Yz (t u:TS):TS:=fun D a H=>t { D with nx:=u D } a H
def Z3:PSs X [] NW:=fun _ _ a H _ I h=>wpAny_execs_nil ⟨a,H,I,h⟩
def Qz (i:PS X st t)(g:PSs X rest u):PSs X (st::rest) (Yz t u):=by
 intro a s c H D I h;refine wpAny_execs_cons (Q7 (i a s c H { D with nx:=u D } I h) fun f d q=>?_)
 cases f with
 |next =>
   obtain⟨b,k,j,q⟩:=q;exact g a d b k D j q
 |ret v=>exact q
 |brk=>exact q
 |cont=>exact q
def Q5 (c:PS X st t):PSs X [st] t:=by
 intro a s b H D I h;refine wpAny_execs_cons (Q7 (c a s b H D I h) fun f d q=>?_)
 cases f with
 |next=>exact wpAny_execs_nil q
 |ret v=>exact q
 |brk=>exact q
 |cont=>exact q
def Qr.quiet {a:Qc}{b:St}{H:Hp}{s:Shared}(I:Qr X a b H s):interactive X.env=false:=by simp[interactive,I.ok.kind]
def Vq (te:TE):TS:=fun D a H=>te a H fun _ b=>D.nx a b
def Zi (f:PE X e te)(d:swapsWith e none pos.line X.env=pure false:=by rfl):PS X (.Expr e pos) (Vq te):=by
 intro a s b H D I h;refine wpAny_Expr_any (Q7 (f a s b H _ I h) ?_) I.quiet d;rintro v j ⟨x,i,g,k,c⟩;exact⟨b,i,g,c⟩
def Y0 (te:TE):TS:=fun D a H=>te a H D.rt
def QU (f:PE X e te):PS X (.Return (some e) pos) (Y0 te):=by
 intro a s b H D I h;refine wpAny_Return_some (Q7 (f a s b H _ I h) ?_);rintro v j ⟨x,i,g,c,d⟩;exact⟨x,b,i,g,c,d⟩
def MW (c:TT)(t u:TS):TS:=fun D a H=>c a H fun b d=>if b=true then t D a d else u D a d
def Z0  (m:PT X c tc)(o:PSs X a t)(n:PSs X b u):PS X (.If c a b pos) (MW tc t u):=by
 intro f s g H D I h;refine wpAny_If (Q7 (m f s g H _ I h) ?_);rintro d i ⟨l,k,j⟩
 cases d with
 |true=>exact o f i g l D k j
 |false=>exact n f i g l D k j
def LU:TS:=fun _ _ _=>False
def BO:PS X st LU:=fun _ _ _ _ _ _ h=>h.elim
end
abbrev TG:=V->St->Hp->(St->Hp->Prop)->Prop
abbrev TGs:=List V->St->Hp->(St->Hp->Prop)->Prop
def PG (X:Cx)(a:Expr)(t:TG):Prop :=
 ∀(c:Qc) (s:Shared) (d:St) (H:Hp) (v:V) (u:Value) (Q:St->Hp->Prop),Qr X c d H s->QM v u->t v d H Q ->
  wpAny (model X.prog X.w) X.A (assign a X.env u) (fun _ f=>∃b e,Qr X c b e f/\Q b e) X.xe s
def PGs (X:Cx)(ts:Qi)(t:TGs):Prop :=
 ∀(b:Qc) (s:Shared) (c:St) (H:Hp) (d:List V) (e:Qe) (Q:St->Hp->Prop),Qr X b c H s->QP d e->t d c H Q ->
  wpAny (model X.prog X.w) X.A (assignInOrder ((assignEach ts X.env).map (·.2)) e) (fun _ g=>∃a f,Qr X b a f g/\Q a f) X.xe s
abbrev MR:=V->V->V->Hp->(Hp->Prop)->Prop
def MM (X:Cx)(t:MR):Prop :=
 ∀(a:Qc) (s:Shared) (b:St) (H:Hp) (o i v:V) (c d u:Value) (Q:Hp->Prop),Qr X a b H s->QM o c->QM i d->QM v u->t o i v H Q ->
  wpAny (model X.prog X.w) X.A (setItem c d u) (fun _ f=>∃e,Qr X a b e f/\Q e) X.xe s
abbrev TIp:=V->V->Hp->VK->Prop
def PIp (X:Cx)(op:Operator)(t:TIp):Prop :=
 ∀(a:Qc) (s:Shared) (b:St) (H:Hp) (x y:V) (v u:Value) (Q:VK),Qr X a b H s->QM x v->QM y u->t x y H Q ->
  wpAny (model X.prog X.w) X.A (inplaceOp op v u) (EP X a b Q) X.xe s
section
variable {X:Cx}{pos:Pos}
def Vd (i:Nat):TG:=fun v a H Q=>Q (a.set i<|some v) H
def Zr  (d:X.N.Nodup)(b:X.N[i]?=some x)(a:Loc X.env.scope x)(c:X.fn x=true\/X.env.scope.names.lookup x=some .local:=by first|exact .inl rfl|exact .inr rfl|assumption):PG X (.Name x pos) (Vd i):=by
 intro e s g H v u Q I r h;exact wpAny_assign_Name (BS I d b a r (fun j f=>⟨_,H,f,h⟩) c)
def MO:TGs:=fun b a H Q=>b=[]/\Q a H
def Dr (t:TG)(u:TGs):TGs:=fun c b H Q=>∃v r,c=v::r/\t v b H fun a d=>u r a d Q
def JL:PGs X [] MO:=by
 intro b s a H c d Q I r h;obtain⟨e,h⟩:=h;subst e;cases r;exact assignInOrder_nil ⟨a,H,I,h⟩
def Yr   (k:PG X e t)(j:PGs X es u)
 (i:(assignEach (e::es) X.env).map (·.2)=assign e X.env::(assignEach es X.env).map (·.2):=by rfl):PGs X (e::es) (Dr t u):=by
 intro a s c H o q Q I r h;obtain⟨v,p,l,h⟩:=h;subst l;cases r with
 |cons r f =>
   rw[i];refine assignInOrder_cons (Q7 (k a s c H _ _ _ I r h) ?_);rintro _ d ⟨b,n,m,g⟩;exact j a d b n _ _ Q m f g
def MY (K:W.Frag)(n:Nat)(t:TGs):TG:=fun v c H Q=>∃a b,v=.ref a/\SqT K H a b/\b.length=n/\t b c H Q
def JK {es:Qi}{k:Nat}{t:TGs}{n:Nat}(x:X.calm=true)(h:PGs X es t)
 (hn:(assignEach es X.env).length=n:=by rfl) (f:(assignEach es X.env).findIdx? (·.1)=none:=by rfl):PG X (.Tuple es k pos) (MY X.K n t):=by
 intro c s g H v u Q I r d;obtain⟨a,j,z,q,w,d⟩:=d;subst z;cases r;obtain⟨l,i,p,B⟩:=I.tuple q;refine assign_Tuple_tuple (I.ok.hd x) p (by simp[hn,<- w,i.length]) f fun y m=>?_;have A:Qr X c g H { s with heap:=y }:=I.kept (t':=s.toks) fun b o e=>m b o (Xr<|Xj e) e;exact h c _ g H j _ Q A (by simpa using i) d
def N0 (b c:TE)(t:MR):TG:=fun v a H Q=>b a H fun o f=>c a f fun i e=>t o i v e fun d=>Q a d
def DK  (p:PE X o to)(q:PE X i ti)(n:MM X t)
 (w:∀v,assign (.Subscript o i pos) X.env v=(do
  let b <- holding [v] (eval o X.env)
  let c <- holding [v,b] (eval i X.env)
  standAt pos
  holding [v,b,c] (setItem b c v)
  release [v,b,c] []):=by intro _;rfl):PG X (.Subscript o i pos) (N0 to ti t):=by
 intro a s d H v u Q I r h;rw[w];refine Xa (wpAny_holding<|Q7 (p a s d H _ I h) ?_);rintro b f ⟨x,E,B,j,m⟩;refine Xa (wpAny_holding<|Q7 (q a f d E _ B m) ?_);rintro c e ⟨y,D,A,g,l⟩;refine Xa (wpAny_standAt<|Xa<|wpAny_holding<|Q7 (n a e d D x y v b c u _ A j g r l) ?_);rintro _ F ⟨C,z,k⟩;exact wpAny_release ⟨d,C,z,k⟩
def Vp (b:TE)(g:TG):TS:=fun D a H=>b a H fun x c=>g x a c D.nx
def Bp  (k:PE X e te)(j:PG X tg g)(i:swapsWithSole [tg] e pos.line X.env=pure false:=by rfl)(hw:swappedStores [tg] e X.env=pure none:=by rfl)
 (l:(assignEach [tg] X.env).map (·.2)=[assign tg X.env]:=by rfl):PS X (.Assign [tg] e pos) (Vp te g):=by
 intro a s b H D I h;refine wpAny_Assign_stores (Q7 (k a s b H _ I h) ?_) i hw;rintro v c ⟨x,n,m,d,f⟩;rw[l];exact Q7 (j a c b n x v _ m d f) fun _ o q=>q
def QR   (m:X.N.Nodup)(j:X.N[i]?=some x)(f:Loc X.env.scope x)(l:PE X e te)(g:swapsWith e (some<|.Name x pos') pos.line X.env=pure false:=by rfl)(k:X.fn x=true\/X.env.scope.names.lookup x=some .local:=by first|exact .inl rfl|exact .inr rfl|assumption) :
 PS X (.Assign [.Name x pos'] e pos) (Vp te<|Vd i):=by
 intro a s b H D I h;refine wpAny_Assign_Name (Q7 (l a s b H _ I h) ?_) g;rintro v r ⟨y,p,o,c,d⟩;exact BS o m j f c (fun q n=>⟨_,p,n,d⟩) k
def Bd (e f g:TE)(b:V->V->Hp->VK->Prop)(d:TIp)(a:MR):TS:=fun D c H=>e c H fun o n=>f c n fun i m=>b o i m fun x l=>g c l fun y k=>d x y k fun z j=>a o i z j fun h=>D.nx c h
def Nv (X:Cx)(t:V->V->Hp->VK->Prop):Prop :=
 ∀(a:Qc) (s:Shared) (b:St) (H:Hp) (o i:V) (c d:Value) (Q:VK),Qr X a b H s->QM o c->QM i d->t o i H Q ->
  wpAny (model X.prog X.w) X.A (getItem c d) (EP X a b Q) X.xe s
def U0    (N:PE X o to)(O:PE X i ti)(P:Nv X tget)(Q:PE X e te)(M:PIp X op tip)(L:MM X tset)
 (R:∀d f a,augStore i d f a=(do holding [a,d,f] (setItem d f a);release [a,d,f] [];pure .next):=by intros;rfl):PS X (.AugAssign (.Subscript o i tpos) op e pos) (Bd to ti te tget tip tset):=by
 intro b s c H D I h;refine wpAny_AugAssign_SubscriptAny (Q7 (N b s c H _ I h) ?_) R;rintro d x ⟨k,H1,Z,m,J⟩;refine Q7 (O b x c H1 _ Z J) ?_;rintro f w ⟨j,H2,Y,l,G⟩;refine Q7 (P b w c H2 k j d f _ Y m l G) ?_;rintro g u ⟨q,H3,W,A,F⟩;refine Q7 (Q b u c H3 _ W F) ?_;rintro v t ⟨p,H4,U,z,E⟩;refine Q7 (M b t c H4 q p g v _ U A z E) ?_;rintro a r ⟨n,H5,T,y,C⟩;refine Q7 (L b r c H5 k j n d f a _ T m l y C) ?_;rintro _ s6 ⟨H6,S,B⟩;exact⟨c,H6,S,B⟩
def ipI (f:Int->Int->Int):TIp:=fun x y H Q=>∃i j,x=.int i/\y=.int j/\Q (.int<|f i j) H
def Gp:PIp X .Add (ipI fun i j=>i+j):=by
 intro e s f H x y v u Q I b a h;obtain⟨i,j,d,c,q⟩:=h;subst d;subst c;obtain⟨t,rfl⟩:=b;obtain⟨g,rfl⟩:=a;exact iadd_int ⟨.int _,H,I.tok _,⟨_,rfl⟩,q⟩
def Lj:PIp X .Sub (ipI fun i j=>i-j):=by
 intro e s f H x y v u Q I b a h;obtain⟨i,j,d,c,q⟩:=h;subst d;subst c;obtain⟨t,rfl⟩:=b;obtain⟨g,rfl⟩:=a;exact isub_int ⟨.int _,H,I.tok _,⟨_,rfl⟩,q⟩
end
section
variable {X:Cx}{pos:Pos}
def RE (c:TT)(h:TS):TS:=fun D a H=>∃W:Nat->St->Hp->Prop,(∃m,W m a H)/\∀m a H,W m a H ->
 c a H fun b f=>if b=true then ∃N:St->Hp->Prop,(∀d g,N d g->∃e,e<m/\W e d g)/\h { D with nx:=N,ct:=N,bk:=D.nx } a f else D.nx a f
def BP   (t:PassesOwn (model X.prog X.w) X.A X.env X.xe)(L:PT X c tc)(M:PSs X body tb):PS X (.While c body [] pos) (RE tc tb):=by
 intro e s A H D I h;obtain⟨W,⟨J,C⟩,i⟩:=h;refine wpAny_While (codeAny_whileLoop (fun n G=>∃g z,Qr X e g z G/\W n g z) ?_ J ⟨A,H,I,C⟩)
 rintro n F ⟨d,y,O,B⟩
 refine wpAny_passesOwn t (Q7 (L e F d y _ O<|i n d y B) ?_);rintro b E ⟨x,w,l⟩
 cases b with
 |true =>
   obtain⟨N,u,l⟩:=l;rw[Xd rfl];refine wpAny_passesOwn t (Q7 (M e E d x _ w l) fun f P k=>?_)
   cases f with
   |next =>
     obtain⟨a,j,r,o⟩:=k;obtain⟨p,q,m⟩:=u a j o
     exact⟨p,q,a,j,r,m⟩
   |cont =>
     obtain⟨a,j,r,o⟩:=k;obtain⟨p,q,m⟩:=u a j o
     exact⟨p,q,a,j,r,m⟩
   |brk=>exact k
   |ret v=>exact k
 |false =>
   rw[Xc Xw];exact wpAny_execs_nil ⟨d,x,w,l⟩
end
structure It where
 go:Nat->Hp->Prop
 yld:Nat->Hp->V->Hp->Prop
 stop:Nat->Hp->Prop
def Yw (X:Cx)(a:Qc)(H:Hp)(b:Addr):Prop :=
 H b=none/\b≠X.env.locals/\b∉X.fs/\(b∈X.ex\/X.s₀.heap.objs.size<=b)/\(∀x c,X.env.cells.lookup x=some c->c≠b)/\∀p∈X.pn++a,p.1≠b
def Qr.fpOk {X:Cx}{d:Qc}{g:St}{H f:Hp}{s:Shared}{b:Addr}(I:Qr X d g H s)(a:s.heap.objs.size<=b)(hn:f b=none):Yw X d f b:=by
 refine⟨hn,VY<|Xp I.lt a,I.nofs a,.inr<|X7 I.sz a,fun x c e z=>?_,fun p h z=>?_⟩
 .obtain⟨v,q⟩:=I.cell x c e
  exact Xm (Xp q.lt<|by rw[z];exact a) (Yt _)
 .exact Xm (Xp (Xj (I.pin p h).1)<|by rw[z];exact a) (Yt _)
structure Turn (P:Program)(w:World)(K:W.Frag)(tg:Expr)(J:It)(fp:Qg)(it:Addr)(tn:Nat->Heap->Prop):Prop where
 mem:it∈fp
 obj:∀i h,tn i h->∀b∈fp,∃o,h.get? b=some o/\∀v,o.data≠.cell v
 keep:∀i h h',tn i h->(∀b∈fp,∀o,h.get? b=some o->h'.get? b=some o)->tn i h'
 item:∀(X:Cx),X.prog=P->X.w=w->X.K=K->X.calm=true->∀(i:Nat) (Xa0:Qc) (s:Shared) (σ:St) (H:Hp) (E:Qb),Qr X Xa0 σ H s->(∀b∈fp,Yw X Xa0 H b)->tn i s.heap->J.go i H ->
  wpAny (model P w) X.A (pyNext<|.ref it) (fun r s1=>∃u,r=some u /\
   wpAny (model P w) X.A (letOwnedTupleGo tg (.ref it) u) (fun _ s2=>∃x H',Qr X Xa0 σ H' s2/\QM x u/\J.yld i H x H'/\tn (i+1) s2.heap/\∀b∈fp,H' b=none) E s1) E s
 done:∀(X:Cx),X.prog=P->X.w=w->X.K=K->X.calm=true->∀(i:Nat) (Xa0:Qc) (s:Shared) (σ:St) (H:Hp) (E:Qb),Qr X Xa0 σ H s->(∀b∈fp,Yw X Xa0 H b)->tn i s.heap->J.stop i H ->
  wpAny (model P w) X.A (pyNext<|.ref it) (fun r s1=>r=none/\Qr X Xa0 σ H s1) E s
 self:∀(A:Around) (i:Nat) (s:Shared) (Q:Qb) (E:Qb),tn i s.heap->Q (.ref it) s->wpAny (model P w) A (pyIter<|.ref it) Q E s
abbrev TI:=St->Hp->(It->Hp->Prop)->Prop
def PIE (X:Cx)(a:Qc)(i:St)(j:Expr)(R:It->Hp->Prop)(c:Value)(f:Shared):Prop :=
 ∃(g:Addr) (h:Qg) (e:Nat->Heap->Prop) (J:It) (d:Hp),c=.ref g/\Qr X a i d f/\Turn X.prog X.w X.K j J h g e/\e 0 f.heap/\(∀b∈h,Yw X a d b)/\R J d
def PI (X:Cx)(c iter:Expr)(wi:TI):Prop :=
 ∀(a:Qc) (s:Shared) (b:St) (H:Hp) (R:It->Hp->Prop),Qr X a b H s->wi b H R ->
  wpAny (model X.prog X.w) X.A (eval iter X.env) (fun v d=>wpAny (model X.prog X.w) X.A (pyIter v) (PIE X a b c R) X.xe d) X.xe s
def Ge      (b:s.heap.get? it=some o)(d:o.cls=.type n)(c:o.data=.fields vs)
 (hn:["enumerate","zip","dict_itemiterator","dict_reverseitemiterator","odict_iterator","itertools.zip_longest","itertools.pairwise"].contains n=false) (a:Q () s):wpAny M A (letOwnedTupleGo tg (.ref it) u) Q E s:=by
 unfold letOwnedTupleGo;cases tg<;>first
  |exact Xk a
  | (cases u<;>first
   |exact Xk a
   | (refine Xa (wpAny_load b ?_)
      rw[d,c];show wpAny M A (if (["enumerate","zip","dict_itemiterator","dict_reverseitemiterator","odict_iterator","itertools.zip_longest","itertools.pairwise"].contains n&&vs[0]?==some (rawInt _))=true then _ else _) Q E s;rw[Xc<|by intro h;rw[hn,Bool.false_and]at h;cases h];exact Xk a))
def Itl (K:W.Frag)(a:Addr):It :=
 ⟨fun i H=>∃b x,SqL K H a b/\b[i]?=some x,fun i H x c=>c=H/\∀b,SqL K H a b->b[i]?=some x,fun i H=>∃b,SqL K H a b/\b.length<=i⟩
def Itt (K:W.Frag)(a:Addr):It :=
 ⟨fun i H=>∃b x,SqT K H a b/\b[i]?=some x,fun i H x c=>c=H/\∀b,SqT K H a b->b[i]?=some x,fun i H=>∃b,SqT K H a b/\b.length<=i⟩
def Itr (lo:Int)(n:Nat):It:=⟨fun i _=>i<n,fun i H x a=>a=H/\x=.int (lo+i),fun i _=>n<=i⟩
theorem Ia {P:Program}{w:World}{K:W.Frag}{tg:Expr}(a it:Addr):Turn P w K tg (Itl K a) [it] it (fun i h=>h.IsListIter it a i) where
 mem:=by simp
 obj:=fun i h f b g=>by
  have e:b=it:=by simpa using g
  subst e;obtain⟨o,e,c,d⟩:=f
  exact⟨o,e,fun v z=>by rw[d]at z;cases z⟩
 keep:=fun i h n f k=>f.at fun o e=>k it (by simp) o e
 item:=by
  intro X B y C N i l s M H E I m f A;subst B y C;obtain⟨O,x,hq,t⟩:=A;obtain⟨r,q,p,hz⟩:=I.list hq;obtain⟨u,T,R⟩:=q.get t;obtain⟨L,J,U,G,F,D⟩:=m it (by simp);refine wpAny_pyNext_list_item f p.isList (x:=u) (by simpa using T) fun n j Q=>?_;have Z:Qr X l M H { s with heap:=n }:=I.turned (t':=s.toks) (fun b o g e=>(Q.2 b g).trans e) L J G F D;obtain⟨o,e,c,d⟩:=id j
  exact⟨u,rfl,Ge (s:={ s with heap:=n }) e c d (by decide) ⟨x,H,Z,R,⟨rfl,fun ys S=>by rw[I.list_inj S hq];exact t⟩,j,fun b g=>(m b g).1⟩⟩
 done:=by
  intro X B y C N i l s M H E I m f A;subst B y C;obtain⟨O,hq,t⟩:=A;obtain⟨r,q,p,hz⟩:=I.list hq;obtain⟨L,J,U,G,F,D⟩:=m it (by simp);have hl:=q.length;exact wpAny_pyNext_list_end (I.ok.hd N) f p.isList (by simp;omega) fun n Y=>⟨rfl,I.turned (t':=s.toks) (fun b o g e=>Y b o g e) L J G F D⟩
 self:=fun _ _ _ _ _ f h=>wpAny_pyIter_listiter f h
theorem Oh {P:Program}{w:World}{K:W.Frag}{tg:Expr}(a it:Addr):Turn P w K tg (Itt K a) [it] it (fun i h=>h.IsTupleIter it a i) where
 mem:=by simp
 obj:=fun i h f b j=>by
  have e:b=it:=by simpa using j
  subst e;obtain⟨o,e,c,d⟩:=f
  exact⟨o,e,fun v z=>by rw[d]at z;cases z⟩
 keep:=fun i h q f k=>f.at fun o e=>k it (by simp) o e
 item:=by
  intro X B y C N i m s M H E I n f A;subst B y C;obtain⟨O,x,hq,t⟩:=A;obtain⟨g,r,p,hz⟩:=I.tuple hq;obtain⟨u,T,R⟩:=r.get t;obtain⟨L,J,U,G,F,D⟩:=n it (by simp);refine wpAny_pyNext_tuple_item f (show s.heap.IsTuple a g.toArray from p) (x:=u) (by simpa using T) fun q l Q=>?_;have Z:Qr X m M H { s with heap:=q }:=I.turned (t':=s.toks) (fun b o j e=>(Q.2 b j).trans e) L J G F D;obtain⟨o,e,c,d⟩:=id l
  exact⟨u,rfl,Ge (s:={ s with heap:=q }) e c d (by decide) ⟨x,H,Z,R,⟨rfl,fun ys S=>by rw[I.tuple_inj S hq];exact t⟩,l,fun b j=>(n b j).1⟩⟩
 done:=by
  intro X B y C N i m s M H E I n f A;subst B y C;obtain⟨O,hq,t⟩:=A;obtain⟨g,r,p,hz⟩:=I.tuple hq;obtain⟨L,J,U,G,F,D⟩:=n it (by simp);have hl:=r.length;exact wpAny_pyNext_tuple_end (I.ok.hd N) f (show s.heap.IsTuple a g.toArray from p) (by simp;omega) fun q Y=>⟨rfl,I.turned (t':=s.toks) (fun b o j e=>Y b o j e) L J G F D⟩
 self:=fun _ _ _ _ _ f h=>wpAny_pyIter_tupleiter f h
theorem Ob {P:Program}{w:World}{K:W.Frag}{tg:Expr}(it:Addr)(lo:Int)(n:Nat):Turn P w K tg (Itr lo n) [it] it (fun i h=>IsRangeIter h it (lo+(i:Nat)*1) ((n:Int)-(i:Nat)) 1) where
 mem:=by simp
 obj:=fun i h a b c=>by
  have e:b=it:=by simpa using c
  subst e;exact⟨_,a,fun v z=>by
   have D:Data.fields _=Data.cell v:=z
   cases D⟩
 keep:=fun i h j a k=>k it (by simp) _ a
 item:=by
  intro X q l r p i f s C H E I g a m;subst q l r;obtain⟨B,A,J,y,x,u⟩:=g it (by simp);have W:=Walks.range (prog:=X.prog) (w:=X.w) (I.ok.hd p) it lo 1 n;refine W.item i s _ _ m a fun v j tk G d F=>?_;obtain⟨t,rfl⟩:=G;have M:Qr X f C H { s with heap:=j,toks:=tk }:=I.turned (fun b o c e=>F b o (by simpa using c) e) B A y x u;refine⟨_,rfl,Ge (s:={ s with heap:=j,toks:=tk }) (n := "range_iterator") d rfl rfl (by decide) ⟨.int<|lo+i,H,M,⟨t,?_⟩,⟨rfl,rfl⟩,d,fun b c=>(g b c).1⟩⟩;rw[Int.mul_one]
 done:=by
  intro X q l r p i f s C H E I g a m;subst q l r;obtain⟨B,A,J,y,x,u⟩:=g it (by simp);exact wpAny_pyNext_range_end (I.ok.hd p) a (by have:n<=i:=m;omega) fun j L=>⟨rfl,I.turned (t':=s.toks) (fun b o c e=>L b o c e) B A y x u⟩
 self:=fun _ _ _ _ _ a h=>wpAny_pyIter_rangeiter a h
section
variable {X:Cx}{tg:Expr}
def Dn (K:W.Frag)(e:TE):TI:=fun c H R=>e c H fun x b=>∃a,x=.ref a/\(∃d,SqL K b a d)/\R (Itl K a) b
def Nt (K:W.Frag)(e:TE):TI:=fun c H R=>e c H fun x b=>∃a,x=.ref a/\(∃d,SqT K b a d)/\R (Itt K a) b
def JM  (n:PE X l tl):PI X tg l (Dn X.K tl):=by
 intro f s g H R I h;refine Q7 (n f s g H _ I h) ?_;rintro v c ⟨x,t,d,i,j⟩;obtain⟨a,e,⟨u,m⟩,q⟩:=j;subst e;cases i;obtain⟨k,w,p,y⟩:=d.list m;refine wpAny_pyIter_list p.isList ?_;refine⟨c.heap.objs.size,[c.heap.objs.size],_,_,t,rfl,d.kept (t':=c.toks) fun b o e=>Xg _ e,Ia a _,⟨_,Xz _ rfl,rfl,rfl⟩,fun b r=>?_,q⟩;have e:b=c.heap.objs.size:=by simpa using r
 subst e;exact d.fpOk (Xq _) (d.hok.fresh<|Xq _)
def Le  (n:PE X l tl):PI X tg l (Nt X.K tl):=by
 intro g s i H R I h;refine Q7 (n g s i H _ I h) ?_;rintro v c ⟨x,t,d,j,k⟩;obtain⟨a,e,⟨u,m⟩,q⟩:=k;subst e;cases j;obtain⟨f,w,p,y⟩:=d.tuple m;refine wpAny_pyIter_tuple (show c.heap.IsTuple a f.toArray from p) ?_;refine⟨c.heap.objs.size,[c.heap.objs.size],_,_,t,rfl,d.kept (t':=c.toks) fun b o e=>Xg _ e,Oh a _,⟨_,Xz _ rfl,rfl,rfl⟩,fun b r=>?_,q⟩;have e:b=c.heap.objs.size:=by simpa using r
 subst e;exact d.fpOk (Xq _) (d.hok.fresh<|Xq _)
def SX {c:Qc}{d:St}{H:Hp}{s:Shared}{R:It->Hp->Prop}{E:Qb}{lo a:Int}{t u v:Tok}{f:Nat}(I:Qr X c d H s)(h1 : -(2^62)<=lo)(j:lo<2^62)(h3 : -(2^62)<=a)(i:a<2^62)
 (q:R (Itr lo (a-lo).toNat) H):wpAny (model X.prog X.w) X.A (pyIter<|.ref s.heap.objs.size) (PIE X c d tg R) E { s with heap:=s.heap.push { cls:=.type "range",data:=.fields #[.int lo t,.int a u,.int 1 v] },toks:=f }:=by
 refine wpAny_pyIter_range (IsRange.new ..) (small_one h1 j h3 i) ?_;have g:Qr X c d H { s with heap:=s.heap.push { cls:=.type "range",data:=.fields #[.int lo t,.int a u,.int 1 v] },toks:=f }:=I.kept fun b o e=>Xg _ e
 refine⟨(s.heap.push { cls:=.type "range",data:=.fields #[.int lo t,.int a u,.int 1 v] }).objs.size,[(s.heap.push { cls:=.type "range",data:=.fields #[.int lo t,.int a u,.int 1 v] }).objs.size],_,_,H,rfl,
  g.kept (t':=f) fun b o e=>Xg _ e,Ob _ lo (a-lo).toNat,?_,fun b h=>?_,q⟩
 .have l:lo+((0:Nat):Int)*1=lo:=by simp
  have k:(((a-lo).toNat:Nat):Int)-((0:Nat):Int)=Builtin.Range.rangeSize lo a 1:=by rw[rangeSize_one];split<;>omega
  show IsRangeIter _ _ (lo+((0:Nat):Int)*1) ((((a-lo).toNat:Nat):Int)-((0:Nat):Int)) 1;rw[l,k];exact Xz _ rfl
 .have e:b=(s.heap.push { cls:=.type "range",data:=.fields #[.int lo t,.int a u,.int 1 v] }).objs.size:=by simpa using h
  subst e;exact g.fpOk (Xq _) (g.hok.fresh<|Xq _)
def Gb (c:TA):TI:=fun a H R=>c a H fun b d=>∃j:Int,b=[.int j] /\ -(2^62)<=j/\j<2^62/\R (Itr 0 j.toNat) d
def NH (c:TA):TI:=fun a H R=>c a H fun b d=>∃i j:Int,b=[.int i,.int j]/\(-(2^62)<=i/\i<2^62 /\ -(2^62)<=j/\j<2^62)/\R (Itr i (j-i).toNat) d
def Y9  (m:Gl X "range") (l:X.mg "range"=none) (n:PA X [a] ta) (k:starEach [a] X.env=[(false,eval a X.env)]:=by rfl):PI X tg (.Call (.Name "range" p) [a] [] pos) (Gb ta):=by
 intro c s d H R I h;refine Call_ (Jd I m l boot_range<|PyProof.Rows.callWith_type1 (Q7 (n pos c s d H _ I h) ?_) k rfl);rintro v w ⟨u,x,o,g,b⟩;obtain⟨j,e,b,i,q⟩:=b;subst e;cases g with
 |cons r f =>
   cases f
   obtain⟨t,rfl⟩:=r;exact call_range_1 (SX o (by omega) (by omega) b i<|by simpa using q)
def PN {a b:Expr} {l:TA} {p c:Pos} (z:Gl X "range") (y:X.mg "range"=none) (A:PA X [a,b] l) (x:starEach [a,b] X.env=[(false,eval a X.env),(false,eval b X.env)]:=by rfl) (d:starEach [b] X.env=[(false,eval b X.env)]:=by rfl) :
 PI X tg (.Call (.Name "range" p) [a,b] [] c) (NH l):=by
 intro k s m H R I h;refine Call_ (Jd I z y boot_range<|PyProof.Rows.callWith_type1 (Q7 (A c k s m H _ I h) ?_) (by rw[x,d])<|by rw[d];rfl);rintro D F ⟨C,G,B,n,g⟩;obtain⟨i,j,e,⟨g,w,v,u⟩,q⟩:=g;subst e;cases n with
 |cons r f =>
   cases f with
   |cons o f =>
     cases f
     obtain⟨t,rfl⟩:=r;obtain⟨E,rfl⟩:=o;exact call_range_2 (SX B g w v u q)
def Uc (wi:TI)(g:TG)(f:TS):TS:=fun D a H=>wi a H fun J j=>∃W:Nat->Nat->St->Hp->Prop,(∃m,W 0 m a j)/\∀i m a H,W i m a H ->
 (J.stop i H/\D.nx a H)\/(J.go i H/\∃N:St->Hp->Prop,(∀b c,N b c->∃e,e<m/\W (i+1) e b c)/\∀x c,J.yld i H x c->g x a c fun d h=>f { D with nx:=N,ct:=N,bk:=D.nx } d h)
def Go (a:Qg)(h:Heap):Qc:=a.filterMap fun b=>(h.get? b).map fun o=>(b,o)
def Ma   (a:b∈fp)(e:h.get? b=some o):(b,o)∈Go fp h:=List.mem_filterMap.mpr ⟨b,a,by rw[e];rfl⟩
def ED  {p:Addr×Obj}(a:p∈Go fp h):p.1∈fp/\h.get? p.1=some p.2:=by
 obtain⟨b,c,e⟩:=List.mem_filterMap.mp a
 cases q:h.get? b with
 |none=>rw[q]at e;cases e
 |some o =>
   rw[q]at e;have d:(b,o)=p:=Option.some.inj e;subst d;exact⟨c,q⟩
def Qr.pinned {a:Qc}{f:St}{H:Hp}{s:Shared}{c:Qg}(I:Qr X a f H s)(k:∀b∈c,Yw X a H b)(j:∀b∈c,∃o,s.heap.get? b=some o/\∀v,o.data≠.cell v):Qr X (a++Go c s.heap) f H s :=
 I.pins_of fun p i=>(XB.mp i).elim (fun z=>I.pin p<|XX _ z) fun z=>by
  obtain⟨g,e⟩:=ED z;obtain⟨n,m,l,_⟩:=k p.1 g;obtain⟨o,h,d⟩:=j p.1 g;rw[e]at h;cases h;exact⟨e,n,m,l,d⟩
def Qr.unpinned {a pl:Qc}{b:St}{H:Hp}{s:Shared}(I:Qr X (a++pl) b H s):Qr X a b H s:=I.pins_of fun p c=>I.pin p (XX _<|UK _ c)
def V7    (G:PassesOwn (model X.prog X.w) X.A X.env X.xe)(hc:X.calm=true)(hi:PI X tg iter wi)(hg:PG X tg g)(p:PSs X body tb)
 (hs:∀x,foldedSetIterable iter X.env x=pure x:=by intro _;rfl):PS X (.For tg iter body [] pos) (Uc wi g tb):=by
 intro c s Z H D I h;refine wpAny_For (Q7 (hi c s Z H _ I h) fun v s1 h1=>Q7 h1 fun itv s2 h2=>?_) hs;obtain⟨it,M,tn,J,H2,e,I2,T,Q,f2,W,⟨m0,w0⟩,B⟩:=h2;subst e;have l:∀{y:Hp},(∀b∈M,y b=none)->∀b∈M,Yw X c y b:=fun hn b p=>⟨hn b p,(f2 b p).2⟩;refine codeAny_forLoop_any (fun n s'=>∃i k y,Qr X c k y s'/\tn i s'.heap/\(∀b∈M,y b=none)/\W i n k y) ?_ m0 ⟨0,Z,H2,I2,Q,fun b p=>(f2 b p).1,w0⟩
 rintro n s3 ⟨i,j,O,I3,E,L,w3⟩
 rcases B i n j O w3 with ⟨C,qn⟩|⟨go,N,hN,step⟩
 .refine wpAny_passesOwn G (Q7 (T.done X rfl rfl rfl hc i c s3 j O X.xe I3 (l L) E C) ?_);rintro r s4 ⟨S,I4⟩
  subst S;exact wpAny_execs_nil ⟨j,O,I4,qn⟩
 .refine wpAny_passesOwn G (Q7 (T.item X rfl rfl rfl hc i c s3 j O X.xe I3 (l L) E go) ?_);rintro r s4 ⟨u,S,h4⟩
  subst S;refine wpAny_passesOwn G (Q7 h4 ?_);rintro _ s5 ⟨x,H5,I5,r5,y5,A,U⟩;have Y:=I5.pinned (l U) (T.obj _ _ A);refine wpAny_passesOwn G (Q7 (hg _ s5 j H5 x u _ Y r5<|step x H5 y5) ?_);rintro _ s6 ⟨P,H6,I6,q6⟩;refine wpAny_passesOwn G (Q7 (p _ s6 P H6 _ I6 q6) fun f R z=>?_)
  have q:∀{a:St} {w:Hp},Qr X (c++Go M s5.heap) a w R->N a w->∃m,m<n/\∃i k y,Qr X c k y R/\tn i R.heap/\(∀b∈M,y b=none)/\W i m k y:=fun{a w} t F=>by
   obtain⟨m',hm,w7⟩:=hN a w F;refine⟨m',hm,i+1,a,w,t.unpinned,T.keep _ _ _ A fun b p o e=>(t.pin (b,o)<|XX _<|XX _<|Ma p e).1,fun b p=>?_,w7⟩;obtain⟨o,e,d⟩:=T.obj _ _ A b p
   exact(t.pin (b,o)<|XX _<|XX _<|Ma p e).2.1
  cases f with
  |next=>obtain⟨a,w,t,F⟩:=z;exact q t F
  |cont=>obtain⟨a,w,t,F⟩:=z;exact q t F
  |brk=>obtain⟨a,w,t,z⟩:=z;exact⟨a,w,t.unpinned,z⟩
  |ret v=>obtain⟨x7,a,w,t,r7,z⟩:=z;exact⟨x7,a,w,t.unpinned,r7,z⟩
end
abbrev R2:=V->V->Hp->VK->Prop
def OpR (X:Cx)(f:Value->Value->Sem Value)(r:R2):Prop :=
 ∀(a:Qc) (s:Shared) (b:St) (H:Hp) (x y:V) (v u:Value) (Q:VK),Qr X a b H s->QM x v->QM y u->r x y H Q ->
  wpAny (model X.prog X.w) X.A (f v u) (EP X a b Q) X.xe s
def UnR (X:Cx)(f:Value->Sem Value)(r:V->Hp->VK->Prop):Prop :=
 ∀(a:Qc) (s:Shared) (b:St) (H:Hp) (x:V) (v:Value) (Q:VK),Qr X a b H s->QM x v->r x H Q ->
  wpAny (model X.prog X.w) X.A (f v) (EP X a b Q) X.xe s
def Zl (X:Cx)(f:Value)(r:List V->Hp->VK->Prop):Prop :=
 ∀(a:Qc) (s:Shared) (b:St) (H:Hp) (c:List V) (d:Qe) (Q:VK),Qr X a b H s->QP c d->r c H Q ->
  wpAny (model X.prog X.w) X.A (call f d) (EP X a b Q) X.xe s
def TQ (X:Cx)(r:V->Hp->(Bool->Hp->Prop)->Prop):Prop :=
 ∀(a:Qc) (s:Shared) (b:St) (H:Hp) (x:V) (v:Value) (Q:Bool->Hp->Prop),Qr X a b H s->QM x v->r x H Q ->
  wpAny (model X.prog X.w) X.A (truthy v) (TP X a b Q) X.xe s
def tOp (r:R2)(c b:TE):TE:=fun a H Q=>c a H fun x e=>b a e fun y d=>r x y d Q
def tUn (r:V->Hp->VK->Prop)(b:TE):TE:=fun a H Q=>b a H fun x c=>r x c Q
def rI (C:Int->Int->Prop)(g:Int->Int->V):R2:=fun x y H Q=>∃i j,x=.int i/\y=.int j/\C i j/\Q (g i j) H
def rI0 (g:Int->Int->V):R2:=fun x y H Q=>∃i j,x=.int i/\y=.int j/\Q (g i j) H
def rU (g:Int->V):V->Hp->VK->Prop:=fun x H Q=>∃i,x=.int i/\Q (g i) H
section
variable {X:Cx}{a b:Expr}{ta tb:TE}{pos:Pos}
def MK (q:PE X a ta)(p:PE X b tb){c:Qc}{s:Shared}{d:St}{H:Hp}{R:V->V->Hp->Prop}(I:Qr X c d H s)
 (h:ta d H fun x i=>tb d i fun y e=>R x y e) {Q:Qb} {f:Value->Value->Sem Value}
 (o:∀v u g x y e,Qr X c d e g->QM x v->QM y u->R x y e->wpAny (model X.prog X.w) X.A (f v u) Q X.xe g) :
 wpAny (model X.prog X.w) X.A (eval a X.env) (fun v t=>wpAny (model X.prog X.w) X.A (eval b X.env) (fun u r=>wpAny (model X.prog X.w) X.A (f v u) Q X.xe r) X.xe t) X.xe s:=by
 refine Q7 (q c s d H _ I h) ?_;rintro v j ⟨x,i,z,l,n⟩;refine Q7 (p c j d i _ z n) ?_;rintro u g ⟨y,e,w,k,m⟩;exact o v u g x y e w l k m
def QN  (i:OpR X (binaryOp op) r)(k:PE X a ta)(j:PE X b tb):PE X (.BinOp a op b pos) (tOp r ta tb):=by
 intro c s d H Q I h;exact wpAny_BinOp (MK k j I h fun v u e x y m l g f q=>i c e d m x y v u Q l g f q)
def UZ  (i:UnR X (unaryOp op) r)(j:PE X a ta):PE X (.UnaryOp op a pos) (tUn r ta):=by
 intro c s d H Q I h;refine UnaryOp_ (Q7 (j c s d H _ I h) ?_);rintro v e ⟨x,l,k,f,g⟩;exact i c e d l x v Q k f g
def opI {f:Value->Value->Sem Value}{C:Int->Int->Prop}{g:Int->Int->Int}
 (c:∀(i j:Int) (t u:Tok) (s:Shared) (Q:Qb) (E:Qb),C i j->Q (.int (g i j) s.toks) { s with toks:=s.toks+1 }->wpAny (model X.prog X.w) X.A (f (.int i t)<|.int j u) Q E s) :
 OpR X f (rI C fun i j=>.int<|g i j):=by
 intro m s n H x y v u Q I k e h;obtain⟨i,j,rfl,rfl,l,q⟩:=h;obtain⟨t,rfl⟩:=k;obtain⟨d,rfl⟩:=e;exact c i j t d s _ _ l ⟨.int<|g i j,H,I.tok _,⟨_,rfl⟩,q⟩
def MU {f:Value->Value->Sem Value}{g:Int->Int->Int}
 (c:∀(i j:Int) (t u:Tok) (s:Shared) (Q:Qb) (E:Qb),Q (.int (g i j) s.toks) { s with toks:=s.toks+1 }->wpAny (model X.prog X.w) X.A (f (.int i t)<|.int j u) Q E s) :
 OpR X f (rI0 fun i j=>.int<|g i j):=by
 intro l s m H x y v u Q I k e h;obtain⟨i,j,rfl,rfl,q⟩:=h;obtain⟨t,rfl⟩:=k;obtain⟨d,rfl⟩:=e;exact c i j t d s _ _ ⟨.int<|g i j,H,I.tok _,⟨_,rfl⟩,q⟩
def MQ {f:Value->Value->Sem Value}{g:Int->Int->Bool}
 (c:∀(i j:Int) (t u:Tok) (s:Shared) (Q:Qb) (E:Qb),Q (.bool<|g i j) s->wpAny (model X.prog X.w) X.A (f (.int i t)<|.int j u) Q E s) :
 OpR X f (rI0 fun i j=>.bl<|g i j):=by
 intro l s m H x y v u Q I k e h;obtain⟨i,j,rfl,rfl,q⟩:=h;obtain⟨t,rfl⟩:=k;obtain⟨d,rfl⟩:=e;exact c i j t d s _ _ ⟨.bl<|g i j,H,I,rfl,q⟩
def ML (i j:Int):Prop:=0<=j/\j<=1000000/\i.natAbs<2^64
def WS (i j:Int):Prop:=(-(2^64)<i/\i<2^64)\/(-(2^64)<j/\j<2^64)
def WS.ok (h:WS i j):IntMulOk i j:=by
 rcases h with ⟨d,c⟩|⟨d,c⟩
 .exact .of_left (intBits_le_64 d c)
 .exact .of_right (intBits_le_64 d c)
def Vm:OpR X (binaryOp .Add) (rI0 fun i j=>.int<|i+j):=MU fun _ _ _ _ _ _ _ q=>add_int q
def Yg:OpR X (binaryOp .Sub) (rI0 fun i j=>.int<|i-j):=MU fun _ _ _ _ _ _ _ q=>sub_int q
def Uv:OpR X (binaryOp .Mult) (rI WS fun i j=>.int<|i*j):=opI fun _ _ _ _ _ _ _ c q=>mul_int q c.ok
def Y2:OpR X (binaryOp .Mod) (rI (fun _ j=>0<j) fun i j=>.int<|i%j):=opI fun i j _ _ _ _ _ c q=>by
 have d:(0:Int)<j:=c;exact mod_int' (by omega) (by rw[Int.fmod_eq_emod_of_nonneg i<|by omega];exact q)
def JJ:OpR X (binaryOp .Pow) (rI ML fun i j=>.int<|i^j.toNat):=opI fun _ _ _ _ _ _ _ c q=>pow_int_small c.1 c.2.1 c.2.2 q
def DB:OpR X (binaryOp .BitXor) (rI0 fun i j=>.int<|Builtin.bitXor i j):=MU fun _ _ _ _ _ _ _ q=>xor_int q
def unI {f:Value->Sem Value}{g:Int->Int}
 (c:∀(i:Int) (t:Tok) (s:Shared) (Q:Qb) (E:Qb),Q (.int (g i) s.toks) { s with toks:=s.toks+1 }->wpAny (model X.prog X.w) X.A (f<|.int i t) Q E s) :
 UnR X f (rU fun i=>.int<|g i):=by
 intro e s j H x v Q I d h;obtain⟨i,rfl,q⟩:=h;obtain⟨t,rfl⟩:=d;exact c i t s _ _ ⟨.int<|g i,H,I.tok _,⟨_,rfl⟩,q⟩
def Gk:UnR X (unaryOp .USub) (rU fun i=>.int (-i)):=unI fun _ _ _ _ _ q=>neg_int q
end
def Ni:V->V->Bool
 |.non,.non=>true|.non,.int _=>true|.int _,.non=>true|.non,.bl _=>true|.bl _,.non=>true|.non,.str _=>true|.str _,.non=>true
 |.int _,.int _=>true|.bl _,.bl _=>true|.str _,.str _=>true|.byt _,.byt _=>true
 |.int _,.str _=>true|.str _,.int _=>true|.bl _,.str _=>true|.str _,.bl _=>true
 |_,_=>false
def rEq:R2:=fun x y H Q=>Ni x y=true/\Q (.bl<|decide (x=y)) H
def rNe:R2:=fun x y H Q=>Ni x y=true/\Q (.bl<|!decide (x=y)) H
def Su:decide (V.int i=V.int j)=(i==j):=by
 rw[Bool.eq_iff_iff];simp
def R1:decide (V.bl i=V.bl j)=(i==j):=by
 rw[Bool.eq_iff_iff];simp
def Ss:decide (V.str i=V.str j)=(i==j):=by
 rw[Bool.eq_iff_iff];simp
def Sw:decide (V.byt i=V.byt j)=(i.toList==j.toList):=by
 rw[Bool.eq_iff_iff];cases i
 cases j
 simp
section
variable {X:Cx}{a b c:Expr}{ta tb tc:TE}{pos:Pos}
def ZF {d:Qc}{f:St}{H:Hp}{s:Shared}{Q:VK}{k g:Bool}(I:Qr X d f H s)(q:Q (.bl k) H)(e:k=g):EP X d f Q (.bool g) s:=by
 subst e;exact⟨.bl k,H,I,rfl,q⟩
def Uf:OpR X (compareOp .Eq) rEq:=by
 intro k s l H x y v u Q I g d h;obtain⟨f,q⟩:=h
 cases x with
 |non =>
   cases g
   cases y with
   |non=>cases d;exact PySem.EqNone.eq_none_none (ZF I q<|by simp)
   |bl j=>cases d;exact PySem.EqNone.eq_none_bool (ZF I q<|by simp)
   |int j=>obtain⟨e,rfl⟩:=d;exact PySem.EqNone.eq_none_int (ZF I q<|by simp)
   |str j=>obtain⟨e,rfl⟩:=d;exact PySem.EqNone.eq_none_str (ZF I q<|by simp)
   |_=>exact Xm (show false=true from f) Xw
 |bl i =>
   cases g
   cases y with
   |non=>cases d;exact PySem.EqNone.eq_bool_none (ZF I q<|by simp)
   |bl j=>cases d;exact eq_bool (ZF I q R1)
   |str j=>obtain⟨e,rfl⟩:=d;exact PySem.EqMixed.eq_bool_str (ZF I q<|by simp)
   |_=>exact Xm (show false=true from f) Xw
 |int i =>
   obtain⟨t,rfl⟩:=g
   cases y with
   |non=>cases d;exact PySem.EqNone.eq_int_none (ZF I q<|by simp)
   |int j=>obtain⟨e,rfl⟩:=d;exact eq_int (ZF I q Su)
   |str j=>obtain⟨e,rfl⟩:=d;exact PySem.EqMixed.eq_int_str (ZF I q<|by simp)
   |_=>exact Xm (show false=true from f) Xw
 |str i =>
   obtain⟨t,rfl⟩:=g
   cases y with
   |non=>cases d;exact PySem.EqNone.eq_str_none (ZF I q<|by simp)
   |bl j=>cases d;exact PySem.EqMixed.eq_str_bool (ZF I q<|by simp)
   |int j=>obtain⟨e,rfl⟩:=d;exact PySem.EqMixed.eq_str_int (ZF I q<|by simp)
   |str j=>obtain⟨e,rfl⟩:=d;exact eq_str (ZF I q Ss)
   |_=>exact Xm (show false=true from f) Xw
 |byt i =>
   obtain⟨t,rfl⟩:=g
   cases y with
   |byt j=>obtain⟨e,rfl⟩:=d;exact W.eq_bytes (ZF I q Sw)
   |_=>exact Xm (show false=true from f) Xw
 |_=>cases y<;>exact Xm (show false=true from f) Xw
def TC:OpR X (compareOp .NotEq) rNe:=by
 intro k s l H x y v u Q I g d h;obtain⟨f,q⟩:=h
 cases x with
 |non =>
   cases g
   cases y with
   |non=>cases d;exact PySem.EqNone.ne_none_none (ZF I q<|by simp)
   |bl j=>cases d;exact PySem.EqNone.ne_none_bool (ZF I q<|by simp)
   |int j=>obtain⟨e,rfl⟩:=d;exact PySem.EqNone.ne_none_int (ZF I q<|by simp)
   |str j=>obtain⟨e,rfl⟩:=d;exact PySem.EqNone.ne_none_str (ZF I q<|by simp)
   |_=>exact Xm (show false=true from f) Xw
 |bl i =>
   cases g
   cases y with
   |non=>cases d;exact PySem.EqNone.ne_bool_none (ZF I q<|by simp)
   |bl j=>cases d;exact ne_bool (ZF I q<|X8 not R1)
   |str j=>obtain⟨e,rfl⟩:=d;exact PySem.EqMixed.ne_bool_str (ZF I q<|by simp)
   |_=>exact Xm (show false=true from f) Xw
 |int i =>
   obtain⟨t,rfl⟩:=g
   cases y with
   |non=>cases d;exact PySem.EqNone.ne_int_none (ZF I q<|by simp)
   |int j=>obtain⟨e,rfl⟩:=d;exact ne_int (ZF I q<|X8 not Su)
   |str j=>obtain⟨e,rfl⟩:=d;exact PySem.EqMixed.ne_int_str (ZF I q<|by simp)
   |_=>exact Xm (show false=true from f) Xw
 |str i =>
   obtain⟨t,rfl⟩:=g
   cases y with
   |non=>cases d;exact PySem.EqNone.ne_str_none (ZF I q<|by simp)
   |bl j=>cases d;exact PySem.EqMixed.ne_str_bool (ZF I q<|by simp)
   |int j=>obtain⟨e,rfl⟩:=d;exact PySem.EqMixed.ne_str_int (ZF I q<|by simp)
   |str j=>obtain⟨e,rfl⟩:=d;exact ne_str (ZF I q<|X8 not Ss)
   |_=>exact Xm (show false=true from f) Xw
 |byt i =>
   obtain⟨t,rfl⟩:=g
   cases y with
   |byt j=>obtain⟨e,rfl⟩:=d;exact W.ne_bytes (ZF I q<|X8 not Sw)
   |_=>exact Xm (show false=true from f) Xw
 |_=>cases y<;>exact Xm (show false=true from f) Xw
def Wg:OpR X (compareOp .Lt) (rI0 fun i j=>.bl<|decide (i<j)):=MQ fun _ _ _ _ _ _ _ q=>lt_int q
def Dq:OpR X (compareOp .LtE) (rI0 fun i j=>.bl<|decide (i<=j)):=MQ fun _ _ _ _ _ _ _ q=>le_int q
def W6:OpR X (compareOp .Gt) (rI0 fun i j=>.bl<|decide (j<i)):=MQ fun _ _ _ _ _ _ _ q=>gt_int q
def ZH (b:Expr)(h:op≠.In:=by decide)(d:op≠.NotIn:=by decide):behindInMarks op b=false:=by
 have f:(op==CmpOp.In)=false:=by cases op<;>first|rfl|exact Xm rfl h
 have e:(op==CmpOp.NotIn)=false:=by cases op<;>first|rfl|exact Xm rfl d
 cases b<;>simp[behindInMarks,f,e]
def B9  (j:OpR X (compareOp op) r)(m:PE X a ta)(l:PE X b tb)(k:behindInMarks op b=false):PE X (.Compare a [op] [b] pos) (tOp r ta tb):=by
 intro d s e H Q I h;exact wpAny_Compare1 (MK m l I h fun v u f x y o n i g q=>j d f e o x y v u Q n i g q) k
def Dv (t:TE):TT:=fun d H Q=>t d H fun x e=>∃k,x=.bl k/\Q k e
def ZX  (q:OpR X (compareOp op) r)(A:PE X a ta)(w:PE X b tb)(t:behindInMarks op b=false):PT X (.Compare a [op] [b] pos) (Dv<|tOp r ta tb):=by
 intro d s f H Q I h;refine wpAny_isTrue_Compare1 (Q7 (A d s f H _ I h) fun v i ⟨x,G,D,m,p⟩=>Q7 (w d i f G _ D p) fun u g ⟨y,F,C,l,o⟩ =>
  Q7 (q d g f F x y v u _ C m l o) fun c J ⟨z,E,B,j,k,e,n⟩=>?_) t
 subst e;cases j;exact wpAny_truthy_bool ⟨E,B,n⟩
def DJ (r g:R2)(ta tb tc:TE):TE:=fun d H Q=>ta d H fun x j=>tb d j fun y i=>r x y i fun z e=>∃k,z=.bl k /\
 (if k=true then tc d e fun f h=>g y f h Q else Q (.bl false) e)
def S9  (J:OpR X (compareOp op) r)(i:OpR X (compareOp op') r')(O:PE X a ta)(N:PE X b tb)(M:PE X c tc)
 (L:lastMarks [op,op'] [b,c]=false:=by with_unfolding_all rfl):PE X (.Compare a [op,op'] [b,c] pos) (DJ r r' ta tb tc):=by
 intro f s g H Q I h;refine Compare_chain (Q7 (O f s g H _ I h) fun v A ⟨x,W,S,D,G⟩=>chain_link (Q7 (N f A g W _ S G) fun u w ⟨y,U,R,j,F⟩ =>
  Q7 (J f w g U x y v u _ R D j F) fun d t ⟨z,n,m,C,k,e,l⟩=>?_)) L
 subst e;cases C;refine wpAny_truthy_bool ?_
 cases k with
 |false=>exact ite_ff ⟨.bl false,n,m,rfl,l⟩
 |true=>exact ite_tt (chain_last<|Q7 (M f t g n _ m l)<|by rintro p q ⟨o,T,P,B,E⟩;exact i f q g T y o u p Q P j B E)
def CK  (N:OpR X (compareOp op) r)(i:OpR X (compareOp op') r')(S:PE X a ta)(R:PE X b tb)(P:PE X c tc)
 (O:lastMarks [op,op'] [b,c]=false:=by with_unfolding_all rfl):PT X (.Compare a [op,op'] [b,c] pos) (Dv<|DJ r r' ta tb tc):=by
 intro f s g H Q I h;refine isTrue_chain (Q7 (S f s g H _ I h) fun v A ⟨x,H1,I1,E,L⟩=>test_link (Q7 (R f A g H1 _ I1 L) fun u w ⟨y,H2,Z,j,J⟩ =>
  Q7 (N f w g H2 x y v u _ Z E j J) fun d t ⟨z,n,m,D,k,e,l⟩=>?_)) O
 subst e;cases D;refine wpAny_truthy_bool ?_
 cases k with
 |false =>
   obtain⟨k',U,M⟩:=l
   cases U
   exact ite_ff ⟨n,m,M⟩
 |true =>
   refine ite_tt (test_last<|Q7 (P f t g n _ m l) ?_);rintro p q ⟨o,H4,Y,C,G⟩;refine Q7 (i f q g H4 y o u p _ Y j C G) ?_;rintro d' s5 ⟨z2,H5,W,B,k2,T,F⟩;subst T;cases B;exact wpAny_truthy_bool ⟨H5,W,F⟩
def MZ (K:W.Frag)(x:V)(H:Hp)(k:Bool):Prop :=
 match x with
 |.non=>k=false
 |.bl b=>k=b
 |.int i=>k=(i != 0)
 |.str y=>y.length<=sizeLine/\k=((y.length:Int) != 0)
 |.byt y=>y.size<=sizeLine/\k=((y.size:Int) != 0)
 |.ref p=>(∃d,SqL K H p d/\k = !d.isEmpty)\/(∃d,SqT K H p d/\k = !d.isEmpty)\/∃e,H p=some (.dK e)/\k = !e.isEmpty
 |_=>False
def IA {d:Type}{kvs:List (d×V)}{vs:List (d×Value)}(r:KV kvs vs):(!vs.isEmpty) = !kvs.isEmpty:=by
 cases r<;>rfl
def PV  (r:QP xs its):(!its.toArray.isEmpty) = !xs.isEmpty:=by
 cases r<;>simp
def JI:(sizeLine:Nat)<2^63:=by rw[sizeLine_eq];decide
def Ff:TQ X (fun x H Q=>∃k,MZ X.K x H k/\Q k H):=by
 intro C s D H x v Q I l h;obtain⟨k,e,q⟩:=h;have F:=JI;have E:sizeLine=16777216:=sizeLine_eq
 cases x with
 |non =>
   cases l
   have d:k=false:=e;subst d;exact truthy_none ⟨H,I,q⟩
 |bl b =>
   cases l
   have d:k=b:=e;subst d;exact wpAny_truthy_bool ⟨H,I,q⟩
 |int i =>
   obtain⟨t,rfl⟩:=l;have d:k=(i != 0):=e;subst d;exact PySem.P.truthy_int ⟨H,I,q⟩
 |str y =>
   obtain⟨t,rfl⟩:=l;obtain⟨A,d⟩:y.length<=sizeLine/\k=((y.length:Int) != 0):=e;subst d;exact PySem.P.truthy_str (by omega) ⟨H,I.tok _,q⟩
 |byt y =>
   obtain⟨t,rfl⟩:=l;obtain⟨A,d⟩:y.size<=sizeLine/\k=((y.size:Int) != 0):=e;subst d;exact W.truthy_bytes (by omega) ⟨H,I.tok _,q⟩
 |ref p =>
   cases l
   have d:(∃j,SqL X.K H p j/\k = !j.isEmpty)\/(∃j,SqT X.K H p j/\k = !j.isEmpty)\/∃f,H p=some (.dK f)/\k = !f.isEmpty:=e
   rcases d with ⟨j,n,d⟩|⟨j,n,d⟩|⟨f,n,d⟩
   .subst d
    obtain⟨w,r,u,z⟩:=I.list n;have g:=r.length;exact wpAny_truthy_list u.isList (by simp only[Xv];omega) ⟨H,I.tok _,by rw[PV r];exact q⟩
   .subst d
    obtain⟨w,r,u,z⟩:=I.tuple n;have g:=r.length;exact truthy_tuple u (by simp only[Xv];omega) ⟨H,I.tok _,by rw[PV r];exact q⟩
   .subst d
    obtain⟨z,B,o,r,m⟩:f.length<=sizeLine/\(p==sysModules)=false/\∃o,KV f o/\s.heap.DictOf (ZI X.prog X.w) p o:=I.hok p _ n;have g:f.length=o.length:=Paired.length r;exact wpAny_truthy_dict B m (by omega) ⟨H,I.tok _,by rw[IA r];exact q⟩
 |_=>exact(show False from e).elim
def AK (n:PE X a ta)(m:∀d,isTrue a X.env d=(do let v <- d;standAt a.pos;holding [v] (truthy v))) :
 PT X a (fun f H Q=>ta f H fun x g=>∃k,MZ X.K x g k/\Q k g):=by
 intro e s f H Q I h;refine isTrue_plain (Q7 (n e s f H _ I h) ?_) (m _);rintro v i ⟨x,p,o,j,l⟩;exact Ff e i f p x v Q o j l
def YQ  (r:QP [x] us):∃u,us=[u]/\QM x u:=by
 cases r with
 |cons e d=>cases d;exact⟨_,rfl,e⟩
def Ui  (r:QP [x,y] us):∃u d,us=[u,d]/\QM x u/\QM y d:=by
 cases r with
 |cons h g =>
   cases g with
   |cons f e=>cases e;exact⟨_,_,rfl,h,f⟩
def EK (e:X.calm=true):Zl X (.builtin "max") (fun xs H Q=>∃i j,xs=[.int i,.int j]/\Q (.int (if j > i then j else i)) H):=by
 intro f s g H xs m Q I r h;obtain⟨i,j,rfl,q⟩:=h;obtain⟨u,l,rfl,⟨t,rfl⟩,⟨o,rfl⟩⟩:=Ui r;refine max_two_ints (I.ok.hd e) fun p n k=>⟨_,H,I.kept k,?_,q⟩
 by_cases d:j > i
 .rw[Xd d,Xd d];exact⟨_,rfl⟩
 .rw[Xc d,Xc d];exact⟨_,rfl⟩
def EB (e:X.calm=true):Zl X (.builtin "min") (fun xs H Q=>∃i j,xs=[.int i,.int j]/\Q (.int (if j<i then j else i)) H):=by
 intro f s g H xs m Q I r h;obtain⟨i,j,rfl,q⟩:=h;obtain⟨u,l,rfl,⟨t,rfl⟩,⟨o,rfl⟩⟩:=Ui r;refine min_two_ints (I.ok.hd e) fun p n k=>⟨_,H,I.kept k,?_,q⟩
 by_cases d:j<i
 .rw[Xd d,Xd d];exact⟨_,rfl⟩
 .rw[Xc d,Xc d];exact⟨_,rfl⟩
def IM:Zl X (.type "int") (fun xs H Q=>(∃i,xs=[.int i]/\Q (.int i) H)\/∃k,xs=[.bl k]/\Q (.int (if k then 1 else 0)) H):=by
 intro e s f H xs g Q I r h;rcases h with ⟨i,rfl,q⟩|⟨k,rfl,q⟩
 .obtain⟨u,rfl,t,rfl⟩:=YQ r
  exact call_int_int ⟨.int i,H,I,⟨_,rfl⟩,q⟩
 .obtain⟨u,rfl,d⟩:=YQ r
  cases d
  exact call_int_bool ⟨.int (if k then 1 else 0),H,I.tok _,⟨_,rfl⟩,q⟩
end
structure ObjM (h:Heap)(x dx C:Addr)(mA:Str->Qf):Prop where
 obj:h.get? x=some (W.instObj C dx)
 ns:h.Ns1 dx mA
 ne:dx≠x
def P2 {h:Heap}  (n:h.Ns1 dx mA):∃od,h.get? dx=some od/\∀name,W.lookIn name od=some (mA name):=by
 obtain⟨o,c,l,f,j,i,_,g⟩:=n;refine⟨o,f,fun name=>?_⟩;have e:=g name;unfold nsFind findBy at e;rw[<- Array.find?_toList]at e;unfold W.lookIn;rw[j];dsimp only;split
 .rename_i y q
  rw[q]at e;exact X8 some e
 .rename_i q
  rw[q]at e;have a:c.toList.any (·.refKey)=false:=by
   rw[List.any_eq_false];intro y d;obtain⟨z,t,b⟩:=i y (Array.mem_toList_iff.mp d)
   simp[DictEntry.refKey,b]
  have k:¬c.toList.any (·.refKey)=true:=by rw[a];exact Xw
  rw[Xc k];exact X8 some e
def ObjM.look  (I:ObjM h x dx C mA):∃od,W.InstAt h x (W.instObj C dx) C (some od)/\∀name,W.lookIn name od=some (mA name) :=
 let ⟨od,ho,hl⟩:=P2 I.ns
 ⟨od,⟨I.obj,rfl,rfl,ho⟩,hl⟩
section
variable {prog:Program}{w:World}{A:Around}{E:Qb}{s:Shared}{K:W.Frag}{x dx C f:Addr}{mA:Str->Qf}{name:Str}{v:Value}
def Cu  (X:K.In s.heap)(I:ObjM s.heap x dx C mA)(e:W.plainGet K C name=true)(d:W.hasDictIn K C=true)
 (g:W.findIn K (.ref C) name=some none) (b:mA name=some v) (a:W.handedIn v=true) (h:Q v { s with toks:=s.toks+1 }) :
 wpAny (model prog w) A (getAttr (.ref x) name expr) Q E s:=by
 obtain⟨i,J,c⟩:=I.look;exact W.get_value X J (W.plainGet_of e).1 (W.findObj_own d g rfl (by rw[c,b])) a h
def Ex  (X:K.In s.heap)(I:ObjM s.heap x dx C mA)(a:W.plainGet K C name=true)
 (g:W.findIn K (.ref C) name=some (some<|.ref f)) (d:W.isFn K (.ref f)=true) (c:mA name=none) (h:Q (.ref f,[.ref x]) s) :
 wpAny (model prog w) A (getMethod (.ref x) name pl) Q E s:=by
 obtain⟨b,J,e⟩:=I.look;exact W.method_fn X J (W.plainGet_of a).1 (W.plainGet_of a).2 g (beq_iff_eq.mp d) (by show(W.lookIn name b).map (·.isSome)=some false;rw[e,c];rfl) h
def Cq  (X:K.In s.heap)(I:ObjM s.heap x dx C mA)
 (m:W.findIn K (.ref C) "__setattr__"=some (some<|.builtin "object.__setattr__")) (n:W.plainOver K C=true) (l:W.takerIn K C name=some none) (o:W.hasDictIn K C=true)
 (hw:PySem.Within mA ns) (hsz:ns.length<=sizeLine)
 (h:∀h',ObjM h' x dx C (fun y=>if y=name then some v else mA y)->Heap.SameBut dx s.heap h'->Q () { s with heap:=h',toks:=s.toks+2 }) :
 wpAny (model prog w) A (setAttr (.ref x) name v) Q E s:=by
 obtain⟨u,J,B⟩:=I.look;refine W.set_plain X J m (W.osa_open (s:={ s with toks:=s.toks+1 }) (r:=none) X J n l fun b=>?_);obtain⟨D,p,i⟩:=W.any_some o;have k:s.heap.get? x=some ⟨.ref C,some dx,.plain,#[]⟩:=I.obj;refine Xa (Xk<|Xa<|Xa<|wpAny_loadPart k<|Xa<|W.Looks.here (s:={ s with toks:=s.toks+1 }) (W.looks_clsIn X p) ?_);rw[i];refine Xk (a:=some dx) (Xa<|Xk<|Xa ?_);refine wpAny_nsSet1 (s:={ s with toks:=s.toks+1 }) I.ns fun h' d c=>?_;obtain⟨z,q,t,e,g,j⟩:=d.count (PySem.Within.cons name v hw);refine Xa (wpAny_lookBehind e (by rw[g];exact pastItsLine_dict<|X7 j<|by rw[XN];omega) ?_);exact Xk (h _ ⟨(c.2 _<|Ne.symm I.ne).trans I.obj,d,I.ne⟩ c)
def CT  (X:K.In s.heap)(b:W.makesIn K C=true)
 (c:W.findIn K (.ref C) "__init__"=some (some<|.ref f)) (e:W.typeIn K (.ref f)=some (.type "function"))
 (h:codeAny (model prog w) (A.under<|.builtin "type.__call__" ⟨.ref C::vs,kw⟩) (.call (.ref f) ⟨.ref (s.heap.objs.size+1)::vs,kw⟩) (W.InitBack (s.heap.objs.size+1) R)
  { s with heap:=(s.heap.push W.emptyDict).push (W.instObj C s.heap.objs.size) }) :
 codeAny (model prog w) A (.call (.ref C) ⟨vs,kw⟩) R s:=by
 obtain⟨j,g,d,t,i⟩:=s;exact W.make_core (W.makes_of X b) (W.looks_findIn X c) (fun a=>W.bind_fn X a e) (.inl rfl) h
end
def V3 (f:Str)(v:V):List (Str×V)->List (Str×V)
 |[]=>[(f,v)]
 |(g,x)::r=>if g=f then (g,v)::r else (g,x)::V3 f v r
theorem Tc (f g:Str)(v:V):∀c:List (Str×V),(V3 f v c).lookup g=if g=f then some v else c.lookup g
 |[]=>by
   show List.lookup g [(f,v)]=_
   by_cases h:g=f
   .have a:(g==f)=true:=beq_iff_eq.mpr h
    simp only[List.lookup,a,Xd h]
   .have a:(g==f)=false:=beq_eq_false_iff_ne.mpr h
    simp only[List.lookup,a,Xc h]
 |(k,x)::r=>by
   have d:=Tc f g v r;rw[show V3 f v ((k,x)::r)=(if k=f then (k,v)::r else (k,x)::V3 f v r) from rfl];by_cases b:k=f
   .rw[Xd b]
    by_cases h:g=k
    .have a:(g==k)=true:=beq_iff_eq.mpr h
     simp only[List.lookup,a,Xd<|h.trans b]
    .have a:(g==k)=false:=beq_eq_false_iff_ne.mpr h
     simp only[List.lookup,a,Xc fun e:g=f=>h<|e.trans b.symm]
   .rw[Xc b]
    by_cases h:g=k
    .have a:(g==k)=true:=beq_iff_eq.mpr h
     simp only[List.lookup,a,Xc fun e:g=f=>b<|h.symm.trans e]
    .have a:(g==k)=false:=beq_eq_false_iff_ne.mpr h
     simp only[List.lookup,a];exact d
theorem HX (f:Str)(v:V):∀b:List (Str×V),f∈(V3 f v b).map (·.1)/\∀g,g∈b.map (·.1)->g∈(V3 f v b).map (·.1)
 |[]=>⟨by simp[V3],fun g h=>by simp at h⟩
 |(k,x)::r=>by
   obtain⟨d,c⟩:=HX f v r;rw[show V3 f v ((k,x)::r)=(if k=f then (k,v)::r else (k,x)::V3 f v r) from rfl];by_cases a:k=f
   .rw[Xd a]
    subst a;exact⟨by simp,fun g h=>by simpa using h⟩
   .rw[Xc a]
    refine⟨?_,fun g h=>?_⟩
    .rw[Xu]
     exact Xe _ d
    .rw[Xu]at h ⊢
     rcases Xf.mp h with e|e
     .exact Xf.mpr (.inl e)
     .exact Xe _ (c g e)
theorem Tb (f:Str)(v:V):∀b:List (Str×V),(V3 f v b).length<=b.length+1
 |[]=>by simp[V3]
 |(k,x)::r=>by
   have c:=Tb f v r;rw[show V3 f v ((k,x)::r)=(if k=f then (k,v)::r else (k,x)::V3 f v r) from rfl];by_cases a:k=f
   .rw[Xd a,XN,XN];omega
   .rw[Xc a,XN,XN];omega
def ZO.some_of  (r:ZO (some v) o):∃u,o=some u/\QM v u:=by
 cases o with
 |none=>exact(show False from r).elim
 |some u=>exact⟨u,rfl,r⟩
def ZO.none_of (r:ZO none o):o=none:=by
 cases o with
 |none=>rfl
 |some u=>exact(show False from r).elim
def II  (r:QM v u):W.handedIn u=true:=by
 cases v with
 |non=>cases (show u=Value.none from r);rfl
 |bl b=>cases (show u=Value.bool b from r);rfl
 |int i=>obtain⟨t,e⟩:=(show ∃t,u=Value.int i t from r);cases e;rfl
 |str x=>obtain⟨t,e⟩:=(show ∃t,u=Value.str x t from r);cases e;rfl
 |byt b=>obtain⟨t,e⟩:=(show ∃t,u=Value.bytes b t from r);cases e;rfl
 |flt b=>obtain⟨t,e⟩:=(show ∃t,u=Value.float b t from r);cases e;rfl
 |ref a=>cases (show u=Value.ref a from r);rfl
 |ty n=>cases (show u=Value.type n from r);rfl
section
variable {P:Program}{w:World}{H:Hp}{h:Heap}{a C dx:Addr}{fs:List (Str×V)}
def He (c:HOk P w H h)(e:H a=some (.ins C dx fs)):∃b,ObjM h a dx C b/\(∀f,ZO (fs.lookup f)<|b f)/\PySem.Within b (fs.map (·.1))/\fs.length<=1000/\H dx=some (.own a):=by
 obtain⟨d,z,i,g,b,n,r,q⟩:=(show ZA P w H h a (.ins C dx fs) from c a _ e)
 exact⟨b,⟨g,n,i⟩,r,q,z,d⟩
end
structure Cls (K:W.Frag)(C:Addr):Prop where
 pg:W.plainGet K C Str.empty=true
 hd:W.hasDictIn K C=true
 po:W.plainOver K C=true
 sa:W.findIn K (.ref C) "__setattr__"=some (some<|.builtin "object.__setattr__")
def Cls.get {K:W.Frag}{C:Addr}(c:Cls K C)(f:Str):W.plainGet K C f=true:=c.pg
def V8 (K:W.Frag)(C:Addr)(f:Str):Prop:=W.findIn K (.ref C) f=some none
def V8.taker {K:W.Frag}{C:Addr}{f:Str}(n:V8 K C f):W.takerIn K C f=some none:=by
 unfold W.takerIn;rw[show W.findIn K (.ref C) f=some none from n];rfl
structure Meth (K:W.Frag)(C:Addr)(m:Str)(f:Addr):Prop where
 at_:W.findIn K (.ref C) m=some (some<|.ref f)
 fn:W.isFn K (.ref f)=true
 kp:W.keepIn K (.ref f)=true
section
variable {X:Cx}{Xa0:Qc}{σ:St}{H:Hp}{s:Shared}{a C dx:Addr}{fs:List (Str×V)}{f:Str}{v:V}{A:Around}{E:Qb}
def Tk  (I:Qr X Xa0 σ H s)(e:H a=some (.ins C dx fs))(c:Cls X.K C)(n:V8 X.K C f)(l:fs.lookup f=some v)
 (h:∀u d,Qr X Xa0 σ H d->QM v u->Q u d):wpAny (model X.prog X.w) A (getAttr (.ref a) f b) Q E s:=by
 obtain⟨i,O,r,_,_,_⟩:=He I.hok e;obtain⟨u,j,g⟩:=ZO.some_of (v:=v) (o:=i f) (by rw[<- l];exact r f);exact Cu I.kIn O (c.get f) c.hd n j (II g) (h u _ (I.tok _) g)
def Tn   (I:Qr X Xa0 σ H s)(e:H a=some (.ins C dx fs))(c:Cls X.K C)(k:Meth X.K C m g)(l:fs.lookup m=none)
 (h:Q (.ref g,[.ref a]) s):wpAny (model X.prog X.w) A (getMethod (.ref a) m pl) Q E s:=by
 obtain⟨b,O,r,_,_,_⟩:=He I.hok e;have d:b m=none:=ZO.none_of (by rw[<- l];exact r m);exact Ex I.kIn O (c.get m) k.at_ k.fn d h
def PR  (I:Qr X Xa0 σ H s)(e:H a=some (.ins C dx fs))(c:Cls X.K C)(n:V8 X.K C f)(G:fs.length<1000)(p:QM y u)
 (h:∀j,Qr X Xa0 σ (upd H a<|.ins C dx<|V3 f y fs) j->Q () j):wpAny (model X.prog X.w) A (setAttr (.ref a) f u) Q E s:=by
 obtain⟨k,O,r,i,_,l⟩:=He I.hok e;have t:(fs.map (·.1)).length<=sizeLine:=by rw[Xn,sizeLine_eq];omega
 refine Cq I.kIn O c.sa c.po n.taker c.hd i t fun F d m=>h _ ?_;have B:∃o,F.get? dx=some o:=let ⟨o,_,_,e',_⟩:=d.ns;⟨o,e'⟩;refine I.write (x:=a) (e:=dx) (by rw[e];exact True.intro) (.inr l) (fun b q D z=>(m.2 b D).trans z) B ?_;refine⟨by rw[Qu O.ne];exact l,?_,O.ne,d.obj,_,d.ns,fun g=>?_,fun g w=>?_⟩
 .have:=Tb f y fs;omega
 .show ZO ((V3 f y fs).lookup g) (if g=f then some u else k g)
  rw[Tc];by_cases q:g=f
  .rw[Xd q,Xd q];exact p
  .rw[Xc q,Xc q];exact r g
 .by_cases q:g=f
  .rw[q];exact(HX f y fs).1
  .refine(HX f y fs).2 g (i g fun z=>w ?_)
   show(if g=f then some u else k g)=none
   rw[Xc q];exact z
def Qr.made (I:Qr X Xa0 σ H s):Qr X Xa0 σ (upd (upd H s.heap.objs.size<|.own<|s.heap.objs.size+1) (s.heap.objs.size+1)<|.ins C s.heap.objs.size [])
 { s with heap:=(s.heap.push W.emptyDict).push (W.instObj C s.heap.objs.size) }:=by
 have d:(s.heap.push W.emptyDict).get? s.heap.objs.size=some W.emptyDict:=Xz s.heap rfl
 have j:((s.heap.push W.emptyDict).push (W.instObj C s.heap.objs.size)).get? (s.heap.objs.size+1)=some (W.instObj C s.heap.objs.size):=by
  have:=Xz (s.heap.push W.emptyDict) (o:=W.instObj C s.heap.objs.size) rfl
  rwa [Ww]at this
 have i:(s.heap.push W.emptyDict).Ns s.heap.objs.size (fun _=>none):=⟨W.emptyDict,#[],_,d,rfl,(fun e h=>Xm h<|by simp),fun _=>rfl⟩;have k:=I.laid (a:=s.heap.objs.size) (o:=.own (s.heap.objs.size+1)) (h':=s.heap.push W.emptyDict) (t':=s.toks) (fun b u q=>Xg _ q) (Xq _) ⟨_,d⟩;refine k.laid (a:=s.heap.objs.size+1) (o:=.ins C s.heap.objs.size []) (t':=s.toks) (fun b u q=>Xg _ q) (Nat.le_of_eq<|Ww _ _) ?_;have c:s.heap.objs.size≠s.heap.objs.size+1:=Xr (WN _);refine⟨by rw[Qu c,QC],XM _,c,j,fun _=>none,(Heap.Ns1.of_empty i).at fun o q=>Xg _ q,fun _=>True.intro,fun y g=>Xm rfl g⟩
def FT     (b:attributeBase e f env (eval e env)=eval e env)
 (h:wpAny (model prog w) A (eval e env) (fun o c=>wpAny (model prog w) A (getAttr o f true) Q E c) E s):wpAny (model prog w) A (eval (.Attribute e f pos) env) Q E s :=
 Attribute_any_ h (by rw[arm_eval_Attribute,b])
end
def ZT (K:W.Frag)(e:TE)(f:Str):TE:=fun d H Q=>e d H fun x c=>∃a C g b v,x=.ref a/\c a=some (.ins C g b)/\Cls K C/\V8 K C f/\b.lookup f=some v/\Q v c
def TW (K:W.Frag)(h g:TE)(f:Str):TS:=fun D b H=>g b H fun y i=>h b i fun x e=>∃a C d c,x=.ref a/\e a=some (.ins C d c)/\Cls K C/\V8 K C f/\c.length<1000 /\
 D.nx b (upd e a<|.ins C d<|V3 f y c)
def Nz (X:Cx)(op:Operator)(c:V->V->Hp->VK->Prop):Prop :=
 ∀(a:Qc) (s:Shared) (b:St) (H:Hp) (x y:V) (u v:Value) (Q:VK),Qr X a b H s->QM x u->QM y v->c x y H Q->wpAny (model X.prog X.w) X.A (inplaceOp op u v) (EP X a b Q) X.xe s
def RV (K:W.Frag)(j i:TE)(k:V->V->Hp->VK->Prop)(f:Str):TS:=fun D d H=>j d H fun x h=>∃a C l e v,x=.ref a/\h a=some (.ins C l e)/\Cls K C/\V8 K C f/\e.lookup f=some v /\
 i d h fun y m=>k v y m fun z g=>∃c b,g a=some (.ins C c b)/\b.length<1000/\D.nx d (upd g a<|.ins C c<|V3 f z b)
section
variable {X:Cx}{o e value:Expr}{f:Str}{pos pos' tpos:Pos}{ta tv:TE}
def QX (j:PE X e ta)(k:attributeBase e f X.env (eval e X.env)=eval e X.env):PE X (.Attribute e f pos) (ZT X.K ta f):=by
 intro b s d H Q I h;refine FT k (Q7 (j b s d H _ I h) ?_);rintro u A ⟨x,w,t,g,a,C,D,B,v,m,p,c,n,l,q⟩;subst m;obtain rfl:u=Value.ref a:=g;exact Tk t p c n l fun y z r i=>⟨v,w,r,i,q⟩
def Wj (t:PE X o ta)(p:PE X value tv)(r:swapsWith value (some<|.Attribute o f pos') pos.line X.env=pure false):PS X (.Assign [.Attribute o f pos'] value pos) (TW X.K ta tv f):=by
 intro b s d H D I h;refine plainObj_wpAny_Assign_Attribute (Q7 (p b s d H _ I h) ?_) r;rintro u g ⟨y,E,B,i,q⟩;refine Q7 (t b g d E _ B q) ?_;rintro m G ⟨x,M,A,j,a,C,L,J,v,w,c,n,l,k⟩;subst v;obtain rfl:m=Value.ref a:=j;exact PR A w c n l i fun F z=>⟨d,_,z,k⟩
def Py  (J:PE X o ta)(G:PE X value tv)(g:Nz X op rd):PS X (.AugAssign (.Attribute o f tpos) op value pos) (RV X.K ta tv rd f):=by
 intro b s d H D I h;refine wpAny_AugAssign_AttributeAny (Q7 (J b s d H _ I h) ?_);rintro E s1 ⟨x,W,T,t,a,C,dx,fs,v,M,N,c,n,l,q⟩;subst M;obtain rfl:E=Value.ref a:=t;refine Tk T N c n l fun u m S w=>Q7 (G b m d W _ S q) ?_;rintro j k ⟨y,U,R,r,B⟩;refine Q7 (g b k d U v y u j _ R w r B) ?_;rintro Y s4 ⟨z,H3,Q,p,O,L,i,F,A⟩;exact PR Q i c n F p fun Z P=>⟨d,_,P,A⟩
def Nu:V->V->Hp->VK->Prop:=fun x y H Q=>∃i j,x=.int i/\y=.int j/\Q (.int<|i+j) H
def Rl:Nz X .Add Nu:=by
 rintro d s g H x y u v Q I c b ⟨i,j,rfl,rfl,q⟩
 obtain⟨t,rfl⟩:=(show ∃t,u=Value.int i t from c);obtain⟨a,rfl⟩:=(show ∃a,v=Value.int j a from b);exact PyProof.Rows.iadd_int ⟨.int<|i+j,H,I.tok _,⟨_,rfl⟩,q⟩
end
structure Room (k:Nat)(A:Around):Prop where
 hd:A.handled=none
 dp:A.depth+3*k+5<recursionLimit
 un:A.units+16*k+200<cLine
def Room.mono  (r:Room k A)(h:j<=k):Room j A:=⟨r.hd,by have:=r.dp;omega,by have:=r.un;omega⟩
def Room.deeper {A:Around}(r:Room (k+1) A)(env:Env):Room k (A.deeper env) :=
 ⟨r.hd,by have:=r.dp;show A.depth+1+3*k+5<_;omega,by have:=r.un;show A.units+3+16*k+200<_;omega⟩
def Oq {A:Around}  : (A.under<|.builtin "type.__call__" ⟨.ref C::us,kw⟩).depth=A.depth+1:=by
 first|rfl|simp[Around.under,Code.weight,Code.isCreation,Code.isGuard,Code.isCaller,Code.frames,Code.isFrame,guardIds]
def Ov {A:Around}  : (A.under<|.builtin "type.__call__" ⟨.ref C::us,kw⟩).units=A.units+1:=by
 first|rfl|simp[Around.under,Code.cUnits,Code.frames,Code.isFrame]
def Room.make {A:Around} (r:Room (k+1) A) (C:Addr) (us:Qe) (a:List (Str×Value)):Room k (A.under<|.builtin "type.__call__" ⟨.ref C::us,a⟩) :=
 ⟨r.hd,by have:=r.dp;rw[Oq];omega,by have:=r.un;rw[Ov];omega⟩
def Room.depth  (r:Room k A):A.depth<recursionLimit:=by have:=r.dp;omega
def Room.units  (r:Room k A):A.units+64<cLine:=by have:=r.un;omega
def QQ:TA:=fun _ H Q=>Q [] H
def QE (d:TE)(c:TA):TA:=fun a H Q=>d a H fun x f=>c a f fun b e=>Q (x::b) e
section
variable {X:Cx}{e:Expr}{es:Qi}{te:TE}{t:TA}{pos:Pos}
def Qq:PA X [] QQ:=fun _ _ _ _ H Q I h=>Calls.spliced_nil ⟨[],H,I,.nil,h⟩
def Qo (m:PE X e te)(l:PA X es t)(k:starEach (e::es) X.env=(false,eval e X.env)::starEach es X.env:=by rfl):PA X (e::es) (QE te t):=by
 intro pos a s b H Q I h;rw[k];show wpAny _ _ (spliced ((false,eval e X.env)::backTo pos (starEach es X.env))) _ _ s;refine Calls.spliced_cons (Q7 (m a s b H _ I h) ?_);rintro u d ⟨x,q,o,g,j⟩;refine Q7 (l pos a d b q _ o j) ?_;rintro r v ⟨c,p,n,f,i⟩;exact⟨x::c,p,n,.cons g f,i⟩
def Wa (t:TA):TE:=fun c H Q=>t c H fun a b=>a.length<=sizeLine/\∀p,b p=none->Q (.ref p) (upd b p<|.tup a)
def J4 (t:TA):TE:=fun c H Q=>t c H fun a b=>a.length<=sizeLine/\∀p,b p=none->Q (.ref p) (upd b p<|.lst a)
def Zu {x1}(h:PA X es t):PE X (.Tuple es x1 pos) (Wa t):=by
 intro c s g H Q I k;refine wpAny_Tuple_spliced (Q7 (h pos c s g H _ I k) ?_);rintro j a ⟨i,f,d,r,z,q⟩;refine⟨by rw[<- r.length];exact z,?_⟩;have l:f a.heap.objs.size=none:=d.hok.fresh (Xq _);refine⟨.ref a.heap.objs.size,upd f a.heap.objs.size<|.tup i,d.laid (t':=a.toks) (fun b u e=>Xg _ e) (Xq _) ?_,rfl,q _ l⟩
 exact⟨z,j,r,⟨_,Xz _ rfl,rfl,_,rfl⟩⟩
def ZC (h:PA X es t):PE X (.List es pos) (J4 t):=by
 intro c s g H Q I k;refine wpAny_List_spliced (Q7 (h pos c s g H _ I k) ?_);rintro j a ⟨i,f,d,r,z,q⟩;refine⟨by rw[<- r.length];exact z,?_⟩;have l:f a.heap.objs.size=none:=d.hok.fresh (Xq _);refine⟨.ref a.heap.objs.size,upd f a.heap.objs.size<|.lst i,d.laid (t':=a.toks) (fun b u e=>Xg _ e) (Xq _) ?_,rfl,q _ l⟩
 exact⟨z,j,0,r,Xz _ rfl⟩
end
abbrev Sp:=List V->Hp->VK->XK->Prop
abbrev CXT:=List Env->Hp->Shared->XK->Qb
structure Env0 (P:Program)(w:World)(K:W.Frag)(mg:Str->Qf)(base:Heap)(A:Around)(outer:List Env)(s:Shared)(H:Hp):Prop where
 frames:A.frames=some outer
 mod:Mod K mg base
 bs:∀b o,base.get? b=some o->s.heap.get? b=some o/\(H b=none\/∃xs,H b=some (.tup xs))
 bsz:base.objs.size<=s.heap.objs.size
 funs:s.heap.FunFrames base outer
 frf:∀b∈frs outer,H b=none
 hok:HOk P w H s.heap
 bare:AllBare s.gens
def CE (a:List Env)(P:Program)(w:World)(H:Hp)(s:Shared)(Q:VK)(u:Value)(b:Shared):Prop :=
 ∃v c,b.os=s.os/\AllBare b.gens/\Un (frs a) [] H c s.heap b.heap/\HOk P w c b.heap/\QM v u/\Q v c
def CR (c:CXT)(a:List Env)(P:Program)(w:World)(H:Hp)(s:Shared)(Q:VK)(E:XK)(r:Result)(b:Shared):Prop :=
 match r with
 |.ok (.ret u)=>CE a P w H s Q u b
 |.ok _=>False
 |.error e=>c a H s E e b
structure FnOk (P:Program)(w:World)(K:W.Frag)(mg:Str->Qf)(base:Heap)(CX:CXT)(k:Nat)(f:Addr)(fd:FuncData)(ps:Qh)(sp:Sp):Prop where
 len:∀vs H Q E,sp vs H Q E->vs.length=ps.length
 run:∀(A:Around) (outer:List Env) (s:Shared) (H:Hp) (args:Args) (us:Qe) (vs:List V) (Q:VK) (E:XK),Room k A->Env0 P w K mg base A outer s H->BindsTo s fd args (ps.zip us)->QP vs us->sp vs H Q E ->
  codeAny (model P w) A (.call (.ref f) args) (CR CX outer P w H s Q E) s
def Env0.make {P:Program}{w:World}{K:W.Frag}{b:Str->Qf}{base:Heap}{A:Around}{a:List Env}{s:Shared}{H:Hp}(e:Env0 P w K b base A a s H)(C:Addr)(us:Qe)(c:List (Str×Value)) :
 Env0 P w K b base (A.under<|.builtin "type.__call__" ⟨.ref C::us,c⟩) a s H:=⟨by first|exact e.frames|(simpa [Around.under,Code.envs,Code.isFrame,pushEnvs] using e.frames),e.mod,e.bs,e.bsz,e.funs,e.frf,e.hok,e.bare⟩
section
variable {X:Cx}{Xa0:Qc}{σ:St}{H:Hp}{s s':Shared}
def Qr.env0 (I:Qr X Xa0 σ H s):Env0 X.prog X.w X.K X.mg X.base X.A X.stack s H :=
 ⟨I.ok.frames,I.ok.mod,I.bs,X7 I.ok.bsz I.sz,I.stack,I.stkFree,I.hok,I.bare⟩
def Qr.after  (I:Qr X Xa0 σ H s)(h:CE X.stack X.prog X.w H s Q u s'):EP X Xa0 σ Q u s':=by
 obtain⟨v,k,i,a,f,e,r,q⟩:=h;obtain⟨j,g,d,t,c⟩:=s';obtain rfl:c=s.os:=i
 exact⟨v,k,I.call (h':=j) (g':=g) (d':=d) (t':=t) (ch:=[]) f e a (fun b z=>Xm z<|by simp),r,q⟩
end
def VH (d:Sp)(a:List V)(E:XK)(t:TA):TE:=fun b H Q=>t b H fun c e=>d (c++a) e Q E
def Vr (C:Addr)(m:Str)(h:Sp)(b:List V)(E:XK)(g:TE)(t:TA):TE:=fun c H Q=>g c H fun x e=>∃a i d,x=.ref a/\e a=some (.ins C i d)/\d.lookup m=none /\
 t c e fun f j=>h (x::(f++b)) j Q E
def Uh (C:Addr)(f:Sp)(b:List V)(E:XK)(t:TA):TE:=fun d H Q=>t d H fun e c=>∀x a,c x=none->c a=none->a≠x ->
 f (.ref x::(e++b)) (upd (upd c a<|.own x) x<|.ins C a []) (fun v g=>v=.non/\Q (.ref x) g) E
def Vj (K:W.Frag)(b:FuncData)(ps:Qh)(ds:Qe):Prop :=
 ∀(s:Shared) (a:Qe),K.In s.heap->(a++ds).length=ps.length->BindsTo s b ⟨a,[]⟩ (ps.zip<|a++ds)
def Vj.all {K:W.Frag}{b:FuncData}{ps:Qh}(h:∀us:Qe,us.length=ps.length->bindArgs b ⟨us,[]⟩=pure (ps.zip us)):Vj K b ps []:=fun s us _ a=>by
 rw[XF]at a ⊢;exact .of_eq (h us a)
def VV (d:CXT)(X:Cx)(E:XK):Prop := ∀(a:Qc) (c:St) (H:Hp) (s:Shared) (e:Value) (b:Shared),Qr X a c H s->d X.stack H s E e b->X.xe e b
section
variable {X:Cx}{CX:CXT}{k:Nat}{f C:Addr}{fd:FuncData}{ps:Qh}{sp:Sp}{dvs:List V}{ds:Qe}{E:XK}{x m:Str}{p pos apos:Pos}{e o:Expr}{es:Qi}{ta:TE}{t:TA}
def D4 {a:Qc}{c:St}{H:Hp}{s:Shared}{Q:VK}{us:Qe}{vs:List V}(F:FnOk X.prog X.w X.K X.mg X.base CX k f fd ps sp)(j:Room k X.A)(q:Vj X.K fd ps ds)(n:QP dvs ds)(i:VV CX X E)
 (I:Qr X a c H s) (r:QP vs us) (h:sp (vs++dvs) H Q E):wpAny (model X.prog X.w) X.A (call (.ref f) us) (EP X a c Q) X.xe s:=by
 have d:QP (vs++dvs) (us++ds):=r.append n;have l:(us++ds).length=ps.length:=by rw[<- d.length];exact F.len _ _ _ _ h
 refine wpAny_call (codeAny_mono (F.run X.A X.stack s H ⟨us,[]⟩ (us++ds) (vs++dvs) Q E j I.env0 (q s us I.kIn l) d h) fun r g b=>?_)
 cases r with
 |error e=>exact i a c H s e g I b
 |ok v =>
   cases v with
   |ret u=>exact I.after b
   |next=>exact False.elim b
   |brk=>exact False.elim b
   |cont=>exact False.elim b
def RU (F:FnOk X.prog X.w X.K X.mg X.base CX k f fd ps sp)(j:Room k X.A)(u:Gl X x)(l:X.mg x=some (.ref f))(n:W.keepIn X.K (.ref f)=true)(y:Vj X.K fd ps ds)(w:QP dvs ds)(i:VV CX X E)
 (z:PA X (e::es) t) (b:(x==("__debug__" : Str))=false:=by decide) (v:starEach (e::es) X.env=(false,eval e X.env)::starEach es X.env:=by rfl) (a:(backTo pos<|starEach es X.env).any (·.1)=false:=by rfl) :
 PE X (.Call (.Name x p) (e::es) [] pos) (VH sp dvs E t):=by
 intro c s g H Q I h;refine wpAny_Call_Name_kw (Jg I u l ?_ b);refine W.callWith_K (h₀:=X.base) I.ok.mod.kin n (Q7 (z pos c s g H _ I h) ?_) v a;rintro B D ⟨A,G,d,r,q⟩;refine⟨d.kIn,?_⟩;exact D4 F j y w i d r q
def DW {pl:Sem Bool}(J:PE X o ta)(c:Cls X.K C)(n:Meth X.K C m f)(F:FnOk X.prog X.w X.K X.mg X.base CX k f fd ps sp)(G:Room k X.A)(M:Vj X.K fd ps ds)(L:QP dvs ds)(B:VV CX X E)(N:PA X (e::es) t)
 (d:starEach (e::es) X.env=(false,eval e X.env)::starEach es X.env:=by rfl) (g:(backTo pos<|starEach es X.env).any (·.1)=false:=by rfl)
 (D:eval (.Call (.Attribute o m apos) (e::es) [] pos) X.env=(do
  let j <- eval o X.env
  standAt apos.atName
  let (f,first) <- holding [j] (getMethod j m pl)
  callWith pos f first (backTo pos<|starEach (e::es) X.env)<|backToKw pos<|keywordEach [] X.env):=by rfl) :
 PE X (.Call (.Attribute o m apos) (e::es) [] pos) (Vr C m sp dvs E ta t):=by
 intro b s i H Q I h;refine W.methodCall_KW (pl:=pl) (Q7 (J b s i H _ I h) ?_) D;rintro u y ⟨x,R,w,z,a,U,T,O,P,l,q⟩;subst O;obtain rfl:u=Value.ref a:=z;refine Tn w P c n l ?_;refine W.callWith_K (first:=[.ref a]) (h₀:=X.base) I.ok.mod.kin n.kp (Q7 (N pos b y i R _ w q) ?_) d g;rintro us S ⟨vs,Y,v,r,A⟩;refine⟨v.kIn,?_⟩;exact D4 (us:=.ref a::us) (vs:=.ref a::vs) F G M L B v (.cons rfl r) A
def SI {pl:Sem Bool}(y:PE X o ta)(c:Cls X.K C)(i:Meth X.K C m f)(F:FnOk X.prog X.w X.K X.mg X.base CX k f fd ps sp)(w:Room k X.A)(A:Vj X.K fd ps ds)(z:QP dvs ds)(r:VV CX X E)
 (v:eval (.Call (.Attribute o m apos) [] [] pos) X.env=(do
  let g <- eval o X.env
  standAt apos.atName
  let (f,first) <- holding [g] (getMethod g m pl)
  callWith pos f first (backTo pos<|starEach [] X.env)<|backToKw pos<|keywordEach [] X.env):=by rfl) :
 PE X (.Call (.Attribute o m apos) [] [] pos) (Vr C m sp dvs E ta QQ):=by
 intro b s j H Q I h;refine W.methodCall_KW (pl:=pl) (Q7 (y b s j H _ I h) ?_) v;rintro u G ⟨x,M,d,n,a,L,J,B,D,l,q⟩;subst B;obtain rfl:u=Value.ref a:=n;refine Tn d D c i l ?_;exact W.callWith_K0 (first:=[.ref a]) d.kIn i.kp (D4 (us:=[.ref a]) (vs:=[.ref a]) F w A z r d (.cons rfl .nil) q)
structure Mk (K:W.Frag)(C f:Addr):Prop where
 makes:W.makesIn K C=true
 init:W.findIn K (.ref C) "__init__"=some (some<|.ref f)
 fn:W.isFn K (.ref f)=true
 kp:W.keepIn K (.ref C)=true
def SJ {b:Qc}{g:St}{H:Hp}{s:Shared}{Q:VK}{us:Qe}{vs:List V}(M:Mk X.K C f)(F:FnOk X.prog X.w X.K X.mg X.base CX k f fd ps sp)(y:Room (k+1) X.A)(B:Vj X.K fd ps ds)(A:QP dvs ds)
 (w:VV CX X E) (I:Qr X b g H s) (r:QP vs us)
 (h:∀x c,H x=none->H c=none->c≠x->sp (.ref x::(vs++dvs)) (upd (upd H c<|.own x) x<|.ins C c []) (fun v L=>v=.non/\Q (.ref x) L) E) :
 wpAny (model X.prog X.w) X.A (call (.ref C) us) (EP X b g Q) X.xe s:=by
 have j:=h (s.heap.objs.size+1) s.heap.objs.size (I.hok.fresh<|Nat.le_succ _) (I.hok.fresh<|Xq _) (Xr<|WN _);have d:=Qr.made (C:=C) I;have i:QP (V.ref (s.heap.objs.size+1)::(vs++dvs)) (Value.ref (s.heap.objs.size+1)::(us++ds)):=.cons rfl (r.append A)
 have z:(Value.ref (s.heap.objs.size+1)::us++ds).length=ps.length:=by
  have e:=i.length;rw[F.len _ _ _ _ j]at e;exact e.symm
 refine wpAny_call (CT (f:=f) I.kIn M.makes M.init (beq_iff_eq.mp M.fn) (codeAny_mono (F.run _ X.stack _ _ ⟨Value.ref (s.heap.objs.size+1)::us,[]⟩ (Value.ref (s.heap.objs.size+1)::(us++ds)) _ _ E (y.make C us [])
  (d.env0.make C us []) (B _ (Value.ref (s.heap.objs.size+1)::us) d.kIn z) i j) fun r l a=>?_))
 cases r with
 |error e=>exact w b g _ _ e l d a
 |ok D =>
   cases D with
   |ret u =>
     obtain⟨v,N,J,n,G,q⟩:=d.after a;subst G;exact⟨n,⟨V.ref<|s.heap.objs.size+1,N,J,rfl,q⟩⟩
   |next=>exact False.elim a
   |brk=>exact False.elim a
   |cont=>exact False.elim a
def Ce (M:Mk X.K C f)(F:FnOk X.prog X.w X.K X.mg X.base CX k f fd ps sp)(j:Room (k+1) X.A)(n:Gl X x)(l:X.mg x=some (.ref C))(w:Vj X.K fd ps ds)(v:QP dvs ds)(i:VV CX X E)
 (y:PA X (e::es) t) (b:(x==("__debug__" : Str))=false:=by decide) (u:starEach (e::es) X.env=(false,eval e X.env)::starEach es X.env:=by rfl) (a:(backTo pos<|starEach es X.env).any (·.1)=false:=by rfl) :
 PE X (.Call (.Name x p) (e::es) [] pos) (Uh C sp dvs E t):=by
 intro c s g H Q I h;refine wpAny_Call_Name_kw (Jg I n l ?_ b);refine W.callWith_K (h₀:=X.base) I.ok.mod.kin M.kp (Q7 (y pos c s g H _ I h) ?_) u a;rintro A B ⟨z,D,d,r,q⟩;refine⟨d.kIn,?_⟩;exact SJ M F j w v i d r q
def AE (M:Mk X.K C f)(F:FnOk X.prog X.w X.K X.mg X.base CX k f fd ps sp)(c:Room (k+1) X.A)(g:Gl X x)(d:X.mg x=some (.ref C))(j:Vj X.K fd ps ds)(i:QP dvs ds)(b:VV CX X E)
 (a:(x==("__debug__" : Str))=false:=by decide):PE X (.Call (.Name x p) [] [] pos) (Uh C sp dvs E QQ):=by
 intro l s n H Q I h;refine wpAny_Call_Name_kw (Jg I g d ?_ a);exact W.callWith_K0 I.kIn M.kp (SJ (us:=[]) M F c j i b I .nil h)
end
structure Qp (N P:Qh)(sc:Scope):Prop where
 kind:sc.kind=.function
 co:sc.isCoroutine=false
 gen:sc.isGenerator=false
 nd:N.Nodup
 pre:N.take P.length=P
 par:∀x∈P,sc.names.lookup x=some .local\/sc.names.lookup x=some .cell
 nofree:∀y∈sc.names,y.2≠.free
theorem Pp {b:Str->Option NameKind}{x:Str}:∀{a:List (Str×Value)} {m:Str->Qf},(∀v,(x,v)∉a)->bindL b a m x=m x
 |[],_,_=>rfl
 |(n,v)::r,m,h=>by
   unfold bindL;rw[Pp fun w c=>h w<|Xe _ c]
   split
   .have:x≠n:=by rintro rfl;exact h v Xb
    simp[this]
   .rfl
theorem P6 {b:Str->Option NameKind}{x:Str}:∀{a:List (Str×Value)} {m:Str->Qf},(∀v,(x,v)∉a)->bindC b a m x=m x
 |[],_,_=>rfl
 |(n,v)::r,m,h=>by
   unfold bindC;rw[P6 fun w c=>h w<|Xe _ c]
   split
   .rfl
   .have:x≠n:=by rintro rfl;exact h v Xb
    simp[this]
theorem P3 {a:Str->Option NameKind}{x:Str}{v:Value}:∀{P:Qh} {vs:Qe} {i:Nat} {m:Str->Qf},P.Nodup->P[i]?=some x->vs[i]?=some v->a x=some .local ->
 bindL a (P.zip vs) m x=some v
 |[],_,_,_,_,h,_,_=>by simp at h
 |_::_,[],_,_,_,_,h,_=>by simp at h
 |p::P,w::vs,0,m,d,c,b,e=>by
   simp at c b;subst c;subst b
   show bindL a ((p,w)::P.zip vs) m p=_;unfold bindL;rw[Pp fun v f=>(XD.mp d).1 (List.of_mem_zip f).1,Xd e]
   simp
 |p::P,w::vs,i+1,m,d,c,b,e=>by
   show bindL a ((p,w)::P.zip vs) m x=_;unfold bindL;exact P3 (i:=i) (XD.mp d).2 (by simpa using c) (by simpa using b) e
theorem PM {a:Str->Option NameKind}{x:Str}{v:Value}:∀{P:Qh} {vs:Qe} {i:Nat} {m:Str->Qf},P.Nodup->P[i]?=some x->vs[i]?=some v->a x≠some .local ->
 bindC a (P.zip vs) m x=some v
 |[],_,_,_,_,h,_,_=>by simp at h
 |_::_,[],_,_,_,_,h,_=>by simp at h
 |p::P,w::vs,0,m,d,c,b,e=>by
   simp at c b;subst c;subst b
   show bindC a ((p,w)::P.zip vs) m p=_;unfold bindC;rw[P6 fun v f=>(XD.mp d).1 (List.of_mem_zip f).1,Xc e]
   simp
 |p::P,w::vs,i+1,m,d,c,b,e=>by
   show bindC a ((p,w)::P.zip vs) m x=_;unfold bindC;exact PM (i:=i) (XD.mp d).2 (by simpa using c) (by simpa using b) e
def start (N:Qh)(vs:List V):St:=vs.map some++List.replicate (N.length-vs.length) none
def Vo (d:CXT)(P:Program)(w:World)(K:W.Frag)(mg:Str->Qf)(base:Heap)(N:Qh)(a:Str)(scope:Scope)(f:Addr)(c:Value)(A:Around)(outer:List Env)(s:Shared)(H:Hp)(E:XK):Cx where
 prog:=P
 w:=w
 K:=K
 mg:=mg
 base:=base
 A:=A.deeper (envOfC a scope s.heap.objs.size f c)
 N:=N
 s₀:=s
 H₀:=H
 env:=envOfC a scope s.heap.objs.size f c
 outer:=outer
 stack:=envOfC a scope s.heap.objs.size f c::outer
 ex:=[]
 calm:=true
 fn:=fun _=>true
 pn:=[]
 xe:=fun e g=>wpAny (model P w) (A.deeper<|envOfC a scope s.heap.objs.size f c) (leaving (envOfC a scope s.heap.objs.size f c) e) (fun _ b=>d outer H s E e b) (fun h b=>d outer H s E h b) g
def Pd {sc:Scope}  (h:sc.names.lookup x=some .cell):∃c,(cellsFrom n sc.names []).lookup x=some c:=by
 have q:=W.cellsFrom_some sc.names n [] (.inl h);exact Option.isSome_iff_exists.mp q
def ET {L:CXT}{P:Program}{w:World}{K:W.Frag}{F:Str->Qf}{base:Heap}{N ps:Qh}{g:Str}{scope:Scope}{f:Addr}{D:Value}{A:Around}{d:List Env}{s G:Shared}{H:Hp}{E:XK}{us:Qe}{vs:List V}
 (S:Qp N ps scope) (Q:A.handled=none) (e0:Env0 P w K F base A d s H) (U:vs.length=ps.length) (r:QP vs us)
 (x:InCallC s s.heap.objs.size (bindL (envOfC g scope s.heap.objs.size f D).kindOf (ps.zip us) fun _=>none) (cellsFrom (s.heap.objs.size+1) scope.names []) (bindC (envOfC g scope s.heap.objs.size f D).kindOf (ps.zip us) fun _=>none) G) :
 Qr (Vo L P w K F base N g scope f D A d s H E) [] (start N vs) H G:=by
 have O:ps.length<=N.length:=by have:=X8 List.length S.pre;rw[GL]at this;omega
 obtain⟨C,T,rfl,J⟩:=x.done;have l:∀b:Addr,b∉(Vo L P w K F base N g scope f D A d s H E).ex:=fun b z=>Xm (show b∈([]:Qg) from z) (by simp)
 refine⟨⟨e0.mod,S.kind,rfl,rfl,Xq _,fun y z c C j=>?_,fun y m=>?_,fun y c _ h=>?_,fun _=>Q,Around.frames_deeper e0.frames,.inr ⟨rfl,rfl⟩,fun b z=>Xm z<|l b,e0.bs,e0.bsz,fun b _ _=>l b,fun b z=>Xm z<|l b,e0.funs,e0.frf⟩,
  rfl,e0.bare,Un.kept J,⟨_,x.toInCall.ns,fun i y v C j X=>?_⟩,fun y c h=>⟨_,x.cell y c h⟩,e0.hok.fresh<|Xq _,fun y c h=>?_,fun p t=>Xm (show p∈([]:Qc) from t)<|by simp,e0.hok.kept J,?_⟩
 .exact name_of_addr x.apart (PySem.mem_of_lookup C) (PySem.mem_of_lookup j)
 .have m:scope.names.lookup y=some .cell\/scope.names.lookup y=some .free:=m
  rcases m with m|m
  .exact Pd m
  .exact Xm rfl (S.nofree _<|PySem.mem_of_lookup m)
 .exact Ys (x.above y c<|PySem.mem_of_lookup h)
 .have B:i<vs.length:=by
   unfold start at j;by_cases B:i<vs.length
   .exact B
   .rw[X0<|by simpa using B]at j
    rw[MC]at j;split at j<;>cases j
  have R:vs[i]?=some v:=by
   unfold start at j;rw[XG<|by simpa using B,Xt]at j;cases e:vs[i]? with
   |none=>rw[e]at j;cases j
   |some a=>rw[e]at j;cases j;rfl
  obtain⟨u,I,M⟩:=r.get R
  have t:ps[i]?=some y:=by
   rw[<- S.pre,List.getElem?_take_of_lt<|by omega];exact C
  have o:ps.Nodup:=by rw[<- S.pre];exact S.nd.sublist (List.take_sublist _ _)
  refine⟨u,M,?_⟩
  rcases S.par y (List.mem_of_getElem? t) with k|k
  .exact .inl ⟨k,P3 o t I k⟩
  .obtain⟨c,e⟩:=Pd (n:=s.heap.objs.size+1) k
   refine .inr ⟨.inl k,c,e,?_⟩;have q:=x.cell y c e;rw[PM o t I<|by show scope.names.lookup y≠_;rw[k];decide]at q;exact q
 .exact e0.hok.fresh (Ys<|x.above y c<|PySem.mem_of_lookup h)
 .unfold start
  show _=N.length;rw[Xo,Xn,List.length_replicate];omega
def NV {G:CXT}{P:Program}{w:World}{K:W.Frag}{F:Str->Qf}{base:Heap}{k:Nat}{f:Addr}{name c:Str}{g:Arguments}{h:List Stmt}{scope:Scope}{dV kV D pm d ct oc:Value}{an od:Qj}
 {R:Array (Qf)} {N ps:Qh} {L:Sp} (lk:K.lookup f=some ⟨oc,od,.func<|W.fnOf name c g h scope dV kV D pm an d ct,R⟩) (X:W.codeIn K d c=true) (S:Qp N ps scope)
 (p:∀vs H Q E,L vs H Q E->vs.length=ps.length)
 (Y:∀(A:Around) (a:List Env) (s:Shared) (H:Hp) (vs:List V) (Q:VK) (E:XK),Room k (A.deeper<|envOfC c scope s.heap.objs.size f d)->L vs H Q E ->
  ∃t,PSs (Vo G P w K F base N c scope f d A a s H E) h t/\t { nx:=fun _ j=>Q .non j,rt:=Q } (start N vs) H) :
 FnOk P w K F base G (k+1) f (W.fnOf name c g h scope dV kV D pm an d ct) ps L:=by
 refine⟨p,fun A a s H args us vs Q E U C hb r z=>?_⟩;have hl:=p _ _ _ _ z;have KX:K.In s.heap:=C.mod.kin.keeps fun b o e=>(C.bs b o e).1;have T:s.heap.NoLimit:=C.mod.nolimit.keeps fun b o e=>(C.bs b o e).1
 have l:∀y∈ps.zip us,scope.names.lookup y.1=some .local\/(scope.names.lookup y.1=some .cell/\((cellsFrom (s.heap.objs.size+1) scope.names []).lookup y.1).isSome=true):=fun⟨n,v⟩ hy=>by
  rcases S.par n (List.of_mem_zip hy).1 with q|q
  .exact .inl q
  .exact .inr ⟨q,W.cellsFrom_some _ _ _<|.inl q⟩
 refine codeAny_call_function U.depth (KX _ _ lk) rfl S.co S.gen rfl (W.codeRec_of KX X) (hb _ _ _ _ ?_);refine wpAny_newFunctionEnv_cells S.kind l fun env he Z x=>?_;subst he;refine⟨T.keeps x.toInCall.keep,codeAny_func ?_⟩;obtain⟨t,ht,hq⟩:=Y A a s H vs Q E (U.deeper _) z;have I:Qr (Vo G P w K F base N c scope f d A a s H E) [] (start N vs) H Z:=ET S U.hd C hl r x;refine wpAny_mono (ht [] Z (start N vs) H _ I hq) (fun fl M m=>?_) fun e M m=>m
 have B:∀{i:St} {j:Hp} {v:V} {u:Value},Qr (Vo G P w K F base N c scope f d A a s H E) [] i j M->QM v u->Q v j->CE a P w H s Q u M :=
  fun{i j v u} J O q=>⟨v,j,J.os,J.bare,J.base,J.hok,O,q⟩
 cases fl with
 |ret u =>
   obtain⟨v,i,j,J,O,q⟩:=m;exact B J O q
 |next =>
   obtain⟨i,j,J,q⟩:=m;exact B (v:=V.non) (u:=Value.none) J rfl q
 |brk =>
   obtain⟨_,_,_,q⟩:=m;exact False.elim q
 |cont =>
   obtain⟨_,_,_,q⟩:=m;exact False.elim q
section
variable {X:Cx}{x:Str}{p pos:Pos}{e:Expr}{es:Qi}{t:TA}{id T:String}{r:List V->Hp->VK->Prop}
def tCB (r:List V->Hp->VK->Prop)(t:TA):TE:=fun a H Q=>t a H fun b c=>r b c Q
def Zj (q:Zl X (.builtin id) r) (n:Gl X x) (m:X.mg x=none) (l:bootBuiltins x=some (.builtin id)) (u:PA X (e::es) t) (hn:x ≠ "__name__" := by decide) (c:(x==("__debug__" : Str))=false:=by decide)
 (o:starEach (e::es) X.env=(false,eval e X.env)::starEach es X.env:=by rfl) (b:(backTo pos<|starEach es X.env).any (·.1)=false:=by rfl):PE X (.Call (.Name x p) (e::es) [] pos) (tCB r t):=by
 intro a s d H Q I h;refine wpAny_Call_Name_kw (Jd I n m l ?_ hn c);refine PyProof.Rows.callWith_builtin1 (Q7 (u pos a s d H _ I h) ?_) o b;rintro g i ⟨f,w,v,j,k⟩;exact q a i d w f g Q v j k
def WJ (q:Zl X (.type T) r) (n:Gl X x) (m:X.mg x=none) (l:bootBuiltins x=some (.type T)) (u:PA X (e::es) t) (hn:x ≠ "__name__" := by decide) (c:(x==("__debug__" : Str))=false:=by decide)
 (o:starEach (e::es) X.env=(false,eval e X.env)::starEach es X.env:=by rfl) (b:(backTo pos<|starEach es X.env).any (·.1)=false:=by rfl):PE X (.Call (.Name x p) (e::es) [] pos) (tCB r t):=by
 intro a s d H Q I h;refine wpAny_Call_Name_kw (Jd I n m l ?_ hn c);refine PyProof.Rows.callWith_type1 (Q7 (u pos a s d H _ I h) ?_) o b;rintro g i ⟨f,w,v,j,k⟩;exact q a i d w f g Q v j k
end
end L2
namespace HT
open PySem PyProof.Rows
section
variable {prog:Program}{w:World}{A:Around}{E:Qb}{s:Shared}
def cat_tup {vs ws:Qe}(u:IsTup s.heap t vs.toArray)(v:IsTup s.heap b ws.toArray)(m:vs≠[])
 (y:ws=[]->Q (.ref t) s) (x:ws≠[]->Q (.ref s.heap.objs.size) { s with heap:=s.heap.push { cls:=.type "tuple",data:=.seq (vs++ws).toArray } })
 (hsz:vs.length+ws.length<=sizeLine):wpAny (model prog w) A (binaryOp .Add (.ref t)<|.ref b) Q E s:=by
 obtain⟨⟨cls,q,data,k⟩,i,p,n,o⟩:=id u;obtain⟨⟨r,g,j,c⟩,a,f,l,d⟩:=id v
 simp only at p o f d
 subst p o f d;have e:vs.toArray++ws.toArray=(vs++ws).toArray:=by simp
 by_cases h:ws=[]
 .exact concat_meets ⟨_,i,rfl⟩ ⟨_,a,rfl⟩ noFill_tuple_add seq_tuple_add PySem.F.slot_tuple_add PySem.F.entry_tuple_add (PySem.F.args_tuple_add_2 _ _)
   (tuple_addW1 t b vs.toArray ws.toArray n l q g k c (by simpa using m)<|by simp[h]) ⟨i,a,y h⟩
 .refine concat_meets ⟨_,i,rfl⟩ ⟨_,a,rfl⟩ noFill_tuple_add seq_tuple_add PySem.F.slot_tuple_add PySem.F.entry_tuple_add (PySem.F.args_tuple_add_2 _ _)
   (tuple_addW2 t b vs.toArray ws.toArray n l q g k c (by simpa using m) (by simpa using h)<|by rw[Xv,Xv];exact hsz) ⟨i,a,?_⟩
  rw[e];exact x h
def sIx (n d:Nat):Option Int->Nat
 |none=>d
 |some v=>if v<0 then (v+(n:Int)).toNat else min v.toNat n
def sIx_nat (n d k:Nat):sIx n d (some (k:Int))=min k n:=by
 show(if (k:Int)<0 then ((k:Int)+(n:Int)).toNat else min (k:Int).toNat n)=min k n
 rw[Xc<|by omega,XI]
def Lc (n d:Nat)(b:d<=n)(o:Option Int):sIx n d o<=n:=by
 cases o with
 |none=>exact b
 |some v =>
   show(if v<0 then (v+(n:Int)).toNat else min v.toNat n)<=n
   by_cases a:v<0
   .rw[Xd a];omega
   .rw[Xc a];exact Nat.min_le_right _ _
def Sk (v:Int)(n d:Nat):(if v<0 then max (v+(n:Int)) 0 else min v (n:Int))=((sIx n d (some v):Nat):Int):=by
 show(if v<0 then max (v+(n:Int)) 0 else min v (n:Int))=(((if v<0 then (v+(n:Int)).toNat else min v.toNat n):Nat):Int)
 by_cases a:v<0
 .simp only[Xd a];omega
 .simp only[Xc a];omega
def Od (lo a:Option Int)(n:Nat):Builtin.Slice.sliceAdjust lo a 1 (n:Int)=(((sIx n 0 lo:Nat):Int),((sIx n n a:Nat):Int)):=by
 have b:¬((1:Int)<0):=by omega
 unfold Builtin.Slice.sliceAdjust;simp only[b,if_false];refine Prod.ext ?_ ?_
 .cases lo with
  |none=>rfl
  |some v=>exact Sk v n 0
 .cases a with
  |none=>rfl
  |some v=>exact Sk v n n
def Ow (i j:Nat):Builtin.Slice.slicePlaces (i:Int) (j:Int) 1=j-i:=by
 unfold Builtin.Slice.slicePlaces;have a:(1:Int) > 0:=by omega
 simp only[a,if_true,Int.ediv_one];split<;>omega
def PU  (p:IsPart v o)(h:Q o s):wpAny (model prog w) A (Builtin.Slice.slicePartIndex v) Q E s:=by
 cases p with
 |none=>exact slicePart_none h
 |int i t=>exact slicePart_int h
def Tw {f:Addr}{e d:Value}{lo b:Option Int}{n:Nat}{Q:Int×Int×Nat->Shared->Prop}(i:s.heap.IsSliceOf f e d .none)(pl:IsPart e lo)(g:IsPart d b)
 (h:Q (((sIx n 0 lo:Nat):Int),1,sIx n n b-sIx n 0 lo) s):wpAny (model prog w) A (Builtin.Slice.sliceApplied (.ref f)<|pure (n:Int)) Q E s:=by
 obtain⟨k,a,j,c⟩:=id i;unfold Builtin.Slice.sliceApplied Builtin.Slice.sliceFields;refine Xa (Xa<|YV a c (x:=e) rfl (Xa<|YV a c (x:=d) rfl (Xa<|YV a c (x:=.none) rfl (Xk ?_))));refine Xa (slicePart_none ?_);show wpAny _ _ (if ((1:Int)==0)=true then _ else _) _ _ s;rw[Xc<|by decide];refine Xa (PU pl<|Xa<|PU g<|Xa<|Xk ?_);show wpAny _ _ (match Builtin.Slice.sliceAdjust lo b 1 (n:Int) with|(lo,b)=>pure (lo,(1:Int),Builtin.Slice.slicePlaces lo b 1)) _ _ s;rw[Od lo b n];show wpAny _ _ (pure (((sIx n 0 lo:Nat):Int),(1:Int),Builtin.Slice.slicePlaces ((sIx n 0 lo:Nat):Int) ((sIx n n b:Nat):Int) 1)) _ _ s;rw[Ow];exact Xk h
def A3 (xs:Array Value)(i k:Nat):((List.range k).filterMap fun(m:Nat)=>xs[((i:Int)+(m:Int)*1).toNat]?).toArray=((xs.toList.drop i).take k).toArray:=by
 have e:(fun(m:Nat)=>xs[((i:Int)+(m:Int)*1).toNat]?)=fun m=>xs[i+m]? := by
  funext m
  have:((i:Int)+(m:Int)*1).toNat=i+m:=by omega
  rw[this]
 rw[e];have:=pick_run xs i k;rw[List.filterMap_map]at this;have a:((fun x=>xs[x]?) ∘ fun x=>i+x)=fun m=>xs[i+m]? := rfl;rw[a]at this;rw[this]
def getItem_tuple_cut {t e:Addr}{a:Array Value}{l k:Value}{lo c:Option Int}{Q:Qb}(d:IsTup s.heap t a)(n:s.heap.IsSliceOf e l k .none)(pl:IsPart l lo)(o:IsPart k c)
 (hw:¬(sIx a.size 0 lo=0/\sIx a.size a.size c=a.size))
 (h:Q (.ref s.heap.objs.size) { s with heap:=s.heap.push { cls:=.type "tuple",data:=.seq ((a.toList.drop<|sIx a.size 0 lo).take (sIx a.size a.size c-sIx a.size 0 lo)).toArray } })
 (hsz:a.size<=sizeLine):wpAny (model prog w) A (getItem (.ref t)<|.ref e) Q E s:=by
 have b:sizeOk (.seq ((a.toList.drop<|sIx a.size 0 lo).take (sIx a.size a.size c-sIx a.size 0 lo)).toArray):=by
  show((a.toList.drop<|sIx a.size 0 lo).take (sIx a.size a.size c-sIx a.size 0 lo)).toArray.size<=sizeLine
  rw[Xv,GL,List.length_drop,Array.length_toList];omega
 have x:sIx a.size a.size c<=a.size:=Lc _ _ (Xq _) c;obtain⟨p,f,i,r⟩:=id n;have j:s.TypeIs (.ref e) "slice" := ⟨p,f,i⟩;unfold getItem;try with_reducible refine wpAny_holding ?_
 first|refine Xa (Xk ?_)|skip
 refine Xa (wpAny_sequenceKey d.typeIs (by decide) ?_)
 refine Xa (wpAny_callSpecial?_slot (name:=Str.ofString "__getitem__") d.typeIs PyProof.Rows.slot_tuple_getitem
  (wpAny_call_entry PyProof.Rows.slot_tuple_getitem d.typeIs entry_tuple_getitem ?_<|args_tuple_getitem _ _))
 show wpAny _ _ (Builtin.Tuple.tupleItemsOf (.ref t) >>= _) _ _ s;refine Xa (tupleItemsOf_ d ?_);refine Xa (wpAny_typeOf j ?_);rw[Xd<|by decide];refine Xa (Tw n pl o ?_)
 have g:¬((((sIx a.size 0 lo:Nat):Int)==0&&(1:Int)==1&&(sIx a.size a.size c-sIx a.size 0 lo)==a.size)=true):=by
  intro q;rw[YZ,YZ]at q;have v:((sIx a.size 0 lo:Nat):Int)=0:=eq_of_beq q.1.1;have u:sIx a.size a.size c-sIx a.size 0 lo=a.size:=eq_of_beq q.2;exact hw ⟨by omega,by omega⟩
 show wpAny _ _ (if (((sIx a.size 0 lo:Nat):Int)==0&&(1:Int)==1&&(sIx a.size a.size c-sIx a.size 0 lo)==a.size)=true then _ else _) _ _ s;rw[Xc g,A3]
 first
  |exact Xa (m:=Builtin.Tuple.tupleExact _) (wpAny_newObj_type (Xk ⟨_,rfl,Xk h⟩) b)
  |exact Xa (m:=Builtin.Tuple.tupleExact _) (wpAny_newObj_type (Xa<|Xk<|Xk ⟨_,rfl,Xk h⟩) b)
  |exact Xa (Xa (m:=Builtin.Tuple.tupleExact _)<|wpAny_newObj_type (Xk<|Xk ⟨_,rfl,Xk h⟩) b)
  |exact Xa (Xa (m:=Builtin.Tuple.tupleExact _)<|wpAny_newObj_type (Xk ⟨_,rfl,Xk h⟩) b)
end
end HT
namespace L2
open PySem PySem.Spec PyProof.Rows
abbrev TO:=St->Hp->(Option Int->Hp->Prop)->Prop
def PO (X:Cx)(e:Option Expr)(t:TO):Prop :=
 ∀(a:Qc) (s:Shared) (b:St) (H:Hp) (Q:Option Int->Hp->Prop),Qr X a b H s->t b H Q ->
  wpAny (model X.prog X.w) X.A (evalPart e X.env) (fun u d=>∃o c,Qr X a b c d/\IsPart u o/\Q o c) X.xe s
def Sr:TO:=fun _ H Q=>Q none H
def N5 (t:TE):TO:=fun a H Q=>t a H fun x b=>∃i,x=.int i/\Q (some i) b
def BZ:∀{us:Qe},QP (ns.map V.int) us->IntsAre us ns:=by
 induction ns with
 |nil=>intro us r;rw[UO]at r;cases r;exact .nil
 |cons n ns c =>
   intro us r;rw[Xu]at r;cases r with
   |cons b a =>
     obtain⟨t,e⟩:=b;subst e;exact .cons n t (c a)
section
variable {X:Cx}{e:Expr}{te:TE}{lo hi:Option Expr}{tl th:TO}{pos p2:Pos}
def Hh:PO X none Sr:=by
 intro a s b H Q I h;rw[evalPart_none];exact Xk ⟨none,H,I,.none,h⟩
def DT (h:PE X e te):PO X (some e) (N5 te):=by
 intro a s b H Q I f;rw[evalPart_some];refine Q7 (h a s b H _ I f) ?_;rintro u k ⟨x,j,g,c,d⟩;obtain⟨i,rfl,q⟩:=d;obtain⟨t,rfl⟩:=c
 exact⟨some i,j,g,.int i t,q⟩
def SlR (X:Cx)(r:V->Option Int->Option Int->Hp->VK->Prop):Prop :=
 ∀(a:Qc) (s:Shared) (b:St) (H:Hp) (x:V) (v d c:Value) (lo hi:Option Int) (f:Addr) (Q:VK),Qr X a b H s->QM x v->s.heap.IsSliceOf f d c .none->IsPart d lo->IsPart c hi->r x lo hi H Q ->
  ∃T g,typeLookup (.type T) "__getitem__"=pure (some<|.builtin g)/\s.TypeIs v T/\wpAny (model X.prog X.w) X.A (getItem v<|.ref f) (EP X a b Q) X.xe s
def tSl (r:V->Option Int->Option Int->Hp->VK->Prop)(te:TE)(tl th:TO):TE:=fun a H Q=>te a H fun x d=>tl a d fun l c=>th a c fun u b=>r x l u b Q
def HC (A:SlR X r)(D:PE X e te)(B:PO X lo tl)(y:PO X hi th):PE X (.Subscript e (.Slice lo hi none p2) pos) (tSl r te tl th):=by
 intro a s d H Q I h;refine Subscript_ (Q7 (D a s d H _ I h) ?_);rintro v k ⟨x,M,J,m,p⟩;refine wpAny_Slice (Q7 (B a k d M _ J p) ?_);rintro g j ⟨l,L,G,w,o⟩;refine Q7 (y a j d L _ G o) ?_;rintro f c ⟨u,i,F,t,n⟩;rw[evalPart_none];refine Xk ?_;have E:Qr X a d i { c with heap:=c.heap.push { cls:=.type "slice",data:=.fields #[g,f,.none] } }:=F.kept (t':=c.toks) fun b N q=>Xg _ q;obtain⟨T,O,hT,z,C⟩:=A a { c with heap:=c.heap.push { cls:=.type "slice",data:=.fields #[g,f,.none] } } d i x v g f l u c.heap.objs.size Q E m (Heap.IsSliceOf.new ..) w t n;show wpAny (model X.prog X.w) X.A (subscriptTail e (.Slice lo hi none p2) v<|.ref c.heap.objs.size) (EP X a d Q) X.xe { c with heap:=c.heap.push { cls:=.type "slice",data:=.fields #[g,f,.none] } };exact tail_any (ops:=[.ref c.heap.objs.size,v]) z hT C (by with_unfolding_all rfl)
def Jv (xs:List V)(lo hi:Option Int):List V:=(xs.drop<|HT.sIx xs.length 0 lo).take (HT.sIx xs.length xs.length hi-HT.sIx xs.length 0 lo)
def OQ (xs:List V)(lo hi:Option Int):(Jv xs lo hi).length<=xs.length:=by
 unfold Jv;rw[GL,List.length_drop];omega
def TL (K:W.Frag):V->Option Int->Option Int->Hp->VK->Prop:=fun x lo hi H Q=>∃a b,x=.ref a/\SqT K H a b /\
 ¬(HT.sIx b.length 0 lo=0/\HT.sIx b.length b.length hi=b.length)/\∀p,H p=none->Q (.ref p) (upd H p<|.tup<|Jv b lo hi)
def Fg:SlR X (TL X.K):=by
 intro t s u H x v y w lo hi z Q I j p l k h;obtain⟨a,d,rfl,m,n,q⟩:=h
 cases j
 obtain⟨f,r,i,g⟩:=I.tuple m;have c:f.toArray.size=d.length:=by rw[Xv];exact r.length.symm
 refine⟨"tuple",_,PyProof.Rows.slot_tuple_getitem.lookup,i.typeIs,?_⟩;refine HT.getItem_tuple_cut i p l k (by rw[c];exact n) ?_ (by rw[c];exact g);rw[c];refine⟨.ref s.heap.objs.size,_,I.laid (t':=s.toks) (o:=.tup (Jv d lo hi)) (fun b A q=>Xg _ q) (Xq _) ?_,rfl,q _<|I.hok.fresh<|Xq _⟩
 exact⟨X7 (OQ d lo hi) g,_,(r.drop<|HT.sIx d.length 0 lo).take (HT.sIx d.length d.length hi-HT.sIx d.length 0 lo),IsTup.new _ _⟩
def Lr (K:W.Frag):R2:=fun x y H Q=>∃a b d c,x=.ref a/\y=.ref b/\SqT K H a d/\SqT K H b c/\d≠[]/\d.length+c.length<=sizeLine /\
 (c=[]->Q (.ref a) H)/\(c≠[]->∀p,H p=none->Q (.ref p) (upd H p<|.tup<|d++c))
def QP.nil_iff  (r:QP xs us):us=[]↔xs=[]:=by
 cases r with
 |nil=>simp
 |cons _ _=>simp
def Cb:OpR X (binaryOp .Add) (Lr X.K):=by
 intro C s D H x y v u Q I l k h;obtain⟨a,b,j,i,rfl,rfl,B,A,t,g,n,m⟩:=h
 cases l
 cases k
 obtain⟨r,d,p,_⟩:=I.tuple B;obtain⟨f,c,p2,_⟩:=I.tuple A;refine HT.cat_tup p p2 (fun z=>t<|d.nil_iff.mp z) (fun z=>⟨.ref a,H,I,rfl,n<|c.nil_iff.mp z⟩) (fun z=>?_) (by rw[<- d.length,<- c.length];exact g);refine⟨.ref s.heap.objs.size,_,I.laid (t':=s.toks) (o:=.tup (j++i)) (fun b E q=>Xg _ q) (Xq _) ?_,rfl,m (fun w=>z<|c.nil_iff.mpr w) _<|I.hok.fresh<|Xq _⟩
 exact⟨by rw[Xo];exact g,_,d.append c,IsTup.new _ _⟩
end
def ixN (n:Nat)(i:Int):Option Nat:=if 0<=i then (if i<n then some i.toNat else none) else if -(n:Int)<=i then some (i+n).toNat else none
def atI {a:Type}(xs:List a)(i:Int):Option a:=(ixN xs.length i).bind fun j=>xs[j]?
def Sc  (h:ixN n i=some j):seqIndex? i n=some j/\j<n /\ -(n:Int)<=i/\i<n:=by
 unfold ixN at h;by_cases b:0<=i
 .rw[Xd b]at h
  by_cases a:i<n
  .rw[Xd a]at h
   have e:i.toNat=j:=Option.some.inj h
   exact⟨by rw[seqIndex_of b a,e],by omega,by omega,a⟩
  .rw[Xc a]at h;cases h
 .rw[Xc b]at h
  by_cases a : -(n:Int)<=i
  .rw[Xd a]at h
   have e:(i+n).toNat=j:=Option.some.inj h
   exact⟨by rw[seqIndex_neg (by omega) a,e],by omega,a,by omega⟩
  .rw[Xc a]at h;cases h
def DX {a:Type}{xs:List a}{i:Int}{v:a}(h:atI xs i=some v):∃j,seqIndex? i xs.length=some j/\xs[j]?=some v/\j<xs.length /\ -(xs.length:Int)<=i/\i<xs.length:=by
 unfold atI at h;cases e:ixN xs.length i with
 |none=>rw[e]at h;cases h
 |some j =>
   rw[e]at h;obtain⟨f,d,c,b⟩:=Sc e
   exact⟨j,f,h,d,c,b⟩
def YG {a:Type}{xs:List a}{j:Nat}{v:a}(h:xs[j]?=some v):atI xs (j:Int)=some v:=by
 have b:j<xs.length:=(Xh.mp h).1
 have e:ixN xs.length (j:Int)=some j:=by
  unfold ixN;rw[Xd<|by omega,Xd<|by omega];simp
 unfold atI;rw[e];exact h
def Cy (b:Expr):Prop := ∀o i,subscripted b false o i=operate [o,i] (getItem o i)
def IxR (X:Cx)(r:R2):Prop :=
 ∀(b a:Expr) (c:Qc) (s:Shared) (d:St) (H:Hp) (x y:V) (v u:Value) (Q:VK),Qr X c d H s->QM x v->QM y u->r x y H Q ->
  subscripted a false v u=operate [v,u] (getItem v u)->wpAny (model X.prog X.w) X.A (subscriptTail b a v u) (EP X c d Q) X.xe s
def MtR (X:Cx)(e:String)(r:V->List V->Hp->VK->Prop):Prop :=
 ∀(a:Qc) (s:Shared) (b:St) (H:Hp) (x:V) (c:List V) (v:Value) (d:Qe) (Q:VK),Qr X a b H s->QM x v->QP c d->r x c H Q ->
  wpAny (model X.prog X.w) X.A (call (.builtin e) (v::d)) (EP X a b Q) X.xe s
section
variable {X:Cx}{a b:Expr}{ta tb:TE}{pos:Pos}
def IxR.or (h:IxR X r)(h':IxR X r'):IxR X (fun x y H Q=>r x y H Q\/r' x y H Q):=by
 intro c d e s f H x y v u Q I i g q j;rcases q with q|q
 .exact h c d e s f H x y v u Q I i g q j
 .exact h' c d e s f H x y v u Q I i g q j
def QJ (j:IxR X r)(l:PE X a ta)(k:PE X b tb)(i:Cy b:=by exact fun _ _=>rfl):PE X (.Subscript a b pos) (tOp r ta tb):=by
 intro c s d H Q I h;exact Subscript_ (MK l k I h fun v u e x y n m g f q=>j a b c e d n x y v u Q m g f q<|i _ _)
def Nl (K:W.Frag):R2:=fun x y H Q=>∃p c i v,x=.ref p/\y=.int i/\SqL K H p c/\atI c i=some v/\Q v H
def Nw (K:W.Frag):R2:=fun x y H Q=>∃p c i v,x=.ref p/\y=.int i/\SqT K H p c/\atI c i=some v/\Q v H
def Nk:R2:=fun x y H Q=>∃z i c,x=.str z/\y=.int i/\z.length<=sizeLine/\atI z.cps.toList i=some c/\Q (.str ⟨#[c]⟩) H
def FV:IxR X (Nl X.K):=by
 intro f g d s o H x y v u Q I F E h A;obtain⟨p,P,i,z,rfl,rfl,G,L,q⟩:=h
 cases F
 obtain⟨t,rfl⟩:=E;obtain⟨m,r,l,R⟩:=I.list G;obtain⟨j,e,O,T,N,M⟩:=DX L;obtain⟨w,C,k⟩:=r.get O;have J:=r.length;have S:=JI;have c:EP X d o Q w s:=⟨z,H,I,k,q⟩
 by_cases B:0<=i
 .have n:i.toNat=j:=by
   rw[seqIndex_of B M]at e;exact Option.some.inj e
  exact item_listR l.isList B (by omega) (by rw[n];simpa using C) c A
 .have n:(i+(m.toArray.size:Int)).toNat=j:=by
   rw[seqIndex_neg (by omega) N]at e;rw[Xv,<- J];exact Option.some.inj e
  exact subscriptTail_builtinR (x:=w) l.isList.typeIs slot_list_getitem.lookup
   (wpAny_getItem_list_neg (Q:=fun r D=>r=w/\EP X d o Q r D) l.isList (by omega) (by rw[Xv]<;>omega) (by omega) (by rw[n];simpa using C) ⟨rfl,c⟩) A
def LV:IxR X (Nw X.K):=by
 intro d e c s k H x y v u Q I o n h B;obtain⟨p,L,i,z,rfl,rfl,C,E,q⟩:=h
 cases o
 obtain⟨t,rfl⟩:=n;obtain⟨A,r,l,M⟩:=I.tuple C;obtain⟨j,G,F,R,P,O⟩:=DX E;obtain⟨w,J,f⟩:=r.get F;have D:=r.length;have N:=JI;have g:EP X c k Q w s:=⟨z,H,I,f,q⟩
 exact subscriptTail_builtinR (x:=w) l.typeIs slot_tuple_getitem.lookup
  (getItem_tuple (j:=j) (Q:=fun r m=>r=w/\EP X c k Q r m) l (by omega) (by omega) (by rw[Xv,<- D];exact G) (by simpa using J) ⟨rfl,g⟩) B
def LK:IxR X Nk:=by
 intro d e B s C H x y v u Q I k g h l;obtain⟨z,i,c,rfl,rfl,E,n,q⟩:=h;obtain⟨t,rfl⟩:=k;obtain⟨D,rfl⟩:=g;obtain⟨j,f,r,G,p,o⟩:=DX n;have m:z.cps.toList.length=z.length:=by simp[Str.length]
 rw[m]at f p o;have F:=JI
 exact tail_any (typeIs_str s z t) slot_str_getitem.lookup (getItem_str (c:=c) (by
  have A:decide (i < -(2^63:Int))=false:=XT (by omega);have w:decide (i>=2^63)=false:=XT (by omega);rw[A,w,Bool.or_false]) (by rw[f];simpa using r) ⟨.str ⟨#[c]⟩,H,I.tok _,⟨_,rfl⟩,q⟩) l
def rIx (K:W.Frag):R2:=fun x y H Q=>Nl K x y H Q\/Nw K x y H Q\/Nk x y H Q
def QI:IxR X (rIx X.K):=FV.or (LV.or LK)
def Iu (c:Qe) (n j:Nat) (u:Value):Obj.mapSeq (·.setIfInBounds j u) { cls:=.type "list",data:=.seq c.toArray n }={ cls:=.type "list",data:=.seq (c.set j u).toArray n }:=by
 simp[Obj.mapSeq]
def Qr.lst {d:Qc}{f:St}{H:Hp}{s:Shared}{p:Addr}{xs:List V}(I:Qr X d f H s)(h:H p=some (.lst xs)) :
 ∃(c:Qe) (n:Nat),QP xs c/\s.heap.get? p=some { cls:=.type "list",data:=.seq c.toArray n }/\xs.length<=sizeLine:=by
 obtain⟨z,c,n,r,e⟩:=I.hok p _ h
 exact⟨c,n,r,e,z⟩
def Qr.lstUpd {d:Qc}{i:St}{H:Hp}{s:Shared}{p:Addr}{xs ys:List V}{c its':Qe}{n g:Nat}{f:Obj->Obj}(I:Qr X d i H s)(h:H p=some (.lst xs))
 (k:s.heap.get? p=some { cls:=.type "list",data:=.seq c.toArray n }) (j:f { cls:=.type "list",data:=.seq c.toArray n }={ cls:=.type "list",data:=.seq its'.toArray g }) (r:QP ys its') (hz:ys.length<=sizeLine) (t:Nat) :
 Qr X d i (upd H p<|.lst ys) { s with heap:=s.heap.update p f,toks:=t }:=by
 have e:(s.heap.update p f).get? p=some { cls:=.type "list",data:=.seq its'.toArray g }:=by
  rw[Wz f k<|by rw[j]<;>rfl,j]
 refine I.write (x:=p) (e:=p) (by rw[h];trivial) (.inl rfl) (fun b u l q=>(XQ _ _<|Ne.symm l).trans q) ⟨_,e⟩ ?_
 exact⟨hz,its',g,r,e⟩
def UY:V->V->V->Hp->(Hp->Prop)->Prop:=fun o i v H Q=>∃p c k j,o=.ref p/\i=.int k/\H p=some (.lst c)/\ixN c.length k=some j/\Q (upd H p<|.lst<|c.set j v)
def WF:MM X UY:=by
 intro l s A H o i v J L u Q I D E C h;obtain⟨p,B,k,j,rfl,rfl,m,G,q⟩:=h
 cases D
 obtain⟨t,rfl⟩:=E;obtain⟨c,n,r,e,F⟩:=I.lst m;obtain⟨d,N,x,w⟩:=Sc G;have f:=r.length;have M:=JI
 have z:Qr X l A (upd H p<|.lst<|B.set j v) { s with heap:=s.heap.update p (Obj.mapSeq (·.setIfInBounds j u)) } :=
  I.lstUpd m e (Iu c n j u) (r.set C j) (by rw[List.length_set];exact F) s.toks
 by_cases y:0<=k
 .have g:k.toNat=j:=by
   rw[seqIndex_of y w]at d;exact Option.some.inj d
  exact W.ki_setAt e y (by omega) (by rw[Xv,<- f];exact w) (by rw[g];exact⟨_,z,q⟩)
 .have g:(k+(c.toArray.size:Int)).toNat=j:=by
   rw[seqIndex_neg (by omega) x]at d;rw[Xv,<- f];exact Option.some.inj d
  exact W.ki_setBack e (by omega) (by rw[Xv,<- f];exact x) (by omega) (by rw[g];exact⟨_,z,q⟩)
def OV:Zl X (.builtin "len") (fun xs H Q=>∃p ys,xs=[.ref p]/\(SqL X.K H p ys\/SqT X.K H p ys)/\Q (.int ys.length) H):=by
 intro k s l H xs m Q I r h;obtain⟨p,ys,rfl,d,q⟩:=h;obtain⟨u,rfl,i⟩:=YQ r
 cases i
 have n:=JI
 rcases d with d|d
 .obtain⟨g,e,f,j⟩:=I.list d
  have c:=e.length;exact Calls.call_len_list f.isList (by simp only[Xv]<;>omega) ⟨.int ys.length,H,I.tok _,⟨s.toks+1,by rw[Xv,c]⟩,q⟩
 .obtain⟨g,e,f,j⟩:=I.tuple d
  have c:=e.length;exact len_tuple f (by simp only[Xv]<;>omega) ⟨.int ys.length,H,I.tok _,⟨s.toks+1,by rw[Xv,c]⟩,q⟩
def OY:Zl X (.type "list") (fun xs H Q=>∃p ys,xs=[.ref p]/\(SqL X.K H p ys\/SqT X.K H p ys)/\∀l,H l=none->Q (.ref l) (upd H l<|.lst ys)):=by
 intro z s B H xs D Q I r h;obtain⟨p,ys,rfl,k,q⟩:=h;obtain⟨u,rfl,C⟩:=YQ r
 cases C
 have t:∀(c:Qe),QP ys c->ys.length<=sizeLine->∀(d:Heap) (g:Nat),(∀b A,s.heap.get? b=some A->d.get? b=some A) ->
  d.get? s.heap.objs.size=some { cls:=.type "list",dict:=none,data:=.seq c.toArray g,slots := #[] }->EP X z B Q (.ref s.heap.objs.size) { s with heap:=d }:=fun c f j d g i e =>
  ⟨.ref s.heap.objs.size,_,I.laid (t':=s.toks) i (Xq _) (show ZA X.prog X.w _ d _ (.lst ys) from⟨j,c,g,f,e⟩),rfl,q _<|I.hok.fresh<|Xq _⟩
 rcases k with k|k
 .obtain⟨c,f,v,j⟩:=I.list k
  have m:=f.length;obtain⟨o,w,y,n,x⟩:=v.isList;exact call_list_seq p (.inl rfl) w y x (fun d g i e=>t c f j d g i e) (by simp only[Xv]<;>omega)
 .obtain⟨c,f,v,j⟩:=I.tuple k
  have m:=f.length;obtain⟨o,w,y,n,x⟩:=v;exact call_list_seq p (.inr rfl) w y x (fun d g i e=>t c f j d g i e) (by simp only[Xv]<;>omega)
def ZhA:Zl X (.type "tuple") (fun xs H Q=>∃p ys,xs=[.ref p]/\((SqL X.K H p ys/\∀l,H l=none->Q (.ref l) (upd H l<|.tup ys))\/(SqT X.K H p ys/\Q (.ref p) H))):=by
 intro d s k H xs y Q I r h;obtain⟨p,ys,rfl,h⟩:=h;obtain⟨u,rfl,v⟩:=YQ r
 cases v
 rcases h with ⟨j,q⟩|⟨j,q⟩
 .obtain⟨c,g,i,m⟩:=I.list j
  have n:=g.length;refine call_tuple_list i.isList (fun f w=>?_) (by simp only[Xv]<;>omega);have t:Qr X d k H { s with heap:=f }:=I.kept (t':=s.toks) w
  have x:Qr X d k (upd H f.objs.size<|.tup ys) { s with heap:=f.push { cls:=.type "tuple",data:=.seq c.toArray } } :=
   t.laid (t':=s.toks) (fun b o e=>Xg _ e) (Xq _) (show ZA X.prog X.w _ _ _ (.tup ys) from⟨m,c,g,IsTup.new _ _⟩)
  exact⟨.ref f.objs.size,_,x,rfl,q _<|t.hok.fresh<|Xq _⟩
 .obtain⟨c,g,i,m⟩:=I.tuple j
  exact call_tuple_same i ⟨.ref p,H,I,rfl,q⟩
def tyV (K:W.Frag)(T:String)(x:V)(H:Hp):Prop:=match x with
 |.str _=>T = "str"
 |.int _=>T = "int"
 | .ref p=>(T = "list" /\ ∃d,SqL K H p d)\/(T = "tuple" /\ ∃o,K.lookup p=some o/\o.cls=.type "tuple" /\ o.dict=none) \/
  (T = "dict" /\ ((∃c,H p=some (.dK c))\/∃c,H p=some (.dT c)))\/(T = "set" /\ ∃S n,H p=some (.set S n))
 |_=>False
def LL {l:Qc}{q:St}{H:Hp}{s:Shared}{T:String}{x:V}{v:Value}(I:Qr X l q H s)(r:QM x v)(g:tyV X.K T x H) :
 s.TypeIs v T/\∀a,v=.ref a->∃ob,s.heap.get? a=some ob/\ob.dict=none:=by
 cases x with
 |str z =>
   obtain⟨t,rfl⟩:=r
   cases (show T = "str" from g)
   exact⟨typeIs_str s z t,by rintro _ ⟨⟩⟩
 |int i =>
   obtain⟨t,rfl⟩:=r
   cases (show T = "int" from g)
   exact⟨typeIs_int s i t,by rintro _ ⟨⟩⟩
 |ref p =>
   cases r
   rcases g with ⟨rfl,A,w⟩|⟨rfl,o,d,y,j⟩|⟨rfl,d⟩|⟨rfl,S,n,d⟩
   .obtain⟨u,_,m,_⟩:=I.list w
    refine⟨m.isList.typeIs,fun a e=>?_⟩
    cases e
    obtain⟨o,n,e,c,j,_⟩:=m
    exact⟨o,e,j⟩
   .refine⟨⟨o,I.kIn p o d,y⟩,fun a e=>?_⟩
    cases e
    exact⟨o,I.kIn _ o d,j⟩
   .have z:∃o,s.heap.get? p=some o/\o.ExactDict:=by
     rcases d with ⟨h,d⟩|⟨h,d⟩
     .obtain⟨_,_,_,_,o,_,_,e,f,_⟩:=I.hok p _ d
      exact⟨o,e,f⟩
     .obtain⟨_,_,_,_,o,_,_,e,f,_⟩:=I.hok p _ d
      exact⟨o,e,f⟩
    obtain⟨o,e,f⟩:=z;refine⟨⟨o,e,f.1⟩,fun a k=>?_⟩
    cases k
    exact⟨o,e,f.2.1⟩
   .obtain⟨o,_,_,_,e,f,_⟩:=I.hok p _ d
    refine⟨⟨o,e,f.1⟩,fun a k=>?_⟩
    cases k
    exact⟨o,e,f.2.1⟩
 |_=>exact False.elim g
def tBM (K:W.Frag)(T:String)(r:V->List V->Hp->VK->Prop)(f:TE)(t:TA):TE:=fun c H Q=>f c H fun x d=>tyV K T x d/\t c d fun e g=>r x e g Q
variable {o e:Expr}{es:Qi}{to:TE}{t:TA}{name:Str}{apos cpos:Pos}{T id:String}{r:V->List V->Hp->VK->Prop}
def Ve (D:PlainAttrs T) (i:Slot T name id) (l:typeOf (.builtin id)=pure (.type "method_descriptor")) (G:MtR X id r) (F:PE X o to) (J:PA X (e::es) t)
 (f:attributeBase o name X.env (eval o X.env)=eval o X.env:=by rfl)
 (j:((backTo cpos<|starEach (e::es) X.env).all (fun x => !x.1)&&(backToKw cpos<|keywordEach [] X.env).all (fun x=>x.1.isSome)
  && decide ((e::es).length+([]:List Keyword).length+(if ([]:List Keyword).isEmpty then 0 else 1)<30))=true:=by rfl)
 (d:(apos.endLine==cpos.line)=true:=by rfl) (E:starEach (e::es) X.env=(false,eval e X.env)::starEach es X.env:=by rfl) (c:(backTo cpos<|starEach es X.env).any (·.1)=false:=by rfl) :
 PE X (.Call (.Attribute o name apos) (e::es) [] cpos) (tBM X.K T r to t):=by
 intro g s k H Q I h;refine wpAny_Call_method_late f j d rfl (Q7 (F g s k H _ I h) ?_);rintro v z ⟨x,P,p,m,w,C⟩;obtain⟨M,L⟩:=LL p m w;refine⟨T,id,D,i,l,M,L,?_⟩;have n:=J cpos g z k P _ p C;rw[E]at n ⊢;refine Calls.callWith_builtin (by show(false||(backTo cpos<|starEach es X.env).any (·.1))=false;rw[c]<;>rfl) (Calls.evalArgs_plain ?_);refine Q7 n ?_;rintro u y ⟨q,O,N,A,B⟩;exact G g y k O x q v u Q N m A B
end
def MtM (X:Cx)(e:String)(r:V->List V->Hp->VK->Prop):Prop :=
 ∀(a:Qc) (s:Shared) (b:St) (H:Hp) (x:V) (c:List V) (v:Value) (d:Qe) (Q:VK),Qr X a b H s->QM x v->QP c d->r x c H Q ->
  wpAny (model X.prog X.w) X.A (call (.builtin e) (v::d)) (EP X a b Q) X.xe s
theorem QP.one:∀{x:V} {us:Qe},QP [x] us->∃u,us=[u]/\QM x u
 |_,_,.cons r .nil=>⟨_,rfl,r⟩
section
variable {X:Cx}{Xa0:Qc}{σ:St}{H:Hp}{s:Shared}{l:Addr}{xs ys:List V}
def Qr.lset {a:Qe}  (I:Qr X Xa0 σ H s)(h:H l=some (.lst xs))
 (e:s.heap.get? l=some { cls:=.type "list",data:=.seq a.toArray n }) (d:f a.toArray=its'.toArray) (b:QP ys its') (hz:ys.length<=sizeLine) :
 Qr X Xa0 σ (upd H l<|.lst ys) { s with heap:=s.heap.update l (Obj.mapSeq f),toks:=t' }:=by
 have q:=PySem.IsL.update e f;rw[d]at q;refine I.write (x:=l) (e:=l) (by rw[h];exact trivial) (.inl rfl) (fun i u g c=>(XQ s.heap (Obj.mapSeq f)<|Ne.symm g).trans c) ⟨_,q⟩ ?_
 exact⟨hz,its',_,b,q⟩
def Qr.lnew  (I:Qr X Xa0 σ H s)(a:QP ys its)(hz:ys.length<=sizeLine) :
 Qr X Xa0 σ (upd H s.heap.objs.size<|.lst ys) { s with heap:=s.heap.push { cls:=.type "list",data:=.seq its.toArray },toks:=t' } :=
 I.laid (fun _ _ q=>Xg _ q) (Xq _) ⟨hz,its,0,a,Xz _ rfl⟩
def Qr.fresh (I:Qr X Xa0 σ H s):H s.heap.objs.size=none:=I.hok.fresh (Xq _)
def Qr.lstM (I:Qr X Xa0 σ H s) (b:H l=some (.lst xs)):xs.length<=sizeLine/\∃(a:Qe) (n:Nat),QP xs a/\xs.length=a.length/\s.heap.get? l=some { cls:=.type "list",data:=.seq a.toArray n }:=by
 obtain⟨z,a,n,r,e⟩:=I.hok l _ b
 exact⟨z,a,n,r,r.length,e⟩
end
section
variable {X:Cx}
def YH:V->List V->Hp->VK->Prop:=fun x b H Q=>∃l a y,x=.ref l/\b=[y]/\H l=some (.lst a)/\a.length<sizeLine/\Q .non (upd H l<|.lst<|a++[y])
def V9:MtM X "list.append" YH:=by
 intro g s i H x k v m Q I c d h;obtain⟨l,j,y,rfl,rfl,b,o,q⟩:=h
 cases c
 obtain⟨u,rfl,f⟩:=d.one;obtain⟨z,a,n,r,p,e⟩:=I.lstM b;refine call_meets F.slot_list_append ⟨_,e,rfl⟩ F.entry_list_append (F.args_list_append_2 _ _) (PySem.list_append l a.toArray n u<|by rw[Xv];omega) ⟨e,?_⟩;refine⟨.non,_,I.lset (its':=a++[u]) b e (by simp) (r.append<|.cons f .nil) ?_,rfl,q⟩;rw[Xo,List.length_singleton];omega
def MJ:R2:=fun x y H Q=>∃l b c a,x=.ref l/\y=.ref b/\H l=some (.lst c)/\H b=some (.lst a)/\c.length+a.length<=sizeLine/\∀p,H p=none->Q (.ref p) (upd H p<|.lst<|c++a)
def Uq:OpR X (binaryOp .Add) MJ:=by
 intro p s t H x y v u Q I f d h;obtain⟨l,b,B,w,rfl,rfl,j,k,D,q⟩:=h
 cases f
 cases d
 obtain⟨z,c,n,r,E,e⟩:=I.lstM j;obtain⟨A,a,C,g,i,o⟩:=I.lstM k;refine PySem.P.add_list e o ?_ (by rw[Xv,Xv];omega);have m:c.toArray++a.toArray=(c++a).toArray:=by simp
 rw[m];exact⟨.ref _,_,I.lnew (t':=s.toks) (r.append g)<|by rw[Xo];omega,rfl,q _ I.fresh⟩
end
end L2
namespace Att
open PySem PySem.W PySem.Calls PyProof.Rows
def Zg5  : ∀(ns:Ql) (vs:Qe),WellAll P h vs (ns.map WData.int)->IntsAre vs ns:=by
 intro ns;induction ns with
 |nil =>
   intro vs w;rw[UO]at w;cases w;exact .nil
 |cons n ns c =>
   intro vs w;rw[Xu]at w;cases w with
   |cons a b =>
     cases a
     exact .cons _ _ (c _ b)
def E6 {l:OpenLaw}(hn:l.most=some n)
 (b:l.row.toRowW.claim.pre args=true) (i:WellAll P h vals args) :
 ∃a vs ns,vals=[Value.ref a]/\args=[WData.list<|ns.map WData.int]/\h.get? a=some { cls:=.type "list",data:=.seq vs.toArray }/\IntsAre vs ns/\ns.length<=n:=by
 have j:WShape.hasAll [] args [.list .int]=true:=(pre_splitW b).1;have k:l.pre.holds [] { args:=args }=true:=(pre_splitW b).2;obtain⟨d,r,rfl,v,u⟩:=hasAllW_cons j;obtain rfl:=hasAllW_nil u;obtain⟨w,rfl,t⟩:=hasW_list v;obtain⟨ns,rfl⟩:=items_int t
 have c:ns.length<=n:=by
  unfold OpenLaw.pre at k;have g:(WTm.not<|.lt (.lit<|.int (n:Int))<|.len<|.arg 0).holds [] { args:=[.list<|ns.map .int] }=true:=by
   have g:=(holds_andW k).1;rw[hn]at g;exact g
  have f:=condW_of g (w_not<|w_lt w_lit<|w_len_list<|w_arg rfl);rw[Xn]at f;refine Nat.le_of_not_lt fun q=>?_;have p:(n:Int)<((ns.length:Nat):Int):=by omega
  first
   |(rw[Wv p]at f;exact Xm f<|by decide)
   |(simp at f;omega)
 cases i with
 |cons o m =>
   cases m
   cases o with
   |list s e=>exact⟨_,_,ns,rfl,rfl,s,Zg5 ns _ e,c⟩
def EN (l:OpenLaw)(args:List WData):l.row.toRowW.claim.post args (.bool true) args=true :=
 postW_of (r:=l.row.toRowW) (X:=(true==true))
  (show WShape.has [] (.bool true) .bool=true by first|rfl|decide|simp[WShape.has,WShape.arms,WShape.armsAll])
  (show(WTm.eq .res<|.lit<|.bool true).value [] { args:=args,res:=some (.bool true),after:=args }=some (.bool<|true==true) from w_eq_bool (w_res rfl) w_lit) rfl
end Att
namespace L2
open PySem PySem.Spec PyProof.Rows
theorem Pf:∀{vs:Qe} {ns:Ql},IntsAre vs ns->QP (ns.map V.int) vs
 |_,_,.nil=>.nil
 |_,_,.cons n t h=>.cons ⟨t,rfl⟩ (Pf h)
def TN (H:Hp):Prop := ∀b,H b=none\/∃o a,H b=some (.frz o<|.lst a)
abbrev KOf {K:W.Frag}{h:Heap}(_:K.In h):W.Frag:=K
def Vl (s:Stmt)(j:Nat):Stmt:=match s with
 |.ClassDef _ _ _ a _ _ _ _ _ _ _=>a.getD j (.Pass ⟨0,0,0,0⟩)
 |_=>.Pass ⟨0,0,0,0⟩
def Y7 (s:Stmt):Arguments:=match s with
 |.FunctionDef _ a _ _ _ _ _ _ _ _=>a
 |_=>{ posonlyargs:=[],args:=[],vararg:=none,kwonlyargs:=[],kw_defaults:=[],kwarg:=none,defaults:=[] }
def Z7 (s:Stmt):List Stmt:=match s with
 |.FunctionDef _ _ b _ _ _ _ _ _ _=>b
 |_=>[]
def Q2 (s:Stmt):Scope:=match s with
 |.FunctionDef _ _ _ _ _ _ a _ _ _=>a
 |_=>{ kind:=.function,names:=[],isGenerator:=false,isCoroutine:=false }
abbrev CX0:CXT:=fun _ _ _ _ _ _=>False
abbrev E0:XK:=fun _ _ _=>False
def J9:VV CX0 X E0:=fun _ _ _ _ _ _ _ h=>h.elim
structure Fun (K:W.Frag)(x qual:Str)(st:Stmt)(f:Addr)(fd:FuncData):Prop where
 ex:∃(oc:Value) (od:Qj) (kV doc pm:Value) (an:Qj) (cdv ct:Value) (osl:Array (Qf)),
  fd=W.fnOf x qual (Y7 st) (Z7 st) (Q2 st) .none kV doc pm an cdv ct/\K.lookup f=some ⟨oc,od,.func fd,osl⟩/\W.codeIn K cdv qual=true
 kp:W.keepIn K (.ref f)=true
section
variable {P:Program}{w:World}{K:W.Frag}{mg:Str->Qf}{base:Heap}
def Fun.ok {x b:Str}{st:Stmt}{f:Addr}{l:FuncData}{N ps:Qh}{k:Nat}{d:Sp}(F:Fun K x b st f l)(S:Qp N ps (Q2 st))(e:∀vs H Q E,d vs H Q E->vs.length=ps.length)
 (j:∀(c:Value) (A:Around) (a:List Env) (s:Shared) (H:Hp) (vs:List V) (Q:VK) (E:XK),Room k (A.deeper<|envOfC b (Q2 st) s.heap.objs.size f c)->d vs H Q E ->
  ∃t,PSs (Vo CX0 P w K mg base N b (Q2 st) f c A a s H E).nox (Z7 st) t/\t { nx:=fun _ r=>Q .non r,rt:=Q } (start N vs) H):FnOk P w K mg base CX0 (k+1) f l ps d:=by
 obtain⟨y,v,kV,p,u,B,c,z,m,rfl,n,i⟩:=F.ex;refine NV n i S e fun A a s H vs Q E o g=>?_;obtain⟨t,h,q⟩:=j c A a s H vs Q E o g
 exact⟨t,h.nox,q⟩
def Fun.binds {x a:Str}{st:Stmt}{f:Addr}{i:FuncData}{ps:Qh}(F:Fun K x a st f i)
 (h:∀(kV b d:Value) (g:Qj) (c e:Value) (us:Qe),us.length=ps.length->bindArgs (W.fnOf x a (Y7 st) (Z7 st) (Q2 st) .none kV b d g c e) ⟨us,[]⟩=pure (ps.zip us)):Vj K i ps []:=by
 obtain⟨m,l,kV,b,d,g,c,e,j,rfl,n,k⟩:=F.ex;exact .all (h kV b d g c e)
def Jc {x a:Str}{st:Stmt}{f:Addr}{j:Value}{od i:Qj}{e:Array (Qf)}{kV d g b h:Value}(l:K.lookup f=some ⟨j,od,.func<|W.fnOf x a (Y7 st) (Z7 st) (Q2 st) .none kV d g i b h,e⟩)
 (c:W.codeIn K b a=true) (k:W.keepIn K (.ref f)=true):Fun K x a st f (W.fnOf x a (Y7 st) (Z7 st) (Q2 st) .none kV d g i b h):=⟨⟨j,od,kV,d,g,i,b,h,e,rfl,l,c⟩,k⟩
end
def YD  (a:Room k A):A.units+1<cLine:=M8 (Nat.add_le_add_left (by decide:1<=64) _) a.units
def Vc (h:n<=1000):n<sizeLine:=M8 h (by decide)
section
variable {X:Cx}
def pv (i:Nat) {x:Str} {a:Pos} (e:X.N[i]?=some x:=by rfl) (c:Vis X.env.scope x:=by first|exact Or.inl rfl|exact Or.inr Qa|exact Or.inr<|Or.inr rfl) (d:(x==("__debug__" : Str))=false:=by decide)
 (b:(x==("__classdict__" : Str))=false:=by decide):PE X (.Name x a) (QB i):=RG e c d b
end
def Q3 (H a:Hp):Prop := ∀b o,H b=some o->a b=some o
def Q3.refl (H:Hp):Q3 H H:=fun _ _ h=>h
def Q3.trans (a:Q3 H H1)(b:Q3 H1 H2):Q3 H H2:=fun c o h=>b c o (a c o h)
def Q3.free (e:Q3 H H')(h:H' l=Option.none):H l=Option.none:=by
 cases q:H l with
 |none=>rfl
 |some o =>
   rw[e l o q]at h;cases h
def Q3.seq {K:W.Frag}{H b:Hp}{a:Addr}{xs:List V}(e:Q3 H b)(h:SqL K H a xs):SqL K b a xs:=by
 rcases h with (h|⟨o,h⟩)|h
 .exact .inl (.inl<|e _ _ h)
 .exact .inl (.inr ⟨o,e _ _ h⟩)
 .exact .inr h
end L2
section
namespace L2
open PySem PySem.Spec PyProof.Rows
theorem Kq {env:Env}{F:Str×NameKind->List (Str×Addr)->Sem (ForInStep<|List<|Str×Addr)}
 (t:∀n c cs,env.cells.lookup n=some c->F (n,NameKind.free) cs=pure (.yield ((n,c)::cs)))
 (s:∀n k cs,k≠NameKind.free->F (n,k) cs=pure (.yield cs)) :
 ∀(l:List (Str×NameKind)) (cs:List (Str×Addr)),(∀p∈l,p.2=NameKind.free->∃c,env.cells.lookup p.1=some c)->(∀x c,cs.lookup x=some c->env.cells.lookup x=some c) ->
  ∃b,forIn l cs F=pure b/\(∀x c,b.lookup x=some c->env.cells.lookup x=some c)/\(∀x c,cs.lookup x=some c->∃C,b.lookup x=some C)/\∀p∈l,p.2=NameKind.free->∃c,b.lookup p.1=some c
 |[],cs,_,j=>⟨cs,by rw[List.forIn_nil],j,fun x c h=>⟨c,h⟩,fun p a=>Xm a<|by simp⟩
 |(n,k)::l,cs,z,j=>by
   have g:∀p∈l,p.2=NameKind.free->∃c,env.cells.lookup p.1=some c:=fun p a=>z p (Xe _ a)
   by_cases o:k=NameKind.free
   .subst o
    obtain⟨c,e⟩:=z (n,NameKind.free) Xb rfl
    have r:∀x d,((n,c)::cs).lookup x=some d->env.cells.lookup x=some d:=fun x d q=>by
     cases f:x==n with
     |true =>
       simp only[XH,f]at q;cases q;rw[eq_of_beq f];exact e
     |false =>
       simp only[XH,f]at q;exact j x d q
    obtain⟨b,y,w,m,v⟩:=Kq t s l ((n,c)::cs) g r
    have A:∀x d,cs.lookup x=some d->∃u,((n,c)::cs).lookup x=some u:=fun x d q=>by
     cases f:x==n with
     |true=>exact⟨c,by simp only[XH,f]⟩
     |false=>exact⟨d,by simp only[XH,f];exact q⟩
    refine⟨b,by rw[List.forIn_cons,t n c cs e,pure_bind];exact y,w,fun x d q=>?_,fun p a i=>?_⟩
    .obtain⟨u,B⟩:=A x d q
     exact m x u B
    .rcases Xf.mp a with rfl|a
     .exact m n c (by simp only[XH,beq_self_eq_true])
     .exact v p a i
   .obtain⟨b,y,w,m,v⟩:=Kq t s l cs g j
    refine⟨b,by rw[List.forIn_cons,s n k cs o,pure_bind];exact y,w,m,fun p a i=>?_⟩
    rcases Xf.mp a with rfl|a
    .exact Xm i o
    .exact v p a i
def To  (h:∀p∈scope.names,p.2=NameKind.free->∃c,env.cells.lookup p.1=some c) :
 ∃b,closureFor scope env=pure b/\(∀x c,b.lookup x=some c->env.cells.lookup x=some c)/\∀p∈scope.names,p.2=NameKind.free->∃c,b.lookup p.1=some c:=by
 simp only[closureFor];obtain⟨b,d,l,_,j⟩:=Kq (env:=env) (F:=fun x r=>match x with|(name,kind)=>if (kind==NameKind.free)=true then do let a <- cellOf env name;pure (ForInStep.yield ((name,a)::r)) else pure<|ForInStep.yield r)
  (fun n c i e=>by
   show(if (NameKind.free==NameKind.free)=true then _ else _)=_
   rw[Xd (show(NameKind.free==NameKind.free)=true from rfl)];unfold cellOf;rw[e];rfl)
  (fun n k i g=>by
   have:(k==NameKind.free)=false:=by simpa using g
   show(if (k==NameKind.free)=true then _ else _)=_
   rw[this,Xc Xw]) scope.names [] h (fun x c q=>by simp at q)
 refine⟨b,?_,l,j⟩
 first
  |exact d
  |(rw[bind_pure];exact d)
  |(simp only[bind_pure]at *;exact d)
  |(rw[show(f scope.names ([]:List (Str×Addr)) _ >>= fun r=>pure r)=_ from bind_pure _];exact d)
theorem Tz {env:Env}:∀{a:List (Str×NameKind)} {x:Str},a.lookup x=some .free ->
 (a.map fun(n,k)=>if (k==NameKind.free&&env.scope.kind==.function&&env.kindOf n==some .cell) then (n,NameKind.cell) else (n,k)).lookup x=some .cell \/
 (a.map fun(n,k)=>if (k==NameKind.free&&env.scope.kind==.function&&env.kindOf n==some .cell) then (n,NameKind.cell) else (n,k)).lookup x=some .free
 |[],_,h=>by simp at h
 |(n,k)::r,x,h=>by
   have d:=@Tz env r x;show List.lookup x ((if (k==NameKind.free&&env.scope.kind==.function&&env.kindOf n==some .cell)=true then (n,NameKind.cell) else (n,k))::_)=_\/List.lookup x ((if (k==NameKind.free&&env.scope.kind==.function&&env.kindOf n==some .cell)=true then (n,NameKind.cell) else (n,k))::_)=_
   cases b:x==n with
   |true =>
     simp only[XH,b]at h;cases h
     by_cases c:(NameKind.free==NameKind.free&&env.scope.kind==.function&&env.kindOf n==some .cell)=true
     .rw[Xd c];left;simp only[XH,b]
     .rw[Xc c];right;simp only[XH,b]
   |false =>
     simp only[XH,b]at h;by_cases c:(k==NameKind.free&&env.scope.kind==.function&&env.kindOf n==some .cell)=true
     .rw[Xd c];simp only[XH,b];exact d h
     .rw[Xc c];simp only[XH,b];exact d h
theorem Ty {env:Env}:∀{a:List (Str×NameKind)} {x:Str},((a.map fun(n,k)=>if (k==NameKind.free&&env.scope.kind==.function&&env.kindOf n==some .cell) then (n,NameKind.cell) else (n,k)).lookup x=some .cell \/
 (a.map fun(n,k)=>if (k==NameKind.free&&env.scope.kind==.function&&env.kindOf n==some .cell) then (n,NameKind.cell) else (n,k)).lookup x=some .free)->a.lookup x=some .free\/a.lookup x=some .cell
 |[],_,h=>by simp at h
 |(n,k)::r,x,h=>by
   have d:=@Ty env r x;have h:List.lookup x ((if (k==NameKind.free&&env.scope.kind==.function&&env.kindOf n==some .cell)=true then (n,NameKind.cell) else (n,k))::_)=_\/List.lookup x ((if (k==NameKind.free&&env.scope.kind==.function&&env.kindOf n==some .cell)=true then (n,NameKind.cell) else (n,k))::_)=_:=h
   cases c:x==n with
   |true =>
     simp only[XH,c];by_cases b:(k==NameKind.free&&env.scope.kind==.function&&env.kindOf n==some .cell)=true
     .have:k=NameKind.free:=by
       rw[YZ,YZ]at b;exact eq_of_beq b.1.1
      left;rw[this]
     .rw[Xc b]at h
      simp only[XH,c]at h;exact h.symm
   |false =>
     simp only[XH,c];by_cases b:(k==NameKind.free&&env.scope.kind==.function&&env.kindOf n==some .cell)=true
     .rw[Xd b]at h;simp only[XH,c]at h;exact d h
     .rw[Xc b]at h;simp only[XH,c]at h;exact d h
structure CIn where
 cl:List (Str×Addr)
 C:Addr
 s₀:Shared
 H₀:Hp
 ex:Qg
 pn:Qc
def ZL (X:Cx)(N:Qh)(scope:Scope)(c:CIn):Cx where
 prog:=X.prog
 w:=X.w
 K:=X.K
 mg:=X.mg
 base:=X.base
 A:=X.A
 N:=N
 s₀:=c.s₀
 H₀:=c.H₀
 env:=compEnvC scope c.cl c.C X.env
 outer:=X.stack
 stack:=X.stack
 ex:=c.ex
 fn:=fun _=>false
 calm:=X.calm
 pn:=c.pn
 xe:=fun _ _=>False
def Ya (f:List (Option Nat))(a:St):St:=f.map fun o=>match o with|some i=>(a[i]?).join|none=>none
structure CompOk (NX:Qh)(sc:Scope)(N:Qh)(f:List (Option Nat))(scope:Scope):Prop where
 kind:scope.kind=.function
 nocell:∀y∈scope.names,y.2≠NameKind.cell
 names:∀y∈scope.names,y.2=NameKind.local->scope.names.lookup y.1=some .local
 free:∀y∈scope.names,y.2=NameKind.free->sc.names.lookup y.1=some .cell\/sc.names.lookup y.1=some .free
 len:f.length=N.length
 ix:∀(j i:Nat),f[j]?=some (some i)->∃x,N[j]?=some x/\NX[i]?=some x/\scope.names.lookup x=some .free
def U5 (NX:Qh)(sc:Scope)(N:Qh)(f:List (Option Nat))(scope:Scope):Bool :=
 decide (scope.kind=.function)&&(scope.names.all fun y=>decide (y.2≠NameKind.cell)&&(decide (y.2≠NameKind.local)||decide (scope.names.lookup y.1=some .local)) &&
  (decide (y.2≠NameKind.free)||decide (sc.names.lookup y.1=some .cell)||decide (sc.names.lookup y.1=some .free)))&&decide (f.length=N.length) &&
 (List.range f.length).all fun j=>match f[j]? with
  | some (some i)=>(match N[j]? with
    |some x=>decide (NX[i]?=some x)&&decide (scope.names.lookup x=some .free)
    |none=>false)
  |_=>true
def P7   (h:U5 NX sc N f scope=true):CompOk NX sc N f scope:=by
 unfold U5 at h;simp only[YZ,List.all_eq_true,decide_eq_true_eq,Bool.or_eq_true]at h;obtain⟨⟨⟨l,b⟩,k⟩,g⟩:=h;refine⟨l,fun y a=>(b y a).1.1,fun y a e=>?_,fun y a e=>?_,k,fun j i e=>?_⟩
 .rcases(b y a).1.2 with z|z
  .exact Xm e z
  .exact z
 .rcases(b y a).2 with (z|z)|z
  .exact Xm e z
  .exact .inl z
  .exact .inr z
 .have d:j<f.length:=(Xh.mp e).1
  have q:=g j (XU.mpr d);rw[e]at q;cases c:N[j]? with
  |none=>rw[c]at q;simp at q
  |some x =>
    rw[c]at q;simp only[YZ,decide_eq_true_eq]at q;exact⟨x,rfl,q.1,q.2⟩
def Nj (f:List (Option Nat))(b a:St):Prop:=a.length=b.length/\∀(i j:Nat),f[i]?=some (some j)->a[i]?=b[i]?
structure TgOk (f:List (Option Nat))(g:TG):Prop where
 keep:∀x σ H Q,g x σ H Q->g x σ H fun σ2 H2=>Nj f σ σ2/\Q σ2 H2
 mono:∀x σ H Q Q',(∀σ H,Q σ H->Q' σ H)->g x σ H Q->g x σ H Q'
structure TgsOk (f:List (Option Nat))(g:TGs):Prop where
 keep:∀xs σ H Q,g xs σ H Q->g xs σ H fun σ2 H2=>Nj f σ σ2/\Q σ2 H2
 mono:∀xs σ H Q Q',(∀σ H,Q σ H->Q' σ H)->g xs σ H Q->g xs σ H Q'
theorem VM  (h:f[j]?=some none:=by rfl):TgOk f (Vd j) where
 keep:=fun x a H Q q=>⟨⟨List.length_set ..,fun i k e=>Xs<|by rintro rfl;rw[h]at e;cases e⟩,q⟩
 mono:=fun x a H Q b m q=>m _ _ q
theorem Sq:TgsOk f MO where
 keep:=by rintro b a H Q ⟨e,q⟩;exact⟨e,⟨rfl,fun _ _ _=>rfl⟩,q⟩
 mono:=by rintro b a H Q c m ⟨e,q⟩;exact⟨e,m _ _ q⟩
theorem BN  (c:TgOk f t)(b:TgsOk f u):TgsOk f (Dr t u) where
 keep:=by rintro k h H Q ⟨v,r,e,q⟩;exact⟨v,r,e,c.mono _ _ _ _ _ (fun a l z=>b.mono _ _ _ _ _ (fun g o y=>⟨⟨y.1.1.trans z.1.1,fun i j d=>(y.1.2 i j d).trans (z.1.2 i j d)⟩,y.2⟩)<|b.keep _ _ _ _ z.2)<|c.keep _ _ _ _ q⟩
 mono:=by rintro k h H Q n m ⟨v,r,e,q⟩;exact⟨v,r,e,c.mono _ _ _ _ _ (fun a l z=>b.mono _ _ _ _ _ m z) q⟩
theorem R3 {f:List (Option Nat)}{K:W.Frag}{n:Nat}{t:TGs}(h:TgsOk f t):TgOk f (MY K n t) where
 keep:=by rintro x c H Q ⟨a,b,e,q,l,z⟩;exact⟨a,b,e,q,l,h.keep _ _ _ _ z⟩
 mono:=by rintro x c H Q d m ⟨a,b,e,q,l,z⟩;exact⟨a,b,e,q,l,h.mono _ _ _ _ _ m z⟩
def PCs (X:Cx)(d:Qi)(e:TT):Prop :=
 ∀(a:Qc) (s:Shared) (b:St) (H:Hp) (Q:Bool->Hp->Prop),Qr X a b H s->e b H Q ->
  wpAny (model X.prog X.w) X.A (forIn d true fun c r=>if r=true then do let f <- isTrue c X.env (eval c X.env);pure (ForInStep.yield f) else pure<|ForInStep.yield r) (TP X a b Q) X.xe s
def W3:TT:=fun _ H Q=>Q true H
def WB:PCs X [] W3:=fun _ _ _ H _ I h=>wpAny_tests_nil ⟨H,I,h⟩
def Ux  (h:PT X c tc):PCs X [c] tc:=fun a s b H Q I q=>wpAny_tests_one (h a s b H Q I q)
def OW      (I:Nat->Shared->Prop)
 (e:∀n s,I n s->wpAny (model prog w) A (pyNext it) (fun r i=>match r with
  |none=>R (.ok .next) i
  | some v=>wpAny (model prog w) A (letOwnedTupleGo target it v) (fun _ a=>wpAny (model prog w) A (assign target env v) (fun _ p =>
   wpAny (model prog w) A (forIn ifs true fun c r=>if r=true then do let f <- isTrue c env (eval c env);pure (ForInStep.yield f) else pure<|ForInStep.yield r) (fun f g =>
    if f=true then wpAny (model prog w) A (eval elt env) (fun x l =>
     wpAny (model prog w) A (call (.builtin "list.append") [acc,x]) (fun _ j => ∃m,m<n/\I m j) (fun _ _=>False) l) (fun _ _=>False) g
    else ∃m,m<n/\I m g) (fun _ _=>False) p) (fun _ _=>False) a) (fun _ _=>False) i) (fun _ _=>False) s)
 (n:Nat) (h:I n s) :
 codeAny (model prog w) A (.compLoop (.ListComp elt [⟨target,iter,ifs,0⟩] scope pos) 0 it acc env) R s:=by
 refine codeAny_loop rfl I (fun n s q=>?_) n h;show wpAny _ A ((compTurn (.ListComp elt [⟨target,iter,ifs,0⟩] scope pos) 0 it acc env).onRaise (fun x=>do noteFrame x env;theTreesLotGoes x)) _ _ s;refine wpAny_noted ?_;rw[compTurn_list];refine Xa (wpAny_standAt<|Xa<|wpAny_mono (e n s q) (fun r i o=>?_) fun _ _ b=>b.elim)
 cases r with
 |none=>exact Xk o
 |some v =>
   refine Xa (wpAny_mono o (fun _ a d=>?_) fun _ _ b=>b.elim);refine Xa (wpAny_mono d (fun _ p y=>Xa<|wpAny_mono y (fun f g k=>?_) fun _ _ b=>b.elim) fun _ _ b=>b.elim)
   cases f with
   |false=>exact Xk ⟨rfl,k⟩
   |true =>
     exact Xa (Xa<|wpAny_mono k (fun x l u=>Xa<|wpAny_mono u (fun _ j t=>Xk<|Xk ⟨rfl,t⟩) fun _ _ b=>b.elim) fun _ _ b=>b.elim)
theorem Qr.track {X:Cx}{d:Qc}{i:St}{H:Hp}{s:Shared}{a:Addr}{o:HO}(I:Qr X d i H s)(hn:H a=none)(h0:X.s₀.heap.objs.size<=a)(v:a≠X.env.locals)(w:∀x c,X.env.cells.lookup x=some c->c≠a)
 (t:∀p∈X.pn++d,p.1≠a) (new:ZA X.prog X.w (upd H a o) s.heap a o):Qr X d i (upd H a o) s where
 ok:=I.ok
 os:=I.os
 bare:=I.bare
 base :=
  { keep:=I.base.keep
    slot:=I.base.slot
    free:=fun b l q n m=>by rw[Qu<|Xr<|Xp (Xj q) h0];exact I.base.free b l q n m
    there:=I.base.there
    tups:=fun b h q=>by have z:=I.base.tups b h q;rw[Qu<|Zs z hn];exact z
    tupo:=I.base.tupo
    frzs:=fun b u h q=>by have z:=I.base.frzs b u h q;rw[Qu<|Zs z hn];exact z
    tbls:=fun b k q=>by obtain⟨f,z⟩:=I.base.tbls b k q;exact⟨f,by rw[Qu<|Zs z hn];exact z⟩ }
 loc:=I.loc
 cell:=I.cell
 free:=by rw[Qu v.symm];exact I.free
 freeC:=fun x c e=>by rw[Qu<|w x c e];exact I.freeC x c e
 pin:=fun p g=>by obtain⟨e,n,r⟩:=I.pin p g;exact⟨e,by rw[Qu<|t p g];exact n,r⟩
 hok:=fun b u e=>by
  by_cases j:b=a
  .subst j;rw[QC]at e;cases e;exact new
  .rw[Qu j]at e
   exact(I.hok b u e).stay (fun _ _ _ q=>q) (fun c q=>by rw[Qu<|Zs q hn];exact q) fun c h q=>by rw[Qu<|Zs q hn];exact q
 len:=I.len
def LCw (f:List (Option Nat))(g:TG)(l:TT)(k:TE)(j:St)(J:It)(Q:VK)(q:Hp):Prop :=
 ∃W:Nat->Nat->List V->Hp->Prop,(∃m,W 0 m [] q)/\∀i m c H,W i m c H ->
  (J.stop i H/\∀p,H p=none->Q (.ref p) (upd H p<|.lst c)) \/
  (J.go i H/\∀x h,J.yld i H x h->g x (Ya f j) h fun a o=>l a o fun b e =>
   if b=true then k a e fun y n=>c.length<sizeLine/\∃d,d<m/\W (i+1) d (c++[y]) n
   else ∃d,d<m/\W (i+1) d c e)
def tLC (f:List (Option Nat))(wi:TI)(g:CIn->TG)(d:CIn->TT)(b:CIn->TE):TE:=fun a H Q=>wi a H fun J e=>∀c:CIn,LCw f (g c) (d c) (b c) a J Q e
abbrev YC (its:Qe) (k:Nat):Obj:={ cls:=.type "list",data:=.seq its.toArray k }
structure TurnX (X:Cx)(tg:Expr)(J:It)(fp:Qg)(it:Addr)(tn:Nat->Heap->Prop):Prop where
 mem:it∈fp
 obj:∀i h,tn i h->∀b∈fp,∃o,h.get? b=some o/\∀v,o.data≠.cell v
 keep:∀i h h',tn i h->(∀b∈fp,∀o,h.get? b=some o->h'.get? b=some o)->tn i h'
 item:∀(X':Cx),X'.prog=X.prog->X'.w=X.w->X'.K=X.K->X'.A=X.A->X'.calm=X.calm->∀(i:Nat) (Xa0:Qc) (s:Shared) (σ:St) (H:Hp) (E:Qb),Qr X' Xa0 σ H s->(∀b∈fp,Yw X' Xa0 H b)->tn i s.heap->J.go i H ->
  wpAny (model X.prog X.w) X'.A (pyNext<|.ref it) (fun r s1=>∃u,r=some u /\
   wpAny (model X.prog X.w) X'.A (letOwnedTupleGo tg (.ref it) u) (fun _ s2=>∃x H',Qr X' Xa0 σ H' s2/\QM x u/\J.yld i H x H'/\tn (i+1) s2.heap/\∀b∈fp,H' b=none) E s1) E s
 done:∀(X':Cx),X'.prog=X.prog->X'.w=X.w->X'.K=X.K->X'.A=X.A->X'.calm=X.calm->∀(i:Nat) (Xa0:Qc) (s:Shared) (σ:St) (H:Hp) (E:Qb),Qr X' Xa0 σ H s->(∀b∈fp,Yw X' Xa0 H b)->tn i s.heap->J.stop i H ->
  wpAny (model X.prog X.w) X'.A (pyNext<|.ref it) (fun r s1=>r=none/\Qr X' Xa0 σ H s1) E s
 self:∀(A:Around) (i:Nat) (s:Shared) (Q:Qb) (E:Qb),tn i s.heap->Q (.ref it) s->wpAny (model X.prog X.w) A (pyIter<|.ref it) Q E s
def N3 (X:Cx)(a:Qc)(i:St)(j:Expr)(R:It->Hp->Prop)(c:Value)(f:Shared):Prop :=
 ∃(g:Addr) (h:Qg) (e:Nat->Heap->Prop) (J:It) (d:Hp),c=.ref g/\Qr X a i d f/\TurnX X j J h g e/\e 0 f.heap/\(∀b∈h,Yw X a d b)/\R J d
def PIH (X:Cx)(c iter:Expr)(wi:TI):Prop :=
 ∀(a:Qc) (s:Shared) (b:St) (H:Hp) (R:It->Hp->Prop),Qr X a b H s->wi b H R ->
  wpAny (model X.prog X.w) X.A (eval iter X.env) (fun v d=>wpAny (model X.prog X.w) X.A (pyIter v) (N3 X a b c R) X.xe d) X.xe s
def Turn.x    (T:Turn X.prog X.w X.K tg J fp it tn)(e:X.calm=true):TurnX X tg J fp it tn :=
 ⟨T.mem,T.obj,T.keep,fun d b a c _ h=>T.item d b a c<|h.trans e,fun d b a c _ h=>T.done d b a c<|h.trans e,T.self⟩
def PI.x  (h:PI X tg iter wi)(f:X.calm=true):PIH X tg iter wi:=fun a s b H R I q=>Q7 (h a s b H R I q) fun v m g=>Q7 g<|by rintro v l ⟨d,i,c,J,k,e,j,T,r⟩;exact⟨d,i,c,J,k,e,j,T.x f,r⟩
section
variable {X:Cx}{Xa0:Qc}{σ:St}{H2:Hp}{b7:Shared}
def RK {tg iter elt:Expr}{ifs:Qi}{scope:Scope}{pos:Pos}{N:Qh}{f:List (Option Nat)}{g:CIn->TG}{tc:CIn->TT}{te:CIn->TE}{cl:List (Str×Addr)}
 (ck:CompOk X.N X.env.scope N f scope)
 (hg:∀c,PG (ZL X N scope c) tg<|g c) (ht:∀c,TgOk f<|g c) (hcs:∀c,PCs (ZL X N scope c) ifs<|tc c) (he:∀c,PE (ZL X N scope c) elt<|te c)
 (I:Qr X Xa0 σ H2 b7) {it:Addr} {G:Qg} {tn:Nat->Heap->Prop} {J:It} (T:TurnX X tg J G it tn) (st:tn 0 b7.heap) (S:∀b∈G,Yw X Xa0 H2 b)
 {Q:VK} (hq:∀c:CIn,LCw f (g c) (tc c) (te c) σ J Q H2)
 (t:∀x c,cl.lookup x=some c->X.env.cells.lookup x=some c) (hcl2:∀p∈scope.names,p.2=NameKind.free->∃c,cl.lookup p.1=some c)
 {RR:Value->Addr->Result->Shared->Prop} {E:Qb}
 (hRR:∀(P C:Addr) (D:Hp) (R:Shared) (m':Str->Qf),R.heap.Ns C m'->Qr X Xa0 σ D R->D C=none->C≠X.env.locals->X.s₀.heap.objs.size<=C->(∀x c,X.env.cells.lookup x=some c->c≠C) ->
  (∀p∈X.pn++Xa0,p.1≠C)->Q (.ref P) D->RR (.ref P) C (.ok .next) R) :
 wpAny (model X.prog X.w) X.A (newList []) (fun P w=>wpAny (model X.prog X.w) X.A (newFunctionEnv scope X.env.globals cl [] X.env.qual none .none<|some X.env) (fun cenv bq =>
  codeAny (model X.prog X.w) X.A (.compStart (.ListComp elt [⟨tg,iter,ifs,0⟩] scope pos) 0 (.ref it) P { cenv with scope:=relabel scope X.env }) (RR P cenv.locals) bq) E w) E b7:=by
 refine wpAny_newObj_type (wpAny_newFunctionEnv ck.nocell (by intro y hy;simp at hy) (fun b8 bw bz=>?_) ck.kind);dsimp only at bw bz ⊢;have l:Qr X Xa0 σ H2 { b7 with heap:=b7.heap.push (YC [] 0) }:=I.kept (t':=b7.toks) fun b u e=>Xg _ e;have hD:(b7.heap.push<|YC [] 0).get? b7.heap.objs.size=some (YC [] 0):=Xz _ rfl;generalize hs3:({ b7 with heap:=b7.heap.push (YC [] 0) }:Shared)=w at l bw bz ⊢;have hp3:b7.heap.push (YC [] 0)=w.heap:=by rw[<- hs3]
 have hp3':b7.heap.push { cls:=.type "list",dict:=none,data:=.seq ([]:Qe).toArray }=w.heap:=hp3;rw[hp3]at hD;simp only[hp3']at bw bz ⊢;have Y:b7.heap.objs.size<w.heap.objs.size:=by rw[<- hp3,Ww];exact WN _
 have k3:∀b u,b7.heap.get? b=some u->w.heap.get? b=some u:=fun b u e=>by rw[<- hp3];exact Xg _ e
 have k1:∀b u,w.heap.get? b=some u->b8.get? b=some u:=fun b u e =>
  bz.extBut b u (Xr<|Xj e) (Xg _ e)
 have fpo:∀b∈G,b<b7.heap.objs.size:=fun b a=>by
  obtain⟨o,e,_⟩:=T.obj 0 _ st b a;exact Xj e
 have st1:tn 0 b8:=T.keep _ _ _ st fun b a o e=>k1 b o (k3 b o e);have fneC:∀b∈G,b≠w.heap.objs.size:=fun b a=>Xr (Nat.lt_trans (fpo b a) Y);have fneD:∀b∈G,b≠b7.heap.objs.size:=fun b a=>Xr (fpo b a)
 have O:∀x d,X.env.cells.lookup x=some d->d≠b7.heap.objs.size:=fun x d e=>by
  obtain⟨v,z⟩:=I.cell x d e;exact Xr z.lt
 have L:∀p∈X.pn++Xa0,p.1≠b7.heap.objs.size:=fun p H=>Xr (Xj (I.pin p H).1);have freeD:H2 b7.heap.objs.size=none:=I.fresh
 have stk:∀b,b≠X.env.locals->b∉X.fs->b∉frs X.stack:=fun b h1 h2 a=>by
  rcases Xf.mp (l.stkSub b a) with z|z
  .exact h1 z
  .exact h2 z
 have exD:∀b,b∈b7.heap.objs.size::G->b=b7.heap.objs.size\/b∈G:=fun b a=>Xf.mp a
 let c:CIn:=⟨cl,w.heap.objs.size,w,H2,b7.heap.objs.size::G,X.pn++Xa0⟩
 have M:(ZL X N scope c).Ok :=
  { mod:=l.ok.mod
    kind:=ck.kind
    glob:=l.ok.glob
    blt:=l.ok.blt
    above:=Xq _
    inj:=fun x y d h1 h2=>l.ok.inj x y d (t x d h1) (t y d h2)
    has:=fun x hx=>by
     rcases Ty hx with z|z
     .exact hcl2 (x,.free) (PySem.mem_of_lookup z) rfl
     .exact Xm rfl (ck.nocell (x,.cell)<|PySem.mem_of_lookup z)
    cab:=fun x d h=>Xm (show false=true from h) Xw
    hd:=l.ok.hd
    frames:=l.ok.frames
    stk:=.inl rfl
    exf:=fun b a=>by
     rcases exD b a with rfl|a
     .exact⟨Xr Y,fun x d e=>O x d<|t x d e⟩
     .exact⟨fneC b a,fun x d e=>(S b a).2.2.2.2.1 x d (t x d e)⟩
    bs:=fun b o e=>l.bs b o e
    bsz:=X7 l.ok.bsz l.sz
    noex:=fun b o e a=>by
     rcases exD b a with rfl|a
     .exact Xm (Xj<|I.bk _ _ e) (Yt _)
     .rcases(S b a).2.2.2.1 with z|z
      .exact l.ok.noex b o e z
      .exact Xm (Xp (Xj (l.ok.bs b o e).1) z) (Yt _)
    exfs:=fun b a=>by
     rcases exD b a with rfl|a
     .exact stk _ (VY I.lt) (I.nofs<|Xq _)
     .exact stk b (S b a).2.1 (S b a).2.2.1
    funs:=l.stack
    frf:=l.stkFree }
 have I4:Qr (ZL X N scope c) [(b7.heap.objs.size,YC [] 0)] (Ya f σ) H2 { w with heap:=b8,toks:=w.toks+([]:List (Str×Value)).length } :=
  { ok:=M
    os:=rfl
    bare:=l.bare
    base:=Un.kept k1
    loc:=⟨_,bw,fun i x v e1 e2 e3=>by
     have hfi:∃j,f[i]?=some (some j)/\σ[j]?=some (some v):=by
      unfold Ya at e2;rw[Xt]at e2;cases ef:f[i]? with
      |none=>rw[ef]at e2;cases e2
      |some o =>
        rw[ef]at e2;cases o with
        |none=>cases e2
        |some j =>
          refine⟨j,rfl,?_⟩;have e2':(σ[j]?).join=some v:=Option.some.inj e2
          cases es:σ[j]? with
          |none=>rw[es]at e2';cases e2'
          |some o2 =>
            rw[es]at e2';have:o2=some v:=e2';rw[this]
     obtain⟨j,ef,es⟩:=hfi;obtain⟨x',n1,n2,n3⟩:=ck.ix i j ef
     have:x'=x:=Option.some.inj (n1.symm.trans e1)
     subst this;have hfr:=ck.free (x',.free) (PySem.mem_of_lookup n3) rfl;obtain⟨m0,hm0,hl0⟩:=l.loc;obtain⟨u,ru,lk⟩:=hl0 j x' v n2 es (hfr.elim (fun z=>.inr<|.inl z) fun z=>.inr<|.inr z);refine⟨u,ru,.inr ⟨Tz n3,?_⟩⟩
     rcases lk with ⟨kl,_⟩|⟨_,d,ed,hd⟩
     .have kl':X.env.scope.names.lookup x'=some .local:=kl
      rcases hfr with z|z
      .rw[kl']at z;cases z
      .rw[kl']at z;cases z
     .obtain⟨d',ed'⟩:=hcl2 (x',.free) (PySem.mem_of_lookup n3) rfl
      have:d'=d:=Option.some.inj ((t x' d' ed').symm.trans ed)
      subst this;exact⟨d',ed',hd.keeps k1⟩⟩
    cell:=fun x d e=>by
     obtain⟨v,z⟩:=l.cell x d (t x d e)
     exact⟨v,z.keeps k1⟩
    free:=l.fresh
    freeC:=fun x d e=>l.freeC x d (t x d e)
    pin:=fun p H=>by
     rcases XB.mp (show p∈(X.pn++Xa0)++[(b7.heap.objs.size,YC [] 0)] from H) with hp'|hp'
     .obtain⟨e,n,ne,nf,d⟩:=l.pin p hp'
      exact⟨k1 _ _ e,n,Xr<|Xj e,stk p.1 ne nf,d⟩
     .have z:p=(b7.heap.objs.size,YC [] 0):=Xi.mp hp'
      subst z;exact⟨k1 _ _ hD,freeD,Xr Y,stk _ (VY I.lt)<|I.nofs<|Xq _,fun v z=>nomatch (show Data.seq _ _=Data.cell v from z)⟩
    hok:=l.hok.kept k1
    len:=by
     show(Ya f σ).length=N.length
     unfold Ya;rw[Xn];exact ck.len }
 have back:∀{σ':St} {D:Hp} {R:Shared} {ps:Qc},Qr (ZL X N scope c) ps σ' D R->Qr X Xa0 σ D R:=fun{σ' D R ps} J' =>
  l.call' (ch:=b7.heap.objs.size::G) J'.os J'.base J'.hok J'.bare fun b a=>by
   rcases exD b a with rfl|a
   .exact⟨.inr I.sz,VY I.lt,O,L⟩
   .exact⟨(S b a).2.2.2.1,(S b a).2.1,(S b a).2.2.2.2.1,(S b a).2.2.2.2.2⟩
 have fpX:∀{D:Hp} {ob:Obj},(∀b∈G,D b=none)->∀b∈G,Yw (ZL X N scope c) [(b7.heap.objs.size,ob)] D b:=fun{D ob} hn b a =>
  ⟨hn b a,(M.exf b<|Xe _ a).1,M.exfs b<|Xe _ a,.inl<|Xe _ a,(M.exf b<|Xe _ a).2,fun p H=>by
   rcases XB.mp (show p∈(X.pn++Xa0)++[(b7.heap.objs.size,ob)] from H) with z|z
   .exact(S b a).2.2.2.2.2 p z
   .have z:p=(b7.heap.objs.size,ob):=Xi.mp z
    subst z;exact(fneD b a).symm⟩
 obtain⟨W,⟨m0,w0⟩,turn⟩:=hq c
 have loop:∀s,s=({ w with heap:=b8,toks:=w.toks+([]:List (Str×Value)).length }:Shared) ->
  codeAny (model X.prog X.w) X.A (.compLoop (.ListComp elt [⟨tg,iter,ifs,0⟩] scope pos) 0 (.ref it) (.ref b7.heap.objs.size)<|compEnvC scope cl w.heap.objs.size X.env) (RR (.ref b7.heap.objs.size) w.heap.objs.size) s:=by
  rintro s rfl
  refine OW (fun n R=>∃i D U m k,Qr (ZL X N scope c) [(b7.heap.objs.size,YC m k)] (Ya f σ) D R/\QP U m/\U.length<=sizeLine/\tn i R.heap/\(∀b∈G,D b=none)/\W i n U D) ?_ m0 ⟨0,_,[],[],0,I4,.nil,XM _,st1,fun b a=>(S b a).1,w0⟩
  rintro n s5 ⟨i,H5,U,m,k,I5,Z,hz5,st5,fr5,w5⟩
  rcases turn i n U H5 w5 with ⟨stop,qn⟩|⟨go,step⟩
  .refine Q7 (T.done (ZL X N scope c) rfl rfl rfl rfl rfl i _ s5 (Ya f σ) H5 _ I5 (fpX fr5) st5 stop) ?_;rintro r s6 ⟨hr,I6⟩
   subst hr;obtain⟨m6,hn6,_⟩:=id I6.loc;obtain⟨eD,nD,_⟩:=I6.pin (b7.heap.objs.size,YC m k) (XX _<|Xi.mpr rfl);have I7:Qr X Xa0 σ (upd H5 b7.heap.objs.size<|.lst U) s6:=(back I6).track nD I.sz (VY I.lt) O L ⟨hz5,m,k,Z,eD⟩;refine hRR _ _ _ s6 m6 hn6 I7 (by rw[Qu<|VY Y];exact I6.free) (VY l.lt) l.sz (fun x d e=>?_) (fun p H=>?_) (qn _ nD)
   .obtain⟨v,z⟩:=l.cell x d e
    exact Xr z.lt
   .exact Xr (Xj (l.pin p H).1)
  .refine Q7 (T.item (ZL X N scope c) rfl rfl rfl rfl rfl i _ s5 (Ya f σ) H5 _ I5 (fpX fr5) st5 go) ?_;rintro r s6 ⟨u,hr,h6⟩
   subst hr;refine Q7 h6 ?_;rintro _ s7 ⟨x,H7,I7,r7,y7,st7,fr7⟩;have I7':=I7.pinned (fpX fr7) (T.obj _ _ st7);refine Q7 (hg c _ s7 (Ya f σ) H7 x u _ I7' r7<|(ht c).keep _ _ _ _ (step x H7 y7)) ?_;rintro _ s8 ⟨A,H8,I8,kp8,q8⟩
   have wk:∀(j:Nat) v,(Ya f σ)[j]?=some (some v)->A[j]?=some (some v):=fun j v e=>by
    have ef:∃k,f[j]?=some (some k):=by
     have e':=e;unfold Ya at e';rw[Xt]at e';cases q:f[j]? with
     |none=>rw[q]at e';cases e'
     |some o =>
       cases o with
       |none=>rw[q]at e';cases e'
       |some k=>exact⟨k,rfl⟩
    obtain⟨k,ef⟩:=ef;rw[kp8.2 j k ef];exact e
   have recs:∀{H9:Hp} {s9:Shared} {ob:Obj},Qr (ZL X N scope c) ([(b7.heap.objs.size,ob)]++Go G s7.heap) A H9 s9->tn (i+1) s9.heap/\∀b∈G,H9 b=none:=fun{H9 s9 ob} I9 =>
    ⟨T.keep _ _ _ st7 fun b a o e=>(I9.pin (b,o)<|XX _<|XX _<|Ma a e).1,fun b a=>by
     obtain⟨o,e,d⟩:=T.obj _ _ st7 b a
     exact(I9.pin (b,o)<|XX _<|XX _<|Ma a e).2.1⟩
   refine Q7 (hcs c _ s8 A H8 _ I8 q8) ?_;rintro ok s9 ⟨H9,I9,q9⟩
   cases ok with
   |false =>
     obtain⟨m',hm,w9⟩:=(show ∃m',m'<n/\W (i+1) m' U H9 from q9);obtain⟨z1,z2⟩:=recs I9
     exact⟨m',hm,i+1,H9,U,m,k,(I9.unpinned).weak kp8.1.symm wk,Z,hz5,z1,z2,w9⟩
   |true =>
     refine Q7 (he c _ s9 A H9 _ I9 (show te c A H9 _ from q9)) ?_;rintro v B ⟨y,H10,I10,r10,hlen,m',hm,w10⟩;obtain⟨eD,nD,neD,nfD,dD⟩:=I10.pin (b7.heap.objs.size,YC m k) (XX _<|UK _<|Xi.mpr rfl);obtain⟨z1,z2⟩:=recs I10;have lv:=Z.length;refine call_meets F.slot_list_append ⟨_,eD,rfl⟩ F.entry_list_append (F.args_list_append_2 _ _) (PySem.list_append b7.heap.objs.size m.toArray k v<|by rw[Xv];omega) ⟨eD,?_⟩;have q:=PySem.IsL.update eD (·.push v);have hf:m.toArray.push v=(m++[v]).toArray:=by simp
     rw[hf]at q;have I11:Qr (ZL X N scope c) [] A H10 { B with heap:=B.heap.update b7.heap.objs.size (Obj.mapSeq (·.push v)) } :=
      (I10.pins_of (pins':=[]) fun p H=>Xm H<|by simp).turned (t':=B.toks) (it:=b7.heap.objs.size) (fun b o a e=>(XQ B.heap (Obj.mapSeq (·.push v))<|Ne.symm a).trans e) nD neD (.inl Xb) (M.exf _ Xb).2 fun p H=>by
       have z:p∈(X.pn++Xa0)++[]:=H;rw[XF]at z;exact L p z
     have I12:Qr (ZL X N scope c) [(b7.heap.objs.size,YC (m++[v]) _)] A H10 { B with heap:=B.heap.update b7.heap.objs.size (Obj.mapSeq (·.push v)) } :=
      I11.pins_of fun p H=>by
       have z:p=(b7.heap.objs.size,_):=Xi.mp H;subst z;exact⟨q,nD,neD,nfD,fun v z=>nomatch (show Data.seq _ _=Data.cell v from z)⟩
     refine⟨m',hm,i+1,H10,U++[y],m++[v],_,I12.weak kp8.1.symm wk,Z.append<|.cons r10 .nil,by rw[Xo,List.length_singleton];omega,?_,z2,w10⟩;exact T.keep _ _ _ z1 fun b a o e=>(XQ B.heap (Obj.mapSeq (·.push v)) (fneD b a).symm).trans e
 exact codeAny_compStart_list (loop _<|by rw[<- hs3]) (T.self _ 0 _ _ _ st1<|loop _<|by rw[<- hs3])
def Gi
 (Z:U5 NX sc N f scope=true) (r:X.N=NX) (m:X.env.scope=sc) (E:PIH X tg iter wi)
 (F:∀c,PG (ZL X N scope c) tg<|g c) (y:∀c,TgOk f<|g c) (n:∀c,PCs (ZL X N scope c) ifs<|tc c) (L:∀c,PE (ZL X N scope c) elt<|te c)
 (z:∀x,foldedSetIterable iter X.env x=pure x:=by intro _;rfl):PE X (.ListComp elt [⟨tg,iter,ifs,0⟩] scope pos) (tLC f wi g tc te):=by
 subst r m;intro Xa0 s σ H Q I h;have a:=P7 Z;obtain⟨cl,d,l,k⟩:=To (scope:=scope) (env:=X.env) fun p B G=>I.ok.has p.1 (a.free p B G);rw[eval_ListComp];refine wpAny_comprehension_free (use:=none) rfl z d a.kind a.names (Q7 (E Xa0 s σ H _ I h) fun xv b6 b8=>Q7 b8 fun w b7 bj=>?_);obtain⟨it,fp,tn,J,H2,e,I2,T,t,Y,A⟩:=bj;subst e;refine RK (RR:=fun i C=>compPost (model X.prog X.w) X.A X.xe none (EP X Xa0 σ Q) i C) a F y n L I2 T t Y A l k ?_;intro i C H' u v D I' P O U S R q;exact⟨v,D,fun W j=>⟨.ref i,H',I'.turned (t':=u.toks) (fun b o M e=>(j.2 b M).trans e) P O (.inr U) S R,rfl,q⟩⟩
def W8
 (l:X.calm=true) (m:U5 NX sc N f scope=true) (d:X.N=NX) (a:X.env.scope=sc) (i:PI X tg iter wi)
 (j:∀c,PG (ZL X N scope c) tg<|g c) (e:∀c,TgOk f<|g c) (b:∀c,PCs (ZL X N scope c) ifs<|tc c) (k:∀c,PE (ZL X N scope c) elt<|te c)
 (h:∀x,foldedSetIterable iter X.env x=pure x:=by intro _;rfl):PE X (.ListComp elt [⟨tg,iter,ifs,0⟩] scope pos) (tLC f wi g tc te) :=
 Gi m d a (i.x l) j e b k h
def Il  {k:Pos}
 (hN:X.N.Nodup) (E:X.N[i]?=some x) (M:X.env.scope.names.lookup x=some .local)
 (ck:U5 NX sc N f scope=true) (G:X.N=NX) (A:X.env.scope=sc) (hi:PIH X tg iter wi)
 (hg:∀c,PG (ZL X N scope c) tg<|g c) (Z:∀c,TgOk f<|g c) (F:∀c,PCs (ZL X N scope c) ifs<|tc c) (he:∀c,PE (ZL X N scope c) elt<|te c)
 (y:swapsWith (.ListComp elt [⟨tg,iter,ifs,0⟩] scope pos) (some<|.Name x n) k.line X.env=pure true)
 (hs:∀x,foldedSetIterable iter X.env x=pure x:=by intro _;rfl):PS X (.Assign [.Name x n] (.ListComp elt [⟨tg,iter,ifs,0⟩] scope pos) k) (Vp (tLC f wi g tc te)<|Vd i):=by
 subst G A;intro Xa0 s σ H D I h;have d:=P7 ck;obtain⟨cl,l,u,t⟩:=To (scope:=scope) (env:=X.env) fun p hp hf=>I.ok.has p.1 (d.free p hp hf);rw[exec_Assign_Name_used _ _ _ _ y];refine Xa (wpAny_standAt<|Xa ?_);show wpAny _ X.A (do let _ <- comprehension (.ListComp elt [⟨tg,iter,ifs,0⟩] scope pos) scope X.env _ (newList []) false (eval iter X.env) (some<|assign (.Name x n) X.env)) _ _ s
 refine Xa (wpAny_mono (wpAny_comprehension_free (use:=some (assign (.Name x n) X.env)) (Q:=fun _ m=>SP X Xa0 D .next m) rfl hs l d.kind d.names
  (Q7 (hi Xa0 s σ H _ I h) fun xv b6 b8=>Q7 b8 fun Y b7 bj=>?_)) (fun _ m B=>Xk<|Xk B) fun _ _ e=>e)
 obtain⟨it,fp,tn,J,H2,e,I2,T,R,f2,B⟩:=bj;subst e;refine RK (RR:=fun j C=>compPost (model X.prog X.w) X.A X.xe (some<|assign (.Name x n) X.env) (fun _ m=>SP X Xa0 D .next m) j C) d hg Z F he I2 T R f2 B u t ?_;intro j C H' m W hn I' hC O h0 P h2 q;show wpAny _ X.A (assign (.Name x n) X.env<|.ref j) _ _ _;refine wpAny_assign_Name (P5 I' hN E (.inl M) (v:=.ref j) rfl ?_<|.inr M);rintro w L ⟨a,S,ha⟩
 have U:C≠a:=by
  rcases ha with z|z
  .rw[z];exact O
  .exact(P _ _ z).symm
 refine⟨W,hn.sameBut S U,fun h'' r=>?_⟩
 exact⟨_,H',L.turned (t':=w.toks) (fun b o hb e=>(r.2 b hb).trans e) hC O (.inr h0) P h2,q⟩
def S6  {a:Pos}
 (r:X.N.Nodup) (e:X.N[i]?=some x) (k:X.env.scope.names.lookup x=some .local)
 (q:X.calm=true) (s:U5 NX sc N f scope=true) (j:X.N=NX) (d:X.env.scope=sc) (n:PI X tg iter wi)
 (o:∀c,PG (ZL X N scope c) tg<|g c) (l:∀c,TgOk f<|g c) (h:∀c,PCs (ZL X N scope c) ifs<|tc c) (p:∀c,PE (ZL X N scope c) elt<|te c)
 (b:swapsWith (.ListComp elt [⟨tg,iter,ifs,0⟩] scope pos) (some<|.Name x px) a.line X.env=pure true)
 (m:∀x,foldedSetIterable iter X.env x=pure x:=by intro _;rfl):PS X (.Assign [.Name x px] (.ListComp elt [⟨tg,iter,ifs,0⟩] scope pos) a) (Vp (tLC f wi g tc te)<|Vd i) :=
 Il r e k s j d (n.x q) o l h p b m
end
mutual
inductive Rep (H:Hp):V->PyData->Prop
 |non:Rep H .non .none
 |bl (b:Bool):Rep H (.bl b) (.bool b)
 |int (i:Int):Rep H (.int i) (.int i)
 |str (x:Str):Rep H (.str x) (.str x)
 |lst {a:Addr} {xs:List V} {ds:Qd}:H a=some (.lst xs)->Qx H xs ds->Rep H (.ref a) (.list ds)
 |tup {a:Addr} {xs:List V} {ds:Qd}:H a=some (.tup xs)->Qx H xs ds->Rep H (.ref a) (.tuple ds)
 |dct {a:Addr}:H a=some (.dK [])->Rep H (.ref a) (.dict [])
inductive Qx (H:Hp):List V->Qd->Prop
 |nil:Qx H [] []
 |cons {x:V} {xs:List V} {d:PyData} {ds:Qd}:Rep H x d->Qx H xs ds->Qx H (x::xs) (d::ds)
end
mutual
theorem Rep.mono {H a:Hp}(s:Q3 H a):∀{v:V} {d:PyData},Rep H v d->Rep a v d
 |_,_,.non=>.non
 |_,_,.bl b=>.bl b
 |_,_,.int i=>.int i
 |_,_,.str x=>.str x
 |_,_,.lst h r=>.lst (s _ _ h) (Qx.mono s r)
 |_,_,.tup h r=>.tup (s _ _ h) (Qx.mono s r)
 |_,_,.dct h=>.dct (s _ _ h)
theorem Qx.mono {H a:Hp}(s:Q3 H a):∀{vs:List V} {ds:Qd},Qx H vs ds->Qx a vs ds
 |_,_,.nil=>.nil
 |_,_,.cons r t=>.cons (Rep.mono s r) (Qx.mono s t)
end
theorem Qx.length {H:Hp}:∀{vs:List V} {ds:Qd},Qx H vs ds->vs.length=ds.length
 |_,_,.nil=>rfl
 |_,_,.cons _ t=>by simp[Qx.length t]
theorem Qx.get {H:Hp}:∀{vs:List V} {ds:Qd} {i:Nat} {d:PyData},Qx H vs ds->ds[i]?=some d->∃v,vs[i]?=some v/\Rep H v d
 |_,_,_,_,.nil,e=>by simp at e
 |_,_,0,_,.cons r _,e=>by simp at e;subst e;exact⟨_,rfl,r⟩
 |_,_,i+1,d,.cons _ t,e=>by
   obtain⟨u,b,a⟩:=Qx.get (i:=i) (d:=d) t (by simpa using e)
   exact⟨u,by simpa using b,a⟩
theorem Qx.snoc {H:Hp}{v:V}{d:PyData}:∀{vs:List V} {ds:Qd},Qx H vs ds->Rep H v d->Qx H (vs++[v]) (ds++[d])
 |_,_,.nil,h=>.cons h .nil
 |_,_,.cons r t,h=>.cons r (Qx.snoc t h)
theorem Qx.append {H:Hp}:∀{vs ws:List V} {ds es:Qd},Qx H vs ds->Qx H ws es->Qx H (vs++ws) (ds++es)
 |_,_,_,_,.nil,s=>s
 |_,_,_,_,.cons r t,s=>.cons r (Qx.append t s)
theorem Qx.set {H:Hp}{v:V}{d:PyData}(r:Rep H v d):∀{vs:List V} {ds:Qd} (i:Nat),Qx H vs ds->Qx H (vs.set i v) (ds.set i d)
 |_,_,_,.nil=>.nil
 |_,_,0,.cons _ t=>.cons r t
 |_,_,i+1,.cons q t=>.cons q (Qx.set r i t)
theorem GC {H:Hp}:∀{vs:List V} {l:Ql},Qx H vs (l.map PyData.int)->vs=l.map V.int
 |_,[],.nil=>rfl
 |_,i::l,.cons (.int _) t=>by rw[Xu,GC t]
section
variable {X:Cx}{Xa0:Qc}{σ:St}{H:Hp}{s:Shared}
mutual
theorem Rep.reads (I:Qr X Xa0 σ H s):∀{v:V} {d:PyData} {u:Value},Rep H v d->QM v u->∃as,Reads s.heap u d as
 |_,_,_,.non,r=>by cases r;exact⟨_,.none⟩
 |_,_,_,.bl b,r=>by cases r;exact⟨_,.bool b⟩
 |_,_,_,.int i,r=>by obtain⟨t,rfl⟩:=r;exact⟨_,.int i t⟩
 |_,_,_,.str x,r=>by obtain⟨t,rfl⟩:=r;exact⟨_,.str x t⟩
 |_,_,_,.lst h q,r=>by
   cases r
   obtain⟨z,g,n,a,e⟩:=I.hok _ _ h;obtain⟨as,f⟩:=Qx.reads I q a
   exact⟨_,.list e rfl rfl (by simpa using f)⟩
 |_,_,_,.tup h q,r=>by
   cases r
   obtain⟨z,g,a,o,e,c,n,j⟩:=I.hok _ _ h;obtain⟨as,f⟩:=Qx.reads I q a
   exact⟨_,.tuple e c j<|by simpa using f⟩
 |_,_,_,.dct h,r=>by
   cases r
   obtain⟨z,y,w,m,A,p,B,e,c,j,_,l,_⟩:=I.hok _ _ h
   cases m
   have k:p.toList=[]:=Nc l.length
   exact⟨_,.dict (kvs:=[]) e c.1 j (by rw[k];exact .nil)<|by rw[k];exact .nil⟩
theorem Qx.reads (I:Qr X Xa0 σ H s):∀{vs:List V} {ds:Qd} {us:Qe},Qx H vs ds->QP vs us->∃as,ReadsAll s.heap us ds as
 |_,_,_,.nil,r=>by cases r;exact⟨_,.nil⟩
 |_,_,_,.cons q t,r=>by
   cases r with
   |cons d c =>
     obtain⟨as,b⟩:=Rep.reads I q d;obtain⟨e,a⟩:=Qx.reads I t c
     exact⟨_,.cons b a⟩
end
def VA (d:PyData):Prop:=d.canLay0=true/\d.depth<=60
def Nm:R2:=fun x y H Q=>∃d e,Rep H x d/\Rep H y e/\VA d/\VA e/\Q (.bl<|PyData.eqv d e) H
def Nn:R2:=fun x y H Q=>∃d e,Rep H x d/\Rep H y e/\VA d/\VA e/\Q (.bl<|!PyData.eqv d e) H
def Ru (l:X.A.units+64<cLine):OpR X (compareOp .Eq) Nm:=by
 intro Xa0 s σ H x y v u Q I c b h;obtain⟨d,e,j,i,a,k,q⟩:=h;obtain⟨p,g⟩:=j.reads I c;obtain⟨o,f⟩:=i.reads I b;refine SeqAt.compareEq_reads g f a.1 k.1 ?_ ⟨.bl<|PyData.eqv d e,H,I,rfl,q⟩;have n:=a.2;have m:min d.depth e.depth<=d.depth:=Nat.min_le_left _ _;omega
def Ry (l:X.A.units+64<cLine):OpR X (compareOp .NotEq) Nn:=by
 intro Xa0 s σ H x y v u Q I c b h;obtain⟨d,e,j,i,a,k,q⟩:=h;obtain⟨p,g⟩:=j.reads I c;obtain⟨o,f⟩:=i.reads I b;refine SeqAt.compareNe_reads g f a.1 k.1 ?_ ⟨.bl<|!PyData.eqv d e,H,I,rfl,q⟩;have n:=a.2;have m:min d.depth e.depth<=d.depth:=Nat.min_le_left _ _;omega
end
def G9 (f:VA d):PyData.eqv d d=true:=SeqAt.eqv_refl d f.1
def Rf {a:Type}{xs:List a}{i:Int}{v:a}(h:atI xs i=some v):∃j:Nat,xs[j]?=some v/\ixN xs.length i=some j:=by
 unfold atI at h;cases e:ixN xs.length i with
 |none=>rw[e]at h;cases h
 |some j=>rw[e]at h;exact⟨j,h,rfl⟩
inductive TyN (H:Hp):V->String->Prop
 |non:TyN H .non "NoneType"
 |bl (b:Bool):TyN H (.bl b) "bool"
 |int (i:Int):TyN H (.int i) "int"
 |str (x:Str):TyN H (.str x) "str"
 |lst {a:Addr} {xs:List V}:H a=some (.lst xs)->TyN H (.ref a) "list"
 |tup {a:Addr} {xs:List V}:H a=some (.tup xs)->TyN H (.ref a) "tuple"
 |dct {a:Addr}:H a=some (.dK [])->TyN H (.ref a) "dict"
def tyD:PyData->String
 |.none => "NoneType"
 |.bool _ => "bool"
 |.int _ => "int"
 |.str _ => "str"
 |.list _ => "list"
 |.tuple _ => "tuple"
 |.dict _ => "dict"
def Rep.ty  (r:Rep H v d):TyN H v (tyD d):=by
 cases r with
 |non=>exact .non
 |bl b=>exact .bl b
 |int i=>exact .int i
 |str x=>exact .str x
 |lst h _=>exact .lst h
 |tup h _=>exact .tup h
 |dct h=>exact .dct h
def Yx (T c:String):Option Bool :=
 if c = "int" then some (T == "int" || T == "bool") else if c = "bool" then some (T == "bool") else if c = "list" then some (T == "list") else if c = "tuple" then some (T == "tuple") else if c = "str" then some (T == "str") else if c = "dict" then some (T == "dict") else none
def Cz      (d:s.heap.get? a=some o) (f:o.cls=.type "list") (e:Yx "list" c=some b) (h:∀t,Q (.bool b) { s with toks:=t }) :
 wpAny (model prog w) A (call (.builtin "isinstance") [.ref a,.type c]) Q E s:=by
 unfold Yx at e;split at e
 .rename_i z;subst z;cases e;exact IsiPair.list_int d f (h _)
 .split at e
  .rename_i z;subst z;cases e;exact IsiPair.list_bool d f (h _)
  .split at e
   .rename_i z;subst z;cases e;exact IsiPair.list_list d f (h _)
   .split at e
    .rename_i z;subst z;cases e;exact IsiPair.list_tuple d f (h _)
    .split at e
     .rename_i z;subst z;cases e;exact IsiPair.list_str d f (h _)
     .split at e
      .rename_i z;subst z;cases e;exact IsiPair.list_dict d f (h _)
      .cases e
def Fo      (d:s.heap.get? a=some o) (f:o.cls=.type "tuple") (e:Yx "tuple" c=some b) (h:∀t,Q (.bool b) { s with toks:=t }) :
 wpAny (model prog w) A (call (.builtin "isinstance") [.ref a,.type c]) Q E s:=by
 unfold Yx at e;split at e
 .rename_i z;subst z;cases e;exact IsiPair.tuple_int d f (h _)
 .split at e
  .rename_i z;subst z;cases e;exact IsiPair.tuple_bool d f (h _)
  .split at e
   .rename_i z;subst z;cases e;exact IsiPair.tuple_list d f (h _)
   .split at e
    .rename_i z;subst z;cases e;exact IsiPair.tuple_tuple d f (h _)
    .split at e
     .rename_i z;subst z;cases e;exact IsiPair.tuple_str d f (h _)
     .split at e
      .rename_i z;subst z;cases e;exact IsiPair.tuple_dict d f (h _)
      .cases e
def LJ      (d:s.heap.get? a=some o) (f:o.cls=.type "dict") (e:Yx "dict" c=some b) (h:∀t,Q (.bool b) { s with toks:=t }) :
 wpAny (model prog w) A (call (.builtin "isinstance") [.ref a,.type c]) Q E s:=by
 unfold Yx at e;split at e
 .rename_i z;subst z;cases e;exact IsiPair.dict_int d f (h _)
 .split at e
  .rename_i z;subst z;cases e;exact IsiPair.dict_bool d f (h _)
  .split at e
   .rename_i z;subst z;cases e;exact IsiPair.dict_list d f (h _)
   .split at e
    .rename_i z;subst z;cases e;exact IsiPair.dict_tuple d f (h _)
    .split at e
     .rename_i z;subst z;cases e;exact IsiPair.dict_str d f (h _)
     .split at e
      .rename_i z;subst z;cases e;exact IsiPair.dict_dict d f (h _)
      .cases e
def Ao      (f:TyN H x T)(rx:QM x u)(d:∀a,x≠.ref a)(e:Yx T c=some b)(h:∀t,Q (.bool b) { s with toks:=t }) :
 wpAny (model prog w) A (call (.builtin "isinstance") [u,.type c]) Q E s:=by
 unfold Yx at e;split at e
 .rename_i z;subst z;cases e
  cases f with
  |non=>cases rx;exact IsiPair.NoneType_int (h _)
  |bl b=>cases rx;exact IsiPair.bool_int (h _)
  |int i=>obtain⟨t,rfl⟩:=rx;exact IsiPair.int_int (h _)
  |str i=>obtain⟨t,rfl⟩:=rx;exact IsiPair.str_int (h _)
  |lst _=>exact Xm rfl (d _)
  |tup _=>exact Xm rfl (d _)
  |dct _=>exact Xm rfl (d _)
 .split at e
  .rename_i z;subst z;cases e
   cases f with
   |non=>cases rx;exact IsiPair.NoneType_bool (h _)
   |bl b=>cases rx;exact IsiPair.bool_bool (h _)
   |int i=>obtain⟨t,rfl⟩:=rx;exact IsiPair.int_bool (h _)
   |str i=>obtain⟨t,rfl⟩:=rx;exact IsiPair.str_bool (h _)
   |lst _=>exact Xm rfl (d _)
   |tup _=>exact Xm rfl (d _)
   |dct _=>exact Xm rfl (d _)
  .split at e
   .rename_i z;subst z;cases e
    cases f with
    |non=>cases rx;exact IsiPair.NoneType_list (h _)
    |bl b=>cases rx;exact IsiPair.bool_list (h _)
    |int i=>obtain⟨t,rfl⟩:=rx;exact IsiPair.int_list (h _)
    |str i=>obtain⟨t,rfl⟩:=rx;exact IsiPair.str_list (h _)
    |lst _=>exact Xm rfl (d _)
    |tup _=>exact Xm rfl (d _)
    |dct _=>exact Xm rfl (d _)
   .split at e
    .rename_i z;subst z;cases e
     cases f with
     |non=>cases rx;exact IsiPair.NoneType_tuple (h _)
     |bl b=>cases rx;exact IsiPair.bool_tuple (h _)
     |int i=>obtain⟨t,rfl⟩:=rx;exact IsiPair.int_tuple (h _)
     |str i=>obtain⟨t,rfl⟩:=rx;exact IsiPair.str_tuple (h _)
     |lst _=>exact Xm rfl (d _)
     |tup _=>exact Xm rfl (d _)
     |dct _=>exact Xm rfl (d _)
    .split at e
     .rename_i z;subst z;cases e
      cases f with
      |non=>cases rx;exact IsiPair.NoneType_str (h _)
      |bl b=>cases rx;exact IsiPair.bool_str (h _)
      |int i=>obtain⟨t,rfl⟩:=rx;exact IsiPair.int_str (h _)
      |str i=>obtain⟨t,rfl⟩:=rx;exact IsiPair.str_str (h _)
      |lst _=>exact Xm rfl (d _)
      |tup _=>exact Xm rfl (d _)
      |dct _=>exact Xm rfl (d _)
     .split at e
      .rename_i z;subst z;cases e
       cases f with
       |non=>cases rx;exact IsiPair.NoneType_dict (h _)
       |bl b=>cases rx;exact IsiPair.bool_dict (h _)
       |int i=>obtain⟨t,rfl⟩:=rx;exact IsiPair.int_dict (h _)
       |str i=>obtain⟨t,rfl⟩:=rx;exact IsiPair.str_dict (h _)
       |lst _=>exact Xm rfl (d _)
       |tup _=>exact Xm rfl (d _)
       |dct _=>exact Xm rfl (d _)
      .cases e
section
variable {X:Cx}
def AN:Zl X (.builtin "isinstance") (fun xs H Q=>∃x T c b,xs=[x,.ty c]/\TyN H x T/\Yx T c=some b/\Q (.bl b) H):=by
 intro l s v H xs D Q I r h;obtain⟨x,T,c,b,rfl,m,e,q⟩:=h;obtain⟨u,w,rfl,i,B⟩:=Ui r
 cases (show w=Value.type c from B)
 have d:∀t,EP X l v Q (.bool b) { s with toks:=t }:=fun t=>⟨.bl b,H,I.tok t,rfl,q⟩
 by_cases p:∀a,x≠.ref a
 .exact Ao m i p e d
 .cases m with
  |lst f =>
    cases i
    obtain⟨z,j,n,A,g⟩:=I.hok _ _ f;exact Cz g rfl e d
  |tup f =>
    cases i
    obtain⟨z,j,A,o,g,k,n,L⟩:=I.hok _ _ f;exact Fo g k e d
  |dct f =>
    cases i
    obtain⟨z,y,C,F,E,G,J,g,k,_⟩:=I.hok _ _ f;exact LJ g k.1 e d
  |_=>exact Xm (by rintro a ⟨⟩) p
def Ug (_ j:Int):Prop:=0<j/\j<2^8000
def Fs (h:Ug 0 j):j.natAbs.log2<9000:=by
 have b:j.natAbs≠0:=by have:=h.1;omega
 have a:j.natAbs<2^8000:=by have:=h.2;have:=h.1;omega
 have:=(Nat.log2_lt b).mpr a
 omega
def WE:OpR X (binaryOp .FloorDiv) (rI Ug fun i j=>.int<|i/j):=opI fun i j _ _ _ _ _ a q=>by
 have e:i.fdiv j=i/j:=Int.fdiv_eq_ediv_of_nonneg _ (Int.le_of_lt a.1);refine floordiv_int (Int.ne_of_gt a.1) ?_ (.inl<|PyProof.noPylong_of_log2<|Fs a);rw[e];exact q
end
def Q3.upd  (s:Q3 H H')(h:H a=none):Q3 H (L2.upd H' a o):=fun b u e=>by
 rw[Qu<|Zs e h];exact s b u e
def Q3.new  (h:H a=none):Q3 H (L2.upd H a o):=(Q3.refl H).upd h
end L2
end
section
namespace Att
open PySem PySem.W PySem.Calls PyProof.Rows
theorem Tf:∀(ns:Ql) (i:Int),i∈ns->Builtin.Int.intBits i<=WData.weightAll (ns.map WData.int)
 |[],i,h=>by simp at h
 |n::ns,i,h=>by
   rw[Xu,WData.weightAll];rcases Xf.mp h with rfl|h
   .have:WData.weight (.int i)=Builtin.Int.intBits i:=by rw[WData.weight];rfl
    omega
   .have:=Tf ns i h
    omega
def Fj {ns:Ql}(h:WData.layableAll [WData.list<|ns.map WData.int]=true):∀i∈ns,Builtin.Int.intBits i<=2^20:=fun i b=>by
 have c:=layableW_arg h (WData.list<|ns.map WData.int) (Xi.mpr rfl);obtain⟨_,_,a⟩:=layableW_iff.mp c;rw[WData.weight]at a;exact X7 (Tf ns i b) a
def attach_callW {l:OpenLaw}
 (hn:l.most=some n) (A:d.params.defaults=[])
 (call:∀(w:World) (b c:Shared) (t x:Str->Qf) (p:Addr) (o:Obj) (v u g:Value) (a:Addr) (vs:Qe) (ns:Ql),
  Ground q loose [] XP w b t x c.heap->YP w c.heap ->
  c.heap.get? p=some o->o.data=.func (docDef d.name d.params d.body d.scope v u g)->c.heap.CodeRec u d.name->t d.name=some (.ref p) ->
  c.heap.get? a=some { cls:=.type "list",data:=.seq vs.toArray }->IntsAre vs ns->ns.length<=n->(∀i∈ns,Builtin.Int.intBits i<=2^20)->c.gens=#[] ->
  codeAny (model l.prog w) callerA (.call (.ref p) ⟨[.ref a],[]⟩) (fun r s=>r=.ok (.ret<|.bool true)/\OldK c.heap s.heap/\s.os=c.os/\AllBare s.gens) c) :
 WalkO q loose XP YP l.row.toRowW d [] (fun f vs=>PySem.call f vs):=by
 intro w b c t x G Y p o v u g R kV I N B D z M E C S h m F y L;obtain rfl:R=.none:=Dflts.none D A
 obtain rfl:kV=.none:=Dflts.noKw D;obtain⟨a,vs,ns,rfl,rfl,j,e,k⟩:=E6 hn h y;refine enter_call (codeAny_mono (call w b c t x p o v u g a vs ns G Y I (fd_plain N) B z j e k (Fj m) M) fun r s H=>?_)
 obtain⟨rfl,Q,P,O⟩:=H
 exact⟨.inl ⟨.bool true,.bool true,[],rfl,fun _=>rfl,.bool true,EN l _,fun _=>⟨List.Pairwise.nil,fun _ J=>(nomatch J)⟩⟩,Q,P,O⟩
end Att
namespace L2
open PySem PySem.Spec PyProof.Rows
structure Scr (K:W.Frag)(H:Hp)(a:Addr)(ns:Ql):Prop where
 sq:SqL K H a (ns.map V.int)
 len:ns.length<=63
 bits:∀i∈ns,Builtin.Int.intBits i<=2^20
def Scr.mono {K:W.Frag}{H b:Hp}{a:Addr}{ns:Ql}(h:Scr K H a ns)(s:Q3 H b):Scr K b a ns:=⟨s.seq h.sq,h.len,h.bits⟩
structure Df (K:W.Frag)(mg:Str->Qf)(x:Str)(st:Stmt)(ps:Qh):Prop where
 ex:∃f fd,Fun K x x st f fd/\mg x=some (.ref f)/\Vj K fd ps []
def QD (P:Program)(w:World)(K:W.Frag)(a:Str->Qf)(base:Heap)(x:Str)(ps:Qh)(k:Nat)(c:Sp):Prop :=
 ∃f b,a x=some (.ref f)/\W.keepIn K (.ref f)=true/\Vj K b ps []/\FnOk P w K a base CX0 k f b ps c
def Df.cal {P:Program}{w:World}{K:W.Frag}{d:Str->Qf}{base:Heap}{x:Str}{st:Stmt}{N ps:Qh}{k:Nat}{c:Sp}(D:Df K d x st ps)(S:Qp N ps (Q2 st))(e:∀vs H Q E,c vs H Q E->vs.length=ps.length)
 (g:∀(f:Addr) (b:Value) (A:Around) (a:List Env) (s:Shared) (H:Hp) (vs:List V) (Q:VK) (E:XK),Room k (A.deeper<|envOfC x (Q2 st) s.heap.objs.size f b)->c vs H Q E ->
  ∃t,PSs (Vo CX0 P w K d base N x (Q2 st) f b A a s H E).nox (Z7 st) t/\t { nx:=fun _ n=>Q .non n,rt:=Q } (start N vs) H):QD P w K d base x ps (k+1) c:=by
 obtain⟨f,m,F,j,l⟩:=D.ex
 exact⟨f,m,j,F.kp,l,F.ok S e fun b A a s H vs Q E i h=>g f b A a s H vs Q E i h⟩
section
variable {X:Cx}
def QG {x:Str}{p a:Pos}{e:Expr}{es:Qi}{t:TA}{ps:Qh}{j k:Nat}{d:Sp}(C:QD X.prog X.w X.K X.mg X.base x ps j d)(g:Room k X.A)(q:PA X (e::es) t)(l:j<=k:=by walk_at"j")(m:Gl X x:=by rfl)
 (c:(x==("__debug__" : Str))=false:=by decide +kernel)
 (n:starEach (e::es) X.env=(false,eval e X.env)::starEach es X.env:=by rfl) (b:(backTo a<|starEach es X.env).any (·.1)=false:=by rfl):PE X (.Call (.Name x p) (e::es) [] a) (VH d [] E0 t):=by
 obtain⟨f,r,h,i,o,F⟩:=C;exact RU F (g.mono l) m h i o .nil J9 q c n b
end
def Yj:bootBuiltins "len"=some (.builtin "len"):=by decide +kernel
def D7:bootBuiltins "max"=some (.builtin "max"):=by decide +kernel
def Bu:bootBuiltins "min"=some (.builtin "min"):=by decide +kernel
def Rr:bootBuiltins "sum"=some (.builtin "sum"):=by decide +kernel
def Vb:bootBuiltins "isinstance"=some (.builtin "isinstance"):=by decide +kernel
def DL:bootBuiltins "int"=some (.type "int"):=by decide +kernel
def Cn:bootBuiltins "bool"=some (.type "bool"):=by decide +kernel
def RS:bootBuiltins "list"=some (.type "list"):=by decide +kernel
def Hz:bootBuiltins "tuple"=some (.type "tuple"):=by decide +kernel
mutual
theorem Rep.uniq {H:Hp}:∀{v:V} {d e:PyData},Rep H v d->Rep H v e->d=e
 |_,_,_,.non,.non=>rfl
 |_,_,_,.bl b,.bl _=>rfl
 |_,_,_,.int b,.int _=>rfl
 |_,_,_,.str b,.str _=>rfl
 |_,_,_,.lst h r,.lst a c=>by
   rw[h]at a;cases a;rw[Qx.uniq r c]
 |_,_,_,.tup h r,.tup a c=>by
   rw[h]at a;cases a;rw[Qx.uniq r c]
 |_,_,_,.lst h r,.tup a c=>by rw[h]at a;cases a
 |_,_,_,.tup h r,.lst a c=>by rw[h]at a;cases a
 |_,_,_,.dct h,.dct a=>rfl
 |_,_,_,.lst h r,.dct a=>by rw[h]at a;cases a
 |_,_,_,.tup h r,.dct a=>by rw[h]at a;cases a
 |_,_,_,.dct h,.lst a c=>by rw[h]at a;cases a
 |_,_,_,.dct h,.tup a c=>by rw[h]at a;cases a
theorem Qx.uniq {H:Hp}:∀{vs:List V} {ds es:Qd},Qx H vs ds->Qx H vs es->ds=es
 |_,_,_,.nil,.nil=>rfl
 |_,_,_,.cons r t,.cons b a=>by rw[Rep.uniq r b,Qx.uniq t a]
end
mutual
def noL:PyData->Bool
 |.none=>true
 |.bool _=>true
 |.int _=>true
 |.str _=>true
 |.list _=>false
 |.dict _=>false
 |.tuple a=>noLs a
def noLs:Qd->Bool
 |[]=>true
 |d::a=>noL d&&noLs a
end
mutual
theorem Rep.updL {H:Hp}{l:Addr}{us zs:List V}(a:H l=some (.lst us)):∀{v:V} {d:PyData},noL d=true->Rep H v d->Rep (L2.upd H l<|.lst zs) v d
 |_,_,_,.non=>.non
 |_,_,_,.bl b=>.bl b
 |_,_,_,.int i=>.int i
 |_,_,_,.str x=>.str x
 |_,_,h,.lst _ _=>by simp[noL]at h
 |_,_,h,.tup c r=>.tup (by rw[Qu<|NG c a<|by intro z;cases z];exact c) (Qx.updL a (by simpa [noL] using h) r)
theorem Qx.updL {H:Hp}{l:Addr}{us zs:List V}(a:H l=some (.lst us)):∀{vs:List V} {ds:Qd},noLs ds=true->Qx H vs ds->Qx (L2.upd H l<|.lst zs) vs ds
 |_,_,_,.nil=>.nil
 |_,_,h,.cons r t=>.cons (Rep.updL a (by simp[noLs]at h;exact h.1) r) (Qx.updL a (by simp[noLs]at h;exact h.2) t)
end
def PX (a b:Int):Builtin.Range.rangeSize a b (-1)=((a-b).toNat:Int):=by
 unfold Builtin.Range.rangeSize;simp only[show ¬((-1:Int) > 0) by decide,if_false,show(-(-1):Int)=1 from rfl,Int.ediv_one]
 split<;>omega
def O1 (ha : -(2^62)<=a)(d:a<2^62)(hb : -(2^62)<=b)(c:b<2^62):Builtin.Range.small a b (-1)=true:=by
 unfold Builtin.Range.small;rw[PX];simp only[Builtin.Range.rangeFitsLong,YZ,Bool.or_eq_true,decide_eq_true_eq,beq_iff_eq,show ¬((-1:Int) > 0) by decide,if_false];omega
def MP (a:Int)(n:Nat):It:=⟨fun i _=>i<n,fun i H x b=>b=H/\x=.int (a-i),fun i _=>n<=i⟩
theorem O0 {P:Program}{w:World}{K:W.Frag}{tg:Expr}(it:Addr)(d:Int)(n:Nat):Turn P w K tg (MP d n) [it] it (fun i h=>IsRangeIter h it (d+(i:Nat)*(-1)) ((n:Int)-(i:Nat)) (-1)) where
 mem:=by simp
 obj:=fun i h a b c=>by
  have e:b=it:=by simpa using c
  subst e;exact⟨_,a,fun v z=>by
   have F:Data.fields _=Data.cell v:=z
   cases F⟩
 keep:=fun i h l a k=>k it (by simp) _ a
 item:=by
  intro X r m u q i g s D H E I j a p;subst r m u;obtain⟨C,B,L,A,y,x⟩:=j it (by simp);have W:=Walks.range (prog:=X.prog) (w:=X.w) (I.ok.hd q) it d (-1) n;refine W.item i s _ _ p a fun v l tk J f G=>?_;obtain⟨t,rfl⟩:=J;have N:Qr X g D H { s with heap:=l,toks:=tk }:=I.turned (fun b o c e=>G b o (by simpa using c) e) C B A y x;refine⟨_,rfl,Ge (s:={ s with heap:=l,toks:=tk }) (n := "range_iterator") f rfl rfl (by decide) ⟨.int<|d-i,H,N,⟨t,?_⟩,⟨rfl,rfl⟩,f,fun b c=>(j b c).1⟩⟩;rw[show d+(i:Int)*(-1)=d-i by omega]
 done:=by
  intro X r m u q i g s D H E I j a p;subst r m u;obtain⟨C,B,L,A,y,x⟩:=j it (by simp);exact wpAny_pyNext_range_end (I.ok.hd q) a (by have:n<=i:=p;omega) fun l M=>⟨rfl,I.turned (t':=s.toks) (fun b o c e=>M b o c e) C B A y x⟩
 self:=fun _ _ _ _ _ a h=>wpAny_pyIter_rangeiter a h
section
variable {X:Cx}{tg:Expr}
def Ea {c:Qc}{d:St}{H:Hp}{s:Shared}{R:It->Hp->Prop}{E:Qb}{lo a:Int}{t u v:Tok}{f:Nat}(I:Qr X c d H s)(h1 : -(2^62)<=a)(j:a<2^62)(h3 : -(2^62)<=lo)(i:lo<2^62)
 (q:R (MP a (a-lo).toNat) H):wpAny (model X.prog X.w) X.A (pyIter<|.ref s.heap.objs.size) (PIE X c d tg R) E { s with heap:=s.heap.push { cls:=.type "range",data:=.fields #[.int a t,.int lo u,.int (-1) v] },toks:=f }:=by
 refine wpAny_pyIter_range (IsRange.new ..) (O1 h1 j h3 i) ?_;have g:Qr X c d H { s with heap:=s.heap.push { cls:=.type "range",data:=.fields #[.int a t,.int lo u,.int (-1) v] },toks:=f }:=I.kept fun b o e=>Xg _ e
 refine⟨(s.heap.push { cls:=.type "range",data:=.fields #[.int a t,.int lo u,.int (-1) v] }).objs.size,[(s.heap.push { cls:=.type "range",data:=.fields #[.int a t,.int lo u,.int (-1) v] }).objs.size],_,_,H,rfl,
  g.kept (t':=f) fun b o e=>Xg _ e,O0 _ a (a-lo).toNat,?_,fun b h=>?_,q⟩
 .have l:a+((0:Nat):Int)*(-1)=a:=by simp
  have k:(((a-lo).toNat:Nat):Int)-((0:Nat):Int)=Builtin.Range.rangeSize a lo (-1):=by rw[PX];omega
  show IsRangeIter _ _ (a+((0:Nat):Int)*(-1)) ((((a-lo).toNat:Nat):Int)-((0:Nat):Int)) (-1);rw[l,k];exact Xz _ rfl
 .have e:b=(s.heap.push { cls:=.type "range",data:=.fields #[.int a t,.int lo u,.int (-1) v] }).objs.size:=by simpa using h
  subst e;exact g.fpOk (Xq _) (g.hok.fresh<|Xq _)
def NO (c:TA):TI:=fun a H R=>c a H fun b d=>∃i j:Int,b=[.int i,.int j,.int (-1)]/\(-(2^62)<=i/\i<2^62 /\ -(2^62)<=j/\j<2^62)/\R (MP i (i-j).toNat) d
def EM {a b c:Expr} {m:TA} {p f:Pos} (B:Gl X "range") (A:X.mg "range"=none) (C:PA X [a,b,c] m) (z:starEach [a,b,c] X.env=[(false,eval a X.env),(false,eval b X.env),(false,eval c X.env)]:=by rfl)
 (g:starEach [b,c] X.env=[(false,eval b X.env),(false,eval c X.env)]:=by rfl):PI X tg (.Call (.Name "range" p) [a,b,c] [] f) (NO m):=by
 intro l s n H R I h;refine Call_ (Jd I B A boot_range<|PyProof.Rows.callWith_type1 (Q7 (C f l s n H _ I h) ?_) (by rw[z,g])<|by rw[g];rfl);rintro F L ⟨E,M,D,u,k⟩;obtain⟨i,j,e,⟨k,y,x,w⟩,q⟩:=k;subst e;cases u with
 |cons r d =>
   cases d with
   |cons v d =>
     cases d with
     |cons o d =>
       cases d
       obtain⟨t,rfl⟩:=r;obtain⟨J,rfl⟩:=v;obtain⟨G,rfl⟩:=o;exact call_range_3 (by decide) (Ea D k y x w q) (.inl<|PyProof.noPylong_small<|by decide)
end
def Bb (K:W.Frag):V->V->Hp->VK->Prop:=fun o i H Q=>∃p a k v,o=.ref p/\i=.int k/\SqL K H p a/\0<=k/\a[k.toNat]?=some v/\Q v H
def O6 (ns:Ql):preSum (fun i=>ns.getD i 0) ns.length=ns.sum:=by
 have a:∀k,k<=ns.length->preSum (fun i=>ns.getD i 0) k=(ns.take k).sum:=by
  intro k;induction k with
  |zero=>intro _;simp[preSum]
  |succ k b =>
    intro d;have c:k<ns.length:=by omega
    rw[JV,List.sum_append,<- b (by omega)];simp[preSum,c]
 rw[a ns.length<|Xq _,Jr]
theorem Jf:∀{vs:Qe} {ns:Ql} {i:Nat} {v:Value},IntsAre vs ns->vs[i]?=some v->∃t,v=.int (ns.getD i 0) t
 |_,_,_,_,.nil,e=>by simp at e
 |_,_,0,_,.cons n t h,e=>by simp at e;exact⟨t,by simp[<- e]⟩
 |_,_,i+1,v,.cons n t h,e=>by
   obtain⟨a,z⟩:=Jf (i:=i) (v:=v) h (by simpa using e)
   exact⟨a,by simpa using z⟩
def OX  {A:Around}    (r:A.handled=none)(j:s.heap.IsList l vs.toArray)(m:IntsAre vs ns)
 (h:∀h' p t',(∀b o,s.heap.get? b=some o->h'.get? b=some o)->Q (.int ns.sum t') { s with heap:=h',toks:=p }):wpAny (model prog w) A (call (.builtin "sum") [.ref l]) Q E s:=by
 obtain⟨o,k,F,n,D⟩:=id j;have g:l≠s.heap.objs.size:=Xr (Xj k);have W:=(Walks.list (prog:=prog) (w:=w) (A:=A.in1) r s.heap.objs.size l g vs.toArray).toS;refine call_sum_walkAnyS (wpAny_pyIter_list j ?_);refine⟨s.heap.objs.size,_,_,_,_,_,_,fun i=>ns.getD i 0,rfl,W,⟨⟨_,Xz _ rfl,rfl,rfl⟩,j.at fun o e=>Xg _ e⟩,fun b a=>?_,fun i v t=>Jf m<|by simpa using t,fun q t' c=>?_⟩
 .rcases Xf.mp a with rfl|a
  .exact Xj (Xz _ rfl)
  .obtain rfl:=Xi.mp a
   exact Xj (Xg _ k)
 .obtain⟨h',u,C,d,f⟩:=q
  have B:u=s.gens:=c.gens;have z:C=s.drawn:=c.drawn;have y:f=s.os:=c.os;subst B z y;have x:vs.toArray.size=ns.length:=by rw[Xv,m.length]
  rw[x,O6];exact h h' d t' fun b o e=>c.heap b o (fun a=>Xm (Xj e)<|(Xi.mp a)▸Yt _) (Xg _ e)
section
variable {X:Cx}
def U4:Nv X (Bb X.K):=by
 intro u s x H o i y z Q I d e h;obtain⟨p,c,k,v,rfl,rfl,j,m,b,q⟩:=h
 cases d
 obtain⟨t,rfl⟩:=e;obtain⟨g,r,f,A⟩:=I.list j;obtain⟨w,n,a⟩:=r.get b;have C:=r.length;have B:=JI;have l:k.toNat<c.length:=(Xh.mp b).1;exact wpAny_getItem_list f.isList m (by omega) (by simpa using n) ⟨v,H,I,a,q⟩
def EC:Zl X (.builtin "sum") (fun xs H Q=>X.calm=true/\∃(x:V) (ns:Ql),xs=[x]/\Rep H x (.list<|ns.map PyData.int)/\Q (.int ns.sum) H):=by
 intro j s l H xs m Q I r h;obtain⟨f,x,ns,rfl,e,q⟩:=h;obtain⟨u,rfl,a⟩:=YQ r
 cases e with
 |lst g c =>
   cases a
   have i:=GC c;subst i;obtain⟨d,b,p,t⟩:=I.list (SqL.of (K:=X.K) g);exact OX (I.ok.hd f) p.isList (BZ b) fun v n o k=>⟨.int ns.sum,H,I.kept k,⟨_,rfl⟩,q⟩
end
def Qr.turnedL {X:Cx}{f:Qc}{g:St}{H:Hp}{s:Shared}{h':Heap}{t':Nat}{ch:Qg}(I:Qr X f g H s)(k:∀b o,b∉ch->s.heap.get? b=some o->h'.get? b=some o)(d:∀b∈ch,Yw X f H b):Qr X f g H { s with heap:=h',toks:=t' }:=by
 refine I.step (g':=s.gens) (d':=s.drawn) (ch:=ch) (fun b l=>?_) (fun b o _ _ a e _=>k b o a e) (fun b o _ _ a e _=>⟨o.slots,k b o a e⟩) (fun _ _ _ _ n=>n)
  (fun b o a e=>⟨o,k b o a e⟩) (fun _ _ e=>e) (fun _ _ _ e=>e) (fun b B e=>⟨#[],by rw[e];simp⟩) (fun m j=>?_) (fun b u e=>?_) I.bare (fun b _ o a _ e=>k b o a e)
 .obtain⟨D,x,C,w,t,p⟩:=d b l
  exact⟨w,x,t,p⟩
 .obtain⟨o,y,A,i,r⟩:=j
  exact⟨o,y,A,k _ o (fun z=>(d _ z).2.1 rfl) i,r⟩
 .refine(I.hok b u e).stay (fun c v a q=>k c v (fun z=>?_) q) (fun _ q=>q) fun _ _ q=>q
  have h:=(d c z).1
  rcases a with rfl|a
  .rw[h]at e;cases e
  .rw[h]at a;cases a
def Qr.trackTup {X:Cx}{a:Qc}{d:St}{H:Hp}{g s:Shared}{T:Addr}{x y:V}{u v:Value}(b:Qr X a d H g)(I:Qr X a d H s)(hT:g.heap.objs.size<=T)(rx:QM x u)(h:QM y v)(f:s.heap.IsTuple T #[u,v]):Qr X a d (upd H T<|.tup [x,y]) s:=by
 refine I.track (b.hok.fresh hT) (X7 b.sz hT) (VY<|Xp b.lt hT) (fun z c e q=>?_) (fun p j q=>?_) ⟨by show 2<=sizeLine;decide,[u,v],.cons rx<|.cons h .nil,f⟩
 .obtain⟨w,i⟩:=b.cell z c e
  exact Xm (Xp i.lt<|by rw[q];exact hT) (Yt _)
 .exact Xm (Xp (Xj (b.pin p j).1)<|by rw[q];exact hT) (Yt _)
def Ite (K:W.Frag)(a:Addr):It :=
 ⟨fun i H=>∃b x,SqL K H a b/\b[i]?=some x,
  fun i H v c=>∃p x,H p=none/\v=.ref p/\c=upd H p (.tup [.int (i:Int),x])/\∀b,SqL K H a b->b[i]?=some x,
  fun i H=>∃b,SqL K H a b/\i=b.length⟩
theorem IJ {P:Program}{w:World}{K:W.Frag}{m:Qi}{k:Nat}{B:Pos}{e it a:Addr}(L:e≠it)(J:a≠e)(G:a≠it) :
 Turn P w K (.Tuple m k B) (Ite K a) [e,it] e (fun i h=>(∃d,IsEnum h e it i d)/\h.IsListIter it a i) where
 mem:=by simp
 obj:=fun i h g c r=>by
  obtain⟨⟨d,f⟩,o1,e1,c1,d1⟩:=g;simp only[Xf,XO,or_false]at r;rcases r with rfl|rfl
  .exact⟨_,f,by rintro v ⟨⟩⟩
  .exact⟨_,e1,fun v z=>by rw[d1]at z;cases z⟩
 keep:=fun i h N g kk=>by
  obtain⟨⟨d,f⟩,u⟩:=g
  exact⟨⟨d,kk e (by simp) _ f⟩,u.at fun o x=>kk it (by simp) o x⟩
 item:=by
  intro X hP hw hK r i l s Q H E I O g hg;subst hP hw hK;obtain⟨xs,x,j,hx⟩:=hg;obtain⟨b,p,Y,Z⟩:=I.list j;obtain⟨u1,F,U⟩:=p.get hx;obtain⟨f,u⟩:=g;have W:=WalksT.enumerate (prog:=X.prog) (w:=X.w) (A:=X.A) (I.ok.hd r) e it a L J G b.toArray;have l1:i<b.length:=(Xh.mp F).1;have wr:∀c∈[e,it],Yw X l H c:=O;refine W.item i s _ _ (by simp only[Xv];omega) ⟨f,u,Y.isList⟩ fun T vals N tk pt hT tup C kp=>?_;obtain⟨t,R,e1,rfl⟩:=pt
  have ev1:R=u1:=by
   have:b[i]?=some R:=by simpa using e1
   rw[F]at this;exact(Option.some.inj this).symm
  subst ev1;have I1:Qr X l Q H { s with heap:=N,toks:=tk }:=I.turnedL kp wr;refine⟨.ref T,rfl,W.go m k B i T { s with heap:=N,toks:=tk } _ _ C fun M S D=>?_⟩;have I2:Qr X l Q H { s with heap:=M,toks:=tk }:=I1.turnedL (t':=tk) D wr
  have y:M.IsTuple T #[.int (i:Int) t,R]:=by
   obtain⟨o,ho,hcl,n,hd⟩:=tup
   exact⟨o,D T o (W.apart i T N C) ho,hcl,n,hd⟩
  have I3:=I.trackTup I2 hT (x:=.int (i:Int)) ⟨t,rfl⟩ U y;obtain⟨s1,s2,_⟩:=S;refine⟨.ref T,_,I3,rfl,⟨T,x,I.hok.fresh hT,rfl,rfl,fun xs' h=>by rw[I.list_inj h j];exact hx⟩,⟨s1,s2⟩,fun c q=>?_⟩
  have hlt:c<s.heap.objs.size:=by
   simp only[Xf,XO,or_false]at q;obtain⟨d,f⟩:=f
   rcases q with rfl|rfl
   .exact Xj f
   .obtain⟨_,z,_⟩:=u;exact Xj z
  rw[Qu<|Xr<|Xp hlt hT];exact(O c q).1
 done:=by
  intro X hP hw hK r i l s Q H E I O g hg;subst hP hw hK;obtain⟨xs,j,rfl⟩:=hg;obtain⟨b,p,Y,Z⟩:=I.list j;obtain⟨f,u⟩:=g;have W:=WalksT.enumerate (prog:=X.prog) (w:=X.w) (A:=X.A) (I.ok.hd r) e it a L J G b.toArray;have en:xs.length=b.toArray.size:=by simp[p.length]
  refine W.done s _ _ (by rw[<- en];exact⟨f,u,Y.isList⟩) fun N tk kp=>⟨rfl,I.turnedL kp O⟩
 self:=fun _ _ _ _ _ g h=>by
  obtain⟨⟨d,f⟩,_⟩:=g;exact wpAny_pyIter_enum f h
section
variable {X:Cx}
def NI (K:W.Frag)(f:TA):TI:=fun c H R=>f c H fun e b=>∃a,e=[.ref a]/\(∃d,SqL K b a d)/\R (Ite K a) b
def IR:bootBuiltins "enumerate"=some (.type "enumerate"):=by decide +kernel
def GG    (J:Gl X "enumerate") (G:X.mg "enumerate"=none) (L:PA X [a] ta) (E:starEach [a] X.env=[(false,eval a X.env)]:=by rfl) :
 PI X (.Tuple elts k tpos) (.Call (.Name "enumerate" p) [a] [] pos) (NI X.K ta):=by
 intro f s i H R I h;refine Call_ (Jd I J G IR<|PyProof.Rows.callWith_type1 (Q7 (L pos f s i H _ I h) ?_) E rfl);rintro S b ⟨Q,t,g,y,z⟩;obtain⟨x,e,⟨P,C⟩,q⟩:=z;subst e;obtain⟨u,rfl,v⟩:=YQ y
 cases v
 obtain⟨m,w,j,B⟩:=g.list C;refine call_enumerate_list j.isList fun N n M D A=>wpAny_pyIter_enum n ?_;have l:x<b.heap.objs.size:=by obtain⟨o,F,_⟩:=j.isList;exact Xj F
 have O:Qr X f i t { b with heap:=N }:=g.kept (t':=b.toks) A;refine⟨_,[b.heap.objs.size+1,b.heap.objs.size],_,_,t,rfl,O,IJ (e:=b.heap.objs.size+1) (it:=b.heap.objs.size) (a:=x) (Nat.succ_ne_self _) (Xr<|US l)<|Xr l,⟨⟨_,n⟩,M⟩,fun c r=>?_,q⟩
 have d:b.heap.objs.size<=c:=by
  simp only[Xf,XO,or_false]at r;rcases r with rfl|rfl
  .exact Nat.le_add_right _ _
  .exact Xq _
 exact g.fpOk d (g.hok.fresh d)
end
def Hk {s:Shared}{h':Heap}(c:∀b x,b∉[s.heap.objs.size]->(s.heap.push o).get? b=some x->h'.get? b=some x):∀b x,s.heap.get? b=some x->h'.get? b=some x :=
 fun b x e=>c b x (fun a=>by rw[Xi.mp a]at e;exact Yt _<|Xj e) (Xg _ e)
def Yu:Ql->Int
 |[]=>0
 |[a]=>a
 |a::b::r=>min a (Yu (b::r))
theorem Kb:∀{ns:Ql},ns≠[]->Yu ns∈ns/\∀a∈ns,Yu ns<=a
 |[],h=>Xm rfl h
 |[a],_=>by simp[Yu]
 |a::b::r,_=>by
   obtain⟨f,e⟩:=Kb (ns:=b::r) (by simp);simp only[Yu];refine⟨?_,fun c d=>?_⟩
   .by_cases h:a<=Yu (b::r)
    .rw[Int.min_eq_left h];exact Xb
    .rw[Int.min_eq_right<|by omega];exact Xe _ f
   .rcases Xf.mp d with rfl|d
    .omega
    .have:=e c d
     omega
def Cm  (b:M∈ns)(c:∀a∈ns,M<=a):M=Yu ns:=by
 obtain⟨e,d⟩:=Kb (ns:=ns) (fun z=>by rw[z]at b;cases b)
 have:=c _ e
 have:=d _ b
 omega
section
variable {X:Cx}
def NF (X:Cx):List V->Hp->VK->Prop:=fun b H Q=>X.calm=true/\∃(x:V) (a:Ql),b=[x]/\Rep H x (.list<|a.map PyData.int)/\a≠[]/\Q (.int<|Yu a) H
def Cc:Zl X (.builtin "min") (NF X):=by
 intro U s W H Z us Q I r h;obtain⟨P,x,d,rfl,M,w,q⟩:=h;obtain⟨u,rfl,G⟩:=YQ r
 cases M with
 |@lst l Y _ R L =>
   cases G
   have S:=GC L;subst S;obtain⟨c,J,p,hz⟩:=I.list (SqL.of (K:=X.K) R);have y:=p.isList;have z:=BZ J;have E:c.length=d.length:=z.length;have D:0<d.length:=M9.mpr w;have f:l<s.heap.objs.size:=by obtain⟨_,e,_⟩:=y;exact Xj e
   refine call_min_walk (wpAny_pyIter_list y ?_)
   refine⟨s.heap.objs.size,[s.heap.objs.size,l],[s.heap.objs.size],c.toArray.size,_,_,_,rfl,Walks.list (A:=X.A.in1) (I.ok.hd P) _ l (Xr f) c.toArray,
    ⟨⟨_,Xz _ rfl,rfl,rfl⟩,y.push _⟩,fun b m=>?_,by simp only[Xv];omega,CmpOf.ints_lt (fun i=>d.getD i 0) (fun i v n=>Jf z<|by simpa using n),fun v h' tk n N=>?_⟩
   .show b<(s.heap.push _).objs.size
    rw[Ww];rcases Xf.mp m with rfl|m
    .exact WN _
    .rcases Xf.mp m with rfl|m
     .exact US f
     .cases m
   .rw[List.getElem?_toArray]at n
    obtain⟨t,rfl⟩:=Jf z n;obtain⟨F,C⟩:=argBest_lt (fun i=>d.getD i 0) (c.toArray.size-1);have o:c.toArray.size=c.length:=by simp
    generalize argBest (fun i j=>decide (d.getD i 0<d.getD j 0)) (c.toArray.size-1)=k at F C ⊢;rw[o]at F C;have g:k<d.length:=by omega
    have T:d.getD k 0=Yu d:=by
     refine Cm (by simp[g]) fun a B=>?_;obtain⟨j,O,rfl⟩:=UJ.mp B
     have:=C j (by omega)
     simpa [O,g] using this
    exact⟨.int<|Yu d,H,I.kept<|Hk N,⟨t,by rw[T]⟩,q⟩
def NP (K:W.Frag):R2:=fun x y H Q=>∃a b c d,x=.ref a/\y=.ref b/\SqT K H a c/\SqT K H b d/\c.length+d.length<=sizeLine /\
 (c=[]->Q (.ref b) H)/\(c≠[]->d=[]->Q (.ref a) H)/\(c≠[]->d≠[]->∀p,H p=none->Q (.ref p) (upd H p<|.tup<|c++d))
def Hf:OpR X (binaryOp .Add) (NP X.K):=by
 intro e s r H x y v u Q I i g h;obtain⟨a,b,f,t,rfl,rfl,o,n,l,C,B,A⟩:=h
 by_cases c:f=[]
 .cases i
  cases g
  obtain⟨d,j,E,_⟩:=I.tuple o;obtain⟨k,w,D,_⟩:=I.tuple n;obtain⟨m,F⟩:=I.fr;have q:d=[]:=j.nil_iff.mpr c;exact add_tuples (news:=[]) F (by rintro p ⟨⟩) E D (fun _=>⟨.ref b,H,I,rfl,C c⟩) (fun z _=>Xm q z) (fun z=>Xm q z) (by rw[<- j.length,<- w.length];exact l)
 .exact Cb e s r H _ _ v u Q I i g ⟨a,b,f,t,rfl,rfl,o,n,c,l,B c,A c⟩
end
end L2
end
namespace Mir
def V4 (ns:Ql)(k:Int):Int:=ns.getD k.toNat 0
def Lu (x:Int):Nat:=if x==0 then 0 else x.natAbs.log2+1
def Nq (i:Int):Int:=if i<0 then -i else i
def mix (head k:Int):Nat->Int×Int×Int
 |0=>(head%2147483629+7919*k,69621*k+5,0)
 |i+1 =>
   ((((mix head k i).1*48271+11+(i:Int)*k)%2147483647),
    (((mix head k i).2.1*16807+((mix head k i).1*48271+11+(i:Int)*k)%2147483647)%2147483629),
    (mix head k i).2.2*2147483629+(((mix head k i).2.1*16807+((mix head k i).1*48271+11+(i:Int)*k)%2147483647)%2147483629*(((mix head k i).2.1*16807+((mix head k i).1*48271+11+(i:Int)*k)%2147483647)%2147483629)+((mix head k i).1*48271+11+(i:Int)*k)%2147483647)%2147483587)
def LF (ns:Ql)(k:Int):Int :=
 if V4 ns 0/720%2=1 then (mix (V4 ns 0) k 30).2.2 else Nq (V4 ns k)+(mix (V4 ns 0) k 30).2.2*2^Lu (Nq<|V4 ns k)
structure Ln where
 up:Option Nat
 bs:Ql
structure Yd where
 T:Nat
 ls:List Ln
def Zh (y:Yd)(k:Nat):Option Nat:=(y.ls[k]?).bind (·.up)
structure Yd.Ok (y:Yd):Prop where
 t1:1<=y.T
 t8:y.T<=8
 l1:1<=y.ls.length
 l5:y.ls.length<=5
 up0:Zh y 0=none
 ups:∀k,0<k->k<y.ls.length->∃a,Zh y k=some a/\a<k
 bl:∀l∈y.ls,l.bs.length=y.T
 bb:∀l∈y.ls,∀b∈l.bs,0<=b/\b<10^300
def Ha {b:Int}(h:b<10^30):b<10^300:=Int.lt_trans h (by decide +kernel)
def upF9(y:Yd):Nat->Nat->Qk
 |0,k=>[k]
 |n+1,k=>k::match Zh y k with
  |none=>[]
  |some a=>if a<k then upF9 y n a else []
theorem upE9(y:Yd):∀n k m,k<=n->k<=m->upF9 y n k=upF9 y m k
 |0,k,0,_,_=>rfl
 |0,k,m+1,h,_=>by
  cases Nat.le_zero.mp h;unfold upF9;cases Zh y 0<;>simp
 |n+1,k,0,_,h=>by
  cases Nat.le_zero.mp h;unfold upF9;cases Zh y 0<;>simp
 |n+1,k,m+1,h,g=>by
  unfold upF9;cases Zh y k with
  |none=>rfl
  |some a=>
   by_cases l:a<k
   .simp only[l,if_true,upE9 y n a m (by omega)<|by omega]
   .simp only[l,if_false]
def upL(y:Yd)(k:Nat):Qk:=upF9 y k k
theorem upD9(y:Yd)(k:Nat):upL y k=k::match Zh y k with|none=>[]|some a=>if a<k then upL y a else []:=by
 unfold upL;rw[upE9 y k k (k+1) (Nat.le_refl _)<|by omega]
 show k::_=_
 cases Zh y k with
 |none=>rfl
 |some a=>
  by_cases l:a<k
  .simp only[l,if_true,upE9 y k a a (by omega)<|Nat.le_refl _]
  .simp only[l,if_false]
def R8 (b:y.Ok)(d:k<y.ls.length):upL y k=if k=0 then [0] else k::upL y ((Zh y k).getD 0):=by
 rw[upD9];by_cases c:k=0
 .subst c;simp[b.up0]
 .obtain⟨a,e,l⟩:=b.ups k (by omega) d
  simp[e,l,c]
def Rn (y:Yd):∀k,∀j∈upL y k,j<=k:=by
 intro k;induction k using Nat.strongRecOn with
 |ind k d =>
   intro j b;rw[upD9]at b;rcases Xf.mp b with rfl|b
   .exact Xq _
   .cases e:Zh y k with
    |none=>rw[e]at b;simp at b
    |some a =>
      rw[e]at b;by_cases c:a<k
      .simp only[c,if_true]at b
       have:=d a c j b
       omega
      .simp only[c,if_false]at b;simp at b
def HQ (y:Yd)(k:Nat):k∈upL y k:=by rw[upD9];exact Xb
def D9 (b:y.Ok)(h0:0<k)(d:k<y.ls.length)(e:Zh y k=some a)(l:Nat)(c:l≠k):l∈upL y k↔l∈upL y a:=by
 rw[R8 b d,Xc<|by omega,e];simp only[Option.getD_some,Xf];constructor
 .rintro(h|h)
  .exact Xm h c
  .exact h
 .exact .inr
end Mir
namespace Mir
structure Gs where
 line:Nat
 first:Nat
 last:Nat
 want:Int
 most:Int
structure Gs.Ok (y:Yd)(g:Gs):Prop where
 ln:g.line<y.ls.length
 fl:g.first<=g.last
 lt:g.last<y.T
 w1:1<=g.want
 w2:g.want<10^300
 m1:1<=g.most
 m2:g.most<10^300
def gn0 (ns:Ql)(k:Nat):Int:=LF ns (6+(k:Int))
def gn1 (ns:Ql)(y:Yd)(k:Nat):Int:=gn0 ns k/(y.ls.length:Int)
def gn2 (ns:Ql)(y:Yd)(k:Nat):Int:=gn1 ns y k/(y.T:Int)
def gf (ns:Ql)(y:Yd)(k:Nat):Int:=gn1 ns y k%(y.T:Int)
def gl (ns:Ql)(y:Yd)(k:Nat):Int:=gf ns y k+gn2 ns y k%((y.T:Int)-gf ns y k)
def WC (g:Gs)(t:Int):Bool:=decide ((g.first:Int)<=t)&&decide (t<=(g.last:Int))
def ZG (y:Yd)(l:Nat)(t:Nat):Int:=(((y.ls[l]?).map (·.bs)).getD []).getD t 0
def Vy (a:List Gs)(t:Int)(l:Nat):Qk->Int
 |[]=>0
 |k::r=>(match a[k]? with|some g=>if g.line=l/\WC g t=true then g.most else 0|none=>0)+Vy a t l r
def Mu (c:List Gs)(t:Int)(l:Nat)(a b:Qk):Vy c t l (a++b)=Vy c t l a+Vy c t l b:=by
 induction a with
 |nil=>simp[Vy]
 |cons k r d=>simp only[Jq,Vy,d];omega
def JB (y:Yd)(b:Qn)(st:Qn)(j:Nat):Qn:=fun l=>st l+(if Zh y j=some l then min (st j) (b j) else 0)
def Yh (y:Yd)(b own:Qn):Nat->Qn
 |0=>own
 |i+1=>JB y b (Yh y b own i) (y.ls.length-1-i)
def Ym (y:Yd)(b own:Qn)(l:Nat):Int:=Yh y b own (y.ls.length-1) l
def passes (y:Yd)(b own:Qn)(l:Nat):Int:=min (Ym y b own l) (b l)
def WL (y:Yd)(b own:Qn)(l:Nat):Qn
 |0=>0
 |n+1=>WL y b own l n+(if Zh y (l+1+n)=some l then passes y b own (l+1+n) else 0)
theorem Th (y:Yd)(c:y.Ok)(b own:Qn)(l:Nat):∀i,i<=y.ls.length-1->y.ls.length-1-i<=l->∀d,i+d<=y.ls.length-1->Yh y b own (i+d) l=Yh y b own i l
 |i,f,e,0,_=>rfl
 |i,f,e,d+1,m=>by
   have g:=Th y c b own l i f e d (by omega);show JB y b (Yh y b own<|i+d) (y.ls.length-1-(i+d)) l=_;unfold JB;rw[g];by_cases h:0<y.ls.length-1-(i+d)
   .obtain⟨a,j,k⟩:=c.ups (y.ls.length-1-(i+d)) h (by omega)
    rw[j];have:¬some a=some l:=by
     intro z;injection z with z;omega
    rw[Xc this];omega
   .have:y.ls.length-1-(i+d)=0:=by omega
    omega
def Ol (a:y.Ok)(b own:Qn)(c:j<y.ls.length):Yh y b own (y.ls.length-1-j) j=Ym y b own j:=by
 unfold Ym;have:=Th y a b own j (y.ls.length-1-j) (by omega) (by omega) j (by omega);rw[show y.ls.length-1-j+j=y.ls.length-1 by omega]at this;exact this.symm
theorem Pk {y:Yd}(c:y.Ok)(b own:Qn)(l:Nat):∀i,i<=y.ls.length-1->Yh y b own i l+WL y b own l (y.ls.length-1-i-l)=own l+WL y b own l (y.ls.length-1-l)
 |0,_=>by simp[Yh]
 |i+1,s=>by
   have f:=Pk c b own l i (by omega)
   have e:Yh y b own (i+1) l=Yh y b own i l+(if Zh y (y.ls.length-1-i)=some l then passes y b own (y.ls.length-1-i) else 0):=by
    show JB y b (Yh y b own i) (y.ls.length-1-i) l=_;unfold JB passes;have j:y.ls.length-1-i<y.ls.length:=by have:=c.l1;omega
    have h:=Ol c b own j;rw[show y.ls.length-1-(y.ls.length-1-i)=i by omega]at h;rw[h]
   rw[e];by_cases r:l<y.ls.length-1-i
   .obtain⟨d,m⟩:∃d,y.ls.length-1-i-l=d+1:=⟨y.ls.length-1-i-l-1,by omega⟩
    rw[m]at f;have g:y.ls.length-1-(i+1)-l=d:=by omega
    rw[g];have o:l+1+d=y.ls.length-1-i:=by omega
    simp only[WL,o]at f;omega
   .have p:y.ls.length-1-i-l=0:=by omega
    have g:y.ls.length-1-(i+1)-l=0:=by omega
    rw[p]at f;rw[g];have:¬Zh y (y.ls.length-1-i)=some l:=by
     intro z;have k:0<y.ls.length-1-i:=by omega
     obtain⟨a,n,q⟩:=c.ups (y.ls.length-1-i) k (by omega);rw[n]at z;injection z with z;omega
    rw[Xc this];simp only[WL]at f ⊢;omega
def Aj (a:y.Ok)(b own:Qn)(l:Nat):Ym y b own l=own l+WL y b own l (y.ls.length-1-l):=by
 have h:=Pk a b own l (y.ls.length-1) (Xq _);rw[show y.ls.length-1-(y.ls.length-1)-l=0 by omega]at h;simp only[WL]at h;unfold Ym;omega
end Mir
namespace Mir
def Q6 (f:Qn):Qn
 |0=>0
 |n+1=>Q6 f n+f n
theorem Zt {f g:Qn}:∀{n:Nat},(∀k,k<n->f k=g k)->Q6 f n=Q6 g n
 |0,_=>rfl
 |n+1,h=>by
   simp only[Q6];rw[Zt (n:=n) fun k a=>h k<|by omega,h n<|by omega]
theorem Wn {f g:Qn}:∀{n:Nat},(∀k,k<n->f k<=g k)->Q6 f n<=Q6 g n
 |0,_=>Jt _
 |n+1,h=>by
   simp only[Q6];have:=Wn (n:=n) fun k a=>h k (by omega)
   have:=h n (by omega)
   omega
theorem G7 (f g:Qn):∀n,Q6 (fun k=>f k+g k) n=Q6 f n+Q6 g n
 |0=>rfl
 |n+1=>by simp only[Q6];rw[G7 f g n];omega
theorem BJ (c:Int)(f:Qn):∀n,Q6 (fun k=>c*f k) n=c*Q6 f n
 |0=>by simp[Q6]
 |n+1=>by simp only[Q6];rw[BJ c f n,Int.mul_add]
theorem VX:∀n,Q6 (fun _=>0) n=0
 |0=>rfl
 |n+1=>by simp only[Q6];rw[VX n];rfl
theorem U6 {a:Nat}{v:Int}:∀{n:Nat},Q6 (fun l=>if l=a then v else 0) n=if a<n then v else 0
 |0=>by simp[Q6]
 |n+1=>by
   simp only[Q6];rw[U6 (n:=n)]
   by_cases h:n=a
   .subst h;simp
   .by_cases b:a<n
    .simp[h,b];omega
    .have:¬a<n+1:=by omega
     simp[h,b,this]
def So  (h:∀k,k<n->0<=f k):0<=Q6 f n:=by
 have:=Wn (f:=fun _=>0) (g:=f) (n:=n) h
 rw[VX]at this;exact this
def wgt (a:List Gs)(t:Int)(l k:Nat):Int:=match a[k]? with|some g=>if g.line=l/\WC g t=true then g.most else 0|none=>0
def Cj (a:List Gs)(t:Int)(l k:Nat):Vy a t l [k]=wgt a t l k:=by
 simp only[Vy,wgt];cases a[k]? with
 |none=>rfl
 |some g=>simp
def Iw (a:List Gs)(t:Int)(l:Nat)(p:Qm)(m:Nat):Vy a t l ((List.range m).filter p)=Q6 (fun k=>if p k=true then wgt a t l k else 0) m:=by
 induction m with
 |zero=>rfl
 |succ m b =>
   rw[YX,UU,Mu,b];simp only[Q6];cases e:p m with
   |true=>simp only[UP,e,if_true,List.filter_nil,Cj]
   |false=>simp only[UP,e,List.filter_nil,Vy,Wx,if_false]
theorem Mc (f:Nat->Qn)(n:Nat):∀m,Q6 (fun l=>Q6 (fun k=>f l k) m) n=Q6 (fun k=>Q6 (fun l=>f l k) n) m
 |0=>by simp only[Q6];exact VX n
 |m+1=>by
   simp only[Q6];rw[G7,Mc f n m]
end Mir
section
namespace L2
open PySem PySem.Spec PyProof.Rows
structure Qy (F H F' H':Hp):Prop where
 hh:Q3 H H'
 ff:Q3 F F'
 fh:Q3 F' H'
 fr:∀a,F' a≠none->F a≠none\/H a=none
def Qy.refl (s:Q3 F H):Qy F H F H:=⟨Q3.refl _,Q3.refl _,s,fun _ h=>.inl h⟩
def Qy.trans (a:Qy F H F1 H1)(b:Qy F1 H1 F2 H2):Qy F H F2 H2 :=
 ⟨a.hh.trans b.hh,a.ff.trans b.ff,b.fh,fun p h=>by
  rcases b.fr p h with z|z
  .exact a.fr p z
  .exact .inr (a.hh.free z)⟩
def Z6 {H:Hp}{a:Addr}{o:HO}(h:H a=some o):H a≠none:=by rw[h];rintro⟨⟩
def Uz {H:Hp}{a:Addr}(h:H a≠none):∃o,H a=some o:=by
 cases e:H a with
 |none=>exact Xm e h
 |some o=>exact⟨o,rfl⟩
def AA  (s:Q3 F H):Q3 (upd F p o) (upd H p o):=fun b u e=>by
 by_cases h:b=p
 .subst h;rw[QC]at e ⊢;exact e
 .rw[Qu h]at e ⊢;exact s b u e
def Qy.new  (s:Q3 F H)(b:H p=none):Qy F H (upd F p o) (upd H p o) :=
 ⟨Q3.new b,Q3.new<|s.free b,AA s,fun a h=>by
  by_cases e:a=p
  .subst e;exact .inr b
  .rw[Qu e]at h;exact .inl h⟩
def Qy.own  (s:Q3 F H)(a:H p=none):Qy F H F (upd H p o) :=
 ⟨Q3.new a,Q3.refl _,s.upd<|s.free a,fun _ h=>.inl h⟩
def Qy.freeze  (x:Qy F0 H0 F H)(d:F a=none)(c:H a=some o)(h0:H0 a=none):Qy F0 H0 (upd F a o) H :=
 ⟨x.hh,x.ff.trans<|Q3.new d,fun b u e=>by
  by_cases h:b=a
  .subst h;rw[QC]at e;rw[c];exact e
  .rw[Qu h]at e;exact x.fh b u e,fun b h=>by
  by_cases e:b=a
  .subst e;exact .inr h0
  .rw[Qu e]at h;exact x.fr b h⟩
def Qy.free  (x:Qy F H F' H')(c:F a=none)(b:H a≠none):F' a=none:=by
 cases e:F' a with
 |none=>rfl
 |some o =>
   rcases x.fr a (Z6 e) with z|z
   .exact Xm c z
   .exact Xm z b
structure OwnP where
 ok:W.Frag->Hp->Hp->V->Qg->Prop
 there:∀{K:W.Frag} {F H:Hp} {v:V} {p:Qg},ok K F H v p->∀a∈p,F a=none/\H a≠none
 mono:∀{K:W.Frag} {F F' H H':Hp} {v:V} {p:Qg},Q3 F F'->(∀a∈p,F' a=none)->(∀a∈p,H' a=H a)->ok K F H v p->ok K F' H' v p
 uniq:∀{K:W.Frag} {F H:Hp} {v:V} {p q:Qg},ok K F H v p->ok K F H v q->∀a∈q,a∈p
structure ZP where
 ok:W.Frag->Hp->V->Prop
 mono:∀{K:W.Frag} {F F':Hp} {v:V},Q3 F F'->ok K F v->ok K F' v
inductive OT where
 |zow (Ψ:ZP)
 |fz (d:PyData)
 |ol (ds:Qd)
 |oll (dss:List (Qd))
 |scr (ns:Ql)
 |own (v:V) (Φ:OwnP)
abbrev Q9:=List (Option OT)
def Vn (F H:Hp)(a:Addr)(ds:Qd):Prop:=F a=none/\∃b,H a=some (.lst b)/\Qx F b ds
def Zy (F H:Hp):Qg->List (Qd)->Prop
 |[],[]=>True
 |a::d,c::b=>Vn F H a c/\Zy F H d b
 |_,_=>False
def Zp (K:W.Frag)(F H:Hp)(v:V):OT->Qg->Prop
 |.fz d,p=>p=[]/\Rep F v d
 |.ol i,p=>∃a,v=.ref a/\p=[a]/\Vn F H a i
 |.oll c,p=>∃a b,v=.ref a/\p=a::b/\(a::b).Nodup/\F a=none/\H a=some (.lst<|b.map V.ref)/\Zy F H b c
 |.scr h,p=>p=[]/\∃a,v=.ref a/\Scr K F a h
 |.own g f,p=>v=g/\f.ok K F H v p
 |.zow e,p=>p=[]/\e.ok K F v
def Q3.at_eq (s:Q3 H H')(h:H a≠none):H' a=H a:=by
 cases e:H a with
 |none=>exact Xm e h
 |some o=>exact s _ _ e
def Vn.ext  (h:Vn F H a ds)(x:Qy F H F' H'):Vn F' H' a ds:=by
 obtain⟨e,c,b,d⟩:=h
 exact⟨x.free e<|Z6 b,c,x.hh _ _ b,d.mono x.ff⟩
theorem Zy.ext {F H c b:Hp}(x:Qy F H c b):∀{as:Qg} {a:List (Qd)},Zy F H as a->Zy c b as a
 |[],[],_=>trivial
 |_::_,_::_,h=>⟨h.1.ext x,Zy.ext x h.2⟩
 |[],_::_,h=>False.elim h
 |_::_,[],h=>False.elim h
theorem Zy.mem {F H:Hp}:∀{as:Qg} {d:List (Qd)},Zy F H as d->∀a∈as,F a=none/\H a≠none
 |[],[],_,a,c=>by cases c
 |b::as,_::_,h,a,c=>by
   rcases Xf.mp c with rfl|c
   .obtain⟨f,g,e,_⟩:=h.1
    exact⟨f,Z6 e⟩
   .exact Zy.mem h.2 a c
 |[],_::_,h,_,_=>False.elim h
 |_::_,[],h,_,_=>False.elim h
def Zp.ext {K:W.Frag}{F H k j:Hp}{v:V}{t:OT}{p:Qg}(h:Zp K F H v t p)(x:Qy F H k j):Zp K k j v t p:=by
 cases t with
 |fz d=>exact⟨h.1,h.2.mono x.ff⟩
 |zow l=>exact⟨h.1,l.mono x.ff h.2⟩
 |ol u=>obtain⟨a,e,c,b⟩:=h;exact⟨a,e,c,b.ext x⟩
 |oll o=>obtain⟨a,q,e,c,b,n,i,m⟩:=h;exact⟨a,q,e,c,b,x.free n<|Z6 i,x.hh _ _ i,m.ext x⟩
 |scr s=>obtain⟨e,a,c,b⟩:=h;exact⟨e,a,c,b.mono x.ff⟩
 |own r f=>exact⟨h.1,f.mono x.ff (fun a g=>x.free (f.there h.2 a g).1 (f.there h.2 a g).2) (fun a g=>x.hh.at_eq (f.there h.2 a g).2) h.2⟩
def Zp.there {K:W.Frag}{F H:Hp}{v:V}{t:OT}{p:Qg}(h:Zp K F H v t p):∀a∈p,F a=none/\H a≠none:=by
 cases t with
 |fz d=>obtain⟨rfl,_⟩:=h;intro a f;cases f
 |zow o=>obtain⟨rfl,_⟩:=h;intro a f;cases f
 |ol u =>
   obtain⟨a,m,rfl,i,q,g,_⟩:=h;intro b c;have e:b=a:=by simpa using c
   subst e;exact⟨i,Z6 g⟩
 |oll n =>
   obtain⟨a,w,m,rfl,i,g,l,k⟩:=h;intro b c;rcases Xf.mp c with rfl|c
   .exact⟨g,Z6 l⟩
   .exact k.mem b c
 |scr s=>obtain⟨rfl,_⟩:=h;intro a f;cases f
 |own r j=>exact j.there h.2
def Vn.other   (h:Vn F H a ds)(n:a≠b):Vn F (upd H b o) a ds:=by
 obtain⟨f,c,e,d⟩:=h
 exact⟨f,c,by rw[Qu n];exact e,d⟩
theorem Zy.other {F H:Hp}{b:Addr}{o:HO}:∀{as:Qg} {c:List (Qd)},Zy F H as c->b∉as->Zy F (upd H b o) as c
 |[],[],_,_=>trivial
 |a::as,_::_,h,n=>⟨h.1.other (fun z=>n<|by rw[z];exact Xb),Zy.other h.2 fun z=>n<|Xe _ z⟩
 |[],_::_,h,_=>False.elim h
 |_::_,[],h,_=>False.elim h
def Zp.other {K:W.Frag}{F H:Hp}{v:V}{t:OT}{p:Qg}{b:Addr}{o:HO}(h:Zp K F H v t p)(n:b∉p):Zp K F (upd H b o) v t p:=by
 cases t with
 |fz d=>exact h
 |zow q=>exact h
 |ol u=>obtain⟨a,f,rfl,e⟩:=h;exact⟨a,f,rfl,e.other fun z=>n<|by simp[z]⟩
 |oll l =>
   obtain⟨a,m,f,rfl,e,k,j,i⟩:=h
   exact⟨a,m,f,rfl,e,k,by rw[Qu fun z=>n<|by simp[z]];exact j,i.other fun z=>n<|Xe _ z⟩
 |scr s=>exact h
 |own r g=>exact⟨h.1,g.mono (Q3.refl _) (fun a c=>(g.there h.2 a c).1) (fun a c=>Qu fun z=>n<|by rw[<- z];exact c) h.2⟩
def KTs (K:W.Frag) (F:Hp):Prop:=W.nsIn K mainGlobals "START"=some none\/∃a b,W.nsIn K mainGlobals "START"=some (some<|.ref a)/\W.nsIn K mainGlobals "END"=some (some<|.ref b)/\F a=some (.tup [.str "start"])/\F b=some (.tup [.str "end"])
def KTs.mono {K:W.Frag}{F a:Hp}(h:KTs K F)(s:Q3 F a):KTs K a :=
 h.imp id<|by rintro⟨f,g,e,d,c,b⟩;exact⟨f,g,e,d,s _ _ c,s _ _ b⟩
structure QA (K:W.Frag)(H0 F:Hp)(ρ:Q9)(σ:St)(H:Hp):Prop where
 kt:KTs K F
 sub:Q3 F H
 len:σ.length=ρ.length
 fp:∃fp:Nat->Qg,(∀(i:Nat) (t:OT),ρ[i]?=some (some t)->∃v,σ[i]?=some (some v)/\Zp K F H v t (fp i)) /\
  (∀(i j:Nat) (a:Addr),a∈fp i->a∈fp j->i=j)/\∀(i:Nat) (a:Addr),a∈fp i->H0 a=none/\H a≠none
def QA.ext {K:W.Frag}{H0 F g H f:Hp}{ρ:Q9}{d:St}(s:QA K H0 F ρ d H)(x:Qy F H g f):QA K H0 g ρ d f:=by
 obtain⟨h,r,n,p,m,l,k⟩:=s;refine⟨h.mono x.ff,x.fh,n,p,fun i t e=>?_,l,fun i a j=>?_⟩
 .obtain⟨v,c,b⟩:=m i t e
  exact⟨v,c,b.ext x⟩
 .obtain⟨c,b⟩:=k i a j
  obtain⟨o,q⟩:=Uz b
  exact⟨c,Z6<|x.hh _ _ q⟩
def Fgt:Q9->Q9->Prop
 |[],[]=>True
 |_::r,none::a=>Fgt r a
 |s::r,some x::a=>s=some x/\Fgt r a
 |_,_=>False
theorem Fgt.len:∀{ρ a:Q9},Fgt ρ a->ρ.length=a.length
 |[],[],_=>rfl
 |_::r,none::b,h=>by
   have c:Fgt r b:=h
   simp[Fgt.len c]
 |s::r,some x::b,h=>by
   have c:s=some x/\Fgt r b:=h
   simp[Fgt.len c.2]
 |[],none::_,h=>False.elim h
 |[],some _::_,h=>False.elim h
 |_::_,[],h=>False.elim h
theorem Fgt.get:∀{ρ b:Q9},Fgt ρ b->∀(i:Nat) (t:OT),b[i]?=some (some t)->ρ[i]?=some (some t)
 |[],[],_,i,t,e=>by simp at e
 |_::r,none::a,h,0,t,e=>by simp at e
 |_::r,none::a,h,i+1,t,e=>by
   have c:Fgt r a:=h
   have:=Fgt.get c i t (by simpa using e)
   simpa using this
 |s::r,some x::a,h,0,t,e=>by
   have c:s=some x/\Fgt r a:=h
   simp at e;subst e;simp[c.1]
 |s::r,some x::a,h,i+1,t,e=>by
   have c:s=some x/\Fgt r a:=h
   have:=Fgt.get c.2 i t (by simpa using e)
   simpa using this
 |[],none::_,h,_,_,_=>False.elim h
 |[],some _::_,h,_,_,_=>False.elim h
 |_::_,[],h,_,_,_=>False.elim h
def QA.fgt {K:W.Frag}{H0 F H:Hp}{ρ a:Q9}{b:St}(s:QA K H0 F ρ b H)(f:Fgt ρ a):QA K H0 F a b H:=by
 obtain⟨c,k,j,l,h,g,d⟩:=s
 exact⟨c,k,j.trans f.len,l,fun i t e=>h i t<|f.get i t e,g,d⟩
def QA.set {K:W.Frag}{H0 F H:Hp}{ρ:Q9}{m:St}{i:Nat}{v:V}{t:OT}{p:Qg}(s:QA K H0 F ρ m H)(C:Zp K F H v t p)
 (I:∀(a:Addr),a∈p->H0 a=none)
 (hn:∀(a:Addr),a∈p->∀(j:Nat) (u:V) (t':OT) (q:Qg),ρ[j]?=some (some t')->m[j]?=some (some u)->Zp K F H u t' q->a∉q) :
 QA K H0 F (ρ.set i<|some t) (m.set i<|some v) H:=by
 obtain⟨G,N,M,o,D,L,J⟩:=s;refine⟨G,N,by simp[M],fun j=>if j=i then p else if (ρ[j]?).join.isSome then o j else [],fun j t' e=>?_,fun j k a d A=>?_,fun j a d=>?_⟩
 .by_cases b:j=i
  .subst b
   have x:j<ρ.length:=by
    have:=(Xh.mp e).1
    simpa using this
   rw[Xl x]at e;cases e;refine⟨v,Xl<|by omega,?_⟩;dsimp only;rw[Xd rfl];exact C
  .rw[Xs<|Ne.symm b]at e
   obtain⟨u,h,g⟩:=D j t' e;refine⟨u,by rw[Xs<|Ne.symm b];exact h,?_⟩;dsimp only;rw[Xc b,e,Xd<|by rfl];exact g
 .have f:∀(j:Nat),j≠i->a∈(if j=i then p else if (ρ[j]?).join.isSome then o j else [])->∃t' u,ρ[j]?=some (some t')/\m[j]?=some (some u)/\Zp K F H u t' (o j)/\a∈o j:=fun j b l=>by
   rw[Xc b]at l;cases e:(ρ[j]?).join with
   |none=>rw[e]at l;simp at l
   |some t' =>
     rw[e]at l;have E:ρ[j]?=some (some t'):=by
      cases z:ρ[j]? with
      |none=>rw[z]at e;simp at e
      |some w=>rw[z]at e;simp at e;rw[e]
     obtain⟨u,h,g⟩:=D j t' E
     exact⟨t',u,E,h,g,by simpa using l⟩
  by_cases b:j=i
  .by_cases n:k=i
   .omega
   .obtain⟨t',u,h,g,B,r⟩:=f k n A
    have c:a∈p:=by simpa [b] using d
    exact Xm r (hn a c k u t' _ h g B)
  .obtain⟨t',u,h,g,B,r⟩:=f j b d
   by_cases n:k=i
   .have y:a∈p:=by simpa [n] using A
    exact Xm r (hn a y j u t' _ h g B)
   .obtain⟨Q,P,T,S,R,O⟩:=f k n A
    exact L j k a r O
 .by_cases b:j=i
  .have c:a∈p:=by simpa [b] using d
   exact⟨I a c,(C.there a c).2⟩
  .simp only[Xc b]at d
   split at d
   .exact J j a d
   .cases d
def QA.setF {K:W.Frag}{H0 F H:Hp}{ρ:Q9}{c:St}{i:Nat}{v:V}{d:PyData}(s:QA K H0 F ρ c H)(r:Rep F v d):QA K H0 F (ρ.set i<|some<|.fz d) (c.set i<|some v) H :=
 s.set (p:=[]) ⟨rfl,r⟩ (by rintro a ⟨⟩) (hn:=fun a b=>nomatch b)
def QA.write {K:W.Frag}{H0 F H:Hp}{ρ:Q9}{g:St}{i:Nat}{ds:Qd}(s:QA K H0 F ρ g H)(e:ρ[i]?=some (some<|.ol ds)) :
 ∃a xs,g[i]?=some (some<|.ref a)/\H a=some (.lst xs)/\Qx F xs ds/\H0 a=none/\F a=none/\∀c d,Qx F c d->QA K H0 F (ρ.set i<|some<|.ol d) g (upd H a<|.lst c):=by
 obtain⟨C,G,E,x,w,t,p⟩:=s;obtain⟨v,A,a,rfl,y,n,xs,J,I⟩:=w i _ e;have o:a∈x i:=by rw[y];exact Xb
 refine⟨a,xs,A,J,I,(p i a o).1,n,fun c d r=>?_⟩;have h:=(Xh.mp e).1;refine⟨C,G.upd n,by simp[E],x,fun j B f=>?_,t,fun j b D=>?_⟩
 .by_cases k:j=i
  .subst k
   rw[Xl h]at f;cases f
   exact⟨_,A,a,rfl,y,n,c,QC,r⟩
  .rw[Xs<|Ne.symm k]at f
   obtain⟨u,m,l⟩:=w j B f
   exact⟨u,m,l.other fun z=>k<|t j i a z o⟩
 .obtain⟨m,l⟩:=p j b D
  refine⟨m,?_⟩
  by_cases z:b=a
  .subst z;rw[QC];rintro⟨⟩
  .rw[Qu z];exact l
def QA.freeze {K:W.Frag}{H0 F H:Hp}{ρ:Q9}{A:St}{i:Nat}{ds:Qd}(s:QA K H0 F ρ A H)(e:ρ[i]?=some (some<|.ol ds)) :
 ∃a xs,F a=none/\H a=some (.lst xs)/\H0 a=none/\A[i]?=some (some<|.ref a)/\Qx F xs ds/\QA K H0 (upd F a<|.lst xs) (ρ.set i<|some<|.fz<|.list ds) A H:=by
 obtain⟨kt,h1,h2,G,R,Q,P⟩:=s;obtain⟨v,Z,a,rfl,e2,Y,xs,X,U⟩:=R i _ e;have O:a∈G i:=by rw[e2];exact Xb
 have D:=(Xh.mp e).1;have p:Q3 F (upd F a<|.lst xs):=Q3.new Y;refine⟨a,xs,Y,X,(P i a O).1,Z,U,kt.mono p,?_,by simp[h2],fun j=>if j=i then [] else G j,fun j M y=>?_,fun j k b f E=>?_,fun j b f=>?_⟩
 .intro b u f
  by_cases z:b=a
  .subst z;rw[QC]at f;rw[X];exact f
  .rw[Qu z]at f;exact h1 b u f
 .by_cases l:j=i
  .subst l
   rw[Xl D]at y;cases y;refine⟨_,Z,?_,.lst QC<|U.mono p⟩;dsimp only;rw[Xd rfl]
  .rw[Xs<|Ne.symm l]at y
   obtain⟨u,f1,m⟩:=R j M y;refine⟨u,f1,?_⟩;dsimp only;rw[Xc l];have x:a∉G j:=fun z=>l (Q j i a z O);have C:∀b,F b=none->b≠a->upd F a (.lst xs) b=none:=fun b f q=>by rw[Qu q];exact f
   have S:∀{b:Addr} {w:Qd},b≠a->Vn F H b w->Vn (upd F a<|.lst xs) H b w:=fun{b w} q ⟨z1,zs,z2,z3⟩=>⟨C _ z1 q,zs,z2,z3.mono p⟩
   cases M with
   |fz d=>exact⟨m.1,m.2.mono p⟩
   |zow Ψ=>exact⟨m.1,Ψ.mono p m.2⟩
   |ol w =>
     obtain⟨b,t,n,r⟩:=m
     exact⟨b,t,n,S (fun z=>x<|by rw[n,z];exact Xb) r⟩
   |oll g =>
     obtain⟨b,o,t,n,r,g4,T,g6⟩:=m;refine⟨b,o,t,n,r,C _ g4 (fun z=>x<|by rw[n,z];exact Xb),T,?_⟩;have B:a∉o:=fun z=>x (by rw[n];exact Xe _ z)
     clear t n r T;have J:∀(o:Qg) (g:List (Qd)),a∉o->Zy F H o g->Zy (upd F a<|.lst xs) H o g:=by
      intro o;induction o with
      |nil =>
        intro g _ h;cases g with
        |nil=>exact trivial
        |cons _ _=>exact False.elim h
      |cons c cs ih =>
        intro g q h;cases g with
        |nil=>exact False.elim h
        |cons w I=>exact⟨S (fun z=>q<|by rw[z];exact Xb) h.1,ih I (fun z=>q<|Xe _ z) h.2⟩
     exact J o g B g6
   |scr ns =>
     obtain⟨t,b,n,r⟩:=m
     exact⟨t,b,n,r.mono p⟩
   |own v0 L=>exact⟨m.1,L.mono p (fun b f=>C b (L.there m.2 b f).1 fun z=>x<|by rw[<- z];exact f) (fun _ _=>rfl) m.2⟩
 .by_cases l:j=i
  .simp[l]at f
  .by_cases N:k=i
   .simp[N]at E
   .simp only[Xc l]at f
    simp only[Xc N]at E;exact Q j k b f E
 .by_cases l:j=i
  .simp[l]at f
  .simp only[Xc l]at f
   exact P j b f
inductive Args (K:W.Frag)(F:Hp):List V->List OT->Prop
 |nil:Args K F [] []
 |fz {v:V} {d:PyData} {vs:List V} {ts:List OT}:Rep F v d->Args K F vs ts->Args K F (v::vs) (.fz d::ts)
 |zow {v:V} {Ψ:ZP} {vs:List V} {ts:List OT}:Ψ.ok K F v->Args K F vs ts->Args K F (v::vs) (.zow Ψ::ts)
 |scr {a:Addr} {ns:Ql} {vs:List V} {ts:List OT}:Scr K F a ns->Args K F vs ts->Args K F (.ref a::vs) (.scr ns::ts)
theorem Args.length {K:W.Frag}{F:Hp}:∀{vs:List V} {ts:List OT},Args K F vs ts->vs.length=ts.length
 |_,_,.nil=>rfl
 |_,_,.fz _ t=>by simp[Args.length t]
 |_,_,.scr _ t=>by simp[Args.length t]
 |_,_,.zow _ t=>by simp[Args.length t]
theorem Args.get {K:W.Frag}{F H:Hp}:∀{vs:List V} {ts:List OT},Args K F vs ts->∀(i:Nat) (t:OT),ts[i]?=some t->∃v,vs[i]?=some v/\Zp K F H v t []
 |_,_,.nil,i,t,e=>by simp at e
 |_,_,.fz r _,0,t,e=>by simp at e;subst e;exact⟨_,rfl,rfl,r⟩
 |_,_,.scr r _,0,t,e=>by simp at e;subst e;exact⟨_,rfl,rfl,_,rfl,r⟩
 |_,_,.zow r _,0,t,e=>by simp at e;subst e;exact⟨_,rfl,rfl,r⟩
 |_,_,.zow _ q,i+1,t,e=>by
   obtain⟨v,b,a⟩:=Args.get (H:=H) q i t (by simpa using e)
   exact⟨v,by simpa using b,a⟩
 |_,_,.fz _ q,i+1,t,e=>by
   obtain⟨v,b,a⟩:=Args.get (H:=H) q i t (by simpa using e)
   exact⟨v,by simpa using b,a⟩
 |_,_,.scr _ q,i+1,t,e=>by
   obtain⟨v,b,a⟩:=Args.get (H:=H) q i t (by simpa using e)
   exact⟨v,by simpa using b,a⟩
section
variable (K:W.Frag)
def Qs (t:TE)(ρ:Q9)(d:PyData):Prop := ∀(e F:Hp) (a:St) (H:Hp) (Q:VK),QA K e F ρ a H->(∀c b v,Qy F H c b->Rep c v d->Q v b)->t a H Q
def EvO (t:TE)(ρ:Q9)(r:OT):Prop := ∀(e F:Hp) (c:St) (H:Hp) (Q:VK),QA K e F ρ c H->(∀d b v p,Qy F H d b->(∀a∈p,H a=none)->Zp K d b v r p->Q v b)->t c H Q
def Zk (t:TT)(ρ:Q9)(b:Bool):Prop := ∀(d F:Hp) (a:St) (H:Hp) (Q:Bool->Hp->Prop),QA K d F ρ a H->(∀e c,Qy F H e c->Q b c)->t a H Q
def Zz (t:TA)(ρ:Q9)(ts:List OT):Prop := ∀(e F:Hp) (a:St) (H:Hp) (Q:List V->Hp->Prop),QA K e F ρ a H->(∀d c b,Qy F H d c->Args K d b ts->Q b c)->t a H Q
def Rk (f:Hp)(J:It)(ds:Qd):Prop := ∀(b a:Hp),Q3 f b->Q3 b a->J.stop ds.length a /\
 ∀(i:Nat) (d:PyData),ds[i]?=some d->J.go i a/\∀x c,J.yld i a x c->∃e,Qy b a e c/\Rep e x d
def EvI (wi:TI)(ρ:Q9)(ds:Qd):Prop := ∀(d F:Hp) (a:St) (H:Hp) (R:It->Hp->Prop),QA K d F ρ a H->(∀c b J,Qy F H c b->Rk c J ds->R J b)->wi a H R
def GTo (g:TG)(d:PyData)(ρ b:Q9):Prop := ∀(e F:Hp) (c:St) (H:Hp) (x:V) (Q:St->Hp->Prop),QA K e F ρ c H->Rep F x d->(∀a,QA K e F b a H->Q a H)->g x c H Q
def GO (g:TGs)(ds:Qd)(ρ b:Q9):Prop := ∀(e F:Hp) (c:St) (H:Hp) (d:List V) (Q:St->Hp->Prop),QA K e F ρ c H->Qx F d ds->(∀a,QA K e F b a H->Q a H)->g d c H Q
structure PEnds where
 nx:Q9->Prop
 rt:OT->Prop
 bk:Q9->Prop:=fun _=>False
 ct:Q9->Prop:=fun _=>False
structure Cnv (F0 H0:Hp)(D:PEnds)(E:Ends):Prop where
 nx:∀F σ H ρ,Qy F0 H0 F H->QA K H0 F ρ σ H->D.nx ρ->E.nx σ H
 rt:∀F H v r p,Qy F0 H0 F H->(∀a∈p,H0 a=none)->Zp K F H v r p->D.rt r->E.rt v H
 bk:∀F σ H ρ,Qy F0 H0 F H->QA K H0 F ρ σ H->D.bk ρ->E.bk σ H
 ct:∀F σ H ρ,Qy F0 H0 F H->QA K H0 F ρ σ H->D.ct ρ->E.ct σ H
def Q0 (t:TS)(ρ:Q9)(D:PEnds):Prop := ∀(c a F:Hp) (b:St) (H:Hp) (E:Ends),Qy c a F H->QA K a F ρ b H->Cnv K c a D E->t E b H
end
section
variable {K:W.Frag}{ρ:Q9}{ta tb tc:TE}{tA tB':TT}
def Qs.o  (h:Qs K t ρ d):EvO K t ρ (.fz d):=fun b F a H Q S q=>h b F a H Q S fun e c v x r=>q e c v [] x (by rintro _ ⟨⟩) ⟨rfl,r⟩
def EvO.e  (h:EvO K t ρ (.fz d)):Qs K t ρ d:=fun b F a H Q S q=>h b F a H Q S fun e c v p x _ r=>q e c v x r.2
def EvO.fz  (h:EvO K t ρ (.ol ds)):Qs K t ρ (.list ds):=fun i F c H Q S q=>h i F c H Q S fun k j v p x g r=>by
 obtain⟨a,rfl,rfl,b,d,f,e⟩:=r;refine q (upd k a<|.lst d) j _ (x.freeze b f<|g a Xb) (.lst QC<|e.mono<|Q3.new b)
def Qt  (e:ρ[i]?=some (some<|.fz d)):Qs K (QB i) ρ d:=fun g F c H Q S q=>by
 obtain⟨f,h,_⟩:=S.fp;obtain⟨v,b,a⟩:=h i _ e
 exact⟨v,b,q F H v (Qy.refl S.sub) a.2⟩
def Q1:Qs K (tC<|.int i) ρ (.int i):=fun b F a H Q S q=>q F H _ (Qy.refl S.sub) (.int i)
def W4:Qs K (tC<|.bl b) ρ (.bool b):=fun c F a H Q S q=>q F H _ (Qy.refl S.sub) (.bl b)
def Gg:Qs K (tC .non) ρ .none:=fun b F a H Q S q=>q F H _ (Qy.refl S.sub) .non
def ZE:Qs K (tC<|.str x) ρ (.str x):=fun b F a H Q S q=>q F H _ (Qy.refl S.sub) (.str x)
def YS   (k:Qs K ta ρ a)(j:Qs K tb ρ b)(S:QA K H0 F ρ σ H)
 (h:∀c f x y,Qy F H c f->Rep c x a->Rep c y b->r x y f Q):tOp r ta tb σ H Q :=
 k H0 F σ H _ S fun o m x e i=>j H0 o σ m _ (S.ext e) fun n l y d g=>h n l x y (e.trans d) (i.mono d.ff) g
def Z4 {g:Int->Int->Int}{x y:Int}(d:Qs K ta ρ (.int x))(c:Qs K tb ρ (.int y)):Qs K (tOp (rI0 fun i j=>.int<|g i j) ta tb) ρ (.int<|g x y):=fun l F k H Q S q =>
 YS d c S fun h f u v e b a=>by cases b;cases a;exact⟨x,y,rfl,rfl,q h f _ e<|.int _⟩
def Yn {g:Int->Int->Bool}{x y:Int}(d:Qs K ta ρ (.int x))(c:Qs K tb ρ (.int y)):Qs K (tOp (rI0 fun i j=>.bl<|g i j) ta tb) ρ (.bool<|g x y):=fun l F k H Q S q =>
 YS d c S fun h f u v e b a=>by cases b;cases a;exact⟨x,y,rfl,rfl,q h f _ e<|.bl _⟩
def Z5 {C:Int->Int->Prop}{g:Int->Int->Int}{x y:Int}(f:Qs K ta ρ (.int x))(d:Qs K tb ρ (.int y))(c:C x y):Qs K (tOp (rI C fun i j=>.int<|g i j) ta tb) ρ (.int<|g x y):=fun m F l H Q S q =>
 YS f d S fun k h u v e b a=>by cases b;cases a;exact⟨x,y,rfl,rfl,c,q k h _ e<|.int _⟩
def GY {g:Int->Int}{x:Int}(d:Qs K ta ρ (.int x)):Qs K (tUn (rU fun i=>.int<|g i) ta) ρ (.int<|g x):=fun f F a H Q S q =>
 d f F a H _ S fun h e v b c=>by cases c;exact⟨x,rfl,q h e _ b<|.int _⟩
def Vk:PyData->Option V
 |.none=>some .non
 |.bool b=>some (.bl b)
 |.int i=>some (.int i)
 |.str x=>some (.str x)
 |_=>Option.none
def Rep.flat  (r:Rep H x d)(e:Vk d=some v):x=v:=by
 cases r<;>simp[Vk]at e<;>exact e
def LB  (h:Qs K ta ρ a)(g:Qs K tb ρ b)(e1:Vk a=some v)(e2:Vk b=some w)(f:∀(H:Hp) (Q:VK),Q (.bl<|decide (v=w)) H->rEq v w H Q) :
 Qs K (tOp rEq ta tb) ρ (.bool<|decide (v=w)):=fun l F k H Q S q =>
 YS h g S fun j i x y e d c=>by rw[d.flat e1,c.flat e2];exact f _ _ (q j i _ e<|.bl _)
def LA  (h:Qs K ta ρ a)(g:Qs K tb ρ b)(e1:Vk a=some v)(e2:Vk b=some w)(f:∀(H:Hp) (Q:VK),Q (.bl<|!decide (v=w)) H->rNe v w H Q) :
 Qs K (tOp rNe ta tb) ρ (.bool<|!decide (v=w)):=fun l F k H Q S q =>
 YS h g S fun j i x y e d c=>by rw[d.flat e1,c.flat e2];exact f _ _ (q j i _ e<|.bl _)
def SQ:decide (V.int x=V.int y)=decide (x=y):=by
 by_cases h:x=y
 .subst h;simp
 .rw[XT h,XT fun z=>h<|by injection z]
def JE (b:Qs K ta ρ (.int x))(a:Qs K tb ρ (.int y)):Qs K (tOp rEq ta tb) ρ (.bool<|decide (x=y)):=by
 rw[<- SQ];exact LB b a rfl rfl fun H Q q=>⟨rfl,q⟩
def NT (b:Qs K ta ρ (.int x))(a:Qs K tb ρ (.int y)):Qs K (tOp rNe ta tb) ρ (.bool<|!decide (x=y)):=by
 rw[<- SQ];exact LA b a rfl rfl fun H Q q=>⟨rfl,q⟩
def Bf (g:Qs K ta ρ a)(f:Qs K tb ρ b)(i:VA a)(h:VA b):Qs K (tOp Nm ta tb) ρ (.bool<|PyData.eqv a b):=fun m F l H Q S q =>
 YS g f S fun k j x y e d c=>⟨a,b,d.mono e.fh,c.mono e.fh,i,h,q k j _ e<|.bl _⟩
def Dz (g:Qs K ta ρ a)(f:Qs K tb ρ b)(i:VA a)(h:VA b):Qs K (tOp Nn ta tb) ρ (.bool<|!PyData.eqv a b):=fun m F l H Q S q =>
 YS g f S fun k j x y e d c=>⟨a,b,d.mono e.fh,c.mono e.fh,i,h,q k j _ e<|.bl _⟩
def NY:PyData->Bool
 |.none=>true
 |_=>false
def Rep.isNon  (r:Rep H x d):decide (x=.non)=NY d:=by cases r<;>rfl
def Ri (e:Qs K ta ρ a):Qs K (NL ta) ρ (.bool<|!NY a):=fun g F b H Q S q =>
 e g F b H _ S fun h f v c d=>by rw[d.isNon];exact q h f _ c (.bl _)
def ZW (h:Qs K ta ρ (.bool b)):Zk K (Dv ta) ρ b:=fun f F a H Q S q=>h f F a H _ S fun g e v c d=>by cases d;exact⟨b,rfl,q g e c⟩
def ZN (h:Qs K ta ρ (.bool b)):Zk K (tB ta) ρ b:=fun f F a H Q S q=>h f F a H _ S fun g e v c d=>by cases d;exact⟨b,rfl,q g e c⟩
def N9:Zk K W3 ρ true:=fun b F a H Q S q=>q F H (Qy.refl S.sub)
def Gh (j:Zk K tA ρ b)(i:b=true->Zk K tB' ρ c):Zk K (Nr tA tB') ρ (b&&c):=fun f F d H Q S q=>j f F d H _ S fun g e a=>by
 cases b with
 |true=>rw[Xd rfl];exact i rfl f g d e Q (S.ext a) fun l k h=>by simpa using q l k (a.trans h)
 |false=>rw[Xc Xw];simpa using q g e a
def UX (j:Zk K tA ρ b)(i:b=false->Zk K tB' ρ c):Zk K (tOr tA tB') ρ (b||c):=fun f F d H Q S q=>j f F d H _ S fun g e a=>by
 cases b with
 |false=>rw[Xc Xw];exact i rfl f g d e Q (S.ext a) fun l k h=>by simpa using q l k (a.trans h)
 |true=>rw[Xd rfl];simpa using q g e a
def Y5 (d:Zk K tA ρ b):Zk K (Nf tA) ρ (!b):=fun f F a H Q S q=>d f F a H _ S fun g e c=>q g e c
def VJ (l:Qs K ta ρ (.bool b))(k:b=true->Qs K tb ρ (.bool c)):Qs K (NB ta tb) ρ (.bool<|b&&c):=fun f F d H Q S q=>l f F d H _ S fun g e v a j=>by
 cases j
 refine⟨b,rfl,?_⟩
 cases b with
 |true=>rw[Xd rfl];exact k rfl f g d e Q (S.ext a) fun n m v h i=>by simpa using q n m v (a.trans h) (by simpa using i)
 |false=>rw[Xc Xw];exact q g e _ a (.bl _)
def NK (e:Qs K ta ρ (.bool b)):Qs K (N7 ta) ρ (.bool<|!b):=fun g F a H Q S q=>e g F a H _ S fun h f v c d=>by cases d;exact⟨b,rfl,q h f _ c<|.bl _⟩
def Hd {g g':Int->Int->Bool}{x y z:Int}(r:Qs K ta ρ (.int x))(p:Qs K tb ρ (.int y))(o:Qs K tc ρ (.int z)) :
 Qs K (DJ (rI0 fun i j=>.bl<|g i j) (rI0 fun i j=>.bl<|g' i j) ta tb tc) ρ (.bool<|g x y&&g' y z):=fun d F b H Q S q =>
 r d F b H _ S fun B t v a n=>p d B b t _ (S.ext a) fun h f w c m=>by
  cases n;cases m
  refine⟨x,y,rfl,rfl,g x y,rfl,?_⟩
  cases e:g x y with
  |true=>rw[Xd rfl];exact o d h b f _ (S.ext<|a.trans c) fun A s u k l=>by cases l;exact⟨y,z,rfl,rfl,by simpa [e] using q A s _ ((a.trans c).trans k)<|by rw[e];exact .bl _⟩
  |false=>rw[Xc Xw];simpa [e] using q h f _ (a.trans c) (by rw[e];exact .bl _)
def Q4:Zz K QQ ρ []:=fun b F a H Q S q=>q F H [] (Qy.refl S.sub) .nil
def Qw  (i:Qs K ta ρ d)(h:Zz K t ρ ts):Zz K (QE ta t) ρ (.fz d::ts):=fun e F a H Q S q =>
 i e F a H _ S fun m k v c g=>h e m a k _ (S.ext c) fun l j n b f=>q l j _ (c.trans b) (.fz (g.mono b.ff) f)
def Um   (e:ρ[i]?=some (some<|.scr ns))(f:Zz K t ρ ts):Zz K (QE (QB i) t) ρ (.scr ns::ts):=fun l F c H Q S q=>by
 obtain⟨o,h,_⟩:=S.fp;obtain⟨v,j,_,a,rfl,g⟩:=h i _ e
 exact⟨_,j,f l F c H _ S fun m k n b d=>q m k _ b<|.scr (g.mono b.ff) d⟩
def Gr   (e:ρ[i]?=some (some<|.zow Ψ))(d:Zz K t ρ ts):Zz K (QE (QB i) t) ρ (.zow Ψ::ts):=fun k F b H Q S q=>by
 obtain⟨n,h,_⟩:=S.fp;obtain⟨v,g,_,f⟩:=h i _ e
 exact⟨_,g,d k F b H _ S fun l j m a c=>q l j _ a<|.zow (Ψ.mono a.ff f) c⟩
def fzs (ds:Qd):List OT:=ds.map OT.fz
theorem Args.reps {F:Hp}:∀{vs:List V} {ds:Qd},Args K F vs (fzs ds)->Qx F vs ds
 |_,[],.nil=>.nil
 |_,_::_,.fz r t=>.cons r (Args.reps t)
def V5  (h:Zz K t ρ (fzs ds))(f:ds.length<=1000):Qs K (Wa t) ρ (.tuple ds):=fun g F e H Q S q =>
 h g F e H _ S fun k j i a c=>⟨by rw[c.reps.length];exact Ys<|Vc f,fun p d=>by
  have b:=a.fh;exact q _ _ _ (a.trans<|Qy.new b d)<|.tup QC<|c.reps.mono<|Q3.new<|b.free d⟩
def B6   (x:Qy F0 H0 F H)(b:H p=none)(r:Qx F xs ds):Qy F0 H0 F (upd H p<|.lst xs)/\(∀a∈[p],H0 a=none)/\Zp K F (upd H p<|.lst xs) (.ref p) (.ol ds) [p] :=
 ⟨x.trans<|Qy.own x.fh b,fun a c=>by
  have e:a=p:=by simpa using c
  subst e;exact x.hh.free b,p,rfl,rfl,x.fh.free b,xs,QC,r⟩
def Vf  (h:Zz K t ρ (fzs ds))(i:ds.length<=1000):EvO K (J4 t) ρ (.ol ds):=fun j F e H Q S q =>
 h j F e H _ S fun m l k f d=>⟨by rw[d.reps.length];exact Ys<|Vc i,fun p g=>by
  obtain⟨a,b,c⟩:=B6 (K:=K) f g d.reps;exact q _ _ _ _ a b c⟩
def JQ  (r:Rep F x (.list ds))(s:Q3 F H):∃a xs,x=.ref a/\SqL K H a xs/\Qx F xs ds/\H a=some (.lst xs):=by
 cases r with
 |lst b c=>exact⟨_,_,rfl,SqL.of<|s _ _ b,c,s _ _ b⟩
def Jk  (r:Rep F x (.tuple ds))(s:Q3 F H):∃a xs,x=.ref a/\SqT K H a xs/\Qx F xs ds/\H a=some (.tup xs):=by
 cases r with
 |tup b c=>exact⟨_,_,rfl,SqT.of<|s _ _ b,c,s _ _ b⟩
def U2   (r:Qx F xs ds)(e:atI ds i=some d):∃z,atI xs i=some z/\Rep F z d:=by
 obtain⟨j,f,c⟩:=Rf e;obtain⟨z,b,a⟩:=r.get f;refine⟨z,?_,a⟩;unfold atI;rw[r.length,c];exact b
def Yf  (l:Qs K ta ρ (.list ds))(k:Qs K tb ρ (.int i))(e:atI ds i=some d):Qs K (tOp (rIx K) ta tb) ρ d:=fun s F r H Q S q =>
 YS l k S fun p o x y b j h=>by
  obtain⟨a,g,rfl,n,m,_⟩:=JQ (K:=K) j b.fh;obtain⟨z,f,c⟩:=U2 m e
  cases h
  exact .inl ⟨a,g,i,z,rfl,rfl,n,f,q p o z b c⟩
def V6  (l:Qs K ta ρ (.tuple ds))(k:Qs K tb ρ (.int i))(e:atI ds i=some d):Qs K (tOp (rIx K) ta tb) ρ d:=fun s F r H Q S q =>
 YS l k S fun p o x y b j h=>by
  obtain⟨a,g,rfl,n,m,_⟩:=Jk (K:=K) j b.fh;obtain⟨z,f,c⟩:=U2 m e
  cases h
  exact .inr (.inl ⟨a,g,i,z,rfl,rfl,n,f,q p o z b c⟩)
def TX   (e0:ρ[i]?=some (some<|.ol ds))(n:Qs K tb ρ (.int k))(e:atI ds k=some d):Qs K (tOp (rIx K) (QB i) tb) ρ d:=fun t F c H Q S q=>by
 obtain⟨w,h,_⟩:=S.fp;obtain⟨v,r,a,rfl,_,m⟩:=h i _ e0;refine⟨_,r,n t F c H _ S fun u s y b l=>?_⟩;obtain⟨x,j,p,o⟩:=m.ext b;obtain⟨z,g,f⟩:=U2 o e
 cases l
 exact .inl ⟨a,j,k,z,rfl,rfl,SqL.of p,g,q u s z b f⟩
def T4  (e0:ρ[i]?=some (some<|.scr ns))(o:Qs K tb ρ (.int k))(e:atI ns k=some n):Qs K (tOp (rIx K) (QB i) tb) ρ (.int n):=fun s F c H Q S q=>by
 obtain⟨u,h,_⟩:=S.fp;obtain⟨v,p,_,a,rfl,f⟩:=h i _ e0;refine⟨_,p,o s F c H _ S fun t r y b g=>?_⟩
 cases g
 obtain⟨j,m,l⟩:=Rf e
 have d:atI (ns.map V.int) k=some (.int n):=by
  unfold atI;rw[Xn,l];show(ns.map V.int)[j]?=_;rw[Xt,m];rfl
 exact .inl ⟨a,_,k,_,rfl,rfl,(b.ff.trans b.fh).seq f.sq,d,q t r _ b<|.int n⟩
def QS (R:List OT->OT->Prop):Sp:=fun e H Q _=>∃F c r,KTs K F/\Q3 F H/\Args K F e c/\R c r/\∀d b v p,Qy F H d b->(∀a∈p,H a=none)->Zp K d b v r p->Q v b
def B1   (h:Zz K t ρ ts)(j:R ts r):EvO K (VH (QS (K:=K) R) [] E t) ρ r:=fun l F c H Q S q =>
 h l F c H _ S fun n s o b e=>by
  refine⟨n,ts,r,(S.ext b).kt,b.fh,by rw[XF];exact e,j,fun m k v p d g f=>q m k v p (b.trans d) (fun a i=>b.hh.free<|g a i) f⟩
def Zb   (h:Zz K t ρ ts)(a:R ts (.fz d)):Qs K (VH (QS (K:=K) R) [] E t) ρ d:=(B1 h a).e
def L6   (h:Zz K t ρ ts)(a:R ts (.ol ds)):Qs K (VH (QS (K:=K) R) [] E t) ρ (.list ds):=(B1 h a).fz
end
def Df.ev {P:Program}{w:World}{K:W.Frag}{n:Str->Qf}{base:Heap}{x:Str}{st:Stmt}{N ps:Qh}{k:Nat}{R:List OT->OT->Prop}(D:Df K n x st ps)(S:Qp N ps (Q2 st))(o:∀ts r,R ts r->ts.length=ps.length)
 (B:∀(f:Addr) (c:Value) (A:Around) (b:List Env) (s:Shared) (H:Hp) (E:XK) (ts:List OT) (r:OT),Room k (A.deeper<|envOfC x (Q2 st) s.heap.objs.size f c)->R ts r ->
  ∃t,PSs (Vo CX0 P w K n base N x (Q2 st) f c A b s H E).nox (Z7 st) t/\Q0 K t (ts.map some++List.replicate (N.length-ts.length) none) { nx:=fun _=>r=.fz .none,rt:=fun L=>L=r }):QD P w K n base x ps (k+1) (QS (K:=K) R):=by
 refine D.cal S (by rintro m H Q E ⟨F,ts,r,_,_,g,y,_⟩;exact g.length.trans<|o ts r y) ?_;rintro f c A b s H m Q E X ⟨F,ts,r,U,J,g,y,q⟩;obtain⟨t,h1,Z⟩:=B f c A b s H E ts r X y;refine⟨t,h1,Z F H F (start N m) H _ (Qy.refl J) ⟨U,J,?_,fun _=>[],fun i I e=>?_,fun i j a h=>(nomatch h),fun i a h=>(nomatch h)⟩ ⟨fun G M C O l _ e=>?_,fun G C v L p l Y T e=>?_,fun _ _ _ _ _ _ z=>False.elim z,fun _ _ _ _ _ _ z=>False.elim z⟩⟩
 .unfold start
  simp[g.length]
 .have d:i<ts.length:=by
   by_cases z:i<ts.length
   .exact z
   .rw[X0<|by simpa using z]at e
    have:=List.mem_of_getElem? e
    simp at this
  rw[XG<|by simpa using d,Xt]at e;have e':ts[i]?=some I:=by
   cases z:ts[i]? with
   |none=>rw[z]at e;simp at e
   |some w=>rw[z]at e;simp at e;rw[e]
  obtain⟨v,e1,e2⟩:=g.get (H:=H) i I e';refine⟨v,?_,e2⟩;unfold start;have u:i<m.length:=by rw[g.length];exact d
  rw[XG<|by simpa using u,Xt,e1];rfl
 .subst e
  exact q G C _ [] l (by rintro _ ⟨⟩) ⟨rfl,.non⟩
 .subst e
  exact q G C v p l Y T
theorem Td:∀{as bs:Qg},as.map V.ref=bs.map V.ref->as=bs
 |[],[],_=>rfl
 |[],_::_,h=>by simp at h
 |_::_,[],h=>by simp at h
 |a::as,b::bs,h=>by
   simp only[Xu,List.cons.injEq]at h;obtain⟨c,d⟩:=h;injection c with c;rw[c,Td d]
section
variable {K:W.Frag}{ρ:Q9}{ta tb te:TE}{tA:TT}{t u:TS}{D:PEnds}
def ZD (h:D.nx ρ):Q0 K NW ρ D:=fun c b F a H E x S C=>C.nx F a H ρ x S h
def QH (h:Q0 K t ρ { D with nx:=fun a=>Q0 K u a D }):Q0 K (Yz t u) ρ D:=fun d c F e H E x S C =>
 h d c F e H { E with nx:=u E } x S ⟨fun j b i a f g q=>q d c j b i E f g C,C.rt,C.bk,C.ct⟩
def DE (f:Fgt ρ ρ')(h:Q0 K t ρ' D):Q0 K t ρ D:=fun c b F a H E x S C=>h c b F a H E x (S.fgt f) C
def We (i:Nat)(e:ρ[i]?=some (some<|.ol ds))(h:Q0 K t (ρ.set i<|some<|.fz<|.list ds) D):Q0 K t ρ D:=fun k j F b H E x S C=>by
 obtain⟨a,l,f,d,c,_,_,g⟩:=S.freeze e;exact h k j _ b H E (x.freeze f d c) g C
def Ja (h:EvO K te ρ r)(e:D.rt r):Q0 K (Y0 te) ρ D:=fun l i F b H E x S C =>
 h i F b H _ S fun k j v p c f d=>C.rt k j v r p (x.trans c) (fun a g=>x.hh.free<|f a g) d e
def Zq (h:Qs K te ρ d)(a:D.rt (.fz d)):Q0 K (Y0 te) ρ D:=Ja h.o a
def D2  (e:ρ[i]?=some (some<|.ol ds))(c:D.rt (.ol ds)):Q0 K (Y0<|QB i) ρ D:=fun m l F j H E x S C=>by
 obtain⟨k,h,_,f⟩:=S.fp;obtain⟨v,g,b⟩:=h i _ e
 exact⟨v,g,C.rt F H v _ _ x (fun a d=>(f i a d).1) b c⟩
def ZB (h:Zk K tA ρ b)(j:b=true->Q0 K t ρ D)(i:b=false->Q0 K u ρ D):Q0 K (MW tA t u) ρ D:=fun f d F c H E x S C =>
 h d F c H _ S fun g e a=>by
  cases b with
  |true=>rw[Xd rfl];exact j rfl f d g c e E (x.trans a) (S.ext a) C
  |false=>rw[Xc Xw];exact i rfl f d g c e E (x.trans a) (S.ext a) C
def VT  (h:EvO K te ρ r)(hn:D.nx (ρ.set i<|some r)):Q0 K (Vp te<|Vd i) ρ D:=fun F0 H0 F L H E x S C =>
 h H0 F L H _ S fun F' H' v p s I Q=>by
  refine C.nx F' _ H' _ (x.trans s) ((S.ext s).set Q (fun a y=>x.hh.free<|I a y) (hn:=fun a y j w G q e1 e2 c=>?_)) hn;obtain⟨X,U,g2,T⟩:=S.fp;obtain⟨w',J,Y⟩:=U j G e1;intro R;have A:=Y.ext s;rw[e2]at J;cases J
  have g:∀b∈q,b∈X j:=by
   cases G with
   |fz d=>rw[c.1];intro b e;cases e
   |zow Ψ=>rw[c.1];intro b e;cases e
   |ol ds =>
     obtain⟨b1,n,m,O⟩:=c;obtain⟨b2,f,o,P⟩:=A;rw[n]at f;cases f;rw[m,o];exact fun _ z=>z
   |oll dss =>
     obtain⟨b1,l,n,m,O,z4,N,z6⟩:=c;obtain⟨b2,k,f,o,P,y4,B,y6⟩:=A;rw[n]at f;cases f;rw[N]at B;have e5:l.map V.ref=k.map V.ref:=by injection B with z;injection z
     have Z:l=k:=Td e5;rw[m,o,Z];exact fun _ z=>z
   |scr ns=>rw[c.1];intro b e;cases e
   |own v0 M=>exact fun b e=>M.uniq A.2 c.2 b e
  exact(T j a<|g a R).2 (I a y)
def Z2  (h:Qs K te ρ d)(hn:D.nx (ρ.set i<|some<|.fz d)):Q0 K (Vp te<|Vd i) ρ D:=VT h.o hn
def Z8  : GTo K (Vd i) d ρ (ρ.set i<|some<|.fz d):=fun b F a H x Q S r q=>q _ (S.setF r)
def JG:GO K MO [] ρ ρ:=fun c F a H b Q S r q=>by cases r;exact⟨rfl,q _ S⟩
def Y6   (i:GTo K g d ρ ρ1)(h:GO K gs ds ρ1 ρ2):GO K (Dr g gs) (d::ds) ρ ρ2:=fun b F c H k Q S r q=>by
 cases r with
 |cons f e=>exact⟨_,_,rfl,i b F c H _ _ S f fun a j=>h b F a H _ _ j e q⟩
def WW   (h:GO K gs ds ρ ρ1)(hn:ds.length=n):GTo K (MY K n gs) (.tuple ds) ρ ρ1:=fun f F d H x Q S r q=>by
 obtain⟨a,b,rfl,e,c,_⟩:=Jk (K:=K) r S.sub
 exact⟨a,b,rfl,e,by rw[c.length,hn],h f F d H b Q S c q⟩
def NR  (h:Qs K te ρ d)(j:GTo K g d ρ ρ')(hn:D.nx ρ'):Q0 K (Vp te g) ρ D:=fun l e F b H E x S C =>
 h e F b H _ S fun i f v c r=>j e i b f v _ (S.ext c) r fun a k=>C.nx i a f ρ' (x.trans c) k hn
def Qy.wr  (x:Qy F0 H0 F H)(h0:H0 a=none)(b:F a=none):Qy F0 H0 F (upd H a o) :=
 ⟨x.hh.upd h0,x.ff,x.fh.upd b,x.fr⟩
def UD  (e:ρ[i]?=some (some<|.ol ds))(h:Qs K te ρ d)(y:ds.length<1000)(hn:D.nx (ρ.set i<|some<|.ol<|ds++[d])) :
 Q0 K (Vq<|tBM K "list" YH (QB i)<|QE te QQ) ρ D:=fun G r F c H E x S C=>by
 obtain⟨a,w,k,q,z,_⟩:=S.write e;refine⟨_,k,.inl ⟨rfl,_,SqL.of q⟩,h r F c H _ S fun s B v f l=>?_⟩;obtain⟨A,b,j,p,g,o,n,m⟩:=(S.ext f).write e;rw[k]at j;cases j;refine⟨a,b,v,rfl,rfl,p,by rw[g.length];exact Vc<|by omega,?_⟩;exact C.nx s c _ _ ((x.trans f).wr o n) (m _ _<|g.snoc l) hn
def Se   (e:ρ[i]?=some (some<|.ol ds))(J:Qs K tb ρ (.int k))(h0:0<=k)(o:ds[k.toNat]?=some (.int m))(h:Qs K te ρ (.int n))
 (hn:D.nx (ρ.set i<|some<|.ol<|ds.set k.toNat<|.int<|f m n)):Q0 K (Bd (QB i) tb te (Bb K) (ipI f) UY) ρ D:=fun F0 s F c H E x S C=>by
 obtain⟨a,X,j,Z,Y,_⟩:=S.write e;refine⟨_,j,J s F c H _ S fun U R y b G=>?_⟩
 cases G
 obtain⟨a1,g,r,Q,P,_⟩:=(S.ext b).write e;rw[j]at r;cases r;obtain⟨z,A,v⟩:=P.get o;refine⟨a,g,k,z,rfl,rfl,SqL.of Q,h0,A,h s U c R _ (S.ext b) fun T H2 w l B=>?_⟩
 cases B
 cases v
 refine⟨m,n,rfl,rfl,?_⟩;obtain⟨a2,d,q,O,p,N,M,L⟩:=(S.ext<|b.trans l).write e;rw[j]at q;cases q;have I:k.toNat<ds.length:=(Xh.mp o).1;refine⟨a,d,k,k.toNat,rfl,rfl,O,?_,?_⟩
 .rw[p.length]
  unfold ixN;rw[Xd h0,Xd<|by omega]
 .exact C.nx T c _ _ ((x.trans<|b.trans l).wr N M) (L _ _<|p.set (.int _) _) hn
def Qy.base (x:Qy F0 H0 F H):Qy F H0 F H:=⟨x.hh,Q3.refl _,x.fh,fun _ h=>.inl h⟩
def Qy.rebase (x:Qy F0 H0 F H)(y:Qy F H0 F' H'):Qy F0 H0 F' H' :=
 ⟨y.hh,x.ff.trans y.ff,y.fh,fun a h=>(y.fr a h).elim (fun z=>x.fr a z) .inr⟩
def Yi   (P:Nat->Q9->Prop)(hi:EvI K wi ρ ds)(h0:P 0 ρ)
 (hs:∀(i:Nat) (d:PyData) (a:Q9),ds[i]?=some d->P i a->∃b,GTo K g d a b/\Q0 K tbd b { nx:=P (i+1),ct:=P (i+1),bk:=D.nx,rt:=D.rt }) (hd:∀a,P ds.length a->D.nx a):Q0 K (Uc wi g tbd) ρ D:=fun R k F B H E x S C =>
 hi k F B H _ S fun Q H1 J T W=>by
  refine⟨fun i m B H=>m=ds.length-i/\i<=ds.length/\∃F a,Qy R k F H/\Q3 Q F/\QA K k F a B H/\P i a,⟨ds.length,by simp,XM _,Q,ρ,x.trans T,Q3.refl _,S.ext T,h0⟩,?_⟩
  rintro i m o Y ⟨rfl,hle,Z,a,U,X,M,p⟩
  obtain⟨w1,w2⟩:=W Z Y X M.sub
  by_cases s:i<ds.length
  .have e:ds[i]?=some ds[i]:=by simp[s]
   obtain⟨go,yl⟩:=w2 i _ e;refine .inr ⟨go,fun h N=>∃O b,Qy R k O N/\Q3 Q O/\QA K k O b h N/\P (i+1) b,fun h N q=>⟨ds.length-(i+1),by omega,rfl,s,q⟩,fun v z y=>?_⟩;obtain⟨A,G,r3⟩:=yl v z y;obtain⟨b,hg,hb⟩:=hs i _ a e p;refine hg k A o z v _ (M.ext G) r3 fun h S2=>?_;have f:Qy R k A z:=U.trans G;have r:=X.trans G.ff
   exact hb A k A h z _ f.base S2 ⟨fun n l w c j L I=>⟨n,c,f.rebase j,r.trans j.ff,L,I⟩,fun n w v4 r4 p4 j=>C.rt n w v4 r4 p4<|f.rebase j,
    fun n l w c j=>C.nx n l w c<|f.rebase j,fun n l w c j L I=>⟨n,c,f.rebase j,r.trans j.ff,L,I⟩⟩
  .have e:i=ds.length:=by omega
   subst e;exact .inl ⟨w1,C.nx Z o Y a U M<|hd a p⟩
def Hm   (R:Nat->Q9)(j:EvI K wi ρ ds)(h0:Fgt ρ (R 0))
 (h:∀(i:Nat) (d:PyData),ds[i]?=some d->∃b,GTo K g d (R i) b/\Q0 K tbd b { nx:=fun a=>Fgt a<|R<|i+1,ct:=fun a=>Fgt a<|R<|i+1,bk:=D.nx,rt:=D.rt }) (k:∀a,Fgt a (R ds.length)->D.nx a):Q0 K (Uc wi g tbd) ρ D:=by
 refine Yi (fun i a=>Fgt a<|R i) j h0 (fun i d a e f=>?_) k;obtain⟨b,m,l⟩:=h i d e
 exact⟨b,fun n F c H x Q S r q=>m n F c H x Q (S.fgt f) r q,l⟩
def BW  (P:Nat->Q9->Prop)(w:Nat)(h0:P w ρ)
 (O:∀(m:Nat) (a:Q9),P m a->∃b,Zk K c a b/\(b=true->Q0 K tbd a { nx:=fun d=>∃e,e<m/\P e d,ct:=fun d=>∃e,e<m/\P e d,bk:=D.nx,rt:=D.rt })/\(b=false->D.nx a)):Q0 K (RE c tbd) ρ D:=fun o f F s H E x S C=>by
 refine⟨fun m s H=>∃F a,Qy o f F H/\QA K f F a s H/\P m a,⟨w,F,ρ,x,S,h0⟩,?_⟩
 rintro m j X ⟨Y,a,L,B,p⟩
 obtain⟨b,T,R,Q⟩:=O m a p;refine T f Y j X _ B fun I G v=>?_;have z:=L.trans v;have A:=B.ext v
 cases b with
 |false=>rw[Xc Xw];exact C.nx I j G a z A (Q rfl)
 |true =>
   rw[Xd rfl];refine⟨fun k r=>∃e,e<m/\∃n d,Qy o f n r/\QA K f n d k r/\P e d,fun k r h=>h,?_⟩;have y:∀q i l g,Qy o f q l->QA K f q g i l->(∃e,e<m/\P e g)->∃e,e<m/\∃n d,Qy o f n l/\QA K f n d i l/\P e d:=fun q i l g J U ⟨e,N,M⟩=>⟨e,N,q,g,J,U,M⟩;exact R rfl o f I j G _ z A ⟨y,C.rt,C.nx,y⟩
def Gw (h:Qs K ta ρ (.list ds)):EvI K (Dn K ta) ρ ds:=fun G F s H R S q =>
 h G F s H _ S fun r E v c m=>by
  obtain⟨a,b,rfl,B,o,A⟩:=JQ (K:=K) m c.fh
  have x:r a=some (.lst b):=by
   cases m with
   |lst n J =>
     have:=c.fh _ _ n
     rw[A]at this;cases this;exact n
  refine⟨a,rfl,⟨b,B⟩,q r E _ c fun I C l k=>?_⟩;have g:SqL K C a b:=SqL.of (k _ _<|l _ _ x);refine⟨⟨b,g,by rw[o.length];exact Xq _⟩,fun i d e=>?_⟩;obtain⟨z,j,w⟩:=o.get e;refine⟨⟨b,z,g,j⟩,fun y L f=>?_⟩;obtain⟨rfl,f⟩:=f;have p:=f b g;rw[j]at p;cases p
  exact⟨I,Qy.refl k,w.mono l⟩
def NS (h:Qs K ta ρ (.tuple ds)):EvI K (Nt K ta) ρ ds:=fun G F s H R S q =>
 h G F s H _ S fun r E v c m=>by
  obtain⟨a,b,rfl,B,o,A⟩:=Jk (K:=K) m c.fh
  have x:r a=some (.tup b):=by
   cases m with
   |tup n J =>
     have:=c.fh _ _ n
     rw[A]at this;cases this;exact n
  refine⟨a,rfl,⟨b,B⟩,q r E _ c fun I C l k=>?_⟩;have g:SqT K C a b:=SqT.of (k _ _<|l _ _ x);refine⟨⟨b,g,by rw[o.length];exact Xq _⟩,fun i d e=>?_⟩;obtain⟨z,j,w⟩:=o.get e;refine⟨⟨b,z,g,j⟩,fun y L f=>?_⟩;obtain⟨rfl,f⟩:=f;have p:=f b g;rw[j]at p;cases p
  exact⟨I,Qy.refl k,w.mono l⟩
def ZQ (lo:Int)(n:Nat):Qd:=(List.range n).map fun(i:Nat)=>PyData.int (lo+(i:Int))
def YJ {lo:Int}{n i:Nat}{d:PyData}(e:(ZQ lo n)[i]?=some d):i<n/\d=.int (lo+(i:Int)):=by
 unfold ZQ at e;rw[Xt]at e;by_cases h:i<n
 .simp[h]at e;exact⟨h,e.symm⟩
 .simp[h]at e
def Wo {lo:Int}{n:Nat}:(ZQ lo n).length=n:=by simp[ZQ]
def PH {F:Hp}{lo:Int}{n:Nat}:Rk F (Itr lo n) (ZQ lo n):=fun f j g a=>by
 refine⟨by show n<=_;rw[Wo];exact Xq _,fun i d e=>?_⟩;obtain⟨c,rfl⟩:=YJ e;refine⟨c,fun x h b=>?_⟩;obtain⟨rfl,rfl⟩:=b
 exact⟨f,Qy.refl a,.int _⟩
def YL {t:TA}{n:Int}(h:Zz K t ρ [.fz<|.int n])(h1 : -(2^62)<=n)(d:n<2^62):EvI K (Gb t) ρ (ZQ 0 n.toNat):=fun f F b H R S q =>
 h f F b H _ S fun g e i c a=>by
  cases a with
  |fz r a=>cases a;cases r;exact⟨n,rfl,h1,d,q g e _ c PH⟩
def Hg {t:TA}{m n:Int}(h:Zz K t ρ [.fz<|.int m,.fz<|.int n])(h1 : -(2^62)<=m/\m<2^62 /\ -(2^62)<=n/\n<2^62):EvI K (NH t) ρ (ZQ m (n-m).toNat):=fun f F b H R S q =>
 h f F b H _ S fun g e i c a=>by
  cases a with
  |fz r a =>
    cases a with
    |fz d a=>cases a;cases r;cases d;exact⟨m,n,rfl,h1,q g e _ c PH⟩
def Ua (a:Int)(n:Nat):Qd:=(List.range n).map fun(i:Nat)=>PyData.int (a-(i:Int))
def SH  (e:(Ua hi n)[i]?=some d):i<n/\d=.int (hi-(i:Int)):=by
 unfold Ua at e;rw[Xt]at e;by_cases h:i<n
 .simp[h]at e;exact⟨h,e.symm⟩
 .simp[h]at e
def SK  : (Ua hi n).length=n:=by simp[Ua]
def LG {t:TA}{m n:Int}(h:Zz K t ρ [.fz<|.int m,.fz<|.int n,.fz<|.int (-1)])(b : -(2^62)<=m/\m<2^62 /\ -(2^62)<=n/\n<2^62):EvI K (NO t) ρ (Ua m (m-n).toNat):=fun p F c H R S q =>
 h p F c H _ S fun v o w f a=>by
  cases a with
  |fz r a =>
    cases a with
    |fz k a =>
      cases a with
      |fz j a =>
        cases a;cases r;cases k;cases j
        refine⟨m,n,rfl,b,q v o _ f fun s A y g=>⟨by show _<=_;rw[SK];exact Xq _,fun i d e=>?_⟩⟩;obtain⟨b,rfl⟩:=SH e;refine⟨b,fun x z l=>?_⟩;obtain⟨rfl,rfl⟩:=l
        exact⟨s,Qy.refl g,.int _⟩
def Wk:Option OT->Option OT
 |some (.fz d)=>some (.fz d)
 |some (.scr b)=>some (.scr b)
 |some (.zow a)=>some (.zow a)
 |_=>none
def WX (f:List (Option Nat))(ρ:Q9):Q9:=f.map fun o=>match o with|some i=>Wk (ρ[i]?).join|none=>none
def QA.inner  (f:List (Option Nat))(S:QA K H0 F ρ σ H):QA K H0 F (WX f ρ) (Ya f σ) H:=by
 obtain⟨m,p,C,E,n,B,A⟩:=S;refine⟨m,p,by simp[WX,Ya],fun _=>[],fun i t e=>?_,fun i j a h=>(nomatch h),fun i a h=>(nomatch h)⟩;unfold WX at e;rw[Xt]at e;cases z:f[i]? with
 |none=>rw[z]at e;simp at e
 |some o =>
   rw[z]at e;simp only[YW,Option.some.injEq]at e;cases o with
   |none=>cases e
   |some k =>
     simp only at e
     have l:ρ[k]?=some (some t)/\((∃d,t=.fz d)\/(∃c,t=.scr c)\/∃b,t=.zow b):=by
      cases y:ρ[k]? with
      |none=>rw[y]at e;simp[Wk]at e
      |some w =>
        rw[y]at e;simp only[Option.join_some]at e;cases w with
        |none=>simp[Wk]at e
        |some w =>
          cases w with
          |fz d=>simp[Wk]at e;subst e;exact⟨rfl,.inl ⟨_,rfl⟩⟩
          |scr c=>simp[Wk]at e;subst e;exact⟨rfl,.inr<|.inl ⟨_,rfl⟩⟩
          |zow b=>simp[Wk]at e;subst e;exact⟨rfl,.inr<|.inr ⟨_,rfl⟩⟩
          |ol r=>simp[Wk]at e
          |oll r=>simp[Wk]at e
          |own x s=>simp[Wk]at e
     obtain⟨v,q,g⟩:=n k t l.1;refine⟨v,?_,?_⟩
     .unfold Ya
      rw[Xt,z];simp[q]
     .rcases l.2 with ⟨d,rfl⟩|⟨c,rfl⟩|⟨b,rfl⟩
      .exact⟨rfl,g.2⟩
      .exact⟨rfl,g.2⟩
      .exact⟨rfl,g.2⟩
def Ur {w:Type}{f:List (Option Nat)}{wi:TI}{g:CIn->TG}{tcc:CIn->TT}{tee:CIn->TE}{xs:List w}{enc h:w->PyData}{p:w->Bool}(hi:EvI K wi ρ (xs.map enc))(hl:xs.length<=1000)
 (hs:∀x∈xs,∀c,∃d,GTo K (g c) (enc x) (WX f ρ) d/\Zk K (tcc c) d (p x)/\(p x=true->Qs K (tee c) d (h x))):EvO K (tLC f wi g tcc tee) ρ (.ol<|(xs.filter p).map h):=fun r F P H Q S q =>
 hi r F P H _ S fun O H1 J B W c=>by
  have hn:xs.length<=sizeLine:=Ys (Vc hl);refine⟨fun i m A H=>m=xs.length-i/\i<=xs.length/\∃s,Qy O H1 s H/\Qx s A (((xs.take i).filter p).map h),⟨xs.length,by simp,XM _,O,Qy.refl B.fh,.nil⟩,?_⟩
  rintro i m A H' ⟨rfl,hle,s,j,o⟩
  obtain⟨Z,Y⟩:=W s H' j.ff j.fh
  by_cases b:i<xs.length
  .have e:(xs.map enc)[i]?=some (enc xs[i]):=by simp[b]
   obtain⟨go,X⟩:=Y i _ e;refine .inr ⟨go,fun v E y=>?_⟩;obtain⟨N,n,r3⟩:=X v E y;obtain⟨d,k1,k2,k3⟩:=hs xs[i] (WM b) c;have S3:=(S.ext<|B.trans<|j.trans n).inner f;have I:xs.take (i+1)=xs.take i++[xs[i]]:=by rw[JV];simp[b]
   have ly:=o.length
   have ly2:A.length<=i:=by
    rw[ly,Xn];refine X7 (List.length_filter_le _ _) ?_;rw[GL];omega
   refine k1 r N _ E v _ S3 r3 fun k L=>k2 r N k E _ L fun M H4 l=>?_
   cases C:p xs[i] with
   |true =>
     rw[Xd rfl];refine k3 C r M k H4 _ (L.ext l) fun F5 H5 z G r5=>⟨by omega,xs.length-(i+1),by omega,rfl,b,F5,j.trans<|n.trans<|l.trans G,?_⟩;rw[I,UU,Xy];simp only[UP,C,if_true,List.filter_nil,Xu,UO];exact(o.mono (n.trans<|l.trans G).ff).snoc r5
   |false =>
     rw[Xc Xw];refine⟨xs.length-(i+1),by omega,rfl,b,M,j.trans<|n.trans l,?_⟩;rw[I,UU,Xy];simp only[UP,C,List.filter_nil,UO,XF,Wx,if_false];exact o.mono (n.trans l).ff
  .have e:i=xs.length:=by omega
   subst e;refine .inl ⟨by simpa using Z,fun a ha=>?_⟩;rw[Jr]at o;obtain⟨U,T,R⟩:=B6 (K:=K) (B.trans j) ha o;exact q _ _ _ _ U T R
def Ga {b:Type}{f:List (Option Nat)}{wi:TI}{g:CIn->TG}{tee:CIn->TE}{xs:List b}{enc h:b->PyData}(k:EvI K wi ρ (xs.map enc))(j:xs.length<=1000)
 (i:∀x∈xs,∀c,∃a,GTo K (g c) (enc x) (WX f ρ) a/\Qs K (tee c) a (h x)):EvO K (tLC f wi g (fun _=>W3) tee) ρ (.ol<|xs.map h):=by
 have:=Ur (K:=K) (ρ:=ρ) (f:=f) (wi:=wi) (g:=g) (tcc:=fun _=>W3) (tee:=tee) (xs:=xs) (enc:=enc) (h:=h) (p:=fun _=>true) k j fun x d c=>by
  obtain⟨a,m,l⟩:=i x d c
  exact⟨a,m,N9,fun _=>l⟩
 have e:xs.filter (fun _=>true)=xs:=List.filter_eq_self.mpr fun _ _=>rfl;rw[e]at this;exact this
def Dk:List V->Hp->VK->Prop:=fun a H Q=>∃i j,a=[.int i,.int j]/\Q (.int (if j > i then j else i)) H
def Ds:List V->Hp->VK->Prop:=fun a H Q=>∃i j,a=[.int i,.int j]/\Q (.int (if j<i then j else i)) H
def NU:List V->Hp->VK->Prop:=fun a H Q=>(∃i,a=[.int i]/\Q (.int i) H)\/∃k,a=[.bl k]/\Q (.int (if k then 1 else 0)) H
def Np:List V->Hp->VK->Prop:=fun a H Q=>∃x T c b,a=[x,.ty c]/\TyN H x T/\Yx T c=some b/\Q (.bl b) H
def JY (K:W.Frag):List V->Hp->VK->Prop:=fun b H Q=>∃p a,b=[.ref p]/\(SqL K H p a\/SqT K H p a)/\Q (.int a.length) H
def DZ (K:W.Frag):List V->Hp->VK->Prop:=fun b H Q=>∃p a,b=[.ref p]/\(SqL K H p a\/SqT K H p a)/\∀l,H l=none->Q (.ref l) (upd H l<|.lst a)
def Rm (K:W.Frag):List V->Hp->VK->Prop:=fun b H Q=>∃p a,b=[.ref p]/\((SqL K H p a/\∀l,H l=none->Q (.ref l) (upd H l<|.tup a))\/(SqT K H p a/\Q (.ref p) H))
def Nx (X:Cx):List V->Hp->VK->Prop:=fun b H Q=>X.calm=true/\∃(x:V) (a:Ql),b=[x]/\Rep H x (.list<|a.map PyData.int)/\Q (.int a.sum) H
def Ld (h:X.calm=true):Zl X (.builtin "max") Dk:=EK h
def D3 (h:X.calm=true):Zl X (.builtin "min") Ds:=EB h
def Rz:Zl X (.type "int") NU:=IM
def DN:Zl X (.builtin "isinstance") Np:=AN
def Yk:Zl X (.builtin "len") (JY X.K):=OV
def Sn:Zl X (.type "list") (DZ X.K):=OY
def SR:Zl X (.type "tuple") (Rm X.K):=ZhA
def Rt:Zl X (.builtin "sum") (Nx X):=EC
def RB   (g:Qs K ta ρ (.int x))(f:Qs K tb ρ (.int y))(S:QA K H0 F ρ σ H)(h:∀m b,Qy F H m b->r [.int x,.int y] b Q):tCB r (QE ta<|QE tb QQ) σ H Q :=
 g H0 F σ H _ S fun l j v a e=>f H0 l σ j _ (S.ext a) fun k i w c d=>by cases e;cases d;exact h k i (a.trans c)
def Lb (b:Qs K ta ρ (.int x))(a:Qs K tb ρ (.int y)):Qs K (tCB Dk<|QE ta<|QE tb QQ) ρ (.int (if y > x then y else x)):=fun g F f H Q S q =>
 RB b a S fun d c e=>⟨x,y,rfl,q d c _ e<|.int _⟩
def Fd (b:Qs K ta ρ (.int x))(a:Qs K tb ρ (.int y)):Qs K (tCB Ds<|QE ta<|QE tb QQ) ρ (.int (if y<x then y else x)):=fun g F f H Q S q =>
 RB b a S fun d c e=>⟨x,y,rfl,q d c _ e<|.int _⟩
def B2 (h:Qs K ta ρ (.bool b)):Qs K (tCB NU<|QE ta QQ) ρ (.int (if b then 1 else 0)):=fun f F a H Q S q =>
 h f F a H _ S fun g e v c d=>by cases d;exact .inr ⟨b,rfl,q g e _ c<|.int _⟩
def Wl  (h:Qs K ta ρ a)(g:Yx (tyD a) c=some b):Qs K (tCB Np<|QE ta<|QE (tC<|.ty c) QQ) ρ (.bool b):=fun j F e H Q S q =>
 h j F e H _ S fun k i v d f=>⟨v,_,c,b,rfl,(f.mono d.fh).ty,g,q k i _ d<|.bl _⟩
def Gy (h:Qs K ta ρ (.list ds)):Qs K (tCB (JY K)<|QE ta QQ) ρ (.int (ds.length:Int)):=fun j F c H Q S q =>
 h j F c H _ S fun k i v b e=>by
  obtain⟨a,d,rfl,g,f,_⟩:=JQ (K:=K) e b.fh
  exact⟨a,d,rfl,.inl g,by rw[f.length];exact q k i _ b<|.int _⟩
def B3 (h:Qs K ta ρ (.tuple ds)):Qs K (tCB (JY K)<|QE ta QQ) ρ (.int (ds.length:Int)):=fun j F c H Q S q =>
 h j F c H _ S fun k i v b e=>by
  obtain⟨a,d,rfl,g,f,_⟩:=Jk (K:=K) e b.fh
  exact⟨a,d,rfl,.inr g,by rw[f.length];exact q k i _ b<|.int _⟩
def Lx  (e0:ρ[i]?=some (some<|.scr ns)):Qs K (tCB (JY K)<|QE (QB i) QQ) ρ (.int (ns.length:Int)):=fun f F d H Q S q=>by
 obtain⟨e,h,_⟩:=S.fp;obtain⟨v,c,_,a,rfl,b⟩:=h i _ e0
 exact⟨_,c,a,ns.map V.int,rfl,.inl<|S.sub.seq b.sq,by rw[Xn];exact q F H _ (Qy.refl S.sub)<|.int _⟩
def RO (h:Qs K ta ρ (.tuple ds)):EvO K (tCB (DZ K)<|QE ta QQ) ρ (.ol ds):=fun m F c H Q S q =>
 h m F c H _ S fun o n v b i=>by
  obtain⟨a,g,rfl,l,k,_⟩:=Jk (K:=K) i b.fh;refine⟨a,g,rfl,.inr l,fun p j=>?_⟩;obtain⟨f,e,d⟩:=B6 (K:=K) b j k;exact q _ _ _ _ f e d
def DA  (e0:ρ[i]?=some (some<|.ol ds)):Qs K (tCB (Rm K)<|QE (QB i) QQ) ρ (.tuple ds):=fun k F g H Q S q=>by
 obtain⟨j,h,_⟩:=S.fp;obtain⟨v,f,a,rfl,_,_,c,e,d⟩:=h i _ e0;refine⟨_,f,a,c,rfl,.inl ⟨SqL.of e,fun p b=>?_⟩⟩;exact q _ _ _ (Qy.new S.sub b) (.tup QC<|d.mono<|Q3.new<|S.sub.free b)
def D0 {ns:Ql}(h:Qs K ta ρ (.list<|ns.map PyData.int))(d:X.calm=true):Qs K (tCB (Nx X)<|QE ta QQ) ρ (.int ns.sum):=fun f F b H Q S q =>
 h f F b H _ S fun g e v a c=>⟨d,v,ns,rfl,c.mono a.fh,q g e _ a<|.int _⟩
def Be (r:Qs K ta ρ (.list as))(o:Qs K tb ρ (.list bs))(n:as.length+bs.length<=1000):EvO K (tOp MJ ta tb) ρ (.ol<|as++bs):=fun B F w H Q S q =>
 YS r o S fun E C x y e l k=>by
  obtain⟨a,j,rfl,z,c,s⟩:=JQ (K:=K) l e.fh;obtain⟨b,i,rfl,A,d,v⟩:=JQ (K:=K) k e.fh;refine⟨a,b,j,i,rfl,rfl,s,v,by rw[c.length,d.length];exact Ys<|Vc n,fun p m=>?_⟩;obtain⟨h,g,f⟩:=B6 (K:=K) e m (c.append d);exact q _ _ _ _ h g f
end
def QF {K:W.Frag}{ρ:Q9}{a:TE}{t:TA}{d:PyData}{ds:Qd}(c:Qs K a ρ d)(b:Zz K t ρ (fzs ds)):Zz K (QE a t) ρ (fzs (d::ds)):=Qw c b
def EvI.cast {K:W.Frag}{wi:TI}{ρ:Q9}{ds a:Qd}(h:EvI K wi ρ ds)(e:ds=a):EvI K wi ρ a:=e▸h
def Jh  (h:a=b)(c:m=n):ZQ a m=ZQ b n:=by rw[h,c]
def Rb {K:W.Frag}{ρ:Q9}{b a:TE}{x y:Int}(d:Qs K b ρ (.int x))(c:Qs K a ρ (.int y)):Qs K (tCB Dk<|QE b<|QE a QQ) ρ (.int<|max x y):=by
 have e:max x y=if y > x then y else x:=by split<;>omega
 rw[e];exact Lb d c
def Rh {K:W.Frag}{ρ:Q9}{b a:TE}{x y:Int}(d:Qs K b ρ (.int x))(c:Qs K a ρ (.int y)):Qs K (tCB Ds<|QE b<|QE a QQ) ρ (.int<|min x y):=by
 have e:min x y=if y<x then y else x:=by split<;>omega
 rw[e];exact Fd d c
def D6 {K:W.Frag}{ρ:Q9}{f:List (Option Nat)}{wi:TI}{g:CIn->TG}{tee:CIn->TE}{lo:Int}{n:Nat}{h:Nat->PyData}(j:EvI K wi ρ (ZQ lo n))(e:n<=1000)
 (d:∀(x:Nat),x<n->∀c,∃a,GTo K (g c) (.int<|lo+(x:Int)) (WX f ρ) a/\Qs K (tee c) a (h x)):EvO K (tLC f wi g (fun _=>W3) tee) ρ (.ol<|(List.range n).map h) :=
 Ga (xs:=List.range n) (enc:=fun(i:Nat)=>PyData.int<|lo+(i:Int)) j (by simpa using e) fun x b c=>d x (XU.mp b) c
def Qs.cast {K:W.Frag}{t:TE}{ρ:Q9}{d d':PyData}(h:Qs K t ρ d)(e:d=d'):Qs K t ρ d':=e▸h
def EvO.cast {K:W.Frag}{t:TE}{ρ:Q9}{d d':OT}(h:EvO K t ρ d)(e:d=d'):EvO K t ρ d':=e▸h
def Zk.cast {K:W.Frag}{t:TT}{ρ:Q9}{d d':Bool}(h:Zk K t ρ d)(e:d=d'):Zk K t ρ d':=e▸h
def B0 (K:W.Frag):Sp:=fun b H Q _=>∃(a:Addr) (c:Ql),b=[.ref a]/\KTs K H/\Scr K H a c/\∀d,Q (.bl true) d
def Fun.evLaw {P:Program}{w:World}{K:W.Frag}{m:Str->Qf}{base:Heap}{x c p:Str}{st:Stmt}{f:Addr}{n:FuncData}{N:Qh}{k:Nat}(F:Fun K x c st f n)(S:Qp N [p] (Q2 st))
 (l:∀(d:Value) (A:Around) (b:List Env) (s:Shared) (H:Hp) (E:XK) (ns:Ql),Room k (A.deeper<|envOfC c (Q2 st) s.heap.objs.size f d)->ns.length<=63->(∀i∈ns,Builtin.Int.intBits i<=2^20) ->
  ∃t,PSs (Vo CX0 P w K m base N c (Q2 st) f d A b s H E).nox (Z7 st) t/\Q0 K t (some (.scr ns)::List.replicate (N.length-1) none) { nx:=fun _=>False,rt:=fun r=>r=.fz (.bool true) }):FnOk P w K m base CX0 (k+1) f n [p] (B0 K):=by
 refine F.ok S (by rintro C H Q E ⟨a,ns,e,_⟩;rw[e];rfl) ?_;rintro d A b s H C Q E I ⟨a,ns,e,G,g,q⟩;subst e;obtain⟨t,L,J⟩:=l d A b s H E ns I g.len g.bits;refine⟨t,L,J H H H (start N [.ref a]) H _ (Qy.refl<|Q3.refl _) ⟨G,Q3.refl _,?_,fun _=>[],fun i O e=>?_,fun i j a h=>(nomatch h),fun i a h=>(nomatch h)⟩ ⟨fun M u o y B _ e=>False.elim e,fun M o v R p B T D e=>?_,fun _ _ _ _ _ _ z=>False.elim z,fun _ _ _ _ _ _ z=>False.elim z⟩⟩
 .unfold start
  simp
 .cases i with
  |zero =>
    simp at e
    subst e;exact⟨_,rfl,rfl,a,rfl,g⟩
  |succ i =>
    rw[UL]at e;have:=List.mem_of_getElem? e
    simp at this
 .subst e
  obtain⟨_,r⟩:=D
  cases r
  exact q o
def Zw {K:W.Frag}{ρ:Q9}:Zz K QQ ρ (fzs []):=Q4
def z62:(2:Int)^62=4611686018427387904:=by decide
def Lo {c:CXT}{P:Program}{w:World}{K:W.Frag}{a:Str->Qf}{base:Heap}{N:Qh}{q:Str}{sc:Scope}{f:Addr}{b:Value}{A:Around}{o:List Env}{s:Shared}{H:Hp}{E:XK}:(Vo c P w K a base N q sc f b A o s H E).nox.K=K:=rfl
def A9   : (ZL X N sc c).K=X.K:=rfl
section
variable {K:W.Frag}{ρ:Q9}{te:TE}
def EvP (K:W.Frag)(t:TO)(ρ:Q9)(o:Option Int):Prop := ∀(c F:Hp) (a:St) (H:Hp) (Q:Option Int->Hp->Prop),QA K c F ρ a H->(∀d b,Qy F H d b->Q o b)->t a H Q
def Bo:EvP K Sr ρ none:=fun b F a H Q S q=>q F H (Qy.refl S.sub)
def Bm (h:Qs K te ρ (.int i)):EvP K (N5 te) ρ (some i):=fun e F a H Q S q=>h e F a H _ S fun f d v b c=>by cases c;exact⟨i,rfl,q f d b⟩
def cut {a:Type}(xs:List a)(lo b:Option Int):List a:=(xs.drop<|HT.sIx xs.length 0 lo).take (HT.sIx xs.length xs.length b-HT.sIx xs.length 0 lo)
theorem Qx.drop {F:Hp}:∀{xs:List V} {ds:Qd} (n:Nat),Qx F xs ds->Qx F (xs.drop n) (ds.drop n)
 |_,_,0,r=>r
 |_,_,_+1,.nil=>.nil
 |_,_,n+1,.cons _ t=>Qx.drop n t
theorem Qx.take {F:Hp}:∀{xs:List V} {ds:Qd} (n:Nat),Qx F xs ds->Qx F (xs.take n) (ds.take n)
 |_,_,0,_=>.nil
 |_,_,_+1,.nil=>.nil
 |_,_,n+1,.cons r t=>.cons r (Qx.take n t)
def AY  (r:Qx F xs ds)(lo a:Option Int):Qx F (Jv xs lo a) (cut ds lo a):=by
 unfold Jv cut;rw[r.length];exact(r.drop _).take _
end
section
variable {K:W.Frag}{ρ:Q9}{ta tb:TE}
def J7 (as:Qd):Qd:=as.zipIdx.map fun p=>PyData.tuple [.int (p.2:Int),p.1]
def Md (as:Qd):(J7 as).length=as.length:=by simp[J7]
def Mb {as:Qd}{i:Nat}(e:(J7 as)[i]?=some d):∃a,as[i]?=some a/\d=.tuple [.int (i:Int),a]:=by
 unfold J7 at e;rw[Xt,List.getElem?_zipIdx]at e;cases z:as[i]? with
 |none=>rw[z]at e;cases e
 |some a=>rw[z]at e;simp at e;exact⟨a,rfl,e.symm⟩
def Ir {H:Hp}  (r:Rep F x (.list ds)):∃a xs,x=.ref a/\F a=some (.lst xs)/\Qx F xs ds:=by
 cases r with
 |lst c b=>exact⟨_,_,rfl,c,b⟩
def Gx  (h:Zz K t ρ [.fz<|.list as]):EvI K (NI K t) ρ (J7 as):=fun I F z H R S q =>
 h I F z H _ S fun J w L k f=>by
  cases f with
  |fz r f =>
    cases f
    obtain⟨a,b,rfl,o,m⟩:=Ir (H:=w) r;refine⟨a,rfl,⟨b,SqL.of<|k.fh _ _ o⟩,q J w _ k fun y G l c=>?_⟩;have g:SqL K G a b:=SqL.of (c _ _<|l _ _ o);refine⟨⟨b,g,by rw[Md,m.length]⟩,fun i d e=>?_⟩;obtain⟨M,E,rfl⟩:=Mb e;obtain⟨j,s,D⟩:=m.get E;refine⟨⟨b,j,g,s⟩,fun v N C=>?_⟩;obtain⟨p,x,n,rfl,rfl,B⟩:=C;have u:=B b g;rw[s]at u;cases u;have A:Q3 y (upd y p<|.tup [.int (i:Int),j]):=Q3.new (c.free n)
    exact⟨_,Qy.new c n,.tup QC<|.cons (.int _)<|.cons ((D.mono l).mono A) .nil⟩
def FI  (h:Qs K ta ρ (.list<|ns.map PyData.int))(d:X.calm=true)(hn:ns≠[]):Qs K (tCB (NF X)<|QE ta QQ) ρ (.int<|Yu ns):=fun f F b H Q S q =>
 h f F b H _ S fun g e v a c=>⟨d,v,ns,rfl,c.mono a.fh,hn,q g e _ a<|.int _⟩
def Bn (o:Qs K ta ρ (.tuple as))(n:Qs K tb ρ (.tuple bs))(m:as.length+bs.length<=1000):Qs K (tOp (NP K) ta tb) ρ (.tuple<|as++bs):=fun B F v H Q S q =>
 YS o n S fun j i x y e g f=>by
  obtain⟨a,l,rfl,r,c,w⟩:=Jk (K:=K) g e.fh;obtain⟨b,k,rfl,s,d,A⟩:=Jk (K:=K) f e.fh;refine⟨a,b,l,k,rfl,rfl,r,s,by rw[c.length,d.length];exact Ys<|Vc m,fun z=>?_,fun _ z=>?_,fun _ _ p h=>?_⟩
  .have:=c.length
   rw[z]at this;have u:as=[]:=Nc this.symm;rw[u,List.nil_append]at q;exact q j i _ e f
  .have:=d.length
   rw[z]at this;have t:bs=[]:=Nc this.symm;rw[t,XF]at q;exact q j i _ e g
  .exact q _ _ _ (e.trans<|Qy.new e.fh h) (.tup QC<|(c.append d).mono (Q3.new<|e.fh.free h))
def MX:OT->Option PyData
 |.fz d=>some d
 |.ol b=>some (.list b)
 |.oll a=>some (.list<|a.map PyData.list)
 |.scr _=>none
 |.own _ _=>none
 |.zow _=>none
def frF (F H:Hp)(p:Qg):Hp:=fun b=>if b∈p then H b else F b
def Y4  (h:b∈p):frF F H p b=H b:=by unfold frF;rw[Xd h]
def Yo  (h:b∉p):frF F H p b=F b:=by unfold frF;rw[Xc h]
def YK  (h:∀a∈p,F a=none):Q3 F (frF F H p):=fun b u e=>by
 rw[Yo fun z=>by rw[h b z]at e;cases e];exact e
def Je  (s:Q3 F H):Q3 (frF F H p) H:=fun b u e=>by
 by_cases z:b∈p
 .rw[Y4 z]at e;exact e
 .rw[Yo z]at e;exact s b u e
theorem SW {F d H:Hp}(e:Q3 F d):∀{as:Qg} {c:List (Qd)},Zy F H as c->(∀a∈as,d a=H a)->Qx d (as.map V.ref) (c.map PyData.list)
 |[],[],_,_=>.nil
 |a::as,n::c,h,f=>by
   obtain⟨⟨m,l,k,j⟩,i⟩:=h;exact .cons (.lst (by rw[f a Xb];exact k)<|j.mono e) (SW e i fun b g=>f b<|Xe _ g)
 |[],_::_,h,_=>False.elim h
 |_::_,[],h,_=>False.elim h
def Zp.frz   (c:Zp K F H v t p)(e:MX t=some d):Rep (frF F H p) v d:=by
 have f:Q3 F (frF F H p):=YK fun a j=>(c.there a j).1
 cases t with
 |fz w=>cases e;exact c.2.mono f
 |ol u =>
   cases e
   obtain⟨a,rfl,rfl,k,o,h,g⟩:=c;exact .lst (by rw[Y4 Xb];exact h) (g.mono f)
 |oll l =>
   cases e
   obtain⟨a,x,rfl,rfl,s,k,h,g⟩:=c;exact .lst (by rw[Y4 Xb];exact h) (SW f g fun b i=>Y4<|Xe _ i)
 |scr r=>cases e
 |own q n=>cases e
 |zow m=>cases e
theorem Zy.frOther {F H:Hp}{p:Qg}(d:Q3 F (frF F H p)):∀{as:Qg} {c:List (Qd)},(∀a∈as,a∉p)->Zy F H as c->Zy (frF F H p) H as c
 |[],[],_,_=>trivial
 |a::as,m::c,e,h=>by
   obtain⟨⟨l,f,k,j⟩,i⟩:=h
   exact⟨⟨by rw[Yo<|e a Xb];exact l,f,k,j.mono d⟩,Zy.frOther d (fun b g=>e b<|Xe _ g) i⟩
 |[],_::_,_,h=>False.elim h
 |_::_,[],_,h=>False.elim h
def Zp.frOther   (e:Q3 F (frF F H p))(c:Zp K F H v t q)(hn:∀a∈q,a∉p):Zp K (frF F H p) H v t q:=by
 cases t with
 |fz d=>exact⟨c.1,c.2.mono e⟩
 |zow k=>exact⟨c.1,k.mono e c.2⟩
 |ol w =>
   obtain⟨a,rfl,rfl,h,l,g,f⟩:=c
   exact⟨a,rfl,rfl,by rw[Yo<|hn a Xb];exact h,l,g,f.mono e⟩
 |oll o =>
   obtain⟨a,r,rfl,rfl,m,h,g,f⟩:=c
   exact⟨a,r,rfl,rfl,m,by rw[Yo<|hn a Xb];exact h,g,f.frOther e fun b n=>hn b<|Xe _ n⟩
 |scr u=>obtain⟨h,a,g,f⟩:=c;exact⟨h,a,g,f.mono e⟩
 |own s i=>exact⟨c.1,i.mono e (fun a j=>by rw[Yo<|hn a j];exact(i.there c.2 a j).1) (fun _ _=>rfl) c.2⟩
def QA.freezeG   (s:QA K H0 F ρ σ H)(e:ρ[i]?=some (some t))(I:MX t=some d) :
 ∃p,(∀a∈p,F a=none/\H a≠none/\H0 a=none)/\QA K H0 (frF F H p) (ρ.set i<|some<|.fz d) σ H:=by
 obtain⟨B,D,C,o,y,x,w⟩:=s;obtain⟨v,J,h⟩:=y i _ e;have m:=(Xh.mp e).1;have q:Q3 F (frF F H<|o i):=YK fun a g=>(h.there a g).1;refine⟨o i,fun a g=>⟨(h.there a g).1,(h.there a g).2,(w i a g).1⟩,B.mono q,Je D,by simp[C],fun j=>if j=i then [] else o j,fun j A l=>?_,fun j k b f n=>?_,fun j b f=>?_⟩
 .by_cases c:j=i
  .subst c
   rw[Xl m]at l;cases l;refine⟨_,J,?_,h.frz I⟩;dsimp only;rw[Xd rfl]
  .rw[Xs<|Ne.symm c]at l
   obtain⟨u,G,E⟩:=y j A l;refine⟨u,G,?_⟩;dsimp only;rw[Xc c];exact E.frOther q fun a g z=>c (x j i a g z)
 .by_cases c:j=i
  .simp[c]at f
  .by_cases r:k=i
   .simp[r]at n
   .simp only[Xc c]at f
    simp only[Xc r]at n;exact x j k b f n
 .by_cases c:j=i
  .simp[c]at f
  .simp only[Xc c]at f
   exact w j b f
def UA  (e:∀a∈p,F a=none/\H a≠none)(x:Qy (frF F H p) H F' H'):Qy F H (fun b=>if b∈p then none else F' b) H' :=
 ⟨x.hh,fun b u c=>by
  have d:b∉p:=fun z=>by rw[(e b z).1]at c;cases c
  simp only[Xc d];exact x.ff b u<|by rw[Yo d];exact c,fun b u c=>by
  by_cases z:b∈p
  .simp[z]at c
  .simp only[Xc z]at c;exact x.fh b u c,fun b c=>by
  by_cases z:b∈p
  .simp[z]at c
  .simp only[Xc z]at c
   rcases x.fr b c with y|y
   .rw[Yo z]at y;exact .inl y
   .exact .inr y⟩
def Br (ds:Qd):Prop := ∀d∈ds,∃w,Vk d=some w
theorem Qx.flats {F b:Hp}:∀{xs:List V} {ds:Qd},Br ds->Qx F xs ds->Qx b xs ds
 |_,_,_,.nil=>.nil
 |_::_,d::_,h,.cons r t=>by
   obtain⟨w,e⟩:=h d Xb;refine .cons ?_ (Qx.flats (fun c a=>h c<|Xe _ a) t)
   cases r<;>simp[Vk]at e
   .exact .non
   .exact .bl _
   .exact .int _
   .exact .str _
end
section
variable {K:W.Frag}{ρ:Q9}
theorem Zy.snoc {F H:Hp}{b:Addr}{ds:Qd}:∀{as:Qg} {a:List (Qd)},Zy F H as a->Vn F H b ds->Zy F H (as++[b]) (a++[ds])
 |[],[],_,h=>⟨h,trivial⟩
 |_::_,_::_,h,c=>⟨h.1,Zy.snoc h.2 c⟩
 |[],_::_,h,_=>False.elim h
 |_::_,[],h,_=>False.elim h
theorem Zy.length {F H:Hp}:∀{as:Qg} {a:List (Qd)},Zy F H as a->as.length=a.length
 |[],[],_=>rfl
 |_::_,_::_,h=>by simp[Zy.length h.2]
 |[],_::_,h=>False.elim h
 |_::_,[],h=>False.elim h
def TZ {I:Type}{f:List (Option Nat)}{wi:TI}{g:CIn->TG}{tee:CIn->TE}{xs:List I}{enc:I->PyData}{h:I->Qd}(hi:EvI K wi ρ (xs.map enc))(hl:xs.length<=1000)
 (hs:∀x∈xs,∀c,∃r,GTo K (g c) (enc x) (WX f ρ) r/\EvO K (tee c) r (.ol<|h x)):EvO K (tLC f wi g (fun _=>W3) tee) ρ (.oll<|xs.map h):=fun M F Z H Q S q =>
 hi M F Z H _ S fun Y U J B W c=>by
  have hn:xs.length<=sizeLine:=Ys (Vc hl);refine⟨fun i m N H=>m=xs.length-i/\i<=xs.length/\∃D n,Qy Y U D H/\N=n.map V.ref/\n.Nodup/\(∀a∈n,U a=none)/\Zy D H n ((xs.take i).map h),⟨xs.length,by simp,XM _,Y,[],Qy.refl B.fh,rfl,by simp,fun a w=>(nomatch w),trivial⟩,?_⟩
  rintro i m N H' ⟨rfl,hle,D,n,k,rfl,P,C,t⟩
  obtain⟨w1,w2⟩:=W D H' k.ff k.fh
  by_cases l:i<xs.length
  .have e:(xs.map enc)[i]?=some (enc xs[i]):=by simp[l]
   obtain⟨go,yl⟩:=w2 i _ e;refine .inr ⟨go,fun v E y=>?_⟩;obtain⟨X,A,r3⟩:=yl v E y;obtain⟨r,k1,k2⟩:=hs xs[i] (WM l) c;have S3:=(S.ext<|B.trans<|k.trans A).inner f;have tk:xs.take (i+1)=xs.take i++[xs[i]]:=by rw[JV];simp[l]
   have ol:=t.length;refine k1 M X _ E v _ S3 r3 fun G S4=>?_;dsimp only[W3];rw[Xd rfl];refine k2 M X G E _ S4 fun F5 H5 z p O T ok=>⟨?_,xs.length-(i+1),by omega,rfl,l,F5,n++[?_],k.trans<|A.trans O,?_,?_,?_,?_⟩
   .rw[Xn,ol,Xn,GL];omega
   .exact(match z with|.ref b=>b|_=>0)
   all_goals obtain⟨b,rfl,rfl,o1⟩:=ok
   .simp
   .rw[UR]
    refine⟨P,by simp,fun s j d hd=>?_⟩;have L:d=b:=by simpa using hd
    subst L;intro z;subst z;have u:E s=none:=T s Xb
    have:=(t.mem s j).2
    obtain⟨o,ho⟩:=Uz this;rw[A.hh _ _ ho]at u;cases u
   .intro s j
    rcases XB.mp j with j|j
    .exact C s j
    .have:s=b:=by simpa using j
     subst this;exact(k.trans A).hh.free (T s Xb)
   .rw[tk,Xy]
    exact(t.ext<|A.trans O).snoc o1
  .have e:i=xs.length:=by omega
   subst e;refine .inl ⟨by simpa using w1,fun a w=>?_⟩;rw[Jr]at t;have R:a∉n:=fun z=>(t.mem a z).2 w;refine q D _ _ (a::n) ((B.trans k).trans (Qy.own k.fh w)) (fun b u=>?_) ⟨a,n,rfl,rfl,XD.mpr ⟨R,P⟩,k.fh.free w,QC,t.other R⟩
   rcases Xf.mp u with rfl|u
   .exact(B.trans k).hh.free w
   .exact B.hh.free (C b u)
end
section
variable {es:Qi}{env:Env}
def Mn {a b c}:starEach (.Constant a b c::es) env=(false,eval (.Constant a b c) env)::starEach es env:=by rfl
def Gz {a b c d}:starEach (.Call a b c d::es) env=(false,eval (.Call a b c d) env)::starEach es env:=by rfl
def C8 {a b}:starEach (.Name a b::es) env=(false,eval (.Name a b) env)::starEach es env:=by rfl
def VW {a b c}:starEach (.Tuple a b c::es) env=(false,eval (.Tuple a b c) env)::starEach es env:=by rfl
end
structure PAb (X:Cx)(es:Qi)(t:TA):Prop where
 h:PA X es t
section
variable {X:Cx}{e:Expr}{es:Qi}{te:TE}{t:TA}{pos:Pos}
def Bv:PAb X [] QQ:=⟨Qq⟩
def ZM (c:PE X e te)(b:PAb X es t)(a:starEach (e::es) X.env=(false,eval e X.env)::starEach es X.env):PAb X (e::es) (QE te t):=⟨Qo c b.h a⟩
def B8 (h:PAb X es t):PE X (.List es pos) (J4 t):=ZC h.h
end
end L2
end
namespace PySem
section
variable {prog:Program}{w:World}{K:Type} [DecidableEq K] (knd:KeyKind prog w K)
def Yl (h:Heap) (b:List K×List K) (a:Addr):Prop := ∃o n p q,h.get? a=some o/\o.cls=.type "tuple" /\ o.data=.seq #[.ref p,.ref q] n/\IsTupleKey knd h b.1 p/\IsTupleKey knd h b.2 q
variable {knd}
def Yl.typeIs {s:Shared}  (x:Yl knd s.heap ks a):s.TypeIs (.ref a) "tuple" := let ⟨o,_,_,_,ho,hc,_⟩:=x;⟨o,ho,hc⟩
def Yl.inj  (i:Yl knd h x a)(g:Yl knd h y a):x=y:=by
 obtain⟨o,n,p,q,j,_,k,m,l⟩:=i;obtain⟨t,u,s,r,c,_,b,e,d⟩:=g
 cases Option.some.inj (j.symm.trans c)
 rw[k]at b;injection b with z _;have f:=X8 Array.toList z
 simp at f
 obtain⟨rfl,rfl⟩:=f;exact Prod.ext (m.inj e) (l.inj d)
def Yl.keeps   {es ep}(x:Yl knd h ks a)(f:h.get? d=some o)(i:o.data=.dict es ep)(e:Heap.SameBut d h h'):Yl knd h' ks a:=by
 obtain⟨j,n,p,q,c,k,b,m,l⟩:=x
 have g:a≠d:=fun z=>by
  subst z;cases Option.some.inj (c.symm.trans f);rw[i]at b;exact nomatch b
 exact⟨j,n,p,q,(e.2 a g).trans c,k,b,m.keeps f i e,l.keeps f i e⟩
def HI (knd:KeyKind prog w K)(a:List K×List K):Int:=reduceHash (Builtin.Tuple.tupleHashOf [tupleKeyHash knd a.1,tupleKeyHash knd a.2])
variable {A:Around}{E:Qb}{s:Shared}
def Zfl  (u:A.units+5<cLine)(j:Yl knd s.heap ks a)(h:Q (HI knd ks) { s with toks:=s.toks+(ks.1.length+ks.2.length+3) }) :
 wpAny (model prog w) A (pyHash<|.ref a) Q E s:=by
 have hT:=j.typeIs;obtain⟨o,n,p,q,k,_,l,r,m⟩:=j;unfold pyHash pyHashByItsType;refine Xa (wpAny_cRoomFor_or (.inr<|by omega) ?_);refine Xa (wpAny_specialOf hT F.slot_tuple_hash.lookup ?_);show wpAny _ _ (if (some (Value.builtin "tuple.__hash__")==some Value.none)=true then _ else _) Q E s;rw[Xc<|by rw[beq_builtin_none];exact Xw];refine Xa (wpAny_specialOf hT F.slot_tuple_hash.lookup ?_);show wpAny _ _ (callSpecialIfBoundUnlessNone? (.ref a) "__hash__" _ >>= _) Q E s;refine Xa (wpAny_callSpecialIfBoundUnlessNone?_slot hT F.slot_tuple_hash<|wpAny_call_entry F.slot_tuple_hash hT F.entry_tuple_hash ?_<|F.args_tuple_hash_1 _);show wpAny _ _ (Builtin.Tuple.tupleItemsOf (.ref a) >>= _) _ _ s;refine Xa (wpAny_tupleItemsOf k l ?_);refine Xa ?_
 rw[<- Array.forIn_toList];refine wpAny_forIn_list _
  (fun c (b:Array Int) e=>(c=[.ref p,.ref q]/\b.toList=[]/\e=s)\/(c=[.ref q]/\b.toList=[tupleKeyHash knd ks.1]/\e={ s with toks:=s.toks+(ks.1.length+1) }) \/
   (c=[]/\b.toList=[tupleKeyHash knd ks.1,tupleKeyHash knd ks.2]/\e={ s with toks:=s.toks+(ks.1.length+1)+(ks.2.length+1) }))
  _ ?_ ?_ _ _ (.inl ⟨rfl,rfl,rfl⟩)
 .rintro x c b e (⟨d,f,rfl⟩|⟨d,f,rfl⟩|⟨d,_⟩)
  .injection d with i g
   subst i g;refine Xa (wpAny_pyHash_tuple ?hu1 r ?_)
   case hu1=>show A.units+1<cLine;omega
   exact Xk (.inr<|.inl ⟨rfl,by simp[f],rfl⟩)
  .injection d with i g
   subst i g;refine Xa (wpAny_pyHash_tuple ?hu2 m ?_)
   case hu2=>show A.units+1<cLine;omega
   exact Xk (.inr<|.inr ⟨rfl,by simp[f],rfl⟩)
  .cases d
 .rintro b e (⟨d,_⟩|⟨d,_⟩|⟨_,f,rfl⟩)
  .cases d
  .cases d
  show wpAny _ _ (retInt<|Builtin.Tuple.tupleHashOf b.toList) _ _ _;rw[f];refine wpAny_ret_mkInt ?_;show wpAny _ _ (if (decide (-(2:Int)^63<=Builtin.Tuple.tupleHashOf [tupleKeyHash knd ks.1,tupleKeyHash knd ks.2])&&decide (Builtin.Tuple.tupleHashOf [tupleKeyHash knd ks.1,tupleKeyHash knd ks.2]<2^63))=true then _ else _) Q E _;unfold HI reduceHash at h;have t:s.toks+(ks.1.length+ks.2.length+3)=s.toks+(ks.1.length+1)+(ks.2.length+1)+1:=by omega
  rw[t]at h;split
  .rename_i d
   rw[Xd d]at h;exact Xk h
  .rename_i d
   rw[Xc d]at h;exact Xa (wpAny_rule<|Xk h)
def Zi2  (hu:A.units+1<cLine)(M:Yl knd s.heap x a)(I:Yl knd s.heap y b)(h:P (.done<|.ret<|.bool<|decide (x=y)) s) :
 wpAny (model prog w) A (Builtin.«tuple.__eq__» ⟨[.ref a,.ref b],[]⟩) P E s:=by
 have G:=I.typeIs;obtain⟨X,Z,p,q,o,_,z,F,D⟩:=M;obtain⟨W,Y,L,H,n,_,t,C,B⟩:=I;show wpAny _ _ (isInstance (.ref b) (.type "tuple") >>= _) _ _ s;refine Xa (wpAny_isInstance G isSubtype_tuple_tuple ?_);simp only[JU,Wx,if_false];refine Xa (wpAny_tupleItemsOf o z ?_);refine Xa (wpAny_tupleItemsOf n t ?_);refine Xa ?_
 have J:decide (x=y)=(decide (x.1=y.1)&&decide (x.2=y.2)):=by
  obtain⟨S,R⟩:=x;obtain⟨Q,O⟩:=y
  simp
 refine wpAny_forIn_list _
  (fun c r l=>r.1=none/\l=s/\((c=[(.ref p,.ref L),(.ref q,.ref H)])\/(c=[(.ref q,.ref H)]/\x.1=y.1)\/(c=[]/\x=y)))
  _ ?_ ?_ _ _ ⟨rfl,rfl,.inl rfl⟩
 .rintro⟨u,v⟩ c r l ⟨m,rfl,(d|⟨d,N⟩|⟨d,_⟩)⟩
  .injection d with k j
   injection k with i g;subst j i g;refine Xa (wpAny_eqBool_tuple (by omega) F C ?_)
   by_cases f:x.1=y.1
   .rw[Wv f]
    simp only[JU,Wx,if_false];exact Xk ⟨rfl,rfl,.inr<|.inl ⟨trivial,f⟩⟩
   .rw[XT f]
    simp only[Bool.not_false,if_true];rw[J,XT f,Bool.false_and]at h;exact Xa (Xk<|Xk<|Xk h)
  .injection d with k j
   injection k with i g;subst j i g;refine Xa (wpAny_eqBool_tuple (by omega) D B ?_)
   by_cases f:x.2=y.2
   .rw[Wv f]
    simp only[JU,Wx,if_false];exact Xk ⟨rfl,rfl,.inr<|.inr ⟨trivial,Prod.ext N f⟩⟩
   .rw[XT f]
    simp only[Bool.not_false,if_true];rw[J,XT f,Bool.and_false]at h;exact Xa (Xk<|Xk<|Xk h)
  .cases d
 .rintro⟨U,T⟩ l ⟨m,rfl,(d|⟨d,_⟩|⟨_,e⟩)⟩
  .cases d
  .cases d
  simp only at m
  subst m;refine Xk ?_;rw[Wv e]at h;exact h
def Zfg  (g:A.units+5<cLine)(d:Yl knd s.heap x a)(f:Yl knd s.heap y b)(h:Q (decide (x=y)) s) :
 wpAny (model prog w) A (eqBool (.ref a)<|.ref b) Q E s:=by
 unfold eqBool;try with_reducible refine wpAny_holding ?_;show wpAny _ _ (if (Value.ref a==Value.ref b)=true then _ else _) Q E s
 by_cases c:(Value.ref a==Value.ref b)=true
 .rw[Xd c]
  have e:a=b:=by have:=eq_of_beq c;injection this
  subst e;cases d.inj f;exact Xa (wpAny_rule<|Xk<|by simpa using h)
 .rw[Xc c]
  exact Xa (wpAny_richCompare_same_room (op:=.Eq) d.typeIs f.typeIs F.slot_tuple_eq
   (wpAny_call_entry F.slot_tuple_eq d.typeIs F.entry_tuple_eq (Zi2 (by show _+1<cLine;simp;omega) d f ⟨_,rfl,(by rintro⟨⟩),wpAny_truthy_bool h⟩)<|F.args_tuple_eq_2 _ _) (by omega))
def OB (n:Nat)  (i:IsTupleKey knd s.heap ks a)(h:Q true s):wpAny (model prog w) A (eqIsQuiet (n+1)<|.ref a) Q E s:=by
 have hT:=i.typeIs;obtain⟨o,d,m,j,_,l,k⟩:=i;unfold eqIsQuiet;refine Xa (wpAny_specialOf hT F.slot_tuple_eq.lookup ?_);show wpAny _ _ (isInstance (.ref a) (.type "tuple") >>= _) _ _ s;refine Xa (wpAny_isInstance hT isSubtype_tuple_tuple ?_);simp only[JU,Wx,if_false];refine Xa (wpAny_seqItems j l ?_);refine Xa ?_;show wpAny _ _ (forIn d _ _) _ _ s;rw[<- Array.forIn_toList];refine wpAny_forIn_list _ (fun b r e=>r.1=none/\e=s/\∀v∈b,carriedByValue v=true) _ ?_ ?_ _ _ ⟨rfl,rfl,k.byValue⟩
 .rintro v b r e ⟨g,rfl,c⟩
  rw[eqIsQuiet_byValue _<|c v Xb];refine Xa (Xk ?_);simp only[JU,Wx,if_false];exact Xk ⟨rfl,rfl,fun u f=>c u<|Xe _ f⟩
 .rintro⟨q,p⟩ e ⟨g,rfl,_⟩
  simp only at g
  subst g;exact Xk h
def Zei  (j:Yl knd s.heap ks a)(h:Q true s):wpAny (model prog w) A (eqIsQuiet 8<|.ref a) Q E s:=by
 have hT:=j.typeIs;obtain⟨o,n,p,q,l,_,m,x,t⟩:=j;unfold eqIsQuiet;refine Xa (wpAny_specialOf hT F.slot_tuple_eq.lookup ?_);show wpAny _ _ (isInstance (.ref a) (.type "tuple") >>= _) _ _ s;refine Xa (wpAny_isInstance hT isSubtype_tuple_tuple ?_);simp only[JU,Wx,if_false];refine Xa (wpAny_seqItems l m ?_);refine Xa ?_;show wpAny _ _ (forIn #[Value.ref p,Value.ref q] _ _) _ _ s;rw[<- Array.forIn_toList];refine wpAny_forIn_list _ (fun b r e=>r.1=none/\e=s/\∀v∈b,∃z i,v=.ref z/\IsTupleKey knd s.heap i z) _ ?_ ?_ _ _ ⟨rfl,rfl,fun v d=>?_⟩
 .rintro v b r e ⟨g,rfl,c⟩
  obtain⟨z,i,rfl,k⟩:=c v Xb;refine Xa (OB 6 k ?_);simp only[JU,Wx,if_false];exact Xk ⟨rfl,rfl,fun u f=>c u<|Xe _ f⟩
 .rintro⟨B,y⟩ e ⟨g,rfl,_⟩
  simp only at g
  subst g;exact Xk h
 .rcases Xf.mp d with rfl|d
  .exact⟨p,_,rfl,x⟩
  .rcases Xf.mp d with rfl|d
   .exact⟨q,_,rfl,t⟩
   .cases d
end
def Ht {prog:Program}{w:World}{K:Type} [DecidableEq K] (knd:KeyKind prog w K):HeapKind prog w (List K×List K) where
 is:=Yl knd
 hash:=HI knd
 draws:=fun e=>e.1.length+e.2.length+3
 room:=fun A=>A.units+5<cLine
 inj:=fun b a=>b.inj a
 keeps:=fun x g hd f=>x.keeps g hd f
 pyHash:=fun c d h=>Zfl c d h
 eqBool:=fun c b a h=>Zfg c b a h
 quiet:=fun d h=>Zei d h
section
variable {prog:Program}{w:World}{K:Type} [DecidableEq K] {knd:HeapKind prog w K}{A:Around}{E:Qb}{s:Shared}
def Zdc   (u:knd.room A)(b:knd.is s.heap k a)(z:s.heap.DictOfH knd d xs)
 (c:∀p,atKey xs k=some p->Q p.2 { s with toks:=s.toks+knd.draws k })
 (m:atKey xs k=none->∀h',h'.DictOfH knd d (xs++[(k,a,dflt)])->Heap.SameBut d s.heap h'->Q dflt { s with heap:=h',toks:=s.toks+knd.draws k })
 (hsz:xs.length<=sizeLine) :
 wpAny (model prog w) A (dictSetDefault d (.ref a) dflt) Q E s:=by
 obtain⟨o,D,C,h,B,g,q,n,r⟩:=z;unfold dictSetDefault;try with_reducible refine wpAny_holding ?_;refine Xa (knd.pyHash u b ?_);refine Xa (wpAny_dictFind_heap (s:={ s with toks:=s.toks+knd.draws k }) u b h g q n r ?_ ?_)
 .intro l
  have i:k∉xs.map (·.1):=not_mem_keys_of_get l
  refine Xa (wpAny_rule (Xa (wpAny_updateDictKeys (hz:=by have e:=size_of_entries q;omega) (s:={ s with toks:=s.toks+knd.draws k }) h g (Xk (m (atKey_none_of_get l) _ ⟨_,_,C+1,Wz _ h<|Obj.isFreed_of_dict<|Obj.data_mapDictKeys g _,
   B.mapDictKeys _,Obj.data_mapDictKeys g _,?_,?_,?_⟩<|Heap.SameBut.update ..)))))
  .simp[q,entryOfKey]
  .intro x f
   rcases XB.mp f with f|f
   .exact knd.keeps (n x f) h g (Heap.SameBut.update ..)
   .simp only[Xi]at f
    subst f;exact knd.keeps b h g (Heap.SameBut.update ..)
  .rw[Xy,UR]
   refine⟨r,by simp,?_⟩;intro x f y t;simp only[Xu,UO,Xi]at t;subst t;exact fun e=>i (e▸f)
 .intro j p v
  refine Xa (wpAny_dictEntries (s:={ s with toks:=s.toks+knd.draws k }) h g ?_);rw[entry_at q j,v];exact Xa (wpAny_rule<|Xk<|c _<|atKey_of_get r v)
def Zd9 (knd:HeapKind prog w K)(d a:Addr)(l:(d==sysModules)=false)(dflt:Value) :
 MeetsIn prog w (Builtin.«dict.setdefault» ⟨[.ref d,.ref a,dflt],[]⟩) (fun A R s=>knd.room A.in1/\∃k xs,knd.is s.heap k a/\s.heap.DictOfH knd d xs/\xs.length<=sizeLine /\
  (∀p,atKey xs k=some p->R (.ok<|.ret p.2) { s with toks:=s.toks+knd.draws k }) /\
  (atKey xs k=none->∀h',h'.DictOfH knd d (xs++[(k,a,dflt)])->Heap.SameBut d s.heap h'->R (.ok<|.ret dflt) { s with heap:=h',toks:=s.toks+knd.draws k })) :=
 .of_wp fun A R s ⟨h,k,xs,b,f,g,n,m⟩=>by
  unfold Builtin.«dict.setdefault»;refine Xa ?_;unfold Builtin.Dict.keyAndDefault;refine Xa (wpAny_notOrdered_dict f.typeIs ?_);show wpAny _ _ (pure (d,Value.ref a,some dflt)) _ _ s;refine Xk ?_;show wpAny _ _ (if (d==sysModules)=true then _ else (dictSetDefault d (.ref a) dflt >>= _)) _ _ s;rw[Xc<|by rw[l];exact Xw];exact Xa (Zdc h b f (fun p i=>Xk ⟨p.2,rfl,n p i⟩) (fun j h' e c=>Xk ⟨dflt,rfl,m j h' e c⟩) g)
end
end PySem
namespace L2
open PySem PySem.Spec PyProof.Rows
section
variable {κ:Type} [DecidableEq κ]
def Zx (kvs:List (κ×V))(k:κ):Option V:=(kvs.find? fun a=>decide (a.1=k)).map (·.2)
def VP (kvs:List (κ×V))(k:κ)(v:V):List (κ×V) :=
 if (kvs.any fun a=>decide (a.1=k))=true then kvs.map (fun a=>if a.1=k then (a.1,v) else a) else kvs++[(k,v)]
def YB {p:κ×V}  (e:p.1=k):Zx (p::r) k=some p.2:=by simp[Zx,Xx,e]
def YA {p:κ×V}  (e:¬p.1=k):Zx (p::r) k=Zx r k:=by simp[Zx,Xx,e]
theorem SS (k:κ):∀kvs:List (κ×V),(kvs.any fun a=>decide (a.1=k))=(Zx kvs k).isSome
 |[]=>rfl
 |p::r=>by
   rw[List.any_cons];by_cases e:p.1=k
   .simp only[YB e,Wv e,Bool.true_or,Option.isSome_some]
   .rw[YA e,XT e,Bool.false_or];exact SS k r
theorem PP (k j:κ)(y:V):∀kvs:List (κ×V),Zx kvs k=none->Zx (kvs++[(k,y)]) j=if j=k then some y else Zx kvs j
 |[],_=>by
   by_cases e:k=j
   .rw[Xd e.symm];exact YB (p:=(k,y)) e
   .rw[Xc fun z=>e z.symm];exact YA (p:=(k,y)) e
 |p::r,a=>by
   rw[Jq];have b:¬p.1=k:=fun z=>by rw[YB z]at a;cases a
   rw[YA b]at a;have c:=PP k j y r a
   by_cases e:p.1=j
   .rw[YB e,YB e,Xc fun z=>b<|e.trans z]
   .rw[YA e,YA e,c]
def PZ (kvs:List (κ×V))(k:κ)(v:V):(VP kvs k v).length<=kvs.length+1:=by
 unfold VP;split
 .rw[Xn];omega
 .rw[Xo,XN,List.length_nil];omega
def ZO.isSome_eq  (r:ZO o u):o.isSome=u.isSome:=by
 cases o with
 |none=>cases u with
   |none=>rfl
   |some _=>exact(show False from r).elim
 |some _=>cases u with
   |none=>exact(show False from r).elim
   |some _=>rfl
def ZO.getD   (r:ZO o u)(a:QM d d'):QM (o.getD d) (u.getD d'):=by
 cases o with
 |none=>cases u with
   |none=>exact a
   |some _=>exact(show False from r).elim
 |some _=>cases u with
   |none=>exact(show False from r).elim
   |some _=>exact r
def KV.val  (r:KV kvs vs)(k:κ):ZO (Zx kvs k) (valueAt vs k):=by
 unfold KV at r;induction r with
 |nil=>exact True.intro
 |@cons p q i a h t f =>
   obtain⟨d,g⟩:=h
   by_cases e:p.1=k
   .have c:q.1=k:=d.symm.trans e
    have b:valueAt (q::a) k=some q.2:=by simp[valueAt,Xx,c]
    rw[YB e,b];exact g
   .have c:¬q.1=k:=fun z=>e (d.trans z)
    have b:valueAt (q::a) k=valueAt a k:=by simp[valueAt,Xx,c]
    rw[YA e,b];exact f
def KV.any  (r:KV kvs vs)(k:κ):(kvs.any fun a=>decide (a.1=k))=vs.any fun a=>decide (a.1=k):=by
 unfold KV at r;induction r with
 |nil=>rfl
 |cons h t b=>rw[List.any_cons,List.any_cons,b,h.1]
def KV.repl  (r:KV kvs vs)(k:κ)  (c:QM y u) :
 KV (kvs.map fun a=>if a.1=k then (a.1,y) else a) (vs.map fun a=>if a.1=k then (a.1,u) else a):=by
 unfold KV at r ⊢;induction r with
 |nil=>exact .nil
 |@cons p q i g h t d =>
   rw[Xu,Xu];refine .cons ?_ d;obtain⟨b,f⟩:=h
   by_cases e:p.1=k
   .rw[Xd e,Xd<|b.symm.trans e];exact⟨b,c⟩
   .rw[Xc e,Xc fun z=>e<|b.trans z];exact⟨b,f⟩
def KV.put  (r:KV kvs vs)(k:κ)  (a:QM y u):KV (VP kvs k y) (stored vs k u):=by
 unfold VP stored;rw[r.any k];by_cases e:(vs.any fun b=>decide (b.1=k))=true
 .rw[Xd e,Xd e];exact r.repl k a
 .rw[Xc e,Xc e];exact Paired.snoc r ⟨rfl,a⟩
def KV.keys {kvs:List (κ×V)}{vs:List (κ×Value)}(r:KV kvs vs):kvs.map (·.1)=vs.map (·.1):=by
 unfold KV at r;induction r with
 |nil=>rfl
 |cons h t a=>rw[Xu,Xu,a,h.1]
def KV.length {kvs:List (κ×V)}{vs:List (κ×Value)}(r:KV kvs vs):kvs.length=vs.length:=Paired.length r
end
def Uj   (r:QM (kV k) u):(ZI P w).is k u=true:=by
 cases k with
 |inl i=>obtain⟨t,e⟩:=(show ∃t,u=Value.int i t from r);subst e;exact OP P w i t
 |inr x=>obtain⟨t,e⟩:=(show ∃t,u=Value.str x t from r);subst e;exact OC P w x t
theorem Pu {P:Program}{w:World}:∀{a:List Key} {us:Qe},QP (a.map kV) us->ItemsAre (ZI P w) a us
 |[],_,r=>by rw[UO]at r;cases r;exact .nil
 |k::a,_,r=>by
   rw[Xu]at r;cases r with
   |cons h t=>exact .cons (Uj h) (Pu t)
abbrev KT (H:Hp):List (List Key×V)->List (List Key×Addr×Value)->Prop:=Paired fun p q=>p.1=q.1/\H q.2.1=some (.tup<|p.1.map kV)/\QM p.2 q.2.2
def KT.val  (r:KT H kvs xs)(k:List Key):ZO (Zx kvs k) ((atKey xs k).map (·.2)):=by
 induction r with
 |nil=>exact True.intro
 |@cons p q i a h t f =>
   obtain⟨d,_,g⟩:=h
   by_cases e:p.1=k
   .have c:q.1=k:=d.symm.trans e
    have b:atKey (q::a) k=some q.2:=by simp[atKey,Xx,c]
    rw[YB e,b];exact g
   .have c:¬q.1=k:=fun z=>e (d.trans z)
    have b:atKey (q::a) k=atKey a k:=by simp[atKey,Xx,c]
    rw[YA e,b];exact f
def KT.repl  (r:KT H kvs xs)(k:List Key)  (d:QM y u) :
 KT H (kvs.map fun b=>if b.1=k then (b.1,y) else b) (xs.map<|putAt k u):=by
 induction r with
 |nil=>exact .nil
 |@cons p q j i h t f =>
   rw[Xu,Xu];refine .cons ?_ f;obtain⟨a,c,g⟩:=h;unfold putAt;by_cases e:p.1=k
   .rw[Xd e,Xd<|a.symm.trans e];exact⟨a,c,d⟩
   .rw[Xc e,Xc fun z=>e<|a.trans z];exact⟨a,c,g⟩
def KT.put  (r:KT H kvs xs)(k:List Key)  (d:H b=some (.tup<|k.map kV))(a:QM y u) :
 KT H (VP kvs k y) (storedH xs k b u):=by
 have e:(kvs.any fun c=>decide (c.1=k))=(atKey xs k).isSome:=by
  rw[SS,(r.val k).isSome_eq,Js]
 unfold VP storedH;rw[e];by_cases q:(atKey xs k).isSome=true
 .rw[Xd q,Xd q];exact r.repl k a
 .rw[Xc q,Xc q];exact Paired.snoc r ⟨rfl,d,a⟩
def KT.keeps  (r:KT H kvs xs)(a:∀b ys,H b=some (.tup ys)->H' b=some (.tup ys)):KT H' kvs xs :=
 Paired.mapP r fun _ _ z=>⟨z.1,a _ _ z.2.1,z.2.2⟩
section
variable {P:Program}{w:World}{H:Hp}{h:Heap}{a:Addr}
def NN (b:HOk P w H h)(e:Rd H a u):ZA P w H h a u:=e.ok b
def WY (b:HOk P w H h)(e:Rd H a (.dK kvs)):kvs.length<=sizeLine/\(a==sysModules)=false/\∃vs,KV kvs vs/\h.DictOf (ZI P w) a vs :=
 show ZA P w H h a (.dK kvs) from NN b e
def Dx (b:HOk P w H h)(e:H a=some (.dK kvs)):kvs.length<=sizeLine/\(a==sysModules)=false/\∃vs,KV kvs vs/\h.DictOf (ZI P w) a vs:=WY b (.inl e)
def Wi (c:HOk P w H h)(e:H a=some (.tup<|ks.map kV)):(tupleKind<|ZI P w).is h ks a:=by
 obtain⟨_,b,r,o,g,f,n,d⟩:=(show ZA P w H h a (.tup<|ks.map kV) from c a _ e)
 exact⟨o,b.toArray,n,g,f,d,by simpa using Pu r⟩
def JC (d:HOk P w H h)(e:Rd H a (.dT kvs)):kvs.length<=sizeLine/\(a==sysModules)=false /\
 ∃xs,KT H kvs xs/\h.DictOfH (tupleKind<|ZI P w) a xs:=by
 obtain⟨z,y,xs,r,o,u,v,s,n,k,j,i⟩:=(show ZA P w H h a (.dT kvs) from NN d e);refine⟨z,y,xs,r,o,u,v,s,n,k,j,fun x b=>?_,i⟩
 have c:∀{l:List (List Key×V)} {m:List (List Key×Addr×Value)},KT H l m->∀x∈m,(tupleKind<|ZI P w).is h x.1 x.2.1:=by
  intro l m q;induction q with
  |nil=>intro x b;exact nomatch b
  |@cons p q B A f t g =>
    intro x b;rcases Xf.mp b with e|b
    .subst e
     exact Wi d (by rw[<- f.1];exact f.2.1)
    .exact g x b
 exact c r x b
def Dj (b:HOk P w H h)(e:H a=some (.dT kvs)):kvs.length<=sizeLine/\(a==sysModules)=false /\
 ∃xs,KT H kvs xs/\h.DictOfH (tupleKind<|ZI P w) a xs:=JC b (.inl e)
end
def Vw (H:Hp)(a:Addr)(y:V)(r:Option V):Prop :=
 (∃c k,Rd H a (.dK c)/\y=kV k/\r=Zx c k)\/∃c k b,Rd H a (.dT c)/\y=.ref b/\H b=some (.tup<|k.map kV)/\r=Zx c k
def WV (H:Hp)(a:Addr)(y v:V)(d:Hp):Prop :=
 (∃c k,H a=some (.dK c)/\y=kV k/\c.length<sizeLine/\d=upd H a (.dK<|VP c k v)) \/
 ∃c k b,H a=some (.dT c)/\y=.ref b/\H b=some (.tup<|k.map kV)/\c.length<sizeLine/\d=upd H a (.dT<|VP c k v)
def Vw.k {H:Hp}{a:Addr}{kvs:List (Key×V)}{k:Key}(e:H a=some (.dK kvs)):Vw H a (kV k) (Zx kvs k):=.inl ⟨kvs,k,.inl e,rfl,rfl⟩
def Vw.t  {kvs:List (List Key×V)}{k:List Key}(e:H a=some (.dT kvs))(c:H b=some (.tup<|k.map kV)):Vw H a (.ref b) (Zx kvs k):=.inr ⟨kvs,k,b,.inl e,rfl,c,rfl⟩
def WV.k {H:Hp}{a:Addr}{kvs:List (Key×V)}{k:Key}{v:V}(e:H a=some (.dK kvs))(b:kvs.length<sizeLine):WV H a (kV k) v (upd H a<|.dK<|VP kvs k v):=.inl ⟨kvs,k,e,rfl,b,rfl⟩
def WV.t {H:Hp}{a b:Addr}{kvs:List (List Key×V)}{k:List Key}{v:V}(e:H a=some (.dT kvs))(d:H b=some (.tup<|k.map kV))(c:kvs.length<sizeLine) :
 WV H a (.ref b) v (upd H a<|.dT<|VP kvs k v):=.inr ⟨kvs,k,b,e,rfl,d,c,rfl⟩
section
variable {X:Cx}{Xa0:Qc}{σ:St}{H:Hp}{s:Shared}{a:Addr}{y v:V}{u r:Value}{o:Option V}{A:Around}{E:Qb}
def Qr.big (I:Qr X Xa0 σ H s):sysModules<s.heap.objs.size:=by
 have h:mainGlobals<s.heap.objs.size:=(I.mod.glob.keeps I.bk).lt;exact Nat.lt_trans (by decide) h
def Eh (C:A.units+1<cLine)(I:Qr X Xa0 σ H s)(g:Vw H a y (some v))(w:QM y u)(h:∀f t,Qr X Xa0 σ H t->QM v f->Q f t) :
 wpAny (model X.prog X.w) A (getItem (.ref a) u) Q E s:=by
 rcases g with ⟨i,k,e,n,l⟩|⟨i,k,b,e,n,G,l⟩
 .subst n
  obtain⟨z,F,B,d,q⟩:=WY I.hok e;obtain⟨f,j,c⟩:=ZO.some_of (v:=v) (o:=valueAt B k) (by rw[l];exact d.val k);exact wpAny_getItem_of (Uj w) q.mapOf j (h f _ (I.tok _) c)
 .subst n
  cases (show u=Value.ref b from w)
  obtain⟨z,F,x,d,q⟩:=JC I.hok e;obtain⟨f,j,c⟩:=ZO.some_of (v:=v) (o:=(atKey x k).map (·.2)) (by rw[l];exact d.val k);obtain⟨p,D,m⟩:=Option.map_eq_some_iff.mp j;refine wpAny_getItem_heap (tupleKind_room_in1 C) (Wi I.hok G) q D ?_;rw[m];exact h f _ (I.tok _) c
def TJ (p:A.units+1<cLine)(I:Qr X Xa0 σ H s)(g:Vw H a y o)(n:QM y u)(h:∀m,Qr X Xa0 σ H m->Q (.bool o.isSome) m) :
 wpAny (model X.prog X.w) A (compareOp .In u<|.ref a) Q E s:=by
 rcases g with ⟨d,k,e,i,l⟩|⟨d,k,b,e,i,t,l⟩
 .subst i
  obtain⟨z,f,x,c,j⟩:=WY I.hok e;refine wpAny_in_of (Uj n) f j.mapOf ?_;rw[<- (c.val k).isSome_eq,<- l];exact h _ (I.tok _)
 .subst i
  cases (show u=Value.ref b from n)
  obtain⟨z,f,w,c,j⟩:=JC I.hok e;refine wpAny_in_heap (tupleKind_room_in1 p) (Wi I.hok t) f j ?_;have q:=(c.val k).isSome_eq;rw[Js]at q;rw[<- q,<- l];exact h _ (I.tok _)
def C4 (p:A.units+1<cLine)(I:Qr X Xa0 σ H s)(g:Vw H a y o)(n:QM y u)(h:∀m,Qr X Xa0 σ H m->Q (.bool<|!o.isSome) m) :
 wpAny (model X.prog X.w) A (compareOp .NotIn u<|.ref a) Q E s:=by
 rcases g with ⟨d,k,e,i,l⟩|⟨d,k,b,e,i,t,l⟩
 .subst i
  obtain⟨z,f,x,c,j⟩:=WY I.hok e;refine wpAny_notIn_of (Uj n) f j.mapOf ?_;rw[<- (c.val k).isSome_eq,<- l];exact h _ (I.tok _)
 .subst i
  cases (show u=Value.ref b from n)
  obtain⟨z,f,w,c,j⟩:=JC I.hok e;refine wpAny_notIn_heap (tupleKind_room_in1 p) (Wi I.hok t) f j ?_;have q:=(c.val k).isSome_eq;rw[Js]at q;rw[<- q,<- l];exact h _ (I.tok _)
def G2  (I:Qr X Xa0 σ H s)(d:Mut (H a))(f:Heap.SameBut a s.heap h')(g:∃q,h'.get? a=some q)(c:ZA X.prog X.w (upd H a ob) h' a ob) :
 Qr X Xa0 σ (upd H a ob) { s with heap:=h',toks:=t' } :=
 I.write (x:=a) (e:=a) d (.inl rfl) (fun b q h z=>(f.2 b h).trans z) g c
def Ro    (z:kvs.length<=sizeLine)(c:(a==sysModules)=false)(b:KV kvs vs)(d:h'.DictOf (ZI P w) a vs) :
 ZA P w H' h' a (.dK kvs):=⟨z,c,vs,b,d⟩
def Ef  (O:A.units+1<cLine)(I:Qr X Xa0 σ H s)(g:WV H a y v H')(D:QM y u)(F:QM v r)(h:∀C,Qr X Xa0 σ H' C->Q () C) :
 wpAny (model X.prog X.w) A (setItem (.ref a) u r) Q E s:=by
 rcases g with ⟨f,k,e,w,l,x⟩|⟨f,k,b,e,w,L,l,x⟩
 .subst w x
  obtain⟨z,t,N,d,B⟩:=Dx I.hok e;have m:N.length<=sizeLine:=by rw[<- d.length];exact z
  have p:(VP f k v).length<=sizeLine:=by have:=PZ f k v;omega
  refine wpAny_setItem_pairs (hsz:=m) (Uj D) B fun G i n=>h _ ?_;have P:∃q,G.get? a=some q:=let ⟨q,_,_,j,_⟩:=i;⟨q,j⟩;exact G2 I (by rw[e];exact True.intro) n P (Ro p t (d.put k F) i)
 .subst w x
  cases (show u=Value.ref b from D)
  obtain⟨z,t,M,d,B⟩:=Dj I.hok e;have m:M.length<=sizeLine:=by rw[<- Paired.length d];exact z
  have p:(VP f k v).length<=sizeLine:=by have:=PZ f k v;omega
  refine wpAny_setItem_heap (hsz:=m) (tupleKind_room_in1 O) (Wi I.hok L) B fun G i n=>h _ ?_;obtain⟨q,W,Y,j,U,T,S,_,R⟩:=i;refine G2 I (by rw[e];exact True.intro) n ⟨q,j⟩ ⟨p,t,_,(d.put k L F).keeps fun c Z J=>?_,q,W,Y,j,U,T,S,R⟩;rw[Qu<|NG J e fun z=>nomatch z];exact J
end
def Da (i:Expr):Prop := ∀a b,subscripted i false a b=operate [a,b] (getItem a b)
def Sg {prog:Program}{w:World}{A:Around}{E:Qb}{s:Shared}{env:Env}{b a:Expr}{e:Pos}{T k:String}{Q:Qb}
 (m:typeLookup (.type T) "__getitem__"=pure (some<|.builtin k)) (l:Da a)
 (h:wpAny (model prog w) A (eval b env) (fun o j=>wpAny (model prog w) A (eval a env) (fun i d=>d.TypeIs o T/\wpAny (model prog w) A (getItem o i) Q E d) E j) E s) :
 wpAny (model prog w) A (eval (.Subscript b a e) env) Q E s:=by
 refine Subscript_ (wpAny_mono h (fun o j p=>wpAny_mono p (fun i d f=>?_) fun _ _ x=>x) fun _ _ x=>x);obtain⟨hT,f⟩:=f;unfold subscriptTail;refine Xa ?_;rw[getitemInPython_of_ne hT.not_modules];refine Xa (wpAny_specialOf hT m ?_)
 have c:wpAny (model prog w) A (subscripted a false o i) (fun r g=>wpAny (model prog w) A (letTemporaryGo b o r >>= fun _=>pure r) Q E g) E d:=by
  rw[l o i];exact wpAny_operating (wpAny_mono f (fun r g n=>Xa<|wpAny_letTemporaryGo<|Xk n) fun _ _ x=>x)
 first
  |exact Xk (Xa c)
  |exact Xa (Xk<|Xa c)
  |exact Xa c
def OM {X:Cx} {f:Qc} {h:St} {H:Hp} {s:Shared} {a:Addr} {y:V} {o:Option V} (I:Qr X f h H s) (g:Vw H a y o):s.TypeIs (.ref a) "dict" := by
 rcases g with ⟨c,k,e,_,_⟩|⟨c,k,b,e,_,_,_⟩
 .obtain⟨_,_,j,_,d⟩:=WY I.hok e
  exact d.typeIs
 .obtain⟨_,_,i,_,d⟩:=JC I.hok e
  exact d.typeIs
def N4 (e d:TE):TE:=fun b H Q=>e b H fun x f=>d b f fun y c=>∃a v,x=.ref a/\Vw c a y (some v)/\Q v c
def GU (d e:TE):TE:=fun b H Q=>d b H fun y f=>e b f fun x c=>∃a o,x=.ref a/\Vw c a y o/\Q (.bl o.isSome) c
def Sh (d e:TE):TE:=fun b H Q=>d b H fun y f=>e b f fun x c=>∃a o,x=.ref a/\Vw c a y o/\Q (.bl<|!o.isSome) c
def Dy (f d e:TE):TS:=fun D b H=>e b H fun v i=>f b i fun x h=>d b h fun y g=>∃a c,x=.ref a/\WV g a y v c/\D.nx b c
section
variable {X:Cx}{o i value:Expr}{pos pos':Pos}{td ty tv:TE}
def RZ (n:X.A.units+1<cLine)(q:PE X o td)(r:PE X i ty)(p:Da i):PE X (.Subscript o i pos) (N4 td ty):=by
 intro b s d H Q I h;refine Sg PySem.F.slot_dict_getitem.lookup p (Q7 (q b s d H _ I h) ?_);rintro u f ⟨x,B,z,k,m⟩;refine Q7 (r b f d B _ z m) ?_;rintro F E ⟨y,A,e,j,a,v,t,g,l⟩;subst t;obtain rfl:u=Value.ref a:=k
 exact⟨OM e g,Eh n e g j fun C D w c=>⟨v,A,w,c,l⟩⟩
def DM (m:X.A.units+1<cLine)(p:PE X i ty)(n:PE X o td):PC X .In i o (GU ty td):=by
 intro b s c H Q I h;refine Q7 (p b s c H _ I h) ?_;rintro C d ⟨y,z,v,e,k⟩;refine Q7 (n b d c z _ v k) ?_;rintro u B ⟨x,w,t,f,a,l,q,g,j⟩;subst q;obtain rfl:u=Value.ref a:=f;exact TJ m t g e fun A r=>⟨.bl l.isSome,w,r,rfl,j⟩
def EX (m:X.A.units+1<cLine)(p:PE X i ty)(n:PE X o td):PC X .NotIn i o (Sh ty td):=by
 intro b s c H Q I h;refine Q7 (p b s c H _ I h) ?_;rintro C d ⟨y,z,v,e,k⟩;refine Q7 (n b d c z _ v k) ?_;rintro u B ⟨x,w,t,f,a,l,q,g,j⟩;subst q;obtain rfl:u=Value.ref a:=f;exact C4 m t g e fun A r=>⟨.bl<|!l.isSome,w,r,rfl,j⟩
def Hi (q:X.A.units+1<cLine)(w:PE X o td)(z:PE X i ty)(p:PE X value tv)(t:swapsWith value (some<|.Subscript o i pos') pos.line X.env=pure false) :
 PS X (.Assign [.Subscript o i pos'] value pos) (Dy td ty tv):=by
 intro b s c H D I h;refine wpAny_Assign_Subscript (Q7 (p b s c H _ I h) ?_) t;rintro r e ⟨v,L,F,k,n⟩;refine Q7 (w b e c L _ F n) ?_;rintro u d ⟨x,J,E,j,m⟩;refine Q7 (z b d c J _ E m) ?_;rintro O N ⟨y,P,C,f,a,G,A,g,l⟩;subst A;obtain rfl:u=Value.ref a:=j;exact Ef q C g f k fun M B=>⟨c,G,B,l⟩
end
def An  (h:Heap) (a:sysModules<h.objs.size):ZA P w H (h.push { cls:=.type "dict",data:=.dict #[] }) h.objs.size (.dK []) :=
 ⟨XM _,beq_eq_false_iff_ne.mpr<|Ne.symm<|Xr a,[],.nil,Heap.DictOf.new h⟩
def S5  (h:Heap) (a:sysModules<h.objs.size):ZA P w H (h.push { cls:=.type "dict",data:=.dict #[] }) h.objs.size (.dT []) :=
 ⟨XM _,beq_eq_false_iff_ne.mpr<|Ne.symm<|Xr a,[],.nil,_,#[],0,Xz _ rfl,⟨rfl,rfl,rfl⟩,rfl,rfl,Ju⟩
def Re:TE:=fun _ H Q=>∀p,H p=none->Q (.ref p) (upd H p<|.dK [])
def LI:TE:=fun _ H Q=>∀p,H p=none->Q (.ref p) (upd H p<|.dT [])
section
variable {X:Cx}{pos:Pos}
def Hx:PE X (.Dict [] [] pos) Re:=fun b s c H Q I h =>
 wpAny_Dict_empty ⟨.ref s.heap.objs.size,_,I.laid (a:=s.heap.objs.size) (o:=.dK []) (t':=s.toks) (fun _ _ q=>Xg _ q) (Xq _)<|An s.heap I.big,rfl,h _<|I.hok.fresh<|Xq _⟩
def Es:PE X (.Dict [] [] pos) LI:=fun b s c H Q I h =>
 wpAny_Dict_empty ⟨.ref s.heap.objs.size,_,I.laid (a:=s.heap.objs.size) (o:=.dT []) (t':=s.toks) (fun _ _ q=>Xg _ q) (Xq _)<|S5 s.heap I.big,rfl,h _<|I.hok.fresh<|Xq _⟩
end
structure M2 (X:Cx)(o:Expr)(m:Str)(apos:Pos)(e f:Expr)(cpos:Pos):Prop where
 base:attributeBase o m X.env (eval o X.env)=eval o X.env
 few:((backTo cpos<|starEach [e,f] X.env).all (fun x => !x.1)&&(backToKw cpos<|keywordEach [] X.env).all (fun x=>x.1.isSome)
  && decide (([e,f]:Qi).length+([]:List Keyword).length+(if ([]:List Keyword).isEmpty then 0 else 1)<30))=true
 line:(apos.endLine==cpos.line)=true
 trees:backTo cpos (starEach [e,f] X.env)=[(false,eval e X.env),(false,eval f X.env)]
def IsD (H:Hp)(a:Addr):Prop:=(∃b,Rd H a<|.dK b)\/∃b,Rd H a (.dT b)
def R0 {X:Cx}{j:Qc}{k:St}{H:Hp}{s:Shared}{a:Addr}(I:Qr X j k H s)(d:IsD H a) :
 s.TypeIs (.ref a) "dict" /\ (∀b,Value.ref a=.ref b->∃ob,s.heap.get? b=some ob/\ob.dict=none)/\(a==sysModules)=false:=by
 rcases d with ⟨f,e⟩|⟨f,e⟩
 .obtain⟨_,g,m,_,c⟩:=WY I.hok e
  refine⟨c.typeIs,fun b q=>?_,g⟩
  cases q
  obtain⟨ob,_,_,i,h,_⟩:=c
  exact⟨ob,i,h.2.1⟩
 .obtain⟨_,g,l,_,c⟩:=JC I.hok e
  refine⟨c.typeIs,fun b q=>?_,g⟩
  cases q
  obtain⟨ob,_,_,i,h,_⟩:=c
  exact⟨ob,i,h.2.1⟩
section
variable {X:Cx}{Xa0:Qc}{σ:St}{H:Hp}{s:Shared}{a:Addr}{y d:V}{u r:Value}{o:Option V}{A:Around}{E:Qb}
def Fb (w:A.units+1<cLine)(I:Qr X Xa0 σ H s)(g:Vw H a y o)(q:QM y u)(t:QM d r)(h:∀n p,Qr X Xa0 σ H p->QM (o.getD d) n->Q n p) :
 wpAny (model X.prog X.w) A (call (.builtin "dict.get") [.ref a,u,r]) Q E s:=by
 rcases g with ⟨i,k,e,m,l⟩|⟨i,k,b,e,m,x,l⟩
 .subst m
  obtain⟨z,j,B,c,f⟩:=WY I.hok e;refine call_meetsIn PySem.F.slot_dict_get f.typeIs PySem.F.entry_dict_get (PySem.F.args_dict_get_3 _ _ _) (meets_dict_get_default (ZI X.prog X.w) a (Uj q) j r) ⟨_,f.mapOf,h _ _ (I.tok _) ?_⟩;rw[l];exact(c.val k).getD t
 .subst m
  cases (show u=Value.ref b from q)
  obtain⟨z,j,v,c,f⟩:=JC I.hok e;refine call_meetsIn PySem.F.slot_dict_get f.typeIs PySem.F.entry_dict_get (PySem.F.args_dict_get_3 _ _ _) (meetsH_dict_get_default (tupleKind<|ZI X.prog X.w) a b j r) ⟨tupleKind_room_in1 w,k,v,Wi I.hok x,f,h _ _ (I.tok _) ?_⟩;rw[l];exact(c.val k).getD t
end
def Rg (g e f:TE):TE:=fun b H Q=>g b H fun x d=>∃a,x=.ref a/\IsD d a/\e b d fun y h=>f b h fun z c=>∃o,Vw c a y o/\Q (o.getD z) c
section
variable {X:Cx}{o e f:Expr}{apos cpos:Pos}{td ty tx:TE}
def Af (B:X.A.units+1<cLine) (C:PE X o td) (E:PE X e ty) (D:PE X f tx) (m:M2 X o "get" apos e f cpos):PE X (.Call (.Attribute o "get" apos) [e,f] [] cpos) (Rg td ty tx):=by
 intro b s c H Q I h;refine wpAny_Call_method m.base m.few m.line PySem.F.plainAttrs_dict PySem.F.slot_dict_get PySem.F.type_dict_get (Q7 (C b s c H _ I h) ?_);rintro u p ⟨x,O,j,t,a,F,d,A⟩;subst F;obtain rfl:u=Value.ref a:=t;obtain⟨l,k,_⟩:=R0 j d;refine⟨l,k,?_⟩
 rw[m.trees];refine Calls.callWith_builtin rfl (Calls.evalArgs_plain (Calls.spliced_cons (Q7 (E b p c O _ j A) fun U n ⟨y,N,L,r,w⟩ =>
  Calls.spliced_cons (Q7 (D b n c N _ L w) fun W S ⟨z,M,J,q,T,g,v⟩=>Calls.spliced_nil ?_))))
 exact Fb B J g r q fun P R G i=>⟨_,M,G,i,v⟩
end
section
variable {X:Cx}{Xa0:Qc}{σ:St}{H:Hp}{s:Shared}{a:Addr}{kvs:List (Key×V)}{A:Around}{E:Qb}
def Ev (I:Qr X Xa0 σ H s) (e:Rd H a (.dK kvs)) (h:∀p f,H p=none->Qr X Xa0 σ (upd H p<|.dK kvs) f->Q (.ref p) f):wpAny (model X.prog X.w) A (call (.type "dict") [.ref a]) Q E s:=by
 obtain⟨z,j,l,c,k⟩:=WY I.hok e;refine kt_call_dict j k (by rw[<- c.length];exact z) fun m d i=>?_;refine h _ _ (I.hok.fresh<|Xq _) (I.laid (a:=s.heap.objs.size) (o:=.dK kvs) (t':=s.toks) (fun b q g=>?_) (Xq _)<|Ro z (beq_eq_false_iff_ne.mpr<|Ne.symm<|Xr I.big) c d)
 exact(i.2 b<|Xr<|Xj g).trans (Xg _ g)
end
end L2
namespace L2
open PySem
theorem Zy.keep {F H d:Hp}:∀{as:Qg} {c:List (Qd)},(∀b∈as,d b=H b)->Zy F H as c->Zy F d as c
 |[],[],_,_=>trivial
 |a::as,_::_,h,o=>by
   obtain⟨⟨k,e,j,i⟩,f⟩:=o
   exact⟨⟨k,e,by rw[h a Xb];exact j,i⟩,Zy.keep (fun b g=>h b<|Xe _ g) f⟩
 |[],_::_,_,h=>False.elim h
 |_::_,[],_,h=>False.elim h
def Zp.keep   (k:∀b∈p,H' b=H b)(h:Zp K F H v t p):Zp K F H' v t p:=by
 cases t with
 |fz d=>exact h
 |zow q=>exact h
 |ol u =>
   obtain⟨a,rfl,rfl,e,i,c,f⟩:=h
   exact⟨a,rfl,rfl,e,i,by rw[k a Xb];exact c,f⟩
 |oll n =>
   obtain⟨a,o,rfl,rfl,e,c,f,m⟩:=h
   exact⟨a,o,rfl,rfl,e,c,by rw[k a Xb];exact f,m.keep fun b j=>k b<|Xe _ j⟩
 |scr s=>exact h
 |own r g =>
   obtain⟨e,c⟩:=h
   exact⟨e,g.mono (Q3.refl _) (fun a l=>(g.there c a l).1) k c⟩
def QA.writeOwn    (s:QA K H0 F ρ σ H)(e:ρ[i]?=some (some<|.own v Φ)) :
 σ[i]?=some (some v)/\∃p,Φ.ok K F H v p/\(∀a∈p,H0 a=none/\F a=none/\H a≠none) /\
  ∀(m:Hp) (g:OwnP) (o:Qg),Q3 F m->(∀b,b∉p->H b≠none->m b=H b)->(∀b,H b≠none->m b≠none)->g.ok K F m v o->(∀a∈o,a∈p\/(H a=none/\H0 a=none)) ->
   QA K H0 F (ρ.set i<|some<|.own v g) σ m:=by
 obtain⟨I,O,L,A,y,q,h⟩:=s;obtain⟨u,C,rfl,B⟩:=y i _ e;refine⟨C,A i,B,fun a c=>⟨(h i a c).1,(Φ.there B a c).1,(h i a c).2⟩,fun m g o G J w x l=>?_⟩;have t:=(Xh.mp e).1;refine⟨I,G,by simp[L],fun j=>if j=i then o else A j,fun j E r=>?_,fun j k a c f=>?_,fun j a c=>?_⟩
 .by_cases d:j=i
  .subst d
   rw[Xl t]at r;cases r;refine⟨_,C,rfl,?_⟩;simp only[if_true];exact x
  .rw[Xs<|Ne.symm d]at r
   obtain⟨D,N,M⟩:=y j E r;refine⟨D,N,?_⟩;simp only[Xc d];exact M.keep fun b f=>J b (fun z=>d<|q j i b f z) (h j b f).2
 .by_cases d:j=i
  .by_cases n:k=i
   .omega
   .simp only[Xd d]at c
    simp only[Xc n]at f;rcases l a c with z|z
    .exact Xm (q k i a f z) n
    .exact Xm z.1 (h k a f).2
  .simp only[Xc d]at c
   by_cases n:k=i
   .simp only[Xd n]at f
    rcases l a f with z|z
    .exact Xm (q j i a c z) d
    .exact Xm z.1 (h j a c).2
   .simp only[Xc n]at f
    exact q j k a c f
 .by_cases d:j=i
  .simp only[Xd d]at c
   rcases l a c with z|z
   .exact⟨(h i a z).1,w a (h i a z).2⟩
   .exact⟨z.2,(g.there x a c).2⟩
  .simp only[Xc d]at c
   exact⟨(h j a c).1,w a (h j a c).2⟩
def UW:Key->PyData
 |.inl i=>.int i
 |.inr x=>.str x
def QT (k:List Key):PyData:=.tuple (k.map UW)
def HM  (r:Rep F y (UW k)):y=kV k:=by
 cases k with
 |inl i=>cases r;rfl
 |inr x=>cases r;rfl
theorem PK {F:Hp}:∀{ys:List V} {k:List Key},Qx F ys (k.map UW)->ys=k.map kV
 |_,[],.nil=>rfl
 |_,k::b,.cons r a=>by rw[HM r,PK a];rfl
def Wm  (r:Rep F y (QT k)):∃b,y=.ref b/\F b=some (.tup<|k.map kV):=by
 unfold QT at r;cases r with
 |tup h a=>exact⟨_,rfl,by rw[h,PK a]⟩
abbrev V2:=List (List Key×PyData)
def VO (kvs:V2)(k:List Key):Option PyData:=(kvs.find? fun a=>decide (a.1=k)).map (·.2)
def JZ (kvs:V2)(k:List Key)(d:PyData):V2:=if (kvs.any fun a=>decide (a.1=k))=true then kvs.map (fun a=>if a.1=k then (a.1,d) else a) else kvs++[(k,d)]
inductive PairD (F:Hp):List (List Key×V)->V2->Prop
 |nil:PairD F [] []
 |cons {k:List Key} {x:V} {d:PyData} {xs:List (List Key×V)} {kvs:V2}:Rep F x d->PairD F xs kvs->PairD F ((k,x)::xs) ((k,d)::kvs)
theorem PairD.mono {F a:Hp}(s:Q3 F a):∀{xs:List (List Key×V)} {kvs:V2},PairD F xs kvs->PairD a xs kvs
 |_,_,.nil=>.nil
 |_,_,.cons r t=>.cons (r.mono s) (t.mono s)
theorem PairD.length {F:Hp}:∀{xs:List (List Key×V)} {kvs:V2},PairD F xs kvs->xs.length=kvs.length
 |_,_,.nil=>rfl
 |_,_,.cons _ t=>by simp[t.length]
theorem PairD.val {F:Hp}(k:List Key):∀{xs:List (List Key×V)} {kvs:V2},PairD F xs kvs->(Zx xs k=none/\VO kvs k=none)\/∃x d,Zx xs k=some x/\VO kvs k=some d/\Rep F x d
 |_,_,.nil=>.inl ⟨rfl,rfl⟩
 |_,_,.cons (k:=k') (x:=x) (d:=d) (xs:=xs) (kvs:=kvs) r t=>by
   by_cases e:k'=k
   .exact .inr ⟨x,d,YB e,by simp[VO,Xx,e],r⟩
   .have q:VO ((k',d)::kvs) k=VO kvs k:=by simp[VO,Xx,e]
    rw[YA (p:=(k',x)) e,q];exact t.val k
theorem PairD.any {F:Hp}(k:List Key):∀{xs:List (List Key×V)} {kvs:V2},PairD F xs kvs->(xs.any fun a=>decide (a.1=k))=(kvs.any fun a=>decide (a.1=k))
 |_,_,.nil=>rfl
 |_,_,.cons _ t=>by simp[t.any k]
theorem PairD.mapP {F:Hp}(k:List Key){y:V}{d:PyData}(r:Rep F y d):∀{xs:List (List Key×V)} {kvs:V2},PairD F xs kvs->PairD F (xs.map fun a=>if a.1=k then (a.1,y) else a) (kvs.map fun a=>if a.1=k then (a.1,d) else a)
 |_,_,.nil=>.nil
 |_,_,.cons (k:=k') b t=>by
   rw[Xu,Xu];by_cases e:k'=k
   .simp only[e,if_true]
    exact .cons r (t.mapP k r)
   .simp only[e,if_false]
    exact .cons b (t.mapP k r)
theorem PairD.snoc {F:Hp}(k:List Key){y:V}{d:PyData}(r:Rep F y d):∀{xs:List (List Key×V)} {kvs:V2},PairD F xs kvs->PairD F (xs++[(k,y)]) (kvs++[(k,d)])
 |_,_,.nil=>.cons r .nil
 |_,_,.cons a t=>.cons a (t.snoc k r)
def PairD.put (k:List Key)  (r:Rep F y d)  (t:PairD F xs kvs):PairD F (VP xs k y) (JZ kvs k d):=by
 unfold VP JZ;rw[t.any k];split
 .exact t.mapP k r
 .exact t.snoc k r
def Vt (kvs:V2):OwnP where
 ok K F H v p := ∃a d,v=.ref a/\p=[a]/\F a=none/\H a=some (.dT d)/\PairD F d kvs
 there:=by
  rintro K F H v p ⟨a,d,rfl,rfl,h,f,g⟩ b j
  cases Xi.mp j
  exact⟨h,Z6 f⟩
 mono:=by
  rintro K F o H n v p s l k ⟨a,d,rfl,rfl,h,f,g⟩
  exact⟨a,d,rfl,rfl,l a Xb,by rw[k a Xb];exact f,g.mono s⟩
 uniq:=by
  rintro K F H v p q ⟨a,d,rfl,rfl,_⟩ ⟨b,m,e,rfl,_⟩ c i
  cases e
  exact i
section
variable {K:W.Frag}{ρ:Q9}{te ty tv:TE}{D:PEnds}{i:Nat}{v:V}{kvs:V2}{k:List Key}{d:PyData}
def QA.dct  (S:QA K H0 F ρ σ H)(e:ρ[i]?=some (some<|.own v<|Vt kvs)) :
 ∃a xs,v=.ref a/\σ[i]?=some (some<|.ref a)/\F a=none/\H0 a=none/\H a=some (.dT xs)/\PairD F xs kvs:=by
 obtain⟨h,p,⟨a,xs,rfl,rfl,g,f,c⟩,b,_⟩:=S.writeOwn e
 exact⟨a,xs,rfl,h,g,(b a Xb).1,f,c⟩
def Kp  (t:PairD F xs kvs):(Zx xs k).isSome=(VO kvs k).isSome:=by
 rcases t.val k with ⟨b,a⟩|⟨x,c,b,a,_⟩<;>rw[b,a]<;>rfl
def FC (h:Qs K ty ρ (QT k))(e:ρ[i]?=some (some<|.own v<|Vt kvs)):Qs K (GU ty<|QB i) ρ (.bool (VO kvs k).isSome):=fun p F f H Q S q =>
 h p F f H _ S fun r o y c g=>by
  obtain⟨a,s,rfl,n,_,_,m,l⟩:=(S.ext c).dct e;obtain⟨b,rfl,j⟩:=Wm g
  exact⟨_,n,a,_,rfl,Vw.t m<|c.fh _ _ j,q r o _ c<|by rw[Kp l];exact .bl _⟩
def Ou (h:Qs K ty ρ (QT k))(e:ρ[i]?=some (some<|.own v<|Vt kvs)):Qs K (Sh ty<|QB i) ρ (.bool<|!(VO kvs k).isSome):=fun p F f H Q S q =>
 h p F f H _ S fun r o y c g=>by
  obtain⟨a,s,rfl,n,_,_,m,l⟩:=(S.ext c).dct e;obtain⟨b,rfl,j⟩:=Wm g
  exact⟨_,n,a,_,rfl,Vw.t m<|c.fh _ _ j,q r o _ c<|by rw[Kp l];exact .bl _⟩
def E1 (e:ρ[i]?=some (some<|.own v<|Vt kvs))(J:Qs K tv ρ d)(I:Qs K ty ρ (QT k))(hz:kvs.length<sizeLine)(hn:D.nx (ρ.set i<|some<|.own v<|Vt<|JZ kvs k d)):Q0 K (Dy (QB i) ty tv) ρ D:=fun F0 s F j H E x S C =>
 J s F j H _ S fun T Q u h B=>by
  obtain⟨a,U,rfl,O,_⟩:=(S.ext h).dct e;refine⟨_,O,I s T j Q _ (S.ext h) fun R H2 y g A=>?_⟩;have n:=S.ext (h.trans g);obtain⟨Z,t,m,_,l,N,M,r⟩:=n.dct e
  cases m
  obtain⟨b,rfl,L⟩:=Wm A;refine⟨a,_,rfl,WV.t M (g.fh _ _ L)<|by rw[r.length];exact hz,?_⟩;obtain⟨_,p,G,X,w⟩:=n.writeOwn e;obtain⟨P,o,m,rfl,_,Y,_⟩:=G
  cases m
  refine C.nx R j _ _ ((x.trans<|h.trans g).wr N l) (w _ (Vt<|JZ kvs k d) [a] (n.sub.upd l) (fun c f _=>Qu fun z=>f<|by rw[z];exact Xb) (fun c f=>?_) ⟨a,_,rfl,rfl,l,QC,r.put k<|B.mono g.ff⟩ fun c f=>.inl f) hn
  by_cases z:c=a
  .subst z;rw[QC];rintro⟨⟩
  .rw[Qu z];exact f
def EvX (K:W.Frag)(t:TE)(ρ:Q9)(Φ:OwnP):Prop := ∀(f F:Hp) (c:St) (H:Hp) (Q:VK),QA K f F ρ c H->(∀e b v p,Qy F H e b->(∀a∈p,H a=none)->Φ.ok K e b v p->Q v b)->t c H Q
theorem BR:∀{as bs:Qg},as.map V.ref=bs.map V.ref->as=bs
 |[],[],_=>rfl
 |a::as,b::bs,h=>by
   rw[Xu,Xu]at h;injection h with e c
   cases e
   rw[BR c]
 |[],_::_,h=>by cases h
 |_::_,[],h=>by cases h
def GF   (h:Zp K F H w t p)(h':Zp K F H w t q):∀b∈q,b∈p:=by
 cases t with
 |fz d=>rw[h'.1];intro b e;cases e
 |zow u=>rw[h'.1];intro b e;cases e
 |ol A =>
   obtain⟨E,g,f,m⟩:=h';obtain⟨C,c,l,j⟩:=h;rw[g]at c;cases c;rw[f,l];exact fun _ z=>z
 |oll s =>
   obtain⟨a,G,g,f,_,_,m,_⟩:=h';obtain⟨b,B,c,l,_,_,j,_⟩:=h;rw[g]at c;cases c;rw[m]at j;injection j with r;injection r with o;rw[f,l,BR o];exact fun _ z=>z
 |scr y=>rw[h'.1];intro b e;cases e
 |own x n=>exact n.uniq h.2 h'.2
def BG (h:EvX K te ρ Φ)(hn:∀v,D.nx<|ρ.set i<|some<|.own v Φ):Q0 K (Vp te<|Vd i) ρ D:=fun N B F l H E x S C =>
 h B F l H _ S fun I G v p b f n=>by
  refine C.nx I _ G _ (x.trans b) ((S.ext b).set (t:=.own v Φ) ⟨rfl,n⟩ (fun a e=>x.hh.free<|f a e) (hn:=fun a e j w m q A z c=>?_)) (hn v);obtain⟨M,s,L,r⟩:=S.fp;obtain⟨J,g,y⟩:=s j m A;intro o;have u:=y.ext b;rw[z]at g;cases g
  exact(r j a<|GF (K:=K) u c a o).2 (f a e)
end
end L2
namespace Mir
theorem Pt {g:Qn}{l:Nat}(h:∀c,c<=l->g c=0):∀m,Q6 g (l+1+m)=Q6 (fun j=>g<|l+1+j) m
 |0=>by
   show Q6 g (l+1)=0;rw[Zt (g:=fun _=>0) fun k a=>h k<|by omega,VX]
 |m+1=>by
   show Q6 g (l+1+m)+g (l+1+m)=_;rw[Pt h m];rfl
theorem Tr (y:Yd)(b own:Qn)(l:Nat):∀m,WL y b own l m=Q6 (fun j=>if Zh y (l+1+j)=some l then passes y b own (l+1+j) else 0) m
 |0=>rfl
 |m+1=>by simp only[WL,Q6];rw[Tr y b own l m]
def Ue (b:y.Ok)(f:c<y.ls.length)(e:Zh y c=some l):l<c:=by
 by_cases g:c=0
 .subst g;rw[b.up0]at e;cases e
 .obtain⟨a,h,d⟩:=b.ups c (by omega) f
  rw[h]at e;cases e;exact d
def Pz (a:y.Ok)(b own:Qn)(d:l<y.ls.length):Ym y b own l=own l+Q6 (fun c=>if Zh y c=some l then passes y b own c else 0) y.ls.length:=by
 rw[Aj a,Tr];have e:y.ls.length=l+1+(y.ls.length-1-l):=by omega
 have h:=Pt (g:=fun c=>if Zh y c=some l then passes y b own c else 0) (l:=l) (fun c f=>Xc fun z=>by
  have:=Ue a (by omega) z
  omega) (y.ls.length-1-l)
 rw[<- e]at h;rw[h]
section
variable {y:Yd}
def SN (a:y.Ok):upL y 0=[0]:=by
 have:=a.l1
 rw[R8 a<|by omega,Xd rfl]
end
end Mir
namespace Mir
def ind (p:Prop) [Decidable p]:Int:=if p then 1 else 0
theorem Pc {y:Yd}(b:y.Ok)(l:Nat)(r:l<y.ls.length):∀n j,j<n->j<y.ls.length ->
 ind (l∈upL y j)=ind (j=l)+Q6 (fun c=>if Zh y c=some l then ind (c∈upL y j) else 0) y.ls.length
 |0,j,h,_=>by omega
 |n+1,j,h,d=>by
   by_cases e:j=l
   .subst e
    have z:Q6 (fun c=>if Zh y c=some j then ind (c∈upL y j) else 0) y.ls.length=0:=by
     rw[Zt (g:=fun _=>0) fun c f=>?_,VX]
     by_cases u:Zh y c=some j
     .have:=Ue b f u
      have w:¬c∈upL y j:=fun z=>by have:=Rn y j c z;omega
      simp[u,ind,w]
     .simp[u]
    rw[z];simp[ind,HQ]
   .by_cases o:j=0
    .subst o
     have w:¬l∈upL y 0:=fun z=>by rw[SN b]at z;simp at z;exact e z.symm
     have z:Q6 (fun c=>if Zh y c=some l then ind (c∈upL y 0) else 0) y.ls.length=0:=by
      rw[Zt (g:=fun _=>0) fun c f=>?_,VX]
      by_cases u:Zh y c=some l
      .have v:¬c∈upL y 0:=fun z=>by
        rw[SN b]at z;simp at z;subst z;rw[b.up0]at u;cases u
       simp[u,ind,v]
      .simp[u]
     rw[z];simp[ind,w,e]
    .obtain⟨a,i,x⟩:=b.ups j (by omega) d
     have p:=Pc b l r n a (by omega) (by omega);have m:(l∈upL y j)↔(l∈upL y a):=D9 b (by omega) d i l (fun z=>e z.symm);have t:ind (l∈upL y j)=ind (l∈upL y a):=by unfold ind;simp only[m]
     have s:∀c,c<y.ls.length->(if Zh y c=some l then ind (c∈upL y j) else 0)=(if Zh y c=some l then ind (c∈upL y a) else 0)+(if c=j then ind (a=l) else 0):=by
      intro c f;by_cases z:c=j
      .subst z
       have w:¬c∈upL y a:=fun q=>by have:=Rn y a c q;omega
       rw[i];by_cases q:a=l
       .subst q;simp[ind,HQ,w]
       .have:¬some a=some l:=fun z=>q (by injection z)
        simp[ind,q]
      .have k:(c∈upL y j)↔(c∈upL y a):=D9 b (by omega) d i c z
       have:ind (c∈upL y j)=ind (c∈upL y a):=by unfold ind;simp only[k]
       rw[this,Xc z,UN]
     rw[t,p,Zt s,G7,U6,Xd d];have:ind (j=l)=0:=by unfold ind;rw[Xc e]
     omega
def Vh (y:Yd)(m:Nat)(ln:Nat->Nat)(f:Qn)(l:Nat):Int:=Q6 (fun k=>f k*ind (l∈upL y (ln k))) m
def GD (b:y.Ok)  (a:∀k,k<m->ln k<y.ls.length)(f:Qn)(d:l<y.ls.length) :
 Vh y m ln f l=Q6 (fun k=>f k*ind (ln k=l)) m+Q6 (fun c=>if Zh y c=some l then Vh y m ln f c else 0) y.ls.length:=by
 unfold Vh;have g:∀k,k<m->f k*ind (l∈upL y (ln k))=f k*ind (ln k=l)+Q6 (fun c=>if Zh y c=some l then f k*ind (c∈upL y (ln k)) else 0) y.ls.length:=by
  intro k e;rw[Pc b l d _ (ln k) (WN _)<|a k e,Int.mul_add,<- BJ];congr 1;refine Zt fun c _=>?_
  by_cases u:Zh y c=some l
  .rw[Xd u,Xd u]
  .rw[Xc u,Xc u,Int.mul_zero]
 rw[Zt g,G7,Mc];congr 1;refine Zt fun c _=>?_
 by_cases u:Zh y c=some l
 .simp only[Xd u]
 .simp only[Xc u]
  rw[VX]
theorem no_more {y:Yd}(e:y.Ok){m:Nat}{ln:Nat->Nat}(a:∀k,k<m->ln k<y.ls.length){f:Qn}{b own:Qn}(g:∀l,l<y.ls.length->Q6 (fun k=>f k*ind (ln k=l)) m<=own l)(j:∀l,l<y.ls.length->Vh y m ln f l<=b l) :
 ∀n l,y.ls.length<=l+n->l<y.ls.length->Vh y m ln f l<=passes y b own l
 |0,l,h,d=>by omega
 |n+1,l,h,d=>by
   have p:Vh y m ln f l<=Ym y b own l:=by
    rw[GD e a f d,Pz e b own d];refine Int.add_le_add (g l d) (Wn fun c i=>?_)
    by_cases u:Zh y c=some l
    .rw[Xd u,Xd u]
     have:=Ue e i u
     exact no_more e a g j n c (by omega) i
    .rw[Xc u,Xc u]
     exact Jt _
   have o:=j l d;unfold passes;omega
end Mir
namespace Mir
def Sv   (h:∀k,k<m->f k<=g k)(l:Nat):Vh y m ln f l<=Vh y m ln g l :=
 Wn fun k a=>by
  unfold ind;split
  .have:=h k a;omega
  .omega
def FM   (h:∀k,k<m->0<=f k)(l:Nat):0<=Vh y m ln f l :=
 So fun k a=>by
  unfold ind;split
  .have:=h k a;omega
  .omega
structure Shut (y:Yd)(m:Nat)(ln:Nat->Nat)(f mo:Qn)(b:Qn)(S R:Qm):Prop where
 nn:∀k,k<m->0<=f k
 full:∀k,k<m->S k=true->R (ln k)=false->f k=mo k
 none:∀k,k<m->S k=false->R (ln k)=true->f k=0
 top:R 0=true->Vh y m ln f 0=b 0
 out:∀c a,c<y.ls.length->Zh y c=some a->R c=true->R a=false->Vh y m ln f c=b c
 inn:∀c a,c<y.ls.length->Zh y c=some a->R c=false->R a=true->Vh y m ln f c=0
def Zo (S:Qm)(f:Qn):Qn:=fun k=>if S k=true then f k else 0
def HD  (h:0<=f k):Zo S f k<=f k:=by
 unfold Zo;split<;>omega
def CJ  (h:0<=f k):0<=Zo S f k:=by
 unfold Zo;split<;>omega
theorem Shut.alike {y:Yd}(i:y.Ok){m:Nat}{ln:Nat->Nat}(a:∀k,k<m->ln k<y.ls.length){f q b:Qn}{S R:Qm}(h:Shut y m ln f q b S R) :
 ∀n l,y.ls.length<=l+n->l<y.ls.length->R l=true->Vh y m ln f l=Vh y m ln (Zo S f) l
 |0,l,t,j,_=>by omega
 |n+1,l,t,j,p=>by
   rw[GD i a f j,GD i a (Zo S f) j];congr 1
   .refine Zt fun k d=>?_
    by_cases e:ln k=l
    .have:f k=Zo S f k:=by
      unfold Zo;cases s:S k with
      |true=>simp
      |false=>simp;exact h.none k d s (by rw[e];exact p)
     rw[this]
    .simp[ind,e]
   .refine Zt fun c o=>?_
    by_cases u:Zh y c=some l
    .rw[Xd u,Xd u]
     have:=Ue i o u
     cases r:R c with
     |true=>exact Shut.alike i a h n c (by omega) o r
     |false =>
       have e:=h.inn c l o u r p;have w:=Sv (y:=y) (ln:=ln) (f:=Zo S f) (g:=f) (fun k d=>HD (S:=S)<|h.nn k d) c;have v:=FM (y:=y) (ln:=ln) (f:=Zo S f) (fun k d=>CJ (S:=S)<|h.nn k d) c;omega
    .rw[Xc u,Xc u]
theorem Shut.all {y:Yd}(i:y.Ok){m:Nat}{ln:Nat->Nat}(d:∀k,k<m->ln k<y.ls.length){f j b own:Qn}{S R:Qm}(h:Shut y m ln f j b S R)
 (o:∀l,l<y.ls.length->own l=Q6 (fun k=>Zo S j k*ind (ln k=l)) m) :
 ∀n l,y.ls.length<=l+n->l<y.ls.length->(R l=true->l=0\/∃a,Zh y l=some a/\R a=false)->passes y b own l<=Vh y m ln (Zo S f) l
 |0,l,q,g,_=>by omega
 |n+1,l,q,g,w=>by
   cases r:R l with
   |true =>
     have e:Vh y m ln f l=b l:=by
      rcases w r with z|⟨a,u,t⟩
      .subst z;exact h.top r
      .exact h.out l a g u r t
     rw[<- h.alike i d (n+1) l q g r,e];unfold passes;omega
   |false =>
     have x:Ym y b own l<=Vh y m ln (Zo S f) l:=by
      rw[GD i d _ g,Pz i b own g];refine Int.add_le_add ?_ (Wn fun c p=>?_)
      .rw[o l g]
       refine Wn fun k v=>?_
       by_cases e:ln k=l
       .have:Zo S j k=Zo S f k:=by
         unfold Zo;cases s:S k with
         |true=>simp;exact(h.full k v s<|by rw[e];exact r).symm
         |false=>simp
        rw[this];exact Jt _
       .simp[ind,e]
      .by_cases u:Zh y c=some l
       .rw[Xd u,Xd u]
        have:=Ue i p u
        exact Shut.all i d h o n c (by omega) p (fun _=>.inr ⟨l,u,r⟩)
       .rw[Xc u,Xc u]
        exact Jt _
     unfold passes;omega
end Mir
namespace Mir
section
variable {ν:Type} [DecidableEq ν]
abbrev Lay (ν:Type):=List (ν×ν×Int)
abbrev Zc (ν:Type):=ν->ν->Int
def Wf (L:Lay ν):List ν:=L.flatMap fun x=>[x.2.1,x.1]
def Vz (L:Lay ν)(φ:Zc ν):Ql:=L.flatMap fun x=>[x.2.2-φ x.1 x.2.1,φ x.1 x.2.1]
def Dis (L:Lay ν):Prop:=(L.map fun x=>(x.1,x.2.1)).Nodup
def VB (φ:Zc ν)(s e:ν)(a:Int):Zc ν:=fun p q=>if p=s/\q=e then φ p q+a else φ p q
theorem D1 {a b:Type}(f g:a->b):∀(L:List a) (e:Nat),(L.flatMap fun x=>[f x,g x])[e]?=L[e/2]?.map (if e%2=0 then f else g)
 |[],e=>by simp
 |x::L,0=>by simp
 |x::L,1=>by simp
 |x::L,e+2=>by
   have h:=D1 f g L e;have d:(e+2)/2=e/2+1:=by omega
   have c:(e+2)%2=e%2:=by omega
   rw[d,c,M7,UL];simpa using h
def hdE (L:Lay ν)(e:Nat):Option ν:=L[e/2]?.map fun x=>if e%2=0 then x.2.1 else x.1
def tlE (L:Lay ν)(e:Nat):Option ν:=L[e/2]?.map fun x=>if e%2=0 then x.1 else x.2.1
def rmE (L:Lay ν)(φ:Zc ν)(e:Nat):Option Int:=L[e/2]?.map fun x=>if e%2=0 then x.2.2-φ x.1 x.2.1 else φ x.1 x.2.1
def Hl (L:Lay ν)(e:Nat):(Wf L)[e]?=hdE L e:=by
 unfold Wf hdE;rw[D1];congr 1
 split<;>rfl
def UC (L:Lay ν)(φ:Zc ν)(e:Nat):(Vz L φ)[e]?=rmE L φ e:=by
 unfold Vz rmE;rw[D1];congr 1
 split<;>rfl
def Ze7 (e:Nat):Nat:=if e%2=0 then e+1 else e-1
def EF (L:Lay ν)(e:Nat):(Wf L)[Ze7 e]?=tlE L e:=by
 rw[Hl];unfold hdE tlE Ze7;by_cases h:e%2=0
 .have b:(e+1)/2=e/2:=by omega
  have a:¬(e+1)%2=0:=by omega
  simp only[h,if_true,b,a,if_false]
 .have b:(e-1)/2=e/2:=by omega
  have a:(e-1)%2=0:=by omega
  simp only[h,if_false,b,a,if_true]
def ZY (L:Lay ν)(F:ν->ν->Int):Int:=(L.map fun x=>F x.1 x.2.1).sum
def Vs (L:Lay ν)(φ:Zc ν)(n:ν):Int:=ZY L fun s e=>φ s e*(ind (s=n)-ind (e=n))
def Oj   (h:(s,e)∉L.map fun x=>(x.1,x.2.1))(G:Int->ν->ν->Int) :
 ZY L (fun p q=>G (VB φ s e a p q) p q)=ZY L fun p q=>G (φ p q) p q:=by
 unfold ZY;congr 1;refine UI fun x d=>?_
 have:¬(x.1=s/\x.2.1=e):=by rintro⟨c,b⟩;exact h (XL.mpr ⟨x,d,by rw[c,b]⟩)
 unfold VB;dsimp only;rw[Xc this]
theorem Pj {φ:Zc ν}{a:Int}(G:Int->ν->ν->Int):∀{L:Lay ν},Dis L->∀{x:ν×ν×Int},x∈L ->
 ZY L (fun p q=>G (VB φ x.1 x.2.1 a p q) p q)=ZY L (fun p q=>G (φ p q) p q)-G (φ x.1 x.2.1) x.1 x.2.1+G (φ x.1 x.2.1+a) x.1 x.2.1
 |[],_,_,h=>by cases h
 |y::L,b,x,h=>by
   unfold Dis at b;rw[Xu,XD]at b;rcases Xf.mp h with rfl|h
   .have:=Oj (φ:=φ) (a:=a) b.1 G
    have e:VB φ x.1 x.2.1 a x.1 x.2.1=φ x.1 x.2.1+a:=by unfold VB;rw[Xd ⟨rfl,rfl⟩]
    unfold ZY at this ⊢;rw[Xu,GK,Xu,GK,this];dsimp only;rw[e];omega
   .have c:=Pj (φ:=φ) (a:=a) G (L:=L) b.2 h
    have g:¬(y.1=x.1/\y.2.1=x.2.1):=fun⟨f,d⟩=>b.1 (XL.mpr ⟨x,h,by rw[f,d]⟩);have e:VB φ x.1 x.2.1 a y.1 y.2.1=φ y.1 y.2.1:=by unfold VB;rw[Xc g]
    unfold ZY at c ⊢;rw[Xu,GK,Xu,GK,c];dsimp only;rw[e];omega
def VQ (L:Lay ν)(a:Int)(φ:Zc ν)(e:Nat):Zc ν :=
 match L[e/2]? with
 |some x=>VB φ x.1 x.2.1 (if e%2=0 then a else -a)
 |none=>φ
def Ie (h:Dis L)   (b:hdE L e=some t)(c:tlE L e=some s)(n:ν) :
 Vs L (VQ L a φ e) n=Vs L φ n+a*(ind (s=n)-ind (t=n)):=by
 unfold hdE at b;unfold tlE at c;cases d:L[e/2]? with
 |none=>rw[d]at b;cases b
 |some x =>
   rw[d]at b c;have f:x∈L:=List.mem_of_getElem? d;have g:VQ L a φ e=VB φ x.1 x.2.1 (if e%2=0 then a else -a):=by unfold VQ;rw[d]
   rw[g];unfold Vs;rw[Pj (fun v p q=>v*(ind (p=n)-ind (q=n))) h f];simp only[YW,Option.some.injEq]at b c;by_cases z:e%2=0
   .rw[Xd z]at b c ⊢
    subst b c;rw[Int.add_mul];omega
   .rw[Xc z]at b c ⊢
    subst b c;rw[Int.add_mul,Int.neg_mul,UM a,UM a];omega
inductive Chain (L:Lay ν)(s:ν):ν->Qk->Prop
 |nil:Chain L s s []
 |cons {n m:ν} {e:Nat} {w:Qk} (h:hdE L e=some n) (t:tlE L e=some m) (c:Chain L s m w):Chain L s n (e::w)
def YO (L:Lay ν)(a:Int)(φ:Zc ν)(w:Qk):Zc ν:=w.foldl (VQ L a) φ
theorem Hy {L:Lay ν}(b:Dis L){s:ν}{a:Int}(p:ν):∀{w:Qk} {n:ν} {φ:Zc ν},Chain L s n w->Vs L (YO L a φ w) p=Vs L φ p+a*(ind (s=p)-ind (n=p))
 |_,_,φ,.nil=>by
   show Vs L φ p=_;rw[Int.sub_self,Int.mul_zero,UN]
 |e::w,n,φ,.cons (m:=m) h t c=>by
   show Vs L (YO L a (VQ L a φ e) w) p=_;rw[Hy b p c,Ie b h t,UM,UM,UM];omega
def Within (L:Lay ν)(φ:Zc ν):Prop := ∀x∈L,0<=φ x.1 x.2.1/\φ x.1 x.2.1<=x.2.2
def Hn:∀{L:Lay ν},Dis L->∀{i j:Nat} {x y:ν×ν×Int},L[i]?=some x->L[j]?=some y->x.1=y.1->x.2.1=y.2.1->i=j:=fun{L} f {i j x y} e d h g=>by
 have a:(L.map fun x=>(x.1,x.2.1))[i]?=some (x.1,x.2.1):=by rw[Xt,e];rfl
 have b:(L.map fun x=>(x.1,x.2.1))[j]?=some (x.1,x.2.1):=by rw[Xt,d,h,g];rfl
 have c:i<(L.map fun x=>(x.1,x.2.1)).length:=(Xh.mp a).1
 exact(List.getElem?_inj c f).mp (a.trans b.symm)
def O4 {L:Lay ν}(l:Dis L){φ:Zc ν}(h:Within L φ){a:Int}(o:0<=a){e:Nat}{r:Int}(b:rmE L φ e=some r)(n:a<=r):Within L (VQ L a φ e):=by
 unfold rmE at b;cases c:L[e/2]? with
 |none=>rw[c]at b;cases b
 |some x =>
   rw[c]at b;simp only[YW,Option.some.injEq]at b;have m:=h x (List.mem_of_getElem? c);intro y g;have d:=h y g;have k:VQ L a φ e=VB φ x.1 x.2.1 (if e%2=0 then a else -a):=by unfold VQ;rw[c]
   rw[k];unfold VB;by_cases z:y.1=x.1/\y.2.1=x.2.1
   .rw[Xd z]
    obtain⟨j,f⟩:=List.mem_iff_getElem?.mp g;have i:=Hn l f c z.1 z.2;subst i;rw[c]at f;cases f
    by_cases q:e%2=0
    .rw[Xd q]at b ⊢;omega
    .rw[Xc q]at b ⊢;omega
   .rw[Xc z];exact d
def El {L:Lay ν}(h:Dis L){φ:Zc ν}{a:Int}(l:0<=a){e c:Nat}(j:c≠e){r:Int}(b:rmE L φ c=some r):∃g,rmE L (VQ L a φ e) c=some g/\r<=g:=by
 unfold rmE at b ⊢;cases f:L[c/2]? with
 |none=>rw[f]at b;cases b
 |some y =>
   rw[f]at b;simp only[YW,Option.some.injEq]at b ⊢;refine⟨_,rfl,?_⟩;unfold VQ;cases i:L[e/2]? with
   |none=>simp only[];omega
   |some x =>
     simp only[];unfold VB;by_cases z:y.1=x.1/\y.2.1=x.2.1
     .rw[Xd z]
      have k:=Hn h f i z.1 z.2
      by_cases q:e%2=0
      .have d:¬c%2=0:=by omega
       rw[Xc d]at b ⊢;rw[Xd q];omega
      .have d:c%2=0:=by omega
       rw[Xd d]at b ⊢;rw[Xc q];omega
     .rw[Xc z];omega
theorem Tm {L:Lay ν}(c:Dis L){a:Int}(d:0<=a):∀{w:Qk} {φ:Zc ν},Within L φ->w.Nodup->(∀e∈w,∃r,rmE L φ e=some r/\a<=r)->Within L (YO L a φ w)
 |[],_,h,_,_=>h
 |e::w,φ,h,k,g=>by
   obtain⟨m,l⟩:=XD.mp k;obtain⟨r,n,j⟩:=g e Xb;show Within L (YO L a (VQ L a φ e) w);refine Tm c d (O4 c h d n j) l fun p b=>?_;obtain⟨s,f,i⟩:=g p (Xe _ b);obtain⟨q,o,t⟩:=El c d (e:=e) (fun z=>m<|z▸b) f
   exact⟨q,o,by omega⟩
abbrev Got (ν:Type):=List (ν×Option Nat)
def QV (es:Got ν):List ν:=es.map (·.1)
inductive Tree (L:Lay ν)(φ:Zc ν)(s:ν):Got ν->Prop
 |root:Tree L φ s [(s,none)]
 |add {es:Got ν} {e:Nat} {n m:ν} {r:Int} (t:Tree L φ s es) (hn:n∉QV es) (hh:hdE L e=some n) (ht:tlE L e=some m) (hm:m∈QV es) (hr:rmE L φ e=some r) (h0:0<r):Tree L φ s (es++[(n,some e)])
def WZ (es:Got ν)(n:ν):Option (Option Nat):=es.lookup n
def OI {es:Got ν}:n∉QV es->es.lookup n=none:=by
 induction es with
 |nil=>intro _;rfl
 |cons p es a =>
   intro h;have c:n≠p.1:=fun z=>h (by rw[z];exact Xb);have b:n∉QV es:=fun z=>h (Xe _ z);obtain⟨k,v⟩:=p;rw[XH];have:(n==k)=false:=by rw[beq_eq_false_iff_ne];exact c
   rw[this];exact a b
def Kh {es a:Got ν}:(es++a).lookup n=(es.lookup n).or (a.lookup n):=by
 induction es with
 |nil=>rfl
 |cons p es b =>
   obtain⟨k,v⟩:=p;rw[Jq,XH,XH];cases (n==k)
   .exact b
   .rfl
inductive Back (L:Lay ν)(es:Got ν):ν->Qk->Prop
 |nil {n:ν} (h:WZ es n=some none):Back L es n []
 |cons {n m:ν} {e:Nat} {w:Qk} (h:WZ es n=some (some e)) (t:tlE L e=some m) (b:Back L es m w):Back L es n (e::w)
theorem Back.app {L:Lay ν}{es a:Got ν}:∀{w:Qk} {n:ν},Back L es n w->Back L (es++a) n w
 |_,_,.nil h=>.nil (by unfold WZ at h ⊢;rw[Kh,h];rfl)
 |_,_,.cons h t b=>.cons (by unfold WZ at h ⊢;rw[Kh,h];rfl) t b.app
structure WayOk (L:Lay ν)(φ:Zc ν)(s:ν)(es:Got ν)(n:ν)(w:Qk):Prop where
 back:Back L es n w
 chain:Chain L s n w
 nodup:w.Nodup
 room:∀e∈w,∃r,rmE L φ e=some r/\0<r
 heads:∀e∈w,∃m,hdE L e=some m/\m∈QV es
theorem Tree.way {L:Lay ν}{φ:Zc ν}{s:ν}:∀{es:Got ν},Tree L φ s es->∀n∈QV es,∃w,WayOk L φ s es n w
 |_,.root,n,j=>by
   have e:n=s:=by simpa [QV] using j
   subst e;exact⟨[],.nil<|by simp[WZ],.nil,Ju,(by rintro e ⟨⟩),(by rintro e ⟨⟩)⟩
 |_,.add (es:=es) (e:=e) (n:=k) (m:=m) t u l o x v y,n,j=>by
   have d:n∈QV es\/n=k:=by simpa [QV] using j
   have f:∀p,p∈QV es->p∈QV (es++[(k,some e)]):=fun p r=>by
    unfold QV at r ⊢;rw[Xy];exact UK _ r
   rcases d with d|rfl
   .obtain⟨w,q⟩:=t.way n d
    exact⟨w,q.back.app,q.chain,q.nodup,q.room,fun g c=>let ⟨i,a,b⟩:=q.heads g c;⟨i,a,f _ b⟩⟩
   .obtain⟨w,q⟩:=t.way m x
    refine⟨e::w,.cons ?_ o q.back.app,.cons l o q.chain,XD.mpr ⟨fun z=>?_,q.nodup⟩,fun g c=>?_,fun g c=>?_⟩
    .unfold WZ
     rw[Kh,OI u];simp
    .obtain⟨i,a,b⟩:=q.heads e z
     rw[l]at a;cases a;exact u b
    .rcases Xf.mp c with rfl|c
     .exact⟨_,v,y⟩
     .exact q.room g c
    .rcases Xf.mp c with rfl|c
     .exact⟨n,l,by simp[QV]⟩
     .obtain⟨i,a,b⟩:=q.heads g c
      exact⟨i,a,f _ b⟩
theorem Tree.nodup {L:Lay ν}{φ:Zc ν}{s:ν}:∀{es:Got ν},Tree L φ s es->(QV es).Nodup
 |_,.root=>by simp[QV]
 |_,.add (n:=k) t c _ _ _ _ _=>by
   have:=t.nodup
   unfold QV at this c ⊢;rw[Xy,UR];refine⟨this,by simp,fun a f b d=>?_⟩;have e:b=k:=by simpa using d
   exact fun z=>c (e▸z▸f)
theorem Tree.start {L:Lay ν}{φ:Zc ν}{s:ν}:∀{es:Got ν},Tree L φ s es->s∈QV es
 |_,.root=>by simp[QV]
 |_,.add t _ _ _ _ _ _=>by
   have:=t.start
   unfold QV at this ⊢;rw[Xy];exact UK _ this
theorem Tree.sub {L:Lay ν}{φ:Zc ν}{s:ν}:∀{es:Got ν},Tree L φ s es->∀n∈QV es,n∈s::Wf L
 |_,.root,n,b=>by
   have e:n=s:=by simpa [QV] using b
   rw[e];exact Xb
 |_,.add (es:=es) (n:=k) t d c _ _ _ _,n,b=>by
   have a:n∈QV es\/n=k:=by simpa [QV] using b
   rcases a with a|rfl
   .exact t.sub n a
   .exact Xe _ (List.mem_of_getElem?<|(Hl L _).trans c)
theorem Kc {a:Type} [DecidableEq a]:∀{xs ys:List a},xs.Nodup->(∀x∈xs,x∈ys)->xs.length<=ys.length
 |[],_,_,_=>XM _
 |x::xs,ys,e,h=>by
   obtain⟨g,f⟩:=XD.mp e;have c:=h x Xb
   have:=Kc (xs:=xs) (ys:=ys.erase x) f fun z b=>by
    have d:z≠x:=fun q=>g (q▸b)
    exact(List.mem_erase_of_ne d).mpr (h z<|Xe _ b)
   rw[List.length_erase_of_mem c]at this;have:0<ys.length:=List.length_pos_of_mem c;rw[XN];omega
def Tree.len {L:Lay ν}{φ:Zc ν}{s:ν}{es:Got ν}(t:Tree L φ s es):es.length<=(Wf L).length+1:=by
 have:=Kc t.nodup t.sub
 simpa [QV] using this
def VR (L:Lay ν)(φ:Zc ν)(es:Got ν):Prop := ∀e m n r,tlE L e=some m->hdE L e=some n->rmE L φ e=some r->0<r->m∈QV es->n∈QV es
end
end Mir
namespace Mir
inductive Nd where
 |start|fin
 |guest (k:Nat)
 |line (l t:Nat)
deriving DecidableEq
structure Gv where
 m:Nat
 ln:Nat->Nat
 wa:Qn
 mo:Qn
 th:Nat->Qm
def upN (y:Yd)(l:Nat):Nat:=(Zh y l).getD 0
def ZZ (y:Yd)(G:Gv)(k:Nat):Lay Nd:=(.start,.guest k,G.wa k)::(List.range y.T).flatMap fun t=>if G.th k t=true then [(.guest k,.line (G.ln k) t,G.mo k)] else []
def V1 (y:Yd)(t:Nat):Lay Nd:=(.line 0 t,.fin,ZG y 0 t)::(List.range<|y.ls.length-1).flatMap fun i=>[(.line (i+1) t,.line (upN y<|i+1) t,ZG y (i+1) t)]
def Zg (y:Yd)(G:Gv):Lay Nd:=(List.range G.m).flatMap (ZZ y G)++(List.range y.T).flatMap (V1 y)
def Pa (A B:Lay Nd)(F:Nd->Nd->Int):ZY (A++B) F=ZY A F+ZY B F:=by
 unfold ZY;rw[Xy,List.sum_append]
theorem GB (f:Nat->Lay Nd)(F:Nd->Nd->Int):∀n,ZY ((List.range n).flatMap f) F=Q6 (fun k=>ZY (f k) F) n
 |0=>rfl
 |n+1=>by
   rw[YX,JT,Pa,GB f F n];simp[Q6]
def SL (x:Nd×Nd×Int)(F:Nd->Nd->Int):ZY [x] F=F x.1 x.2.1:=by simp[ZY]
def Pm (x:Nd×Nd×Int)(L:Lay Nd)(F:Nd->Nd->Int):ZY (x::L) F=F x.1 x.2.1+ZY L F:=by simp[ZY]
def IL (y:Yd)(G:Gv)(F:Nd->Nd->Int)(k:Nat):ZY (ZZ y G k) F=F .start (.guest k)+Q6 (fun t=>if G.th k t=true then F (.guest k) (.line (G.ln k) t) else 0) y.T:=by
 unfold ZZ;rw[Pm,GB];congr 1;refine Zt fun t _=>?_
 split
 .rw[SL]
 .rfl
def EY (y:Yd)(F:Nd->Nd->Int)(t:Nat):ZY (V1 y t) F=F (.line 0 t) .fin+Q6 (fun i=>F (.line (i+1) t)<|.line (upN y<|i+1) t) (y.ls.length-1):=by
 unfold V1;rw[Pm,GB];congr 1;refine Zt fun t _=>?_;rw[SL]
def HV (y:Yd)(G:Gv)(F:Nd->Nd->Int):ZY (Zg y G) F =
 Q6 (fun k=>F .start (.guest k)+Q6 (fun t=>if G.th k t=true then F (.guest k) (.line (G.ln k) t) else 0) y.T) G.m +
 Q6 (fun t=>F (.line 0 t) .fin+Q6 (fun i=>F (.line (i+1) t)<|.line (upN y<|i+1) t) (y.ls.length-1)) y.T:=by
 unfold Zg;rw[Pa,GB,GB];congr 1
 .exact Zt fun k _=>IL y G F k
 .exact Zt fun t _=>EY y F t
def YU   : x∈ZZ y G k↔x=(.start,.guest k,G.wa k)\/∃t,t<y.T/\G.th k t=true/\x=(.guest k,.line (G.ln k) t,G.mo k):=by
 unfold ZZ;rw[Xf,YY];refine or_congr Iff.rfl ⟨?_,by rintro⟨t,b,d,a⟩;exact⟨t,XU.mpr b,by rw[Xd d];exact Xi.mpr a⟩⟩;rintro⟨t,b,a⟩
 by_cases c:G.th k t=true
 .rw[Xd c]at a
  exact⟨t,XU.mp b,c,Xi.mp a⟩
 .rw[Xc c]at a;cases a
def WD  : x∈V1 y t↔x=(.line 0 t,.fin,ZG y 0 t)\/∃i,i<y.ls.length-1/\x=(.line (i+1) t,.line (upN y<|i+1) t,ZG y (i+1) t):=by
 unfold V1;rw[Xf,YY];refine or_congr Iff.rfl ⟨?_,by rintro⟨i,b,a⟩;exact⟨i,XU.mpr b,Xi.mpr a⟩⟩;rintro⟨i,b,a⟩;exact⟨i,XU.mp b,Xi.mp a⟩
def UB  : x∈Zg y G↔(∃k,k<G.m/\x∈ZZ y G k)\/∃t,t<y.T/\x∈V1 y t:=by
 unfold Zg;rw[XB,YY,YY];simp only[XU]
def BM (n:Nat):(List.range n).Pairwise (· ≠ ·):=List.nodup_range
def BT (y:Yd)(G:Gv):Dis (Zg y G):=by
 unfold Dis List.Nodup;rw[List.pairwise_map];unfold Zg;rw[List.pairwise_append];refine⟨?_,?_,?_⟩
 .rw[MB]
  refine⟨fun k _=>?_,(BM _).imp fun{k j} d x a z b=>?_⟩
  .unfold ZZ
   rw[List.pairwise_cons];refine⟨fun x a=>?_,?_⟩
   .obtain⟨t,_,a⟩:=YY.mp a
    split at a
    .rw[Xi.mp a];intro q;cases q
    .cases a
   .rw[MB]
    refine⟨fun t _=>?_,(BM _).imp fun{t u} c x a z b=>?_⟩
    .split
     .exact List.pairwise_singleton _ _
     .exact List.Pairwise.nil
    .split at a
     .split at b
      .rw[Xi.mp a,Xi.mp b]
       intro q;simp at q;exact c q
      .cases b
     .cases a
  .rcases YU.mp a with rfl|⟨t,_,_,rfl⟩<;>rcases YU.mp b with rfl|⟨u,_,_,rfl⟩<;>intro q<;>simp at q
   .exact d q
   .exact d q.1
 .rw[MB]
  refine⟨fun t _=>?_,(BM _).imp fun{t u} c x a z b=>?_⟩
  .unfold V1
   rw[List.pairwise_cons];refine⟨fun x a=>?_,?_⟩
   .obtain⟨i,_,a⟩:=YY.mp a
    rw[Xi.mp a];intro q;cases q
   .rw[MB]
    refine⟨fun t _=>List.pairwise_singleton _ _,(BM _).imp fun{i j} e x a z b=>?_⟩;rw[Xi.mp a,Xi.mp b];intro q;simp at q;exact e q.1
  .rcases WD.mp a with rfl|⟨i,_,rfl⟩<;>rcases WD.mp b with rfl|⟨j,_,rfl⟩<;>intro q<;>simp at q
   .exact c q
   .exact c q.1.2
 .intro x a z b
  obtain⟨k,_,a⟩:=YY.mp a;obtain⟨t,_,b⟩:=YY.mp b
  rcases YU.mp a with rfl|⟨f,_,_,rfl⟩<;>rcases WD.mp b with rfl|⟨j,_,rfl⟩<;>intro q<;>simp at q
end Mir
namespace Mir
def Ze (G:Gv)(φ:Zc Nd)(t k:Nat):Int:=if G.th k t=true then φ (.guest k) (.line (G.ln k) t) else 0
def upF (y:Yd)(φ:Zc Nd)(t l:Nat):Int:=if l=0 then φ (.line 0 t) .fin else φ (.line l t) (.line (upN y l) t)
theorem Ka (f:Qn):∀n,Q6 f (n+1)=f 0+Q6 (fun i=>f<|i+1) n
 |0=>by simp[Q6]
 |n+1=>by
   show Q6 f (n+1)+f (n+1)=_;rw[Ka f n];simp[Q6];omega
def ZR {p:Prop} [Decidable p] (h:¬p):ind p=0:=Xc h
def BA {p q:Prop} [Decidable p] [Decidable q] (h:p↔q):ind p=ind q:=by unfold ind;simp only[h]
def ID (y:Yd)(G:Gv)(φ:Zc Nd)(b:k0<G.m):Vs (Zg y G) φ (.guest k0)=Q6 (fun t=>Ze G φ t k0) y.T-φ .start (.guest k0):=by
 unfold Vs;rw[HV];have c:Q6 (fun t=>φ (.line 0 t) .fin*(ind (Nd.line 0 t=.guest k0)-ind (Nd.fin=.guest k0))+Q6 (fun i=>φ (.line (i+1) t) (.line (upN y<|i+1) t)*(ind (Nd.line (i+1) t=.guest k0)-ind (Nd.line (upN y<|i+1) t=.guest k0))) (y.ls.length-1)) y.T=0:=by
  rw[Zt (g:=fun _=>0) fun t _=>?_,VX];rw[ZR (by rintro⟨⟩),ZR (by rintro⟨⟩),Zt (g:=fun _=>0) fun i _=>?_,VX]
  .simp
  .rw[ZR (by rintro⟨⟩),ZR fun z=>nomatch z];simp
 rw[c,UN];rw[Zt (g:=fun k=>if k=k0 then Q6 (fun t=>Ze G φ t k0) y.T-φ .start (.guest k0) else 0) fun k _=>?_,U6,Xd b];rw[ZR (p:=Nd.start=.guest k0) fun z=>nomatch z]
 by_cases e:k=k0
 .subst e
  rw[Xd rfl];have:Q6 (fun t=>if G.th k t=true then φ (.guest k) (.line (G.ln k) t)*(ind (Nd.guest k=.guest k)-ind (Nd.line (G.ln k) t=.guest k)) else 0) y.T=Q6 (fun t=>Ze G φ t k) y.T:=by
   refine Zt fun t _=>?_;unfold Ze;split
   .rw[ZR (p:=Nd.line (G.ln k) t=.guest k) fun z=>nomatch z]
    simp[ind]
   .rfl
  rw[this];simp[ind];omega
 .have a:¬Nd.guest k=.guest k0:=fun z=>e (by injection z)
  rw[Xc e,ZR a,Zt (g:=fun _=>0) fun t _=>?_,VX]
  .simp
  .rw[ZR (p:=Nd.line (G.ln k) t=.guest k0) fun z=>nomatch z]
   simp
def HK (b:y.Ok)(h0:0<c)(d:c<y.ls.length):upN y c=l↔Zh y c=some l:=by
 obtain⟨a,e,_⟩:=b.ups c h0 d;unfold upN;rw[e];simp
def IV (a:y.Ok)(G:Gv)(φ:Zc Nd)(h:l<y.ls.length)(b:t0<y.T):Vs (Zg y G) φ (.line l t0) =
 upF y φ t0 l-Q6 (fun k=>Ze G φ t0 k*ind (G.ln k=l)) G.m-Q6 (fun c=>if Zh y c=some l then upF y φ t0 c else 0) y.ls.length:=by
 unfold Vs;rw[HV];have m:Q6 (fun k=>φ .start (.guest k)*(ind (Nd.start=.line l t0)-ind (Nd.guest k=.line l t0))+Q6 (fun t=>if G.th k t=true then φ (.guest k) (.line (G.ln k) t)*(ind (Nd.guest k=.line l t0)-ind (Nd.line (G.ln k) t=.line l t0)) else 0) y.T) G.m = - Q6 (fun k=>Ze G φ t0 k*ind (G.ln k=l)) G.m:=by
  rw[show-Q6 (fun k=>Ze G φ t0 k*ind (G.ln k=l)) G.m=(-1)*Q6 (fun k=>Ze G φ t0 k*ind (G.ln k=l)) G.m by omega,<- BJ];refine Zt fun k _=>?_;rw[ZR (p:=Nd.start=.line l t0) (by rintro⟨⟩),ZR (p:=Nd.guest k=.line l t0) fun z=>nomatch z];rw[Zt (g:=fun t=>if t=t0 then-(Ze G φ t0 k*ind (G.ln k=l)) else 0) fun t _=>?_,U6,Xd b]
  .simp
  .by_cases e:t=t0
   .subst e
    rw[Xd rfl,BA (p:=Nd.line (G.ln k) t=.line l t) (q:=G.ln k=l)<|by simp];unfold Ze;split
    .rw[Int.zero_sub,Int.mul_neg]
    .simp
   .rw[Xc e,ZR (p:=Nd.line (G.ln k) t=.line l t0) fun z=>e<|by injection z]
    simp
 rw[m];have j:Q6 (fun t=>φ (.line 0 t) .fin*(ind (Nd.line 0 t=.line l t0)-ind (Nd.fin=.line l t0))+Q6 (fun i=>φ (.line (i+1) t) (.line (upN y<|i+1) t)*(ind (Nd.line (i+1) t=.line l t0)-ind (Nd.line (upN y<|i+1) t=.line l t0))) (y.ls.length-1)) y.T
  = upF y φ t0 l-Q6 (fun c=>if Zh y c=some l then upF y φ t0 c else 0) y.ls.length:=by
  rw[Zt (g:=fun t=>if t=t0 then upF y φ t0 l-Q6 (fun c=>if Zh y c=some l then upF y φ t0 c else 0) y.ls.length else 0) fun t _=>?_,U6,Xd b];rw[ZR (p:=Nd.fin=.line l t0) fun z=>nomatch z]
  by_cases e:t=t0
  .subst e
   rw[Xd rfl,BA (p:=Nd.line 0 t=.line l t) (q:=0=l)<|by simp];have d:y.ls.length=(y.ls.length-1)+1:=by omega
   have s:upF y φ t l=Q6 (fun c=>if c=l then upF y φ t l else 0) y.ls.length:=by rw[U6,Xd h]
   have r:∀c,c<y.ls.length->(if c=l then upF y φ t l else 0)=upF y φ t c*ind (c=l):=fun c _=>by
    by_cases q:c=l
    .subst q;simp[ind]
    .simp[ind,q]
   rw[s,Zt r,d,Ka,Ka];have f:¬Zh y 0=some l:=fun z=>by rw[a.up0]at z;cases z
   have n:upF y φ t 0=φ (.line 0 t) .fin:=by unfold upF;rw[Xd rfl]
   rw[Xc f,n,<- d];have o:Q6 (fun i=>φ (.line (i+1) t) (.line (upN y<|i+1) t)*(ind (Nd.line (i+1) t=.line l t)-ind (Nd.line (upN y<|i+1) t=.line l t))) (y.ls.length-1)
    = Q6 (fun i=>upF y φ t (i+1)*ind (i+1=l)) (y.ls.length-1)+Q6 (fun i => -1*(if Zh y (i+1)=some l then upF y φ t (i+1) else 0)) (y.ls.length-1):=by
    rw[<- G7];refine Zt fun i u=>?_;rw[BA (p:=Nd.line (i+1) t=.line l t) (q:=i+1=l)<|by simp,BA (p:=Nd.line (upN y<|i+1) t=.line l t) (q:=Zh y (i+1)=some l)<|by rw[<- HK a (by omega) (by omega)];simp]
    have:upF y φ t (i+1)=φ (.line (i+1) t) (.line (upN y<|i+1) t):=by unfold upF;rw[Xc<|by omega]
    rw[this,UM];by_cases q:Zh y (i+1)=some l
    .rw[Xd q];simp[ind,q];omega
    .rw[Xc q];simp[ind,q]
   rw[o,BJ];simp only[Int.sub_zero];omega
  .rw[Xc e,ZR (p:=Nd.line 0 t=.line l t0) (fun z=>e<|by injection z),Zt (g:=fun _=>0) fun i _=>?_,VX]
   .simp
   .rw[ZR (p:=Nd.line (i+1) t=.line l t0) (fun z=>e<|by injection z),ZR (p:=Nd.line (upN y<|i+1) t=.line l t0) fun z=>e<|by injection z]
    simp
 rw[j];omega
end Mir
namespace Mir
section
variable {ν:Type} [DecidableEq ν]
def VR.fwd  (hw:Within L φ)(d:VR L φ es){x:ν×ν×Int}(c:x∈L)(g:x.1∈QV es)(f:x.2.1∉QV es):φ x.1 x.2.1=x.2.2:=by
 obtain⟨i,a⟩:=List.mem_iff_getElem?.mp c;have e:(2*i)/2=i:=by omega
 have b:(2*i)%2=0:=by omega
 by_cases z:φ x.1 x.2.1=x.2.2
 .exact z
 .have:=hw x c
  exact Xm (d (2*i) x.1 x.2.1 (x.2.2-φ x.1 x.2.1) (by unfold tlE;rw[e,a,b];rfl) (by unfold hdE;rw[e,a,b];rfl) (by unfold rmE;rw[e,a,b];rfl) (by omega) g) f
def VR.bwd  (hw:Within L φ)(d:VR L φ es){x:ν×ν×Int}(c:x∈L)(g:x.1∉QV es)(f:x.2.1∈QV es):φ x.1 x.2.1=0:=by
 obtain⟨i,a⟩:=List.mem_iff_getElem?.mp c;have e:(2*i+1)/2=i:=by omega
 have b:¬(2*i+1)%2=0:=by omega
 by_cases z:φ x.1 x.2.1=0
 .exact z
 .have:=hw x c
  exact Xm (d (2*i+1) x.2.1 x.1 (φ x.1 x.2.1) (by unfold tlE;rw[e,a];simp[b]) (by unfold hdE;rw[e,a];simp[b]) (by unfold rmE;rw[e,a];simp[b]) (by omega) f) g
end
structure Flow (y:Yd)(G:Gv)(φ:Zc Nd):Prop where
 wi:Within (Zg y G) φ
 kp:∀n,n≠.start->n≠.fin->Vs (Zg y G) φ n=0
def RT  (a:k<G.m):((.start,.guest k,G.wa k):Nd×Nd×Int)∈Zg y G:=UB.mpr (.inl ⟨k,a,YU.mpr<|.inl rfl⟩)
def BF  (b:k<G.m)(a:t<y.T)(h:G.th k t=true):((.guest k,.line (G.ln k) t,G.mo k):Nd×Nd×Int)∈Zg y G:=UB.mpr (.inl ⟨k,b,YU.mpr<|.inr ⟨t,a,h,rfl⟩⟩)
def R6  (a:t<y.T):((.line 0 t,.fin,ZG y 0 t):Nd×Nd×Int)∈Zg y G:=UB.mpr (.inr ⟨t,a,WD.mpr<|.inl rfl⟩)
def Dl  (a:t<y.T)(h0:0<l)(b:l<y.ls.length):((.line l t,.line (upN y l) t,ZG y l t):Nd×Nd×Int)∈Zg y G :=
 UB.mpr (.inr ⟨t,a,WD.mpr<|.inr ⟨l-1,by omega,by rw[show l-1+1=l by omega]⟩⟩)
def moT (G:Gv)(t k:Nat):Int:=if G.th k t=true then G.mo k else 0
section
variable {y:Yd}{G:Gv}{φ:Zc Nd}(F:Flow y G φ)
include F
theorem Flow.tak (b:k<G.m)(a:t<y.T):0<=Ze G φ t k/\Ze G φ t k<=moT G t k:=by
 unfold Ze moT;by_cases c:G.th k t=true
 .rw[Xd c,Xd c]
  exact F.wi _ (BF b a c)
 .rw[Xc c,Xc c]
  omega
theorem Flow.total (a:k<G.m):Q6 (fun t=>Ze G φ t k) y.T=φ .start (.guest k):=by
 have:=F.kp (.guest k) (by rintro⟨⟩) (by rintro⟨⟩)
 rw[ID y G φ a]at this;omega
theorem Flow.want (a:k<G.m):0<=φ .start (.guest k)/\φ .start (.guest k)<=G.wa k:=F.wi _ (RT a)
theorem Flow.up (b:y.Ok)(a:∀k,k<G.m->G.ln k<y.ls.length){t:Nat}(f:t<y.T):∀n l,y.ls.length<=l+n->l<y.ls.length->upF y φ t l=Vh y G.m G.ln (Ze G φ t) l
 |0,l,h,d=>by omega
 |n+1,l,h,d=>by
   have z:=F.kp (.line l t) (by rintro⟨⟩) (by rintro⟨⟩)
   rw[IV b G φ d f]at z;have e:Q6 (fun c=>if Zh y c=some l then upF y φ t c else 0) y.ls.length=Q6 (fun c=>if Zh y c=some l then Vh y G.m G.ln (Ze G φ t) c else 0) y.ls.length:=by
    refine Zt fun c g=>?_
    by_cases u:Zh y c=some l
    .rw[Xd u,Xd u]
     have:=Ue b g u
     exact Flow.up b a f n c (by omega) g
    .rw[Xc u,Xc u]
   rw[GD b a _ d,<- e];omega
theorem Flow.up_ok (c:y.Ok)(a:t<y.T)(b:l<y.ls.length):0<=upF y φ t l/\upF y φ t l<=ZG y l t:=by
 unfold upF;by_cases z:l=0
 .subst z
  rw[Xd rfl];exact F.wi _ (R6 a)
 .rw[Xc z]
  exact F.wi _ (Dl a (by omega) b)
theorem Flow.load (b:y.Ok)(a:∀k,k<G.m->G.ln k<y.ls.length)(c:t<y.T)(d:l<y.ls.length):Vh y G.m G.ln (Ze G φ t) l<=ZG y l t:=by
 rw[<- F.up b a c y.ls.length l (by omega) d];exact(F.up_ok b c d).2
def Vv (es:Got Nd)(k:Nat):Bool:=decide (Nd.guest k∈QV es)
def TR (es:Got Nd)(t l:Nat):Bool:=decide (Nd.line l t∈QV es)
omit F in
theorem not_of {p:Prop} [Decidable p] (h:decide p=false):¬p:=UT h
theorem Flow.shut (ok:y.Ok)(d:∀k,k<G.m->G.ln k<y.ls.length)(e:VR (Zg y G) φ es)(h:Nd.fin∉QV es)(b:t<y.T) :
 Shut y G.m G.ln (Ze G φ t) (moT G t) (fun l=>ZG y l t) (Vv es) (TR es t) where
 nn k hk:=(F.tak hk b).1
 full k hk hS hR:=by
  unfold Ze moT;by_cases c:G.th k t=true
  .rw[Xd c,Xd c]
   exact e.fwd F.wi (BF hk b c) (XJ hS) (not_of hR)
  .rw[Xc c,Xc c]
 none k hk hS hR:=by
  unfold Ze;by_cases c:G.th k t=true
  .rw[Xd c]
   exact e.bwd F.wi (BF hk b c) (not_of hS) (XJ hR)
  .rw[Xc c]
 top hR:=by
  have i:=ok.l1;rw[<- F.up ok d b y.ls.length 0 (by omega) (by omega)];unfold upF;rw[Xd rfl];exact e.fwd F.wi (R6 b) (XJ hR) h
 out c a hcl u h1 h2:=by
  have g:c≠0:=fun z=>by subst z;rw[ok.up0]at u;cases u
  have f:upN y c=a:=(HK ok (by omega) hcl).mpr u;rw[<- F.up ok d b y.ls.length c (by omega) hcl];unfold upF;rw[Xc g];exact e.fwd F.wi (Dl b (by omega) hcl) (XJ h1) (by rw[f];exact not_of h2)
 inn c a hcl u h1 h2:=by
  have g:c≠0:=fun z=>by subst z;rw[ok.up0]at u;cases u
  have f:upN y c=a:=(HK ok (by omega) hcl).mpr u;rw[<- F.up ok d b y.ls.length c (by omega) hcl];unfold upF;rw[Xc g];exact e.bwd F.wi (Dl b (by omega) hcl) (not_of h1) (by rw[f];exact XJ h2)
theorem Flow.filled (c:VR (Zg y G) φ es)(b:Nd.start∈QV es)(a:k<G.m)(d:Vv es k=false):Q6 (fun t=>Ze G φ t k) y.T=G.wa k:=by
 rw[F.total a];exact c.fwd F.wi (RT a) b (not_of d)
def W2 (G:Gv)(S:Qm)(t l:Nat):Int:=Q6 (fun k=>Zo S (moT G t) k*ind (G.ln k=l)) G.m
omit F in
theorem RI {y:Yd}(b:y.Ok):∀n j,j<n->j<y.ls.length->0∈upL y j
 |0,j,h,_=>by omega
 |n+1,j,h,c=>by
   by_cases z:j=0
   .subst z;exact HQ y 0
   .obtain⟨a,d,e⟩:=b.ups j (by omega) c
    exact(D9 b (by omega) c d 0 fun q=>z q.symm).mpr (RI b n a (by omega)<|by omega)
omit F in
theorem SD (b:y.Ok)  (a:∀k,k<m->ln k<y.ls.length)(f:Qn):Vh y m ln f 0=Q6 f m :=
 Zt fun k c=>by
  unfold ind;rw[Xd<|RI b _ _ (WN _)<|a k c,Int.mul_one]
theorem Flow.no_more (b:y.Ok)(a:∀k,k<G.m->G.ln k<y.ls.length)(S:Qm)(c:t<y.T):Q6 (Zo S<|Ze G φ t) G.m<=passes y (fun l=>ZG y l t) (W2 G S t) 0:=by
 have j:=b.l1;rw[<- SD b a];refine Mir.no_more b a (fun l h=>?_) (fun l h=>?_) y.ls.length 0 (by omega) (by omega)
 .refine Wn fun k d=>?_
  have q:=F.tak d c
  by_cases e:G.ln k=l
  .unfold Zo ind
   rw[Xd e];split<;>omega
  .rw[ZR e];omega
 .have q:=F.load b a c h
  have i:=Sv (y:=y) (ln:=G.ln) (f:=Zo S (Ze G φ t)) (g:=Ze G φ t) (fun k d=>HD (F.tak d c).1) l;omega
theorem Flow.meet (d:y.Ok)(c:∀k,k<G.m->G.ln k<y.ls.length)(g:VR (Zg y G) φ es)(f:Nd.fin∉QV es)(e:t<y.T) :
 passes y (fun l=>ZG y l t) (W2 G (Vv es) t) 0=Q6 (Zo (Vv es)<|Ze G φ t) G.m:=by
 have h:=d.l1;have a:=F.no_more d c (Vv es) e;have b:=(F.shut d c g f e).all d c (own:=W2 G (Vv es) t) (fun l i=>rfl) y.ls.length 0 (by omega) (by omega) (fun _=>.inl rfl);rw[SD d c]at b;omega
omit F in
theorem HP (f g:Qn):∀n,Q6 (fun k=>f k-g k) n=Q6 f n-Q6 g n
 |0=>rfl
 |n+1=>by
   simp only[Q6];rw[HP f g n];omega
theorem Flow.lack (c:y.Ok)(a:∀k,k<G.m->G.ln k<y.ls.length)(b:VR (Zg y G) φ es)(e:Nd.start∈QV es)(h:Nd.fin∉QV es) :
 Q6 (fun k=>G.wa k-Q6 (fun t=>Ze G φ t k) y.T) G.m=Q6 (Zo (Vv es) G.wa) G.m-Q6 (fun t=>passes y (fun l=>ZG y l t) (W2 G (Vv es) t) 0) y.T:=by
 rw[Zt (n:=y.T) fun t d=>F.meet c a b h d,Mc,<- HP];refine Zt fun k f=>?_
 cases s:Vv es k with
 |true =>
   have:Q6 (fun t=>Zo (Vv es) (Ze G φ t) k) y.T=Q6 (fun t=>Ze G φ t k) y.T:=Zt fun t _=>by unfold Zo;rw[Xd s]
   rw[this];unfold Zo;rw[Xd s]
 |false =>
   have:Q6 (fun t=>Zo (Vv es) (Ze G φ t) k) y.T=0:=by
    rw[Zt (g:=fun _=>0) fun t _=>?_,VX];unfold Zo;rw[Xc<|by rw[s];decide]
   rw[this,F.filled b e f s];unfold Zo;rw[Xc<|by rw[s];decide];omega
omit F in
theorem Op (y:Yd)(G:Gv)(φ:Zc Nd):Vs (Zg y G) φ .start=Q6 (fun k=>φ .start<|.guest k) G.m:=by
 unfold Vs;rw[HV];have a:Q6 (fun t=>φ (.line 0 t) .fin*(ind (Nd.line 0 t=.start)-ind (Nd.fin=.start))+Q6 (fun i=>φ (.line (i+1) t) (.line (upN y<|i+1) t)*(ind (Nd.line (i+1) t=.start)-ind (Nd.line (upN y<|i+1) t=.start))) (y.ls.length-1)) y.T=0:=by
  rw[Zt (g:=fun _=>0) fun t _=>?_,VX];rw[ZR (by rintro⟨⟩),ZR (by rintro⟨⟩),Zt (g:=fun _=>0) fun i _=>?_,VX]
  .simp
  .rw[ZR (by rintro⟨⟩),ZR fun z=>nomatch z];simp
 rw[a,UN];refine Zt fun k _=>?_;rw[ZR (p:=Nd.guest k=.start) (by rintro⟨⟩),Zt (g:=fun _=>0) fun t _=>?_,VX]
 .simp[ind]
 .rw[ZR (p:=Nd.line (G.ln k) t=.start) fun z=>nomatch z];simp
theorem Flow.push (f:0<=a)(hw:Chain (Zg y G) .start .fin w)(hn:w.Nodup)(d:∀e∈w,∃r,rmE (Zg y G) φ e=some r/\a<=r) :
 Flow y G (YO (Zg y G) a φ w)/\Vs (Zg y G) (YO (Zg y G) a φ w) .start=Vs (Zg y G) φ .start+a:=by
 refine⟨⟨Tm (BT y G) f F.wi hn d,fun n c b=>?_⟩,?_⟩
 .rw[Hy (BT y G) n hw,F.kp n c b,ZR fun z=>c z.symm,ZR fun z=>b z.symm]
  simp
 .rw[Hy (BT y G) .start hw,ZR (p:=Nd.fin=.start) fun z=>nomatch z]
  simp[ind]
theorem Flow.most:Vs (Zg y G) φ .start<=Q6 G.wa G.m:=by
 rw[Op];exact Wn fun k a=>(F.want a).2
end
def TD  (h:∀x∈Zg y G,0<=x.2.2):Flow y G (fun _ _=>0):=by
 refine⟨fun x b=>⟨Jt _,h x b⟩,fun n _ _=>?_⟩
 unfold Vs ZY;have:∀L:Lay Nd,(L.map fun x=>(0:Int)*(ind (x.1=n)-ind (x.2.1=n))).sum=0:=fun L=>by
  induction L with
  |nil=>rfl
  |cons x L a=>rw[Xu,GK,a];simp
 exact this _
end Mir
namespace Mir
open PySem
def Oa (e:Nat):Builtin.bitAnd (e:Int) 1=((e%2:Nat):Int):=by
 unfold Builtin.bitAnd;have b:decide ((0:Int)<=(e:Int))=true:=Wv (by omega);have a:decide ((0:Int)<=1)=true:=rfl;rw[b,a];show((((e:Int).toNat &&& (1:Int).toNat:Nat)):Int)=_;rw[XI,show(1:Int).toNat=1 from rfl,Nat.and_one_is_mod]
def Lf (e:Nat):e ||| 1=e+1-e%2:=by
 apply Nat.eq_of_testBit_eq
 intro i;rw[Nat.testBit_or];have a:e%2=0\/e%2=1:=by omega
 cases i with
 |zero =>
   rw[Nat.testBit_zero,Nat.testBit_zero,Nat.testBit_zero];have:(e+1-e%2)%2=1:=by omega
   rw[this];rcases a with h|h<;>rw[h]<;>rfl
 |succ i =>
   rw[Nat.testBit_succ,Nat.testBit_succ,Nat.testBit_succ];have:(e+1-e%2)/2=e/2:=by omega
   rw[this];simp
def Ip (e:Nat):Builtin.bitOr (e:Int) 1=((e+1-e%2:Nat):Int):=by
 unfold Builtin.bitOr;have a:Builtin.bitNot (e:Int) = -(e:Int)-1:=rfl;have b:Builtin.bitNot 1 = -2:=rfl
 have c:Builtin.bitAnd (Builtin.bitNot (e:Int)) (Builtin.bitNot 1)=Builtin.bitNot (((e ||| 1:Nat)):Int):=by
  rw[a,b];unfold Builtin.bitAnd;have f:decide ((0:Int) <= -(e:Int)-1)=false:=XT (by omega);have d:decide ((0:Int) <= -2)=false:=rfl;rw[f,d];show Builtin.bitNot ((((Builtin.bitNot (-(e:Int)-1)).toNat ||| (Builtin.bitNot (-2)).toNat:Nat)):Int)=_;have h:(Builtin.bitNot (-(e:Int)-1)).toNat=e:=by show(-(-(e:Int)-1)-1).toNat=e;omega
  have g:(Builtin.bitNot (-2)).toNat=1:=rfl;rw[h,g]
 rw[c,Lf];show -(-(((e+1-e%2:Nat)):Int)-1)-1=_;omega
def K5 (e:Nat):Builtin.bitXor (e:Int) 1=(Ze7 e:Int):=by
 unfold Builtin.bitXor;rw[Oa,Ip];unfold Ze7;split<;>omega
end Mir
namespace L2
open PySem PySem.Spec PyProof.Rows
abbrev KK:=List Key×List Key
def WQ (P:Program)(w:World)(a:Addr)(xs:List (KK×Addr×V))(h:Heap):Prop:=xs.length<=sizeLine/\(a==sysModules)=false/\∃b:List (KK×Addr×Value),
 Paired (fun(x:KK×Addr×V) (y:KK×Addr×Value)=>x.1=y.1/\x.2.1=y.2.1/\QM x.2.2 y.2.2) xs b /\
 ∃o c d,h.get? a=some o/\o.ExactDict/\o.data=.dict c d/\c.toList=b.map (entryOfKey<|Ht<|ZI P w)/\(b.map (·.1)).Nodup
def pdO (P:Program)(w:World)(a:Addr)(xs:List (KK×Addr×V)):HO:=.ext (WQ P w a xs)
def WQ.move   (x:WQ P w a xs h1)(k:∀o,h1.get? a=some o->h2.get? a=some o):WQ P w a xs h2:=by
 obtain⟨z,y,b,r,o,c,d,i,h,g,f,e⟩:=x
 exact⟨z,y,b,r,o,c,d,k _ i,h,g,f,e⟩
def WQ.ok    (x:WQ P w a xs h):ZA P w H h a (pdO P w a xs):=by
 refine⟨x,?_,fun e d y k=>y.move k⟩;obtain⟨z,y,c,r,o,f,g,b,_⟩:=x
 exact⟨o,b⟩
def Vg (H:Hp)(k:KK)(b:Addr):Prop := ∃p q,H b=some (.tup [.ref p,.ref q])/\H p=some (.tup<|k.1.map kV)/\H q=some (.tup<|k.2.map kV)
def Vg.mono (s:∀b ys,H b=some (.tup ys)->H' b=some (.tup ys))  (x:Vg H k b):Vg H' k b:=by
 obtain⟨p,q,d,c,a⟩:=x
 exact⟨p,q,s _ _ d,s _ _ c,s _ _ a⟩
section
variable {P:Program}{w:World}{H:Hp}{h:Heap}{a b:Addr}
def BL (c:HOk P w H h)(x:Vg H k b):(Ht<|ZI P w).is h k b:=by
 obtain⟨p,q,j,i,g⟩:=x;obtain⟨_,f,r,o,s,m,n,l⟩:=(show ZA P w H h b (.tup [.ref p,.ref q]) from c b _ j)
 cases r with
 |cons e r =>
   cases r with
   |cons d r =>
     cases r
     cases (show _=Value.ref p from e)
     cases (show _=Value.ref q from d)
     exact⟨o,n,p,q,s,m,l,Wi c i,Wi c g⟩
def Dw (f:HOk P w H h)(e:H a=some (pdO P w a xs))(i:∀x∈xs,Vg H x.1 x.2.1):xs.length<=sizeLine/\(a==sysModules)=false/\∃vs,
 Paired (fun(x:KK×Addr×V) (y:KK×Addr×Value)=>x.1=y.1/\x.2.1=y.2.1/\QM x.2.2 y.2.2) xs vs/\h.DictOfH (Ht<|ZI P w) a vs:=by
 obtain⟨⟨z,y,vs,r,o,n,s,A,v,u,k,j⟩,d⟩:=(show ZA P w H h a (pdO P w a xs) from f a _ e);refine⟨z,y,vs,r,o,n,s,A,v,u,k,?_,j⟩;clear j k z e d;induction r with
 |nil=>intro x c;exact nomatch c
 |@cons p q C B g t l =>
   intro x c;rcases Xf.mp c with rfl|c
   .have:=BL f (i p Xb)
    rw[g.1,g.2.1]at this;exact this
   .exact l (fun z m=>i z<|Xe _ m) x c
end
def Ye (xs:List (KK×Addr×V))(k:KK):Option V:=(xs.find? fun x=>decide (x.1=k)).map (·.2.2)
abbrev RPD:=Paired (fun(x:KK×Addr×V) (y:KK×Addr×Value)=>x.1=y.1/\x.2.1=y.2.1/\QM x.2.2 y.2.2)
def RPD.val (k:KK)  (r:RPD xs vs):ZO (Ye xs k) ((atKey vs k).map (·.2)):=by
 induction r with
 |nil=>exact True.intro
 |@cons p q b a c t g =>
   by_cases e:p.1=k
   .have f:Ye (p::b) k=some p.2.2:=by simp[Ye,Xx,e]
    have d:(atKey (q::a) k).map (·.2)=some q.2.2:=by simp[atKey,Xx,<- c.1,e]
    rw[f,d];exact c.2.2
   .have f:Ye (p::b) k=Ye b k:=by simp[Ye,Xx,e]
    have d:(atKey (q::a) k).map (·.2)=(atKey a k).map (·.2):=by simp[atKey,Xx,<- c.1,e]
    rw[f,d];exact g
def WU (xs:List (KK×Addr×V))(k:KK)(b:Addr)(v:V):List (KK×Addr×V):=if (Ye xs k).isSome=true then xs.map (fun x=>if x.1=k then (x.1,x.2.1,v) else x) else xs++[(k,b,v)]
def RPD.repl (k:KK)  (b:QM v u)  (r:RPD xs vs):RPD (xs.map fun x=>if x.1=k then (x.1,x.2.1,v) else x) (vs.map<|putAt k u):=by
 induction r with
 |nil=>exact .nil
 |@cons p q f d a t c =>
   rw[Xu,Xu];refine .cons ?_ c;unfold putAt;by_cases e:p.1=k
   .rw[Xd e,Xd<|a.1▸e]
    exact⟨a.1,a.2.1,b⟩
   .rw[Xc e,Xc<|a.1▸e]
    exact a
theorem ZO.some_eq:∀{x:Option V} {y:Qf},ZO x y->x.isSome=y.isSome
 |none,none,_=>rfl
 |some _,some _,_=>rfl
 |none,some _,h=>by cases h
 |some _,none,h=>by cases h
def RPD.put (k:KK)(b:Addr)  (a:QM v u)  (r:RPD xs vs):RPD (WU xs k b v) (storedH vs k b u):=by
 have e:=ZO.some_eq (r.val k);rw[Js]at e;unfold WU storedH;rw[e];split
 .exact r.repl k a
 .exact Paired.snoc r ⟨rfl,rfl,a⟩
def O9 (xs:List (KK×Addr×V))(k:KK)(b:Addr)(v:V):(WU xs k b v).length<=xs.length+1:=by
 unfold WU;split<;>simp
section
variable {X:Cx}{Xa0:Qc}{σ:St}{H:Hp}{s:Shared}{a b:Addr}{v:V}{r:Value}{A:Around}{E:Qb}{xs:List (KK×Addr×V)}{k:KK}
def E9 (G:A.units+6<cLine)(I:Qr X Xa0 σ H s)(e:H a=some (pdO X.prog X.w a xs))(o:∀x∈xs,Vg H x.1 x.2.1)(t:Vg H k b)(l:xs.length<sizeLine)(j:QM v r)
 (h:∀f,Qr X Xa0 σ (upd H a<|pdO X.prog X.w a<|WU xs k b v) f->Q () f):wpAny (model X.prog X.w) A (setItem (.ref a) (.ref b) r) Q E s:=by
 obtain⟨z,p,i,c,F⟩:=Dw I.hok e o;have m:i.length<=sizeLine:=by rw[<- Paired.length c];exact z
 refine wpAny_setItem_heap (hsz:=m) (show A.units+1+5<cLine by omega) (BL I.hok t) F fun J d n=>h _ ?_;obtain⟨q,C,D,g,B,y,w,_,u⟩:=d;exact G2 I (by rw[e];exact True.intro) n ⟨q,g⟩ (WQ.ok ⟨by have:=O9 xs k b v;omega,p,_,RPD.put k b j c,q,C,D,g,B,y,w,u⟩)
def Ii (o:A.units+6<cLine)(I:Qr X Xa0 σ H s)(e:H a=some (pdO X.prog X.w a xs))(l:∀x∈xs,Vg H x.1 x.2.1)(m:Vg H k b)(j:Ye xs k=some v)
 (h:∀u g,Qr X Xa0 σ H g->QM v u->Q u g):wpAny (model X.prog X.w) A (getItem (.ref a)<|.ref b) Q E s:=by
 obtain⟨z,q,i,d,n⟩:=Dw I.hok e l;have c:=RPD.val k d;rw[j]at c;cases f:atKey i k with
 |none=>rw[f]at c;cases c
 |some p =>
   rw[f]at c;exact wpAny_getItem_heap (show A.units+1+5<cLine by omega) (BL I.hok m) n f (h _ _ (I.tok _) c)
def C6 (n:A.units+6<cLine)(I:Qr X Xa0 σ H s)(e:H a=some (pdO X.prog X.w a xs))(g:∀x∈xs,Vg H x.1 x.2.1)(j:Vg H k b)
 (h:∀d,Qr X Xa0 σ H d->Q (.bool<|!(Ye xs k).isSome) d):wpAny (model X.prog X.w) A (compareOp .NotIn (.ref b)<|.ref a) Q E s:=by
 obtain⟨z,i,m,c,l⟩:=Dw I.hok e g;have f:=ZO.some_eq (RPD.val k c);rw[Js]at f;refine wpAny_notIn_heap (show A.units+1+5<cLine by omega) (BL I.hok j) i l ?_;rw[<- f];exact h _ (I.tok _)
end
section
variable {X:Cx}{Xa0:Qc}{σ:St}{H:Hp}{s:Shared}{a b:Addr}{d:V}{r:Value}{A:Around}{E:Qb}{kvs:List (List Key×V)}{k:List Key}
def AD (C:A.units+1<cLine)(I:Qr X Xa0 σ H s)(e:H a=some (.dT kvs))(w:H b=some (.tup<|k.map kV))(l:kvs.length<sizeLine)(y:QM d r)
 (L:∀v u i,Zx kvs k=some v->Qr X Xa0 σ H i->QM v u->Q u i) (J:Zx kvs k=none->∀i,Qr X Xa0 σ (upd H a<|.dT<|kvs++[(k,d)]) i->Q r i) :
 wpAny (model X.prog X.w) A (call (.builtin "dict.setdefault") [.ref a,.ref b,r]) Q E s:=by
 obtain⟨z,t,j,g,x⟩:=Dj I.hok e;have B:j.length<=sizeLine:=by rw[<- Paired.length g];exact z
 have f:=g.val k
 refine call_meetsIn PySem.F.slot_dict_setdefault x.typeIs PySem.F.entry_dict_setdefault (PySem.F.args_dict_setdefault_3 _ _ _) (Zd9 (tupleKind<|ZI X.prog X.w) a b t r)
  ⟨tupleKind_room_in1 C,k,j,Wi I.hok w,x,B,fun p F=>?_,fun G U n D=>?_⟩
 .rw[F]at f
  cases h:Zx kvs k with
  |none=>rw[h]at f;cases f
  |some v=>rw[h]at f;exact L v _ _ h (I.tok _) f
 .have h:Zx kvs k=none:=by
   rw[G]at f;cases h:Zx kvs k with
   |none=>rfl
   |some v=>rw[h]at f;cases f
  refine J h _ ?_;obtain⟨q,R,S,o,P,O,N,_,M⟩:=n;refine G2 I (by rw[e];exact True.intro) D ⟨q,o⟩ ⟨by simp;omega,t,_,(show KT H (kvs++[(k,d)]) (j++[(k,b,r)]) from Paired.snoc g ⟨rfl,w,y⟩).keeps fun c T m=>?_,q,R,S,o,P,O,N,M⟩;rw[Qu fun z=>by subst z;rw[e]at m;cases m];exact m
end
def R4 (i g h:TE):TE:=fun e H Q=>i e H fun x f=>∃a,x=.ref a/\IsD f a/\g e f fun y j=>h e j fun z d=>∃c k b,y=.ref b/\d a=some (.dT c)/\d b=some (.tup<|k.map kV)/\c.length<sizeLine /\
 (∀v,Zx c k=some v->Q v d)/\(Zx c k=none->Q z (upd d a<|.dT<|c++[(k,z)]))
section
variable {X:Cx}{o e f value:Expr}{apos cpos pos pos':Pos}{td ty tx tv:TE}
def Au (N:X.A.units+1<cLine) (O:PE X o td) (R:PE X e ty) (P:PE X f tx) (m:M2 X o "setdefault" apos e f cpos):PE X (.Call (.Attribute o "setdefault" apos) [e,f] [] cpos) (R4 td ty tx):=by
 intro c s g H Q I h;refine wpAny_Call_method m.base m.few m.line PySem.F.plainAttrs_dict PySem.F.slot_dict_setdefault PySem.F.type_dict_setdefault (Q7 (O c s g H _ I h) ?_);rintro u w ⟨x,H1,p,C,a,T,d,J⟩;subst T;obtain rfl:u=Value.ref a:=C;obtain⟨r,q,_⟩:=R0 p d;refine⟨r,q,?_⟩
 rw[m.trees];refine Calls.callWith_builtin rfl (Calls.evalArgs_plain (Calls.spliced_cons (Q7 (R c w g H1 _ p J) fun M t ⟨y,H2,Z,B,G⟩ =>
  Calls.spliced_cons (Q7 (P c t g H2 _ Z G) fun fv s3 ⟨z,H3,Y,n,L,k,b,S,W,U,l,F,E⟩=>Calls.spliced_nil ?_))))
 subst S;cases (show M=Value.ref b from B);exact AD N Y W U l n (fun v u A i j D=>⟨v,H3,j,D,F v i⟩) (fun i A j=>⟨z,_,j,n,E i⟩)
def NC (P:Program)(w:World)(td ty:TE):TE:=fun g H Q=>td g H fun x h=>ty g h fun y c=>∃a b d k v,x=.ref a/\y=.ref b/\c a=some (pdO P w a d)/\(∀x∈d,Vg c x.1 x.2.1)/\Vg c k b/\Ye d k=some v/\Q v c
def Sl (P:Program)(w:World)(ty td:TE):TE:=fun g H Q=>ty g H fun y h=>td g h fun x c=>∃a b d k,x=.ref a/\y=.ref b/\c a=some (pdO P w a d)/\(∀x∈d,Vg c x.1 x.2.1)/\Vg c k b/\Q (.bl<|!(Ye d k).isSome) c
def N8 (P:Program)(w:World)(td ty tv:TE):TS:=fun D c H=>tv c H fun v i=>td c i fun x h=>ty c h fun y g=>∃a b d k,x=.ref a/\y=.ref b/\g a=some (pdO P w a d)/\(∀x∈d,Vg g x.1 x.2.1)/\Vg g k b/\d.length<sizeLine /\
 D.nx c (upd g a<|pdO P w a<|WU d k b v)
def Ed {b:Qc} {c:St} {H:Hp} {s:Shared} {a:Addr} {xs:List (KK×Addr×V)} (I:Qr X b c H s) (e:H a=some (pdO X.prog X.w a xs)):s.TypeIs (.ref a) "dict" := by
 obtain⟨⟨_,_,h,_,o,i,j,g,d,_⟩,_⟩:=(show ZA X.prog X.w H s.heap a (pdO X.prog X.w a xs) from I.hok a _ e)
 exact⟨o,g,d.1⟩
def CA (t:X.A.units+6<cLine)(z:PE X o td)(A:PE X e ty)(w:Da e):PE X (.Subscript o e pos) (NC X.prog X.w td ty):=by
 intro c s g H Q I h;refine Sg PySem.F.slot_dict_getitem.lookup w (Q7 (z c s g H _ I h) ?_);rintro u l ⟨x,M,J,n,q⟩;refine Q7 (A c l g M _ J q) ?_;rintro r R ⟨y,L,j,m,a,b,N,k,v,C,B,i,F,E,D,p⟩;subst C B;obtain rfl:u=Value.ref a:=n;obtain rfl:r=Value.ref b:=m
 exact⟨Ed j i,Ii t j i F E D fun O P G d=>⟨v,L,G,d,p⟩⟩
def EA (q:X.A.units+6<cLine)(t:PE X e ty)(r:PE X o td):PC X .NotIn e o (Sl X.prog X.w ty td):=by
 intro c s d H Q I h;refine Q7 (t c s d H _ I h) ?_;rintro p i ⟨y,G,E,j,n⟩;refine Q7 (r c i d G _ E n) ?_;rintro u L ⟨x,F,D,l,a,b,g,k,w,v,B,A,z,m⟩;subst w v;obtain rfl:u=Value.ref a:=l;obtain rfl:p=Value.ref b:=j;exact C6 q D B A z fun J C=>⟨.bl<|!(Ye g k).isSome,F,C,rfl,m⟩
def Fz (A:X.A.units+6<cLine)(C:PE X o td)(E:PE X e ty)(z:PE X value tv)(B:swapsWith value (some<|.Subscript o e pos') pos.line X.env=pure false) :
 PS X (.Assign [.Subscript o e pos'] value pos) (N8 X.prog X.w td ty tv):=by
 intro c s d H D I h;refine wpAny_Assign_Subscript (Q7 (z c s d H _ I h) ?_) B;rintro r i ⟨v,S,Q,n,t⟩;refine Q7 (C c i d S _ Q t) ?_;rintro u g ⟨x,R,P,m,q⟩;refine Q7 (E c g d R _ P q) ?_;rintro w W ⟨y,Y,O,j,a,b,T,k,G,F,M,L,J,l,p⟩;subst G F;obtain rfl:u=Value.ref a:=m;obtain rfl:w=Value.ref b:=j;exact E9 A O M L J l n fun U N=>⟨d,_,N,p⟩
end
def Fc (P:Program)(w:World):TE:=fun _ H Q=>∀p,H p=none->Q (.ref p) (upd H p<|pdO P w p [])
def AQ  : PE X (.Dict [] [] pos) (Fc X.prog X.w):=fun b s c H Q I h =>
 wpAny_Dict_empty ⟨.ref s.heap.objs.size,_,I.laid (a:=s.heap.objs.size) (o:=pdO X.prog X.w s.heap.objs.size []) (t':=s.toks) (fun _ _ q=>Xg _ q) (Xq _)
  (WQ.ok ⟨XM _,beq_eq_false_iff_ne.mpr<|Ne.symm<|Xr I.big,[],.nil,_,#[],0,Xz _ rfl,⟨rfl,rfl,rfl⟩,rfl,rfl,Ju⟩),rfl,h _<|I.hok.fresh<|Xq _⟩
structure Q8 where
 ends:List (List Key)
 rooms:Ql
 leav:List (List Key×Ql)
 laid:List (KK×Int)
inductive LaidD (F:Hp):List (KK×Addr×V)->List (KK×Int)->Prop
 |nil:LaidD F [] []
 |cons {k:KK} {b:Addr} {n:Int} {xs:List (KK×Addr×V)} {ls:List (KK×Int)}:Vg F k b->LaidD F xs ls->LaidD F ((k,b,.int n)::xs) ((k,n)::ls)
theorem LaidD.mono {F a:Hp}(s:Q3 F a):∀{xs:List (KK×Addr×V)} {ls:List (KK×Int)},LaidD F xs ls->LaidD a xs ls
 |_,_,.nil=>.nil
 |_,_,.cons h t=>.cons (h.mono fun b c e=>s _ _ e) (t.mono s)
theorem LaidD.at {F H:Hp}(s:Q3 F H):∀{xs:List (KK×Addr×V)} {ls:List (KK×Int)},LaidD F xs ls->∀x∈xs,Vg H x.1 x.2.1
 |_,_,.nil,x,a=>nomatch a
 |_,_,.cons h t,x,a=>by
   rcases Xf.mp a with rfl|a
   .exact h.mono fun b c e=>s _ _ e
   .exact t.at s x a
inductive LeavD (F H:Hp):List (List Key×V)->List (List Key×Ql)->Qg->Prop
 |nil:LeavD F H [] [] []
 |cons {k:List Key} {a:Addr} {ns:Ql} {xs:List (List Key×V)} {ls:List (List Key×Ql)} {as:Qg}:Vn F H a (ns.map PyData.int)->LeavD F H xs ls as->LeavD F H ((k,.ref a)::xs) ((k,ns)::ls) (a::as)
theorem LeavD.mem {F H:Hp}:∀{xs:List (List Key×V)} {ls:List (List Key×Ql)} {as:Qg},LeavD F H xs ls as->∀a∈as,F a=none/\H a≠none
 |_,_,_,.nil,a,b=>nomatch b
 |_,_,_,.cons h t,a,b=>by
   rcases Xf.mp b with rfl|b
   .obtain⟨d,xs,c,_⟩:=h
    exact⟨d,Z6 c⟩
   .exact t.mem a b
theorem LeavD.mono {F c H f:Hp}(s:Q3 F c):∀{xs:List (List Key×V)} {ls:List (List Key×Ql)} {as:Qg},(∀a∈as,c a=none)->(∀a∈as,f a=H a)->LeavD F H xs ls as->LeavD c f xs ls as
 |_,_,_,_,_,.nil=>.nil
 |_,_,_,e,d,.cons h t=>by
   obtain⟨j,xs,i,g⟩:=h;exact .cons ⟨e _ Xb,xs,by rw[d _ Xb];exact i,g.mono s⟩ (t.mono s (fun a b=>e a<|Xe _ b) fun a b=>d a<|Xe _ b)
theorem LeavD.addrs {F d H c:Hp}:∀{xs:List (List Key×V)} {ls a:List (List Key×Ql)} {as bs:Qg},LeavD F H xs ls as->LeavD d c xs a bs->as=bs
 |_,_,_,_,_,.nil,.nil=>rfl
 |_,_,_,_,_,.cons _ t,.cons _ b=>by rw[t.addrs b]
structure NetOk (P:Program)(w:World)(C:Addr)(N:Q8)(F H:Hp)(a dx e r l d:Addr)(xs:List (List Key×V))(ys:List (KK×Addr×V))(as:Qg):Prop where
 nd:(a::dx::e::r::l::d::as).Nodup
 ins:F a=none/\H a=some (.ins C dx [("ends",.ref e),("rooms",.ref r),("leaving",.ref l),("laid",.ref d)])
 own:F dx=none/\H dx=some (.own a)
 ends:Vn F H e (N.ends.map QT)
 rooms:Vn F H r (N.rooms.map PyData.int)
 leav:F l=none/\H l=some (.dT xs)/\LeavD F H xs N.leav as
 laid:F d=none/\H d=some (pdO P w d ys)/\LaidD F ys N.laid
def Zd (P:Program)(w:World)(C:Addr)(N:Q8):OwnP where
 ok K F H v p := ∃a m e r l d u t n,v=.ref a/\p=a::m::e::r::l::d::n/\NetOk P w C N F H a m e r l d u t n
 there:=by
  rintro K F H v p ⟨a,m,e,r,l,d,u,t,n,rfl,rfl,o⟩ b f
  obtain⟨_,⟨x,k⟩,⟨I,z⟩,⟨J,ex,B,_⟩,⟨G,E,y,_⟩,⟨l1,l2,l3⟩,⟨L,D,_⟩⟩:=o;simp only[Xf]at f;rcases f with rfl|rfl|rfl|rfl|rfl|rfl|f
  .exact⟨x,Z6 k⟩
  .exact⟨I,Z6 z⟩
  .exact⟨J,Z6 B⟩
  .exact⟨G,Z6 y⟩
  .exact⟨l1,Z6 l2⟩
  .exact⟨L,Z6 D⟩
  .exact l3.mem b f
 mono:=by
  rintro K F F' H H' v p s h g ⟨a,m,e,r,l,d,u,t,n,rfl,rfl,o⟩
  obtain⟨nd,⟨x,k⟩,⟨I,z⟩,⟨J,ex,B,S⟩,⟨G,E,y,Q⟩,⟨l1,l2,l3⟩,⟨L,D,U⟩⟩:=o
  refine⟨a,m,e,r,l,d,u,t,n,rfl,rfl,nd,⟨h _<|by simp,by rw[g _<|by simp];exact k⟩,⟨h _<|by simp,by rw[g _<|by simp];exact z⟩,⟨h _<|by simp,ex,by rw[g _<|by simp];exact B,S.mono s⟩,
   ⟨h _<|by simp,E,by rw[g _<|by simp];exact y,Q.mono s⟩,⟨h _<|by simp,by rw[g _<|by simp];exact l2,l3.mono s (fun b f=>h b<|by simp[f]) fun b f=>g b<|by simp[f]⟩,⟨h _<|by simp,by rw[g _<|by simp];exact D,U.mono s⟩⟩
 uniq:=by
  rintro K F H v p q ⟨a,m,e,r,l,d,u,t,n,rfl,rfl,o⟩ ⟨a',T,Z,X,Y,d',O,M,W,ev,rfl,A⟩ c R
  cases ev
  have i:=o.ins.2.symm.trans A.ins.2;injection i with i;injection i with _ x k;subst x;simp only[List.cons.injEq,Prod.mk.injEq,true_and,and_true,V.ref.injEq]at k;obtain⟨rfl,rfl,rfl,rfl⟩:=k;have j:=o.leav.2.1.symm.trans A.leav.2.1;injection j with j;injection j with j;subst j;rw[o.leav.2.2.addrs A.leav.2.2];exact R
structure NetC (K:W.Frag)(C:Addr):Prop where
 cl:Cls K C
 ends:V8 K C "ends"
 rooms:V8 K C "rooms"
 leav:V8 K C "leaving"
 laid:V8 K C "laid"
section
variable {K:W.Frag}{ρ:Q9}{tb te:TE}{D:PEnds}{i:Nat}{v:V}{P:Program}{w:World}{C:Addr}{N:Q8}
def QA.net  (S:QA K H0 F ρ σ H)(e:ρ[i]?=some (some<|.own v<|Zd P w C N)) :
 ∃a j el r l d xs ys as,v=.ref a/\σ[i]?=some (some<|.ref a)/\NetOk P w C N F H a j el r l d xs ys as/\(∀b∈a::j::el::r::l::d::as,H0 b=none/\F b=none/\H b≠none) /\
  ∀(k:Hp) (n:Q8) (g:List (List Key×V)) (f:List (KK×Addr×V)) (c:Qg),Q3 F k->(∀b,b∉a::j::el::r::l::d::as->H b≠none->k b=H b)->(∀b,H b≠none->k b≠none) ->
   NetOk P w C n F k a j el r l d g f c->(∀b∈c,b∈as\/(H b=none/\H0 b=none))->QA K H0 F (ρ.set i<|some<|.own v<|Zd P w C n) σ k:=by
 obtain⟨B,p,⟨a,j,el,r,l,d,xs,ys,as,rfl,rfl,q⟩,s,o⟩:=S.writeOwn e;refine⟨a,j,el,r,l,d,xs,ys,as,rfl,B,q,s,fun k n g f c A y x u t=>o k _ _ A y x ⟨a,j,el,r,l,d,g,f,c,rfl,rfl,u⟩ fun b m=>?_⟩;simp only[Xf]at m ⊢;rcases m with h|h|h|h|h|h|m
 .exact .inl (.inl h)
 .exact .inl (.inr<|.inl h)
 .exact .inl (.inr<|.inr<|.inl h)
 .exact .inl (.inr<|.inr<|.inr<|.inl h)
 .exact .inl (.inr<|.inr<|.inr<|.inr<|.inl h)
 .exact .inl (.inr<|.inr<|.inr<|.inr<|.inr<|.inl h)
 .rcases t b m with z|z
  .exact .inl (.inr<|.inr<|.inr<|.inr<|.inr<|.inr z)
  .exact .inr z
def LeavD.other    (h:LeavD F H xs ls as)(n:b∉as):LeavD F (upd H b o) xs ls as :=
 h.mono (Q3.refl _) (fun a c=>(h.mem a c).1) (fun a c=>Qu fun z=>n<|z▸c)
def NetOk.setRooms   (f:NetOk P w C N F H a dx el r l d xs ys as){ns:Ql}(p:Qx F zs (ns.map PyData.int)) :
 NetOk P w C { N with rooms:=ns } F (upd H r<|.lst zs) a dx el r l d xs ys as:=by
 obtain⟨c,⟨o,n⟩,⟨h,g⟩,⟨z,u,y,x⟩,⟨e,L,O,M⟩,⟨m,k,j⟩,⟨E,B,A⟩⟩:=f;have b:=c;simp only[XD,Xf,not_or]at b;obtain⟨⟨S,R,J,_⟩,⟨Q,I,_⟩,⟨G,_⟩,⟨t,s,q⟩,_⟩:=b
 exact⟨c,⟨o,by rw[Qu J];exact n⟩,⟨h,by rw[Qu I];exact g⟩,⟨z,u,by rw[Qu G];exact y,x⟩,⟨e,zs,QC,p⟩,⟨m,by rw[Qu<|Ne.symm t];exact k,j.other q⟩,⟨E,by rw[Qu<|Ne.symm s];exact B,A⟩⟩
def Yp  : ∀b,H b≠none->upd H a o b≠none:=fun b c=>by
 by_cases z:b=a
 .subst z;rw[QC];rintro⟨⟩
 .rw[Qu z];exact c
def Pl (c:NetC K C)(e:ρ[i]?=some (some<|.own v<|Zd P w C N))(hi:Qs K tb ρ (.int k))(h0:0<=k)(T:N.rooms[k.toNat]?=some m)(h:Qs K te ρ (.int n))
 (hn:D.nx (ρ.set i<|some<|.own v<|Zd P w C { N with rooms:=N.rooms.set k.toNat (f m n) })):Q0 K (Bd (ZT K (QB i) "rooms") tb te (Bb K) (ipI f) UY) ρ D:=fun F0 U F t H E x S C'=>by
 obtain⟨a,dx,el,r,l,d,xs,ys,as,rfl,e1,I,_⟩:=S.net e;refine⟨_,e1,a,C,dx,_,.ref r,rfl,I.ins.2,c.cl,c.rooms,rfl,hi U F t H _ S fun F1 H1 y g r1=>?_⟩
 cases r1
 obtain⟨_,rx,r2,r3⟩:=I.rooms;have J:(N.rooms.map PyData.int)[k.toNat]?=some (.int m):=by rw[Xt,T];rfl
 obtain⟨z,Z,Y⟩:=(r3.mono g.ff).get J;refine⟨r,rx,k,z,rfl,rfl,SqL.of<|g.hh _ _ r2,h0,Z,h U F1 t H1 _ (S.ext g) fun X H2 u s G=>?_⟩
 cases G
 cases Y
 refine⟨m,n,rfl,rfl,?_⟩;obtain⟨a',dx',el',O,l',d',B,A,M,ea,g1,j,hp,wr⟩:=(S.ext<|g.trans s).net e
 cases ea
 have p:=j.ins.2.symm.trans ((g.trans s).hh _ _ I.ins.2);injection p with p;injection p with _ _ q;simp only[List.cons.injEq,Prod.mk.injEq,true_and,and_true,V.ref.injEq]at q;obtain⟨rfl,rfl,rfl,rfl⟩:=q;obtain⟨q1,Q,q2,R⟩:=j.rooms;have hlt:k.toNat<N.rooms.length:=(Xh.mp T).1
 have hr:Qx X (Q.set k.toNat<|.int<|f m n) ((N.rooms.set k.toNat<|f m n).map PyData.int):=by
  rw[List.map_set];exact R.set (.int _) _
 refine⟨O,Q,k,k.toNat,rfl,rfl,q2,?_,?_⟩
 .rw[R.length,Xn]
  unfold ixN;rw[Xd h0,Xd<|by omega]
 .have o:=hp O (by simp)
  exact C'.nx X t _ _ ((x.trans<|g.trans s).wr o.1 o.2.1) (wr _ { N with rooms:=N.rooms.set k.toNat (f m n) } B A M ((S.ext<|g.trans s).sub.upd o.2.1) (fun b L _=>Qu fun z=>L<|by rw[z];simp) Yp (j.setRooms hr) fun b L=>.inl L) hn
end
section
variable {K:W.Frag}{ρ:Q9}{te:TE}{D:PEnds}{i:Nat}{v:V}{P:Program}{w:World}{C:Addr}{N:Q8}
def NetOk.same
 (k:NetOk P w C N F H a dx el r l d xs ys as) (b:NetOk P w C N' F' H' a dx' el' r' l' d' xs' ys' as') (s:H' a=H a):dx'=dx/\el'=el/\r'=r/\l'=l/\d'=d:=by
 have h:=b.ins.2;rw[s,k.ins.2]at h;injection h with h;injection h with _ m c;simp only[List.cons.injEq,Prod.mk.injEq,true_and,and_true,V.ref.injEq]at c;obtain⟨j,g,f,e⟩:=c
 exact⟨m.symm,j.symm,g.symm,f.symm,e.symm⟩
def NetOk.setEnds   (j:NetOk P w C N F H a dx el r l d xs ys as){ns:List (List Key)}(t:Qx F zs (ns.map QT)) :
 NetOk P w C { N with ends:=ns } F (upd H el<|.lst zs) a dx el r l d xs ys as:=by
 obtain⟨c,⟨s,q⟩,⟨m,k⟩,⟨u,L,O,M⟩,⟨h,e,g,f⟩,⟨p,o,n⟩,⟨z,y,x⟩⟩:=j;have b:=c;simp only[XD,Xf,not_or]at b;obtain⟨⟨S,J,R,_⟩,⟨I,Q,_⟩,⟨G,E,B,A⟩,_⟩:=b
 exact⟨c,⟨s,by rw[Qu J];exact q⟩,⟨m,by rw[Qu I];exact k⟩,⟨u,zs,QC,t⟩,⟨h,e,by rw[Qu<|Ne.symm G];exact g,f⟩,⟨p,by rw[Qu<|Ne.symm E];exact o,n.other A⟩,⟨z,by rw[Qu<|Ne.symm B];exact y,x⟩⟩
def Oc (c:NetC K C)(e:ρ[i]?=some (some<|.own v<|Zd P w C N))(h:Qs K te ρ (.int n))(hl:N.rooms.length<1000)
 (hn:D.nx (ρ.set i<|some<|.own v<|Zd P w C { N with rooms:=N.rooms++[n] })):Q0 K (Vq<|tBM K "list" YH (ZT K (QB i) "rooms")<|QE te QQ) ρ D:=fun F0 T F s H E x S X=>by
 obtain⟨a,R,el,r,l,d,Z,Y,as,rfl,O,j,_⟩:=S.net e;refine⟨_,O,a,C,R,_,.ref r,rfl,j.ins.2,c.cl,c.rooms,rfl,.inl ⟨rfl,_,SqL.of j.rooms.2.choose_spec.1⟩,h T F s H _ S fun U H1 u k B=>?_⟩
 cases B
 obtain⟨a',Q,L,t,l',d',o,m,q,M,g1,f,J,A⟩:=(S.ext k).net e
 cases M
 obtain⟨rfl,rfl,rfl,rfl,rfl⟩:=j.same f ((k.hh _ _ j.ins.2).trans j.ins.2.symm);obtain⟨q1,G,I,y⟩:=f.rooms;have g:=J t (by simp);refine⟨t,G,.int n,rfl,rfl,I,by rw[y.length,Xn];exact Vc<|by omega,?_⟩;exact X.nx U s _ _ ((x.trans k).wr g.1 g.2.1) (A _ { N with rooms:=N.rooms++[n] } o m q ((S.ext k).sub.upd g.2.1) (fun b p _=>Qu fun z=>p<|by rw[z];simp) Yp (f.setRooms<|by rw[Xy];exact y.snoc<|.int n) fun b p=>.inl p) hn
def Oy (c:NetC K C)(e:ρ[i]?=some (some<|.own v<|Zd P w C N))(h:Qs K te ρ (QT n))(hl:N.ends.length<1000)
 (hn:D.nx (ρ.set i<|some<|.own v<|Zd P w C { N with ends:=N.ends++[n] })):Q0 K (Vq<|tBM K "list" YH (ZT K (QB i) "ends")<|QE te QQ) ρ D:=fun F0 T F t H E x S X=>by
 obtain⟨a,R,L,r,l,d,Z,Y,as,rfl,O,j,_⟩:=S.net e;refine⟨_,O,a,C,R,_,.ref L,rfl,j.ins.2,c.cl,c.ends,rfl,.inl ⟨rfl,_,SqL.of j.ends.2.choose_spec.1⟩,h T F t H _ S fun U H1 u m B=>?_⟩;obtain⟨a',Q,k,r',l',d',p,o,s,M,g1,f,J,A⟩:=(S.ext m).net e
 cases M
 obtain⟨rfl,rfl,rfl,rfl,rfl⟩:=j.same f ((m.hh _ _ j.ins.2).trans j.ins.2.symm);obtain⟨q1,G,I,y⟩:=f.ends;have g:=J k (by simp);refine⟨k,G,u,rfl,rfl,I,by rw[y.length,Xn];exact Vc<|by omega,?_⟩;exact X.nx U t _ _ ((x.trans m).wr g.1 g.2.1) (A _ { N with ends:=N.ends++[n] } p o s ((S.ext m).sub.upd g.2.1) (fun b q _=>Qu fun z=>q<|by rw[z];simp) Yp (f.setEnds<|by rw[Xy];exact y.snoc B) fun b q=>.inl q) hn
def P0 (c:NetC K C) (e:ρ[i]?=some (some<|.own v<|Zd P w C N)):Qs K (tCB (JY K)<|QE (ZT K (QB i) "ends") QQ) ρ (.int (N.ends.length:Int)):=fun t F n H Q S q=>by
 obtain⟨a,m,g,r,l,d,p,o,s,rfl,k,b,_⟩:=S.net e;obtain⟨_,f,j,h⟩:=b.ends;refine⟨_,k,a,C,m,_,.ref g,rfl,b.ins.2,c.cl,c.ends,rfl,g,f,rfl,.inl<|SqL.of j,?_⟩
 have:f.length=N.ends.length:=by rw[h.length,Xn]
 rw[this];exact q F H _ (Qy.refl S.sub) (.int _)
end
def ZK (ls:List (KK×Int))(k:KK):Option Int:=(ls.find? fun x=>decide (x.1=k)).map (·.2)
def Yy (ls:List (KK×Int))(k:KK)(n:Int):List (KK×Int):=if (ZK ls k).isSome=true then ls.map (fun x=>if x.1=k then (x.1,n) else x) else ls++[(k,n)]
theorem LaidD.val {F:Hp}(k:KK):∀{xs:List (KK×Addr×V)} {ls:List (KK×Int)},LaidD F xs ls->Ye xs k=(ZK ls k).map V.int
 |_,_,.nil=>rfl
 |_,_,.cons (k:=k') h t=>by
   by_cases e:k'=k
   .simp[Ye,ZK,Xx,e]
   .have:=t.val k
    simpa [Ye,ZK,Xx,e] using this
theorem LaidD.length {F:Hp}:∀{xs:List (KK×Addr×V)} {ls:List (KK×Int)},LaidD F xs ls->xs.length=ls.length
 |_,_,.nil=>rfl
 |_,_,.cons h t=>by simp[t.length]
theorem LaidD.repl {F:Hp}(k:KK)(n:Int):∀{xs:List (KK×Addr×V)} {ls:List (KK×Int)},LaidD F xs ls->LaidD F (xs.map fun x=>if x.1=k then (x.1,x.2.1,.int n) else x) (ls.map fun x=>if x.1=k then (x.1,n) else x)
 |_,_,.nil=>.nil
 |_,_,.cons (k:=k') h t=>by
   rw[Xu,Xu];by_cases e:k'=k
   .simp only[e,if_true]
    exact .cons (e▸h) (t.repl k n)
   .simp only[e,if_false]
    exact .cons h (t.repl k n)
theorem LaidD.snoc {F:Hp}{k:KK}{b:Addr}(n:Int)(a:Vg F k b):∀{xs:List (KK×Addr×V)} {ls:List (KK×Int)},LaidD F xs ls->LaidD F (xs++[(k,b,.int n)]) (ls++[(k,n)])
 |_,_,.nil=>.cons a .nil
 |_,_,.cons h t=>.cons h (t.snoc n a)
def LaidD.put  (n:Int)(a:Vg F k b)  (t:LaidD F xs ls):LaidD F (WU xs k b<|.int n) (Yy ls k n):=by
 unfold WU Yy;rw[t.val k,Js];split
 .exact t.repl k n
 .exact t.snoc n a
def HG  (r:Rep F y (.tuple [QT k1,QT k2])):∃b,y=.ref b/\Vg F (k1,k2) b:=by
 cases r with
 |tup h a =>
   cases a with
   |cons d a =>
     cases a with
     |cons c a =>
       cases a
       obtain⟨p,rfl,f⟩:=Wm d;obtain⟨q,rfl,e⟩:=Wm c
       exact⟨_,rfl,p,q,h,f,e⟩
section
variable {K:W.Frag}{ρ:Q9}{ty tv:TE}{D:PEnds}{i:Nat}{v:V}{P:Program}{w:World}{C:Addr}{N:Q8}{k1 k2:List Key}
def NetOk.setLaid   (j:NetOk P w C N F H a dx el r l d xs ys as)(t:LaidD F ys' ls) :
 NetOk P w C { N with laid:=ls } F (upd H d<|pdO P w d ys') a dx el r l d xs ys' as:=by
 obtain⟨c,⟨s,q⟩,⟨m,k⟩,⟨E,z,B,A⟩,⟨h,e,g,f⟩,⟨p,o,n⟩,⟨G,S,R⟩⟩:=j;have b:=c;simp only[XD,Xf,not_or]at b;obtain⟨⟨a1,a2,a3,a4,L,_⟩,⟨b1,Z,Y,J,_⟩,⟨X,U,I,T⟩,⟨Q,x,O⟩,⟨u,M⟩,y,_⟩:=b
 exact⟨c,⟨s,by rw[Qu L];exact q⟩,⟨m,by rw[Qu J];exact k⟩,⟨E,z,by rw[Qu I];exact B,A⟩,⟨h,e,by rw[Qu x];exact g,f⟩,⟨p,by rw[Qu u];exact o,n.other y⟩,⟨G,QC,t⟩⟩
def Ik (c:NetC K C)(e:ρ[i]?=some (some<|.own v<|Zd P w C N))(Q:Qs K tv ρ (.int n))(O:Qs K ty ρ (.tuple [QT k1,QT k2]))(hl:N.laid.length<1000)
 (hn:D.nx (ρ.set i<|some<|.own v<|Zd P w C { N with laid:=Yy N.laid (k1,k2) n })):Q0 K (N8 P w (ZT K (QB i) "laid") ty tv) ρ D:=fun F0 I F o H E x S C' =>
 Q I F o H _ S fun F1 H1 u j M=>by
  cases M
  obtain⟨a,dx,el,r,l,d,xs,ys,as,rfl,Y,k,_⟩:=(S.ext j).net e;refine⟨_,Y,a,C,dx,_,.ref d,rfl,k.ins.2,c.cl,c.laid,rfl,O I F1 o H1 _ (S.ext j) fun F2 H2 y s L=>?_⟩;have m:=S.ext (j.trans s);obtain⟨a',Z,U,r',l',G,q,p,A,X,g1,f,R,J⟩:=m.net e
  cases X
  obtain⟨rfl,rfl,rfl,rfl,rfl⟩:=k.same f ((s.hh _ _ k.ins.2).trans k.ins.2.symm);obtain⟨b,rfl,B⟩:=HG L;obtain⟨d1,d2,t⟩:=f.laid;refine⟨G,b,p,(k1,k2),rfl,rfl,d2,t.at m.sub,B.mono fun c' z T=>m.sub _ _ T,by rw[t.length];exact Vc<|by omega,?_⟩;have g:=R G (by simp);exact C'.nx F2 o _ _ ((x.trans<|j.trans s).wr g.1 g.2.1) (J _ { N with laid:=Yy N.laid (k1,k2) n } q _ A (m.sub.upd g.2.1) (fun b' h _=>Qu fun z=>h<|by rw[z];simp) Yp (f.setLaid<|t.put n B) fun b' h=>.inl h) hn
end
def QO (ls:List (List Key×Ql))(k:List Key):Option (Ql):=(ls.find? fun x=>decide (x.1=k)).map (·.2)
def VD:List (List Key×Ql)->List Key->Int->List (List Key×Ql)
 |[],_,_=>[]
 |(a,b)::r,k,n=>if a=k then (a,b++[n])::r else (a,b)::VD r k n
theorem LeavD.val {F H:Hp}(k:List Key):∀{xs:List (List Key×V)} {ls:List (List Key×Ql)} {as:Qg},LeavD F H xs ls as->(Zx xs k=none/\QO ls k=none) \/
 ∃a ns,Zx xs k=some (.ref a)/\QO ls k=some ns/\a∈as/\Vn F H a (ns.map PyData.int)
 |_,_,_,.nil=>.inl ⟨rfl,rfl⟩
 |_,_,_,.cons (k:=k') (a:=a) (ns:=ns) (xs:=xs) (ls:=ls) h t=>by
   by_cases e:k'=k
   .exact .inr ⟨a,ns,YB e,by simp[QO,Xx,e],Xb,h⟩
   .have q:QO ((k',ns)::ls) k=QO ls k:=by simp[QO,Xx,e]
    rw[YA (p:=(k',V.ref a)) e,q]
    rcases t.val k with z|⟨i,b,g,f,d,c⟩
    .exact .inl z
    .exact .inr ⟨i,b,g,f,Xe _ d,c⟩
theorem LeavD.app {F H:Hp}(k:List Key){a:Addr}{n:Int}{zs:List V}:∀{xs:List (List Key×V)} {ls:List (List Key×Ql)} {as:Qg} {ns:Ql},LeavD F H xs ls as->as.Nodup->Zx xs k=some (.ref a)->QO ls k=some ns ->
 Qx F zs ((ns++[n]).map PyData.int)->LeavD F (upd H a<|.lst zs) xs (VD ls k n) as
 |_,_,_,_,.nil,_,h,_,_=>by cases h
 |_,_,_,ns,.cons (k:=k') (a:=a') (ns:=ns') (xs:=xs) (ls:=ls) (as:=as) h t,o,b,c,i=>by
   obtain⟨g,r⟩:=XD.mp o;unfold VD;by_cases e:k'=k
   .rw[YB (p:=(k',V.ref a')) e]at b
    have q:QO ((k',ns')::ls) k=some ns':=by simp[QO,Xx,e]
    rw[q]at c;cases b
    cases c
    rw[Xd e];exact .cons ⟨h.1,zs,QC,i⟩ (t.other g)
   .rw[YA (p:=(k',V.ref a')) e]at b
    have q:QO ((k',ns')::ls) k=QO ls k:=by simp[QO,Xx,e]
    rw[q]at c;rw[Xc e];have s:a∈as:=by
     rcases t.val k with z|⟨A,l,f,y,j,x⟩
     .rw[b]at z;cases z.1
     .rw[b]at f;cases f;exact j
    refine .cons ?_ (t.app k r b c i);obtain⟨w,d,v,u⟩:=h;have m:a'≠a:=fun z=>g (by rw[z];exact s)
    exact⟨w,d,by rw[Qu m];exact v,u⟩
theorem LeavD.snoc {F H:Hp}(k:List Key){a:Addr}(o:Vn F H a []):∀{xs:List (List Key×V)} {ls:List (List Key×Ql)} {as:Qg},LeavD F H xs ls as->LeavD F H (xs++[(k,.ref a)]) (ls++[(k,[])]) (as++[a])
 |_,_,_,.nil=>.cons o .nil
 |_,_,_,.cons h t=>.cons h (t.snoc k o)
theorem LeavD.length {F H:Hp}:∀{xs:List (List Key×V)} {ls:List (List Key×Ql)} {as:Qg},LeavD F H xs ls as->xs.length=ls.length
 |_,_,_,.nil=>rfl
 |_,_,_,.cons h t=>by simp[t.length]
def VE (ls:List (List Key×Ql))(k:List Key):List (List Key×Ql):=if (QO ls k).isSome=true then ls else ls++[(k,[])]
section
variable {P:Program}{w:World}{C:Addr}{N:Q8}{k:List Key}
def NetOk.appLeav   (o:NetOk P w C N F H a dx el r l d xs ys as)
 (A:Zx xs k=some (.ref b)) (D:QO N.leav k=some ns) (E:b∈as) (B:Qx F zs ((ns++[n]).map PyData.int)):NetOk P w C { N with leav:=VD N.leav k n } F (upd H b<|.lst zs) a dx el r l d xs ys as:=by
 obtain⟨f,⟨y,v⟩,⟨q,p⟩,⟨R,M,Q,O⟩,⟨m,g,j,i⟩,⟨u,t,s⟩,⟨U,T,S⟩⟩:=o;have e:=f;simp only[XD,Xf,not_or]at e;obtain⟨⟨a1,a2,a3,a4,a5,Y⟩,⟨b1,b2,b3,b4,X⟩,⟨c1,c2,c3,W⟩,⟨g1,g2,I⟩,⟨Z,G⟩,L,J⟩:=e;have c:∀{x:Addr},x∉as->x≠b:=fun h z=>h (by rw[z];exact E)
 exact⟨f,⟨y,by rw[Qu<|c Y];exact v⟩,⟨q,by rw[Qu<|c X];exact p⟩,⟨R,M,by rw[Qu<|c W];exact Q,O⟩,⟨m,g,by rw[Qu<|c I];exact j,i⟩,⟨u,by rw[Qu<|c G];exact t,s.app k J A D B⟩,⟨U,by rw[Qu<|c L];exact T,S⟩⟩
end
section
variable {K:W.Frag}{ρ:Q9}{te ty:TE}{D:PEnds}{i:Nat}{v:V}{P:Program}{w:World}{C:Addr}{N:Q8}{k:List Key}
def Sa (c:NetC K C)(e:ρ[i]?=some (some<|.own v<|Zd P w C N))(h:Qs K te ρ (.int n))(M:QO N.leav k=some ns)(hz:ns.length<1000)
 (hn:D.nx (ρ.set i<|some<|.own v<|Zd P w C { N with leav:=VD N.leav k n }))  (x:Qy F0 H0 F H) (S:QA K H0 F ρ σ H) (C':Cnv K F0 H0 D E)
  (m:NetOk P w C N F H a Q el r l d xs ys as) (ev:v=.ref a) (p:Zx xs k=some (.ref al)) :
 tyV K "list" (.ref al) H/\QE te QQ σ H fun vs H2=>YH (.ref al) vs H2 fun _ H3=>E.nx σ H3:=by
 have j:∀{F H:Hp} {a Q el r l d:Addr} {xs:List (List Key×V)} {ys:List (KK×Addr×V)} {as:Qg},NetOk P w C N F H a Q el r l d xs ys as->Zx xs k=some (.ref al)->al∈as/\Vn F H al (ns.map PyData.int):=fun m p=>by
  rcases m.leav.2.2.val k with z|⟨a2,Z,J,I,T,R⟩
  .rw[p]at z;cases z.1
  .rw[p]at J
   rw[M]at I;cases J
   cases I
   exact⟨T,R⟩
 obtain⟨_,_,zs,A,_⟩:=j m p;refine⟨.inl ⟨rfl,_,SqL.of A⟩,h H0 F σ H _ S fun F1 H1 u q Y=>?_⟩
 cases Y
 obtain⟨a',dx',el',r',l',d',U,t,G,O,g1,g,hp,X⟩:=(S.ext q).net e;rw[ev]at O;cases O;obtain⟨rfl,rfl,rfl,rfl,rfl⟩:=m.same g ((q.hh _ _ m.ins.2).trans m.ins.2.symm);have f:=g.leav.2.1.symm.trans (q.hh _ _ m.leav.2.1);injection f with f;injection f with f;subst f;obtain⟨y,m2,s,m3,L⟩:=j g p;have o:=hp al (by simp[y]);refine⟨al,s,.int n,rfl,rfl,m3,by rw[L.length,Xn];exact Vc<|by omega,?_⟩
 exact C'.nx F1 σ _ _ ((x.trans q).wr o.1 o.2.1) (X _ { N with leav:=VD N.leav k n } _ t G ((S.ext q).sub.upd o.2.1) (fun b B _=>Qu fun z=>B<|by rw[z];simp[y]) Yp
  (g.appLeav p M y<|by rw[Xy];exact L.snoc<|.int n) (fun b B=>.inl B)) hn
def P8 (ls:List (List Key×Ql))(h:QO ls k=none):QO (ls++[(k,[])]) k=some []:=by
 induction ls with
 |nil=>simp[QO]
 |cons x ls d =>
   obtain⟨a,b⟩:=x
   by_cases e:a=k
   .simp[QO,Xx,e]at h
   .have q:QO ((a,b)::ls) k=QO ls k:=by simp[QO,Xx,e]
    rw[q]at h;have c:QO ((a,b)::ls++[(k,[])]) k=QO (ls++[(k,[])]) k:=by simp[QO,Xx,e]
    rw[c];exact d h
def Is (c:NetC K C)(e:ρ[i]?=some (some<|.own v<|Zd P w C N))(hy:Qs K ty ρ (QT k))(hl:N.leav.length<1000)(hz:∀ns,QO (VE N.leav k) k=some ns->ns.length<1000)
 (h:Qs K te (ρ.set i<|some<|.own v<|Zd P w C { N with leav:=VE N.leav k }) (.int n)) (hn:D.nx (ρ.set i<|some<|.own v<|Zd P w C { N with leav:=VD (VE N.leav k) k n })) :
 Q0 K (Vq<|tBM K "list" YH (R4 (ZT K (QB i) "leaving") ty<|J4 QQ)<|QE te QQ) ρ D:=fun F0 H0 F σ H E x S C'=>by
 obtain⟨a,dx,el,r,l,d,xs,ys,as,rfl,e1,ok,hp0,_⟩:=S.net e;refine⟨_,e1,a,C,dx,_,.ref l,rfl,ok.ins.2,c.cl,c.leav,rfl,l,rfl,.inr ⟨xs,Rd.of ok.leav.2.1⟩,hy H0 F σ H _ S fun F1 O y x1 r1=>⟨XM _,fun p L=>?_⟩⟩;have Z:=S.ext x1;have x2:Qy F1 O F1 (upd O p<|.lst []):=Qy.own Z.sub L;obtain⟨a',o,m,R,s,Y,f,J,g,ea,g1,G,hp',wr⟩:=Z.net e
 cases ea
 obtain⟨rfl,rfl,rfl,rfl,rfl⟩:=ok.same G ((x1.hh _ _ ok.ins.2).trans ok.ins.2.symm);have hlt:i<ρ.length:=(Xh.mp e).1;obtain⟨b,rfl,hb⟩:=Wm r1;obtain⟨l1,l2,l3⟩:=G.leav;have I:∀q∈a::o::m::R::s::Y::g,q≠p:=fun q hq z=>by rw[z]at hq;exact(hp' p hq).2.2 L
 have lp:s≠p:=I s (by simp);have bp:b≠p:=fun z=>by rw[z]at hb;rw[Z.sub _ _ hb]at L;cases L
 have h0p:H0 p=none:=(x.trans x1).hh.free L;refine⟨f,k,b,rfl,by rw[Qu lp];exact l2,by rw[Qu bp];exact Z.sub _ _ hb,by rw[l3.length];exact Vc<|by omega,fun v0 A=>?_,fun A=>?_⟩
 .rcases l3.val k with z|⟨al,ns,z1,M,z3,z4⟩
  .rw[A]at z;cases z.1
  .rw[A]at z1
   cases z1
   have U:VE N.leav k=N.leav:=by unfold VE;rw[M];rfl
   rw[U]at h hn hz;have S3:=Z.ext x2
   have B:NetOk P w C N F1 (upd O p<|.lst []) a o m R s Y f J g:=by
    obtain⟨q0,q1,q2,q3,q4,q5,T⟩:=G;obtain⟨X,ex,e2,e3⟩:=q3;obtain⟨Q,rx,r2,r3⟩:=q4
    exact⟨q0,⟨q1.1,by rw[Qu<|I a<|by simp];exact q1.2⟩,⟨q2.1,by rw[Qu<|I o<|by simp];exact q2.2⟩,⟨X,ex,by rw[Qu<|I m<|by simp];exact e2,e3⟩,⟨Q,rx,by rw[Qu<|I R<|by simp];exact r2,r3⟩,
     ⟨q5.1,by rw[Qu lp];exact q5.2.1,q5.2.2.other fun z=>I p (by simp[z]) rfl⟩,⟨T.1,by rw[Qu<|I Y<|by simp];exact T.2.1,T.2.2⟩⟩
   have S4:QA K H0 F1 (ρ.set i<|some<|.own (.ref a)<|Zd P w C N) σ (upd O p<|.lst []):=wr _ N f J g S3.sub (fun b' _ j=>Qu fun z=>j<|by rw[z];exact L) Yp B (fun b' j=>.inl j);exact Sa (N:=N) c (Xl hlt) h M (hz ns M) (by rw[List.set_set];exact hn) (x.trans<|x1.trans x2) S4 C' B rfl A
 .have M:QO N.leav k=none:=by
   rcases l3.val k with z|⟨al,ns,z1,M,z3,z4⟩
   .exact z.2
   .rw[A]at z1;cases z1
  have U:VE N.leav k=N.leav++[(k,[])]:=by unfold VE;rw[M];rfl
  rw[U]at h hn hz;have fp:F1 p=none:=Z.sub.free L
  have B:NetOk P w C { N with leav:=N.leav++[(k,[])] } F1 (upd (upd O p<|.lst []) s<|.dT<|f++[(k,.ref p)]) a o m R s Y (f++[(k,.ref p)]) J (g++[p]):=by
   have ok2:=G;obtain⟨q0,q1,q2,q3,q4,q5,T⟩:=G;obtain⟨X,ex,e2,e3⟩:=q3;obtain⟨Q,rx,r2,r3⟩:=q4;have nd':=q0;simp only[XD,Xf,not_or]at nd';obtain⟨⟨a1,a2,a3,a4,a5,a6⟩,⟨b1,b2,b3,b4,b5⟩,⟨c1,c2,c3,c4⟩,⟨g1',g2,g3⟩,⟨h1,h2⟩,f1,f2⟩:=nd';have up:∀{q:Addr},q∈a::o::m::R::s::Y::g->q≠s->upd (upd O p<|.lst []) s (.dT<|f++[(k,.ref p)]) q=O q:=fun hq ne=>by rw[Qu ne,Qu<|I _ hq]
   refine⟨?_,⟨q1.1,by rw[up (by simp) a4];exact q1.2⟩,⟨q2.1,by rw[up (by simp) b3];exact q2.2⟩,⟨X,ex,by rw[up (by simp) c2];exact e2,e3⟩,⟨Q,rx,by rw[up (by simp) g1'];exact r2,r3⟩,⟨l1,QC,?_⟩,⟨T.1,by rw[up (by simp)<|Ne.symm h1];exact T.2.1,T.2.2⟩⟩
   .have:(a::o::m::R::s::Y::(g++[p]))=(a::o::m::R::s::Y::g)++[p]:=by simp
    rw[this,UR];refine⟨q0,by simp,fun u hu t ht=>?_⟩
    cases Xi.mp ht
    exact I u hu
   .refine LeavD.snoc k ⟨fp,[],by rw[Qu<|Ne.symm lp,QC],.nil⟩ ?_
    exact(l3.other fun z=>I p (by simp[z]) rfl).other h2
  have S4:QA K H0 F1 (ρ.set i<|some<|.own (.ref a)<|Zd P w C { N with leav:=N.leav++[(k,[])] }) σ (upd (upd O p<|.lst []) s<|.dT<|f++[(k,.ref p)]) :=
   wr _ _ _ J (g++[p]) ((Z.sub.upd fp).upd l1) (fun b' hb1 hb2=>by rw[Qu (fun z=>hb1<|by rw[z];simp),Qu fun z=>hb2<|by rw[z];exact L]) (fun b' j=>Yp b'<|Yp b' j) B (fun b' j=>by
    rcases XB.mp j with z|z
    .exact .inl z
    .cases Xi.mp z;exact .inr ⟨L,h0p⟩)
  have hl0:=hp' s (by simp)
  exact Sa (N:={ N with leav:=N.leav++[(k,[])] }) c (Xl hlt) h (P8 _ M) (hz []<|P8 _ M) (by rw[List.set_set];exact hn) ((x.trans<|x1.trans x2).wr hl0.1 hl0.2.1) S4 C' B rfl (by
   rw[PP k k (.ref p) f A,Xd rfl])
end
end L2
section
namespace L2
open PySem PySem.Spec PyProof.Rows
structure KTup (K:W.Frag)(g:Addr)(x:Str):Prop where
 ex:∃(d:Qj) (t:Nat) (n:Nat) (sl:Array (Qf)),K.lookup g=some ⟨.type "tuple",d,.seq #[.str x t] n,sl⟩
def Im {P:Program}{w:World}{K:W.Frag}{R mb:Str->Qf}{k:Nat}{fa a i j:Addr}{fd:FuncData}{x:Str}{sp:Sp}{c:Shared}{vs:Qe}{ns:Ql}
 (KX:K.In c.heap) (Y:c.heap.Ns mainGlobals R) (l:c.heap.Ns builtinsNs mb) (hbb:∀x:Str,x ≠ "__name__" -> mb x=bootBuiltins x) (Z:c.heap.NoLimit) (hg:c.gens=#[])
 (M:c.heap.get? a=some { cls:=.type "list",data:=.seq vs.toArray }) (hi:IntsAre vs ns) (hl:ns.length<=sizeLine) (hr:Room k callerA) (tS:KTup K i "start") (tE:KTup K j "end")
 (F:∀base:Heap,K.In base->base.Ns mainGlobals R->FnOk P w K R base CX0 k fa fd [x] sp) (I:∀(s:Shared) (u:Value),BindsTo s fd ⟨[u],[]⟩ [(x,u)])
 (hsp:∀H:Hp,SqL K H a (ns.map V.int)->H i=some (.tup [.str "start"])->H j=some (.tup [.str "end"])->sp [.ref a] H (fun v _=>v=.bl true) fun _ _ _=>False) :
 codeAny (model P w) callerA (.call (.ref fa) ⟨[.ref a],[]⟩) (fun r D=>r=.ok (.ret<|.bool true)/\OldK c.heap D.heap/\D.os=c.os/\AllBare D.gens) c:=by
 have rv:=Pf hi;have S:=hi.length;obtain⟨dS,kS,cS,slS,lS⟩:=tS.ex;obtain⟨dE,kE,cE,slE,lE⟩:=tE.ex;have J:=KX i _ lS;have L:=KX j _ lE
 have naS:i≠a:=fun z=>by
  rw[z,M]at J;injection J with O;injection O with G;injection G with N;exact Xm N (by decide)
 have naE:j≠a:=fun z=>by
  rw[z,M]at L;injection L with O;injection O with G;injection G with N;exact Xm N (by decide)
 have nSE:j≠i:=fun z=>by
  rw[z,lS]at lE;injection lE with O;injection O with _ _ G _;injection G with N _;have z4:=X8 Array.toList N;simp only[List.cons.injEq,Value.str.injEq,and_true]at z4;exact Xm z4.1 (by decide)
 have E:∀f:Hp,TN f->SqL K f a (ns.map V.int)->HOk P w f c.heap->(∀b,f b≠none->b=a)->(f a≠none->K.lookup a=none) ->
  codeAny (model P w) callerA (.call (.ref fa) ⟨[.ref a],[]⟩) (fun r D=>r=.ok (.ret<|.bool true)/\OldK c.heap D.heap/\D.os=c.os/\AllBare D.gens) c:=by
  intro f hO hSq X hA hK;have fS:f i=none:=by
   cases q:f i with
   |none=>rfl
   |some u=>exact Xm (hA i<|by rw[q];simp) naS
  have fE:f j=none:=by
   cases q:f j with
   |none=>rfl
   |some u=>exact Xm (hA j<|by rw[q];simp) naE
  have g:∀{b:Addr} {o:Obj},c.heap.get? b=some o->f b=none->(W0 c.heap f).get? b=some o:=fun e n=>AR e n
  have noA:∀{b:Addr} {o:Obj} {es:Array DictEntry} {ep:Nat},c.heap.get? b=some o->o.data=.dict es ep->f b=none:=fun{b o es ep} e d=>by
   cases q:f b with
   |none=>rfl
   |some u =>
     have e':b=a:=hA b (by rw[q];simp);subst e';rw[M]at e;cases e;have d':Data.seq vs.toArray _=Data.dict es ep:=d
     cases d'
  have A:∀{b:Addr} {m:Str->Qf},c.heap.Ns b m->(W0 c.heap f).Ns b m:=fun{b m} ⟨o,es,ep,e,d,r⟩=>⟨o,es,ep,g e<|noA e d,d,r⟩
  have hKb:K.In (W0 c.heap f):=fun b o e=>g (KX b o e) (by
   cases q:f b with
   |none=>rfl
   |some u =>
     have e':b=a:=hA b (by rw[q];simp);subst e';rw[hK<|by rw[q];simp]at e;cases e)
  have hM:Mod K R (W0 c.heap f):=⟨hKb,A Y,⟨mb,A l,hbb⟩,let ⟨mc,t,p⟩:=Z;⟨mc,A t,p⟩⟩
  let H:Hp:=upd (upd f i<|.tup [.str "start"]) j (.tup [.str "end"])
  have B:H i=some (.tup [.str "start"]):=by show upd _ _ _ i=_;rw[Qu<|Ne.symm nSE,QC]
  have C:H j=some (.tup [.str "end"]):=QC;have y:∀b,b≠i->b≠j->H b=f b:=fun b t p=>by show upd _ _ _ b=_;rw[Qu p,Qu t]
  have sm:Q3 f H:=fun b u e=>by
   rw[y b (fun z=>by rw[z,fS]at e;cases e) fun z=>by rw[z,fE]at e;cases e];exact e
  have l1:∀x:Str,[V.str x].length<=sizeLine:=fun _=>Ys (Vc Jw)
  have T:HOk P w H c.heap:=fun b u e=>by
   by_cases t:b=i
   .subst t
    rw[B]at e;cases e
    exact⟨l1 _,[.str "start" kS],.cons ⟨kS,rfl⟩ .nil,⟨_,J,rfl,_,rfl⟩⟩
   .by_cases p:b=j
    .subst p
     rw[C]at e;cases e
     exact⟨l1 _,[.str "end" kE],.cons ⟨kE,rfl⟩ .nil,⟨_,L,rfl,_,rfl⟩⟩
    .rw[y b t p]at e
     rcases hO b with z|⟨o,xs,z⟩
     .rw[z]at e;cases e
     .rw[z]at e
      cases e
      obtain⟨q1,q2⟩:=X b _ z
      exact⟨q1,q2⟩
  have e0:Env0 P w K R (W0 c.heap f) callerA [] c H:=⟨rfl,hM,fun b o e=>by
   obtain⟨e1,e2⟩:=Cp e;refine⟨e1,?_⟩
   by_cases t:b=i
   .exact .inr ⟨_,by rw[t];exact B⟩
   .by_cases p:b=j
    .exact .inr ⟨_,by rw[p];exact C⟩
    .exact .inl (by rw[y b t p];exact e2),Nat.le_of_eq<|EE _ _,trivial,fun b l=>Xm (show b∈([]:Qg) from l)<|by simp,T,.of_eq hg⟩
  refine codeAny_mono ((F _ hKb<|A Y).run callerA [] c H ⟨[.ref a],[]⟩ [.ref a] [.ref a] _ _ hr e0 (I c<|.ref a) (.cons rfl .nil) (hsp H (sm.seq hSq) B C)) fun r D h=>?_
  cases r with
  |error e=>exact False.elim h
  |ok fl =>
    cases fl with
    |next=>exact False.elim h
    |brk=>exact False.elim h
    |cont=>exact False.elim h
    |ret u =>
      obtain⟨v,H',os,bare,un,U,r',q⟩:=h;have q':v=.bl true:=q;subst q';obtain rfl:u=Value.bool true:=r';refine⟨rfl,OldK.of_keep fun b o e=>?_,os,bare⟩
      by_cases t:b=i
      .subst t
       exact un.tupo b _ o B e (by simp)
      .by_cases p:b=j
       .subst p
        exact un.tupo b _ o C e (by simp)
       .rcases hO b with z|⟨ob,xs,z⟩
        .exact un.keep b o e (by rw[y b t p];exact z) (by intro z;exact Xm (show b∈([]:Qg) from z)<|by simp) (by simp)
        .have G:=un.frzs b ob _ (by rw[y b t p];exact z)
         obtain⟨e1,_⟩:=X b _ z;obtain⟨e2,_⟩:=U b _ G;rw[e]at e1;cases e1;exact e2
 cases hk:K.lookup a with
 |some o =>
   have e:=KX a o hk;rw[M]at e;cases e;refine E (fun _=>none) (fun _=>.inl rfl) (.inr ⟨_,vs.toArray,_,hk,rfl,rfl,rfl,by rw[Xv,S];exact hl,by simpa using rv⟩) (fun b u z=>by have Q:(none:Option HO)=some u:=z;cases Q) (fun b z=>Xm rfl z) fun z=>Xm rfl z
 |none =>
   refine E (fun b=>if b=a then some (.frz { cls:=.type "list",data:=.seq vs.toArray }<|.lst<|ns.map V.int) else none) (fun b=>?_) (.inl<|.inr ⟨{ cls:=.type "list",data:=.seq vs.toArray },Xd rfl⟩) (fun b u z=>?_) (fun b z=>?_) fun _=>hk
   .by_cases l:b=a
    .exact .inr ⟨_,_,Xd l⟩
    .exact .inl (Xc l)
   .by_cases l:b=a
    .have Q:=(Xd l).symm.trans z
     cases Q
     subst l;exact⟨M,by rw[Xn];exact hl,vs,_,rv,M⟩
    .have Q:=(Xc l).symm.trans z
     cases Q
   .by_cases l:b=a
    .exact l
    .exact Xm (Xc l) z
def ZmC {l:W.OpenLaw}{k:Nat}{q:Program}{c:Qh}{U:(Str->Qf)->Heap->Prop}{z:World->Heap->Prop}{d:DefRec}{K:Params->W.Frag}{x:Str}
 (hn:l.most=some 63) (t:d.params.defaults=[]) (J:Room k callerA)
 (O:∀(w:World) (h:Heap),z w h->(K w.params).In h)
 (F:∀(w:World) (i:Str->Qf) (p:Addr) (h:Heap),(K w.params).In h->h.Ns mainGlobals i->i d.name=some (.ref p) ->
  (∃m n,W.nsIn (K w.params) mainGlobals "START"=some (some<|.ref m)/\W.nsIn (K w.params) mainGlobals "END"=some (some<|.ref n)/\KTup (K w.params) m "start" /\ KTup (K w.params) n "end") /\
  ∃v:FuncData,(∀(s:Shared) (u:Value),BindsTo s v ⟨[u],[]⟩ [(x,u)]) /\
   ∀base:Heap,(K w.params).In base->base.Ns mainGlobals i->FnOk l.prog w (K w.params) i base CX0 k p v [x] (B0<|K w.params)) :
 W.WalkO q c U z l.row.toRowW d [] (fun f vs=>PySem.call f vs):=by
 refine Att.attach_callW hn t fun w y b6 i Z p o X cd T a vs D G Y ho hd M r j e b g L=>?_
 have A:=O w _ Y;obtain⟨⟨m,n,I,E,C,B⟩,v,N,Q⟩:=F w i p _ A G.T.g r;exact Im A G.T.g G.T.b G.T.builtins G.T.nolimit L j e (X7 b<|by decide) J C B Q N (fun H P S R=>⟨a,D,rfl,.inr ⟨m,n,I,E,S,R⟩,⟨P,b,g⟩,fun _=>rfl⟩)
def HF {K:W.Frag} {ρ:Q9} {g:Addr} (a:W.nsIn K mainGlobals "START"=some (some<|.ref g)):Qs K (tC<|.ref g) ρ (QT [.inr "start"]):=fun j F d H Q S q=>by
 rcases S.kt with b|⟨h,i,b,f,c,e⟩<;>rw[b]at a<;>cases a
 exact q F H _ (Qy.refl S.sub) (.tup c<|.cons (.str _) .nil)
def RD {K:W.Frag} {ρ:Q9} {g g':Addr} (b:W.nsIn K mainGlobals "START"=some (some<|.ref g')) (a:W.nsIn K mainGlobals "END"=some (some<|.ref g)):Qs K (tC<|.ref g) ρ (QT [.inr "end"]):=fun k F f H Q S q=>by
 rcases S.kt with c|⟨i,j,c,e,h,d⟩
 .rw[c]at b;cases b
 .rw[e]at a
  cases a
  exact q F H _ (Qy.refl S.sub) (.tup d<|.cons (.str _) .nil)
def DR  (a:Room k A):A.units+6<cLine:=M8 (Nat.add_le_add_left (by decide:6<=64) _) a.units
def RA (e d:TE):TE:=fun c H Q=>∀p,H p=none->e c (upd H p<|.dT []) fun x f=>d c f fun y a=>∃k b,x=.ref b/\a p=some (.dT [])/\a b=some (.tup<|k.map kV)/\Q (.ref p) (upd a p<|.dT [(k,y)])
def E3   (hu:X.A.units+1<cLine)(J:PE X ke tk)(E:PE X ve tv):PE X (.Dict [some ke] [ve] pos) (RA tk tv):=by
 intro d s j H Q I q;have G:=I.hok.fresh (Xq s.heap.objs.size);have Y:=I.laid (a:=s.heap.objs.size) (o:=.dT []) (h':=s.heap.push { cls:=.type "dict",data:=.dict #[] }) (t':=s.toks) (fun _ _ q=>Xg _ q) (Xq _) (S5 s.heap I.big);refine wpAny_Dict_any rfl rfl (by simp) (by show(1:Nat)<=15;decide) (pairTrees_cons_walk<|Q7 (J d _ j _ _ Y<|q _ G) ?_);rintro C u ⟨x,Z,W,w,B⟩;refine Q7 (E d u j Z _ W B) ?_;rintro t s2 ⟨y,p,i,v,k,b,R,e,n,A⟩;refine pairTrees_nil_walk ?_;subst R;obtain rfl:C=Value.ref b:=w;obtain⟨z,L,r,f,U⟩:=Dj i.hok e;have D:r=[]:=by cases f;rfl
 subst D;unfold storeAll;rw[List.forIn_cons];refine Xa (Xa<|wpAny_dictSet_heap (hsz:=XM _) (knd:=tupleKind (ZI X.prog X.w)) (show X.A.units<cLine by omega) (Wi i.hok n) U fun h' h F=>Xk ?_);obtain⟨l,S,T,m,P,O,N,_,M⟩:=h;show wpAny _ _ (forIn [] PUnit.unit _) _ _ _;rw[List.forIn_nil];refine Xk ⟨.ref s.heap.objs.size,upd p s.heap.objs.size<|.dT [(k,y)],G2 (ob:=.dT [(k,y)]) i (by rw[e];exact True.intro) F ⟨l,m⟩ ⟨Ys<|Vc Jw,L,_,(show KT p [(k,y)] [(k,b,t)] from .cons ⟨rfl,n,v⟩ .nil).keeps fun c ys g=>?_,l,S,T,m,P,O,N,M⟩,rfl,A⟩;rw[Qu fun z=>by subst z;rw[e]at g;cases g];exact g
def E4 {K:W.Frag}{ρ:Q9}{m l:TE}{k:List Key}{d:PyData}(u:Qs K m ρ (QT k))(t:Qs K l ρ d):EvX K (RA m l) ρ (Vt [(k,d)]):=fun n F h H Q S q=>fun p e=>by
 have f:Qy F H F (upd H p<|.dT []):=Qy.own S.sub e;have A:F p=none:=S.sub.free e;refine u n F h _ _ (S.ext f) fun E D x j s=>t n E h D _ (S.ext<|f.trans j) fun o C y i r=>?_;obtain⟨b,rfl,v⟩:=Wm s;have X:=j.trans i;have g:C p=some (.dT []):=X.hh _ _ QC;have c:o p=none:=X.free A (by rw[QC];rintro⟨⟩);have B:=f.trans X;refine⟨k,b,rfl,g,X.fh _ _<|i.ff _ _ v,q o _ (.ref p) [p] (B.wr e c) (fun a w=>by cases Xi.mp w;exact e) ⟨p,_,rfl,rfl,c,QC,.cons r .nil⟩⟩
inductive LeavZ (F:Hp):List (List Key×V)->List (List Key×Ql)->Prop
 |nil:LeavZ F [] []
 |cons {k:List Key} {a:Addr} {ns:Ql} {zs:List V} {xs:List (List Key×V)} {ls:List (List Key×Ql)}:F a=some (.lst zs)->Qx F zs (ns.map PyData.int)->LeavZ F xs ls->LeavZ F ((k,.ref a)::xs) ((k,ns)::ls)
theorem LeavZ.mono {F a:Hp}(s:Q3 F a):∀{xs:List (List Key×V)} {ls:List (List Key×Ql)},LeavZ F xs ls->LeavZ a xs ls
 |_,_,.nil=>.nil
 |_,_,.cons h r t=>.cons (s _ _ h) (r.mono s) (t.mono s)
theorem LeavZ.val {F:Hp}(k:List Key):∀{xs:List (List Key×V)} {ls:List (List Key×Ql)},LeavZ F xs ls->(Zx xs k=none/\QO ls k=none)\/∃a ns zs,Zx xs k=some (.ref a)/\QO ls k=some ns/\F a=some (.lst zs)/\Qx F zs (ns.map PyData.int)
 |_,_,.nil=>.inl ⟨rfl,rfl⟩
 |_,_,.cons (k:=k') (a:=a) (ns:=ns) (zs:=zs) (xs:=xs) (ls:=ls) h r t=>by
   by_cases e:k'=k
   .exact .inr ⟨a,ns,zs,YB e,by simp[QO,Xx,e],h,r⟩
   .have q:QO ((k',ns)::ls) k=QO ls k:=by simp[QO,Xx,e]
    rw[YA (p:=(k',V.ref a)) e,q];exact t.val k
theorem LeavD.fz {F a H:Hp}(s:Q3 F a):∀{xs:List (List Key×V)} {ls:List (List Key×Ql)} {as:Qg},LeavD F H xs ls as->(∀b∈as,a b=H b)->LeavZ a xs ls
 |_,_,_,.nil,_=>.nil
 |_,_,_,.cons h t,c=>by
   obtain⟨g,xs,f,e⟩:=h;exact .cons (by rw[c _ Xb];exact f) (e.mono s) (t.fz s fun b d=>c b<|Xe _ d)
structure NetFz (P:Program)(w:World)(C:Addr)(N:Q8)(F:Hp)(a dx e r l d:Addr)(xs:List (List Key×V))(ys:List (KK×Addr×V)):Prop where
 ins:F a=some (.ins C dx [("ends",.ref e),("rooms",.ref r),("leaving",.ref l),("laid",.ref d)])
 ends:∃ex,F e=some (.lst ex)/\Qx F ex (N.ends.map QT)
 rooms:∃rx,F r=some (.lst rx)/\Qx F rx (N.rooms.map PyData.int)
 leav:F l=some (.dT xs)/\LeavZ F xs N.leav
 laid:F d=some (pdO P w d ys)/\LaidD F ys N.laid
def NetFz.mono     (s:Q3 F F')(h:NetFz P w C N F a dx e r l d xs ys):NetFz P w C N F' a dx e r l d xs ys:=by
 obtain⟨o,⟨p,n,m⟩,⟨b,k,j⟩,⟨i,g⟩,⟨f,c⟩⟩:=h
 exact⟨s _ _ o,⟨p,s _ _ n,m.mono s⟩,⟨b,s _ _ k,j.mono s⟩,⟨s _ _ i,g.mono s⟩,⟨s _ _ f,c.mono s⟩⟩
def ZU (P:Program)(w:World)(C:Addr)(N:Q8):ZP where
 ok K F v := ∃a f e r l d c b,v=.ref a/\NetFz P w C N F a f e r l d c b
 mono:=by
  rintro K F g v s ⟨a,f,e,r,l,d,c,b,rfl,h⟩
  exact⟨a,f,e,r,l,d,c,b,rfl,h.mono s⟩
def NetOk.fz     (h:NetOk P w C N F H a dx el r l d xs ys as)(s:Q3 F F')(c:∀b∈a::dx::el::r::l::d::as,F' b=H b) :
 NetFz P w C N F' a dx el r l d xs ys:=by
 obtain⟨y,⟨A,k⟩,⟨x,v⟩,⟨B,n,p,o⟩,⟨u,e,g,f⟩,⟨z,j,i⟩,⟨D,t,q⟩⟩:=h
 exact⟨by rw[c _<|by simp];exact k,⟨n,by rw[c _<|by simp];exact p,o.mono s⟩,⟨e,by rw[c _<|by simp];exact g,f.mono s⟩,⟨by rw[c _<|by simp];exact j,i.fz s fun b m=>c b<|by simp[m]⟩,⟨by rw[c _<|by simp];exact t,q.mono s⟩⟩
def Zd.fz {P:Program}{w:World}{C:Addr}{N:Q8}{K:W.Frag}{F c H:Hp}{v:V}{p:Qg}(h:(Zd P w C N).ok K F H v p)(s:Q3 F c)(i:∀b∈p,c b=H b):(ZU P w C N).ok K c v:=by
 obtain⟨a,j,e,r,l,d,g,f,k,rfl,rfl,o⟩:=h
 exact⟨a,j,e,r,l,d,g,f,rfl,o.fz s i⟩
def Jz (kvs:V2):ZP where
 ok K F v := ∃a b,v=.ref a/\F a=some (.dT b)/\PairD F b kvs
 mono:=by
  rintro K F e v s ⟨a,b,rfl,d,c⟩
  exact⟨a,b,rfl,s _ _ d,c.mono s⟩
def Vt.fz {kvs:V2}{K:W.Frag}{F c H:Hp}{v:V}{p:Qg}(h:(Vt kvs).ok K F H v p)(s:Q3 F c)(e:∀b∈p,c b=H b):(Jz kvs).ok K c v:=by
 obtain⟨a,d,rfl,rfl,i,g,f⟩:=h
 exact⟨a,d,rfl,by rw[e a Xb];exact g,f.mono s⟩
section
variable {K:W.Frag}{ρ:Q9}{D:PEnds}
def QA.freezeZ    (s:QA K H0 F ρ σ H)(e:ρ[i]?=some (some<|.own v Φ))
 (hz:∀{F q H:Hp} {u:V} {p:Qg},Φ.ok K F H u p->Q3 F q->(∀b∈p,q b=H b)->Ψ.ok K q u) :
 ∃p,(∀a∈p,F a=none/\H a≠none/\H0 a=none)/\QA K H0 (frF F H p) (ρ.set i<|some<|.zow Ψ) σ H:=by
 obtain⟨C,G,E,o,y,x,w⟩:=s;obtain⟨u,L,rfl,r⟩:=y i _ e;have m:=(Xh.mp e).1;have h:=fun a f=>Φ.there r a f;have l:Q3 F (frF F H<|o i):=YK fun a f=>(h a f).1;refine⟨o i,fun a f=>⟨(h a f).1,(h a f).2,(w i a f).1⟩,C.mono l,Je G,by simp[E],fun j=>if j=i then [] else o j,fun j B g=>?_,fun j k b d n=>?_,fun j b d=>?_⟩
 .by_cases c:j=i
  .subst c
   rw[Xl m]at g;cases g;refine⟨_,L,?_,hz r l fun b d=>Y4 d⟩;dsimp only;rw[Xd rfl]
  .rw[Xs<|Ne.symm c]at g
   obtain⟨A,J,I⟩:=y j B g;refine⟨A,J,?_⟩;dsimp only;rw[Xc c];exact I.frOther l fun a f z=>c (x j i a f z)
 .by_cases c:j=i
  .simp[c]at d
  .by_cases t:k=i
   .simp[t]at n
   .simp only[Xc c]at d
    simp only[Xc t]at n;exact x j k b d n
 .by_cases c:j=i
  .simp[c]at d
  .simp only[Xc c]at d
   exact w j b d
def Rw (i:Nat)  (e:ρ[i]?=some (some<|.own v Φ))(hz:∀{F d H:Hp} {u:V} {p:Qg},Φ.ok K F H u p->Q3 F d->(∀b∈p,d b=H b)->Ψ.ok K d u)
 (h:Q0 K t (ρ.set i<|some<|.zow Ψ) D):Q0 K t ρ D:=fun l k F j H E x S C=>by
 obtain⟨p,f,g⟩:=S.freezeZ e hz;refine h l k _ j H E ⟨x.hh,x.ff.trans<|YK fun a c=>(f a c).1,g.sub,fun a c=>?_⟩ g C
 by_cases z:a∈p
 .exact .inr (f a z).2.2
 .rw[Yo z]at c;exact x.fr a c
def Ad    (i:Nat)(e:ρ[i]?=some (some<|.own v<|Zd P w C N))(h:Q0 K t (ρ.set i<|some<|.zow<|ZU P w C N) D):Q0 K t ρ D:=Rw i e (fun a b c=>Zd.fz a b c) h
def SZ  (i:Nat)(e:ρ[i]?=some (some<|.own v<|Vt kvs))(h:Q0 K t (ρ.set i<|some<|.zow<|Jz kvs) D):Q0 K t ρ D:=Rw i e (fun a b c=>Vt.fz a b c) h
def Zm (K:W.Frag)(t:TE)(ρ:Q9)(Φ:OT->Prop):Prop := ∀(e F:Hp) (c:St) (H:Hp) (Q:VK),QA K e F ρ c H->(∀d b v p r,Φ r->Qy F H d b->(∀a∈p,H a=none)->Zp K d b v r p->Q v b)->t c H Q
def EvO.d  (h:EvO K t ρ r)(c:Φ r):Zm K t ρ Φ:=fun e F a H Q S q=>h e F a H Q S fun g f v p x d b=>q g f v p r c x d b
def Zm.o  (h:Zm K t ρ (fun a=>a=r)):EvO K t ρ r:=fun f F b H Q S q=>h f F b H Q S fun i g v p a e x d c=>by subst e;exact q i g v p x d c
def EvX.d  (h:EvX K t ρ Φ0)(c:∀v,Φ<|.own v Φ0):Zm K t ρ Φ:=fun e F a H Q S q=>h e F a H Q S fun g f v p x d b=>q g f v p (.own v Φ0) (c v) x d ⟨rfl,b⟩
def Wq  (h:Zm K te ρ Φ)(hn:∀r,Φ r->D.nx (ρ.set i<|some r)):Q0 K (Vp te<|Vd i) ρ D:=fun M A F g H E x S C =>
 h A F g H _ S fun G B v p r m b e l=>by
  refine C.nx G _ B _ (x.trans b) ((S.ext b).set l (fun a d=>x.hh.free<|e a d) (hn:=fun a d j w k q z y c=>?_)) (hn r m);obtain⟨L,s,J,o⟩:=S.fp;obtain⟨I,f,u⟩:=s j k z;intro n;have t:=u.ext b;rw[y]at f;cases f
  exact(o j a<|GF (K:=K) t c a n).2 (e a d)
def DV  (h:Zm K te ρ Φ)(f:∀r,Φ r->D.rt r):Q0 K (Y0 te) ρ D:=fun m j F b H E x S C =>
 h j F b H _ S fun l k v p r e c g d=>C.rt l k v r p (x.trans c) (fun a i=>x.hh.free<|g a i) d (f r e)
def RL  (e:ρ[i]?=some (some<|.own v Φ))(b:D.rt (.own v Φ)):Q0 K (Y0<|QB i) ρ D:=fun m l F k H E x S C=>by
 obtain⟨f,h,_,d⟩:=S.fp;obtain⟨u,j,g⟩:=h i _ e
 exact⟨_,j,C.rt F H u (.own v Φ) (f i) x (fun a c=>(d i a c).1) g b⟩
def WP (r:OT):Prop := ∀(K:W.Frag) (F b H:Hp) (v:V) (p:Qg),(∀a∈p,b a=none)->Zp K F H v r p->Zp K b H v r p
def Rep.thin  (r:Rep F v d)(h:Vk d=some w):Rep F' v d:=by
 cases r<;>simp[Vk]at h
 .exact .non
 .exact .bl _
 .exact .int _
 .exact .str _
def U7  (h:Vk d=some w):WP (.fz d):=fun K F b H v p _ a=>⟨a.1,a.2.thin h⟩
def Cs (h:Br ds):WP (.ol ds):=fun K F i H v p d c=>by
 obtain⟨a,rfl,rfl,g,b,f,e⟩:=c
 exact⟨a,rfl,rfl,d a Xb,b,f,e.flats h⟩
def DD (kvs:V2):Prop := ∀x∈kvs,∃w,Vk x.2=some w
theorem PairD.flats {F b:Hp}:∀{xs:List (List Key×V)} {kvs:V2},DD kvs->PairD F xs kvs->PairD b xs kvs
 |_,_,_,.nil=>.nil
 |_,_,h,.cons r t=>by
   obtain⟨w,e⟩:=h _ Xb;exact .cons (r.thin e) (t.flats fun x a=>h x<|Xe _ a)
def Ai  (h:DD kvs):WP (.own v<|Vt kvs):=fun K F j H u p d c=>by
 obtain⟨e,a,b,rfl,rfl,i,g,f⟩:=c
 exact⟨e,a,b,rfl,rfl,d a Xb,g,f.flats h⟩
def SG   (i:Nat)(e:ρ[i]?=some (some<|.own v Φ0))(hz:∀{F c H:Hp} {u:V} {p:Qg},Φ0.ok K F H u p->Q3 F c->(∀b∈p,c b=H b)->Ψ.ok K c u)
 (o:∀r,Φ r->WP r) (h:Zm K t (ρ.set i<|some<|.zow Ψ) Φ):Zm K t ρ Φ:=fun w F n H Q S q=>by
 obtain⟨p,l,s⟩:=S.freezeZ e hz;refine h w _ n H Q s fun c m u g r k x f j=>?_;refine q _ m u g r k (UA (fun a d=>⟨(l a d).1,(l a d).2.1⟩) x) f (o r k K c _ m u g (fun a d=>?_) j)
 by_cases z:a∈p
 .show(if a∈p then none else c a)=none
  rw[Xd z]
 .show(if a∈p then none else c a)=none
  rw[Xc z];exact(j.there a d).1
def Kk    (i:Nat)(e:ρ[i]?=some (some<|.own v<|Zd P w C N))(d:∀r,Φ r->WP r)(h:Zm K t (ρ.set i<|some<|.zow<|ZU P w C N) Φ):Zm K t ρ Φ :=
 SG i e (fun a b c=>Zd.fz a b c) d h
def IX     (i:Nat)(e:ρ[i]?=some (some<|.own v<|Zd P w C N))(b:Vk d=some u)(h:Qs K t (ρ.set i<|some<|.zow<|ZU P w C N) d):Qs K t ρ d :=
 EvO.e (Zm.o<|Kk (Φ:=fun r=>r=.fz d) i e (fun r a=>by subst a;exact U7 b)<|h.o.d rfl)
section
variable {tb ty:TE}{i:Nat}{P:Program}{w:World}{C:Addr}{N:Q8}{k:List Key}
def QA.netz  (S:QA K H0 F ρ σ H)(e:ρ[i]?=some (some<|.zow<|ZU P w C N)):∃a b el r l d xs ys,σ[i]?=some (some<|.ref a)/\NetFz P w C N F a b el r l d xs ys:=by
 obtain⟨g,h,_⟩:=S.fp;obtain⟨v,f,_,a,b,el,r,l,d,xs,ys,rfl,c⟩:=h i _ e
 exact⟨a,b,el,r,l,d,xs,ys,f,c⟩
def HN (c:NetC K C) (e:ρ[i]?=some (some<|.zow<|ZU P w C N)) {k m:Int} (u:Qs K tb ρ (.int k)) (t:atI (N.rooms.map PyData.int) k=some (.int m)):Qs K (tOp (rIx K) (ZT K (QB i) "rooms") tb) ρ (.int m):=fun B F g H Q S q=>by
 obtain⟨a,x,J,r,l,d,I,G,v,f⟩:=S.netz e;refine⟨_,v,a,C,x,_,.ref r,rfl,S.sub _ _ f.ins,c.cl,c.rooms,rfl,u B F g H _ S fun E A y b s=>?_⟩
 cases s
 obtain⟨n,p,o⟩:=f.rooms;obtain⟨z,j,h⟩:=U2 (o.mono b.ff) t;exact .inl ⟨r,n,k,z,rfl,rfl,SqL.of<|b.fh _ _<|b.ff _ _ p,j,q E A z b h⟩
def RN (c:NetC K C) (e:ρ[i]?=some (some<|.zow<|ZU P w C N)) {k:Int} {n:PyData} (v:Qs K tb ρ (.int k)) (u:atI (N.ends.map QT) k=some n):Qs K (tOp (rIx K) (ZT K (QB i) "ends") tb) ρ n:=fun E F h H Q S q=>by
 obtain⟨a,A,g,r,l,d,J,I,x,f⟩:=S.netz e;refine⟨_,x,a,C,A,_,.ref g,rfl,S.sub _ _ f.ins,c.cl,c.ends,rfl,v E F h H _ S fun G B y b t=>?_⟩
 cases t
 obtain⟨o,s,p⟩:=f.ends;obtain⟨z,m,j⟩:=U2 (p.mono b.ff) u;exact .inl ⟨g,o,k,z,rfl,rfl,SqL.of<|b.fh _ _<|b.ff _ _ s,m,q G B z b j⟩
def CM (c:NetC K C) (e:ρ[i]?=some (some<|.zow<|ZU P w C N)) (B:Qs K ty ρ (QT k)):Qs K (Rg (ZT K (QB i) "leaving") ty<|J4 QQ) ρ (.list<|((QO N.leav k).getD []).map PyData.int):=fun O F u H Q S q=>by
 obtain⟨a,J,X,r,l,d,n,T,I,g⟩:=S.netz e;refine⟨_,I,a,C,J,_,.ref l,rfl,S.sub _ _ g.ins,c.cl,c.leav,rfl,l,rfl,.inr ⟨n,Rd.of<|S.sub _ _ g.leav.1⟩,B O F u H _ S fun t h y s z=>⟨XM _,fun p E=>?_⟩⟩;obtain⟨b,rfl,G⟩:=Wm z;have M:=S.ext s;have o:Qy t h (upd t p<|.lst []) (upd h p<|.lst []):=Qy.new M.sub E;have f:=s.trans o;have A:upd h p (.lst []) l=some (.dT n):=f.fh _ _ (f.ff _ _ g.leav.1);have L:upd h p (.lst []) b=some (.tup<|k.map kV):=o.fh _ _ (o.ff _ _ G);refine⟨Zx n k,Vw.t A L,?_⟩
 rcases g.leav.2.val k with ⟨m,j⟩|⟨Y,U,R,m,j,x,v⟩
 .rw[m]
  exact q _ _ _ f (by rw[j];exact .lst QC .nil)
 .rw[m]
  exact q _ _ _ f (by rw[j];exact .lst (f.ff _ _ x)<|v.mono f.ff)
def AB (c:NetC K C) (e:ρ[i]?=some (some<|.zow<|ZU P w C N))  (s:Qs K ty ρ (.tuple [QT k1,QT k2])) (hn:ZK N.laid (k1,k2)=some n):Qs K (NC P w (ZT K (QB i) "laid") ty) ρ (.int n):=fun B F m H Q S q=>by
 obtain⟨a,x,I,r,l,d,G,o,v,g⟩:=S.netz e;refine⟨_,v,a,C,x,_,.ref d,rfl,S.sub _ _ g.ins,c.cl,c.laid,rfl,s B F m H _ S fun E A y f p=>?_⟩;obtain⟨b,rfl,t⟩:=HG p;have j:=S.ext f;have h:=g.laid.2.mono f.ff
 exact⟨d,b,o,(k1,k2),.int n,rfl,rfl,f.fh _ _<|f.ff _ _ g.laid.1,h.at j.sub,t.mono fun J z u=>j.sub _ _ u,by rw[h.val,hn];rfl,q E A _ f<|.int n⟩
def Ej (c:NetC K C) (p:Qs K ty ρ (.tuple [QT k1,QT k2])) (e:ρ[i]?=some (some<|.zow<|ZU P w C N)):Qs K (Sl P w ty<|ZT K (QB i) "laid") ρ (.bool<|!(ZK N.laid (k1,k2)).isSome):=fun A F m H Q S q =>
 p A F m H _ S fun B x y h o=>by
  have f:=S.ext h;obtain⟨a,v,G,r,l,d,E,n,u,g⟩:=f.netz e;obtain⟨b,rfl,s⟩:=HG o;have j:=g.laid.2;refine⟨_,u,a,C,v,_,.ref d,rfl,f.sub _ _ g.ins,c.cl,c.laid,rfl,d,b,n,(k1,k2),rfl,rfl,f.sub _ _ g.laid.1,j.at f.sub,s.mono fun I z t=>f.sub _ _ t,q B x _ h ?_⟩;rw[j.val,Js];exact .bl _
def QA.dctz  (S:QA K H0 F ρ σ H)(e:ρ[i]?=some (some<|.zow<|Jz kvs)):∃a xs,σ[i]?=some (some<|.ref a)/\F a=some (.dT xs)/\PairD F xs kvs:=by
 obtain⟨f,h,_⟩:=S.fp;obtain⟨v,d,_,a,xs,rfl,c,b⟩:=h i _ e
 exact⟨a,xs,d,c,b⟩
def RY  (e:ρ[i]?=some (some<|.zow<|Jz kvs))(r:Qs K ty ρ (QT k))(h:VO kvs k=some d):Qs K (N4 (QB i) ty) ρ d:=fun A F l H Q S q=>by
 obtain⟨a,E,j,_⟩:=S.dctz e;refine⟨_,j,r A F l H _ S fun B v y f p=>?_⟩;obtain⟨I,o,c,u,t⟩:=(S.ext f).dctz e;rw[j]at c;cases c;obtain⟨b,rfl,s⟩:=Wm p
 rcases t.val k with ⟨_,z⟩|⟨x,G,n,g,m⟩
 .rw[h]at z;cases z
 .rw[h]at g
  cases g
  exact⟨a,x,rfl,n▸Vw.t (f.fh _ _ u) (f.fh _ _ s),q B v x f m⟩
def L8 (g:Qs K ty ρ (QT k))(e:ρ[i]?=some (some<|.zow<|Jz kvs)):Qs K (GU ty<|QB i) ρ (.bool (VO kvs k).isSome):=fun o F d H Q S q =>
 g o F d H _ S fun p n y c f=>by
  obtain⟨a,r,m,l,j⟩:=(S.ext c).dctz e;obtain⟨b,rfl,h⟩:=Wm f
  exact⟨_,m,a,_,rfl,Vw.t (c.fh _ _ l)<|c.fh _ _ h,q p n _ c<|by rw[Kp j];exact .bl _⟩
end
end
def QY (K:W.Frag)(R:List OT->(OT->Prop)->Prop):Sp:=fun f H Q _=>∃F d c,KTs K F/\Q3 F H/\Args K F f d/\R d c/\∀e b v p r,c r->Qy F H e b->(∀a∈p,H a=none)->Zp K e b v r p->Q v b
def GX (K:W.Frag)(t:TA)(ρ:Q9)(Φ:List OT->Prop):Prop := ∀(f F:Hp) (a:St) (H:Hp) (Q:List V->Hp->Prop),QA K f F ρ a H->(∀e d b c,Φ c->Qy F H e d->Args K e b c->Q b d)->t a H Q
section
variable {K:W.Frag}{ρ:Q9}{D:PEnds}
def Yq   (h:Zz K t ρ ts)(k:R ts Φ):Zm K (VH (QY K R) [] E t) ρ Φ:=fun m F c H Q S q =>
 h m F c H _ S fun o u s b e=>⟨o,ts,Φ,(S.ext b).kt,b.fh,by rw[XF];exact e,k,fun n l v p r g d i f=>q n l v p r g (b.trans d) (fun a j=>b.hh.free<|i a j) f⟩
def W9  (h:Zz K t ρ ts)(c:Φ ts):GX K t ρ Φ:=fun d F a H Q S q=>h d F a H Q S fun f e b x r=>q f e b ts c x r
def Ll  (h:Zm K ta ρ Φ)(l:∀r,Φ r->∃ds,r=.ol ds/\Φ' [.fz<|.list ds]):GX K (QE ta QQ) ρ Φ':=fun n F d H Q S q =>
 h n F d H _ S fun o m v p r j x k i=>by
  obtain⟨ds,rfl,b⟩:=l r j;obtain⟨a,rfl,rfl,c,e,g,f⟩:=i;exact q (upd o a<|.lst e) m [.ref a] _ b (x.freeze c g<|k a Xb) (.fz (.lst QC<|f.mono<|Q3.new c) .nil)
section
variable {P:Program}{w:World}{C:Addr}{N:Q8}{i:Nat}{m:Str}
def NoF (m:Str):Prop := ∀e r l d:Addr,([("ends",V.ref e),("rooms",V.ref r),("leaving",V.ref l),("laid",V.ref d)]:List (Str×V)).lookup m=none
def Hv   (A:NoF m)(e:ρ[i]?=some (some<|.zow<|ZU P w C N))(h:Zz K t ρ ts)(G:R (.zow (ZU P w C N)::ts) Φ) :
 Zm K (Vr C m (QY K R) [] E (QB i) t) ρ Φ:=fun M F k H Q S q=>by
 obtain⟨a,j,I,r,l,d,o,n,J,g⟩:=S.netz e;refine⟨_,J,a,j,_,rfl,S.sub _ _ g.ins,A _ _ _ _,h M F k H _ S fun T X U c u=>?_⟩;refine⟨T,_,Φ,(S.ext c).kt,c.fh,.zow (Ψ:=ZU P w C N) ⟨a,j,I,r,l,d,o,n,rfl,g.mono c.ff⟩<|by rw[XF];exact u,G,fun O L v p x y s z f=>q O L v p x y (c.trans s) (fun b B=>c.hh.free<|z b B) f⟩
def Aq    (hm:NoF m)(h1:Zm K ta ρ Φ1)(hz:∀r,Φ1 r->∃v N,r=.own v (Zd P w C N)/\∃c,R (.zow (ZU P w C N)::ts) c/\∀r,c r->Φ r)
 (h:Zz K t ρ ts):Zm K (Vr C m (QY K R) [] E ta t) ρ Φ:=fun L F B H Q S q =>
 h1 L F B H _ S fun A n v p r Z j hp k=>by
  obtain⟨v0,N,rfl,c,hR,hi⟩:=hz r Z;obtain⟨rfl,k⟩:=k;have U:=fun a f=>(Zd P w C N).there k a f;have G:Q3 A (frF A n p):=YK fun a f=>(U a f).1
  have e:Qy F H (frF A n p) n:=⟨j.hh,j.ff.trans G,Je j.fh,fun a f=>by
   by_cases z:a∈p
   .exact .inr (hp a z)
   .rw[Yo z]at f;exact j.fr a f⟩
  obtain⟨a,J,el,r,l,d,O,M,as,rfl,rfl,o⟩:=k;refine⟨a,J,_,rfl,o.ins.2,hm _ _ _ _,h L _ B n _ (S.ext e) fun F2 H2 vs g X=>?_⟩;have z:=o.fz G (fun b y=>Y4 y)
  exact⟨F2,_,c,(S.ext<|e.trans g).kt,g.fh,.zow (Ψ:=ZU P w C N) ⟨a,J,el,r,l,d,O,M,rfl,z.mono g.ff⟩<|by rw[XF];exact X,hR,fun F3 H3 v Y I u T x s=>q F3 H3 v Y I (hi I u) ((e.trans g).trans T) (fun b y=>(e.trans g).hh.free (x b y)) s⟩
structure ExtN (p:Qg)(F H F' H':Hp):Prop where
 hh:∀b o,b∉p->H b=some o->H' b=some o
 ff:Q3 F F'
 fh:Q3 F' H'
 fr:∀b,F' b≠none->F b≠none\/H b=none\/b∈p
def spN (K:W.Frag)(P:Program)(w:World)(C:Addr)(R:Q8->List OT->(Q8->Prop)->Prop):Sp:=fun k H Q _=>∃F a c p f N e,k=.ref a::c/\KTs K F/\Q3 F H/\Args K F c f/\(Zd P w C N).ok K F H (.ref a) p/\R N f e /\
 ∀j d g h,e h->ExtN p F H j d->(Zd P w C h).ok K j d (.ref a) g->(∀b∈g,b∈p\/H b=none)->Q .non d
theorem Zy.move {F e H j:Hp}(s:Q3 F e):∀{as:Qg} {c:List (Qd)},(∀a∈as,e a=none)->(∀a∈as,j a=H a)->Zy F H as c->Zy e j as c
 |[],[],_,_,_=>trivial
 |a::as,_::_,g,f,o=>by
   obtain⟨⟨q,k,p,n⟩,l⟩:=o
   exact⟨⟨g a Xb,k,by rw[f a Xb];exact p,n.mono s⟩,Zy.move s (fun b d=>g b<|Xe _ d) (fun b d=>f b<|Xe _ d) l⟩
 |[],_::_,_,_,h=>False.elim h
 |_::_,[],_,_,h=>False.elim h
def Zp.move   (s:Q3 F F')(f:∀a∈p,F' a=none)(e:∀a∈p,H' a=H a)(h:Zp K F H v t p):Zp K F' H' v t p:=by
 cases t with
 |fz d=>exact⟨h.1,h.2.mono s⟩
 |zow l=>exact⟨h.1,l.mono s h.2⟩
 |ol z =>
   obtain⟨a,rfl,rfl,j,o,g,c⟩:=h
   exact⟨a,rfl,rfl,f a Xb,o,by rw[e a Xb];exact g,c.mono s⟩
 |oll r =>
   obtain⟨a,u,rfl,rfl,j,g,c,q⟩:=h
   exact⟨a,u,rfl,rfl,j,f a Xb,by rw[e a Xb];exact c,q.move s (fun b k=>f b<|Xe _ k) fun b k=>e b<|Xe _ k⟩
 |scr y=>obtain⟨j,a,g,c⟩:=h;exact⟨j,a,g,c.mono s⟩
 |own x n=>exact⟨h.1,n.mono s f e h.2⟩
def SC {F0 H0 F H:Hp}{L:St}{E:Ends}{v:V}{Ψ:Q8->Prop}(S:QA K H0 F ρ L H)(x:Qy F0 H0 F H)(e:ρ[i]?=some (some<|.own v<|Zd P w C N))(hn:∀h,Ψ h->D.nx (ρ.set i<|some<|.own v<|Zd P w C h))(C':Cnv K F0 H0 D E) :
 ∃a p,v=.ref a/\(Zd P w C N).ok K F H (.ref a) p/\∀B q G h,Ψ h->ExtN p F H B q->(Zd P w C h).ok K B q (.ref a) G->(∀b∈G,b∈p\/H b=none)->E.nx L q:=by
 obtain⟨Z,h1,h2,A,T,I,g⟩:=S;obtain⟨u,e1,rfl,O⟩:=T i _ e;obtain⟨a,_,_,_,_,_,_,_,_,rfl,_⟩:=id O;have M:=(Xh.mp e).1;refine⟨a,A i,rfl,O,fun B q G h hN f s l=>?_⟩;have r:∀j,j≠i->∀b∈A j,b∉A i:=fun j d b c z=>d (I j i b c z)
 have R:∀j,j≠i->∀b∈A j,q b=H b:=fun j d b c=>by
  obtain⟨o,Q⟩:=Uz (g j b c).2;rw[f.hh b o (r j d b c) Q,Q]
 refine C'.nx B L q _ ⟨fun b o c=>f.hh b o (fun z=>by rw[(g i b z).1]at c;cases c)<|x.hh b o c,x.ff.trans f.ff,f.fh,fun b c=>?_⟩ ⟨Z.mono f.ff,f.fh,by simp[h2],fun j=>if j=i then G else A j,fun j Y J=>?_,fun j k b c n=>?_,fun j b c=>?_⟩ (hn h hN)
 .rcases f.fr b c with z|z|z
  .exact x.fr b z
  .exact .inr (x.hh.free z)
  .exact .inr (g i b z).1
 .by_cases d:j=i
  .subst d
   rw[Xl M]at J;cases J;refine⟨_,e1,rfl,?_⟩;simp only[if_true];exact s
  .rw[Xs<|Ne.symm d]at J
   obtain⟨X,f1,U⟩:=T j Y J;refine⟨X,f1,?_⟩;simp only[Xc d];refine U.move f.ff (fun b c=>?_) (R j d)
   cases z:B b with
   |none=>rfl
   |some o =>
     rcases f.fr b (Z6 z) with y|y|y
     .exact Xm (U.there b c).1 y
     .exact Xm y (g j b c).2
     .exact Xm y (r j d b c)
 .by_cases d:j=i
  .by_cases t:k=i
   .omega
   .simp only[Xd d]at c
    simp only[Xc t]at n;rcases l b c with z|z
    .exact Xm (I k i b n z) t
    .exact Xm z (g k b n).2
  .simp only[Xc d]at c
   by_cases t:k=i
   .simp only[Xd t]at n
    rcases l b n with z|z
    .exact Xm (I j i b c z) d
    .exact Xm z (g j b c).2
   .simp only[Xc t]at n
    exact I j k b c n
 .by_cases d:j=i
  .simp only[Xd d]at c
   refine⟨?_,((Zd P w C h).there s b c).2⟩
   rcases l b c with z|z
   .exact(g i b z).1
   .exact x.hh.free z
  .simp only[Xc d]at c
   exact⟨(g j b c).1,by rw[R j d b c];exact(g j b c).2⟩
def Ji   (u:NoF m)(e:ρ[i]?=some (some<|.own v<|Zd P w C N))(z:GX K t ρ ΦA)
 (y:∀ts,ΦA ts->∃Ψ,R N ts Ψ/\∀h,Ψ h->D.nx (ρ.set i<|some<|.own v<|Zd P w C h)):Q0 K (Vq<|Vr C m (spN K P w C R) [] E' (QB i) t) ρ D:=fun Y I F j H E x S L=>by
 obtain⟨a,G,Q,r,l,d,O,M,T,rfl,B,o,_⟩:=S.net e;refine⟨_,B,a,G,_,rfl,o.ins.2,u _ _ _ _,z I F j H _ S fun J X k ts q b n=>?_⟩;obtain⟨Ψ,f,s⟩:=y ts q;obtain⟨U,p,A,c,g⟩:=SC (S.ext b) (x.trans b) e s L
 cases A
 exact⟨J,a,k++[],p,ts,N,Ψ,rfl,(S.ext b).kt,b.fh,by rw[XF];exact n,c,f,g⟩
def S8   (e:ρ[i]?=some (some<|.own v<|Zd P w C N))(u:GX K t ρ ΦA)
 (s:∀ts,ΦA ts->∃Ψ,R N ts Ψ/\∀h,Ψ h->D.nx (ρ.set i<|some<|.own v<|Zd P w C h)):Q0 K (Vq<|VH (spN K P w C R) [] E'<|QE (QB i) t) ρ D:=fun X A F j H E x S G=>by
 obtain⟨a,O,M,r,l,d,J,I,Q,rfl,z,L,_⟩:=S.net e;refine⟨_,z,u A F j H _ S fun B U k ts o b n=>?_⟩;obtain⟨Ψ,f,q⟩:=s ts o;obtain⟨T,p,y,c,g⟩:=SC (S.ext b) (x.trans b) e q G
 cases y
 exact⟨B,a,k++[],p,ts,N,Ψ,rfl,(S.ext b).kt,b.fh,by rw[XF];exact n,c,f,g⟩
def spI (P:Program)(w:World)(C:Addr):Sp:=fun f H Q _=>∃x c,f=[.ref x]/\H x=some (.ins C c [])/\∀e r l d a,H e=none->H r=none->H l=none->H d=none->[x,e,r,l,d].Nodup ->
 a x=some (.ins C c [("ends",.ref e),("rooms",.ref r),("leaving",.ref l),("laid",.ref d)])->a e=some (.lst [])->a r=some (.lst [])->a l=some (.dT [])->a d=some (pdO P w d [])->(∀b,b∉[x,e,r,l,d]->a b=H b)->Q .non a
def Fm:EvX K (Uh C (spI P w C) [] E QQ) ρ (Zd P w C ⟨[],[],[],[]⟩):=fun H0 F σ H Q S q=>fun x f s j u=>by
 refine⟨x,f,rfl,QC,fun e r l d B Z X Y hd I h1 h2 h3 h4 h5 R=>⟨rfl,?_⟩⟩
 have p:∀{b:Addr},upd (upd H f<|.own x) x (.ins C f []) b=none->H b=none/\b≠x/\b≠f:=fun{b} a=>by
  have L:b≠x:=fun z=>by rw[z,QC]at a;cases a
  rw[Qu L]at a;have J:b≠f:=fun z=>by rw[z,QC]at a;cases a
  rw[Qu J]at a;exact⟨a,L,J⟩
 obtain⟨y,e2,T⟩:=p Z;obtain⟨t,r2,G⟩:=p X;obtain⟨v,l2,M⟩:=p Y;obtain⟨A,d2,U⟩:=p hd
 have n:B f=some (.own x):=by
  rw[R f<|by simp only[Xf,XO,or_false,not_or];exact⟨u,Ne.symm T,Ne.symm G,Ne.symm M,Ne.symm U⟩,Qu u,QC]
 have O:∀b o,H b=some o->B b=some o:=fun b o a=>by
  have g:∀{c:Addr},H c=none->b≠c:=fun hc z=>by rw[z,hc]at a;cases a
  rw[R b<|by simp only[Xf,XO,or_false,not_or];exact⟨g s,g y,g t,g v,g A⟩,Qu<|g s,Qu<|g j];exact a
 have k:∀{b:Addr},H b=none->F b=none:=fun a=>S.sub.free a;refine q F B (.ref x) [x,f,e,r,l,d] ⟨O,Q3.refl _,fun b o a=>O b o<|S.sub b o a,fun _ h=>.inl h⟩ (fun b a=>?_) ⟨x,f,e,r,l,d,[],[],[],rfl,rfl,?_,⟨k s,h1⟩,⟨k j,n⟩,⟨k y,[],h2,.nil⟩,⟨k t,[],h3,.nil⟩,⟨k v,h4,.nil⟩,⟨k A,h5,.nil⟩⟩
 .simp only[Xf,XO,or_false]at a
  rcases a with rfl|rfl|rfl|rfl|rfl|rfl
  .exact s
  .exact j
  .exact y
  .exact t
  .exact v
  .exact A
 .simp only[XD,Xf,XO,or_false,not_or,not_false_eq_true,Ju,and_true]at I ⊢
  obtain⟨⟨a1,a2,a3,a4⟩,b1,c1,f1⟩:=I
  exact⟨⟨Ne.symm u,a1,a2,a3,a4⟩,⟨Ne.symm T,Ne.symm G,Ne.symm M,Ne.symm U⟩,b1,c1,f1⟩
end
end
section
variable {P:Program}{w:World}{K:W.Frag}{mg:Str->Qf}{base:Heap}
def Fun.evD {x c:Str}{st:Stmt}{f:Addr}{I:FuncData}{N ps:Qh}{k:Nat}{R:List OT->(OT->Prop)->Prop}(F:Fun K x c st f I)(S:Qp N ps (Q2 st))(o:∀ts Φ,R ts Φ->ts.length=ps.length)
 (y:∀(d:Value) (A:Around) (b:List Env) (s:Shared) (H:Hp) (E:XK) (ts:List OT) (Φ:OT->Prop),Room k (A.deeper<|envOfC c (Q2 st) s.heap.objs.size f d)->R ts Φ ->
  ∃t,PSs (Vo CX0 P w K mg base N c (Q2 st) f d A b s H E).nox (Z7 st) t/\Q0 K t (ts.map some++List.replicate (N.length-ts.length) none) { nx:=fun _=>Φ<|.fz .none,rt:=Φ }):FnOk P w K mg base CX0 (k+1) f I ps (QY K R):=by
 refine F.ok S (by rintro n H Q E ⟨F,ts,Φ,_,_,l,u,_⟩;exact l.length.trans<|o ts Φ u) ?_;rintro d A b s H n Q E U ⟨F,ts,Φ,T,G,l,u,q⟩;obtain⟨t,Z,Y⟩:=y d A b s H E ts Φ U u;refine⟨t,Z,Y F H F (start N n) H _ (Qy.refl G) ⟨T,G,?_,fun _=>[],fun i D e=>?_,fun i j a h=>(nomatch h),fun i a h=>(nomatch h)⟩ ⟨fun C J B L m _ e=>?_,fun C B v M p m X O e=>q C B v p M e m X O,fun _ _ _ _ _ _ z=>False.elim z,fun _ _ _ _ _ _ z=>False.elim z⟩⟩
 .unfold start
  simp[l.length]
 .have g:i<ts.length:=by
   by_cases z:i<ts.length
   .exact z
   .rw[X0<|by simpa using z]at e
    have:=List.mem_of_getElem? e
    simp at this
  rw[XG<|by simpa using g,Xt]at e;have e':ts[i]?=some D:=by
   cases z:ts[i]? with
   |none=>rw[z]at e;simp at e
   |some w=>rw[z]at e;simp at e;rw[e]
  obtain⟨v,e1,e2⟩:=l.get (H:=H) i D e';refine⟨v,?_,e2⟩;unfold start;have r:i<n.length:=by rw[l.length];exact g
  rw[XG<|by simpa using r,Xt,e1];rfl
 .exact q C B _ [] _ e m (by rintro _ ⟨⟩) ⟨rfl,.non⟩
def Fun.evN {C:Addr}{x g:Str}{st:Stmt}{f:Addr}{fd:FuncData}{N ps:Qh}{k:Nat}{R:Q8->List OT->(Q8->Prop)->Prop}(F:Fun K x g st f fd)(S:Qp N ps (Q2 st))(L:∀M ts Ψ,R M ts Ψ->ts.length+1=ps.length)
 (U:∀(l:Value) (A:Around) (d:List Env) (s:Shared) (H:Hp) (E:XK) (v:V) (M:Q8) (ts:List OT) (Ψ:Q8->Prop),Room k (A.deeper<|envOfC g (Q2 st) s.heap.objs.size f l)->R M ts Ψ ->
  ∃t,PSs (Vo CX0 P w K mg base N g (Q2 st) f l A d s H E).nox (Z7 st) t/\Q0 K t (some (.own v<|Zd P w C M)::(ts.map some++List.replicate (N.length-(ts.length+1)) none)) { nx:=fun n=>∃G,Ψ G/\n[0]?=some (some<|.own v<|Zd P w C G),rt:=fun _=>False }) :
 FnOk P w K mg base CX0 (k+1) f fd ps (spN K P w C R):=by
 refine F.ok S (by rintro vs H Q E ⟨F,a,m,p,ts,M,Ψ,e,_,_,D,_,T,_⟩;rw[e,XN,D.length];exact L _ _ _ T) ?_;rintro l A d s H vs Q E hr ⟨F,a,m,p,ts,M,Ψ,e,kt,Y,D,J,T,q⟩;subst e;obtain⟨t,h1,h2⟩:=U l A d s H E (.ref a) M ts Ψ hr T
 have h0:∀b,(fun b=>if b∈p then none else H b:Hp) b=none->b∈p\/H b=none:=fun b c=>by
  by_cases z:b∈p
  .exact .inl z
  .simp only[Xc z]at c;exact .inr c
 have th:=fun b c=>(Zd P w C M).there J b c
 refine⟨t,h1,h2 F (fun b=>if b∈p then none else H b) F (start N (.ref a::m)) H _ ⟨fun b o c=>?_,Q3.refl _,Y,fun _ h=>.inl h⟩ ⟨kt,Y,?_,fun j=>if j=0 then p else [],fun j X e=>?_,fun j k' b c hc=>?_,fun j b c=>?_⟩
  ⟨fun F' σ' H' n r S' ⟨G,hM,e0⟩=>?_,fun F' H' v r' p r hp J e=>False.elim e,fun _ _ _ _ _ _ z=>False.elim z,fun _ _ _ _ _ _ z=>False.elim z⟩⟩
 .by_cases z:b∈p
  .simp[z]at c
  .simp only[Xc z]at c;exact c
 .unfold start
  simp[D.length]
 .cases j with
  |zero =>
    simp at e
    subst e;refine⟨.ref a,?_,rfl,?_⟩
    .unfold start
     simp
    .simp only[if_true]
     exact J
  |succ i =>
    rw[UL]at e;have y:i<ts.length:=by
     by_cases z:i<ts.length
     .exact z
     .rw[X0<|by simpa using z]at e
      have:=List.mem_of_getElem? e
      simp at this
    rw[XG<|by simpa using y,Xt]at e;have e':ts[i]?=some X:=by
     cases z:ts[i]? with
     |none=>rw[z]at e;simp at e
     |some w=>rw[z]at e;simp at e;rw[e]
    obtain⟨v,e1,e2⟩:=D.get (H:=H) i X e';refine⟨v,?_,?_⟩
    .unfold start
     have O:i<m.length:=by rw[D.length];exact y
     rw[Xu,Jq,UL,XG<|by simpa using O,Xt,e1];rfl
    .simp only[Nat.add_one_ne_zero,if_false]
     exact e2
 .by_cases B:j=0
  .by_cases Z:k'=0
   .rw[B,Z]
   .simp[Z]at hc
  .simp[B]at c
 .by_cases B:j=0
  .simp only[Xd B]at c
   exact⟨by simp[c],(th b c).2⟩
  .simp[B]at c
 .obtain⟨fp,g1,g2,g3⟩:=S'.fp
  obtain⟨u,u1,rfl,I⟩:=g1 0 _ e0;refine q F' H' (fp 0) G hM ⟨fun b o nb c=>r.hh b o<|by simp only[Xc nb];exact c,r.ff,r.fh,fun b c=>?_⟩ I (fun b c=>h0 b (g3 0 b c).1)
  rcases r.fr b c with z|z
  .exact .inl z
  .exact .inr ((h0 b z).symm)
structure Mf (K:W.Frag)(C:Addr)(m qual:Str)(st:Stmt)(ps:Qh):Prop where
 ex:∃f fd,Fun K m qual st f fd/\Meth K C m f/\Vj K fd ps []
def Zn (P:Program)(w:World)(K:W.Frag)(mg:Str->Qf)(base:Heap)(C:Addr)(m:Str)(ps:Qh)(k:Nat)(b:Sp):Prop :=
 ∃f a,Meth K C m f/\Vj K a ps []/\FnOk P w K mg base CX0 k f a ps b
def Mf.evD {C:Addr}{m b:Str}{st:Stmt}{N ps:Qh}{k:Nat}{R:List OT->(OT->Prop)->Prop}(D:Mf K C m b st ps)(S:Qp N ps (Q2 st))(d:∀ts Φ,R ts Φ->ts.length=ps.length)
 (e:∀(f:Addr) (c:Value) (A:Around) (a:List Env) (s:Shared) (H:Hp) (E:XK) (ts:List OT) (Φ:OT->Prop),Room k (A.deeper<|envOfC b (Q2 st) s.heap.objs.size f c)->R ts Φ ->
  ∃t,PSs (Vo CX0 P w K mg base N b (Q2 st) f c A a s H E).nox (Z7 st) t/\Q0 K t (ts.map some++List.replicate (N.length-ts.length) none) { nx:=fun _=>Φ<|.fz .none,rt:=Φ }):Zn P w K mg base C m ps (k+1) (QY K R):=by
 obtain⟨f,i,F,g,h⟩:=D.ex
 exact⟨f,i,g,h,F.evD S d fun c A a s H E ts Φ=>e f c A a s H E ts Φ⟩
def Mf.evN {C:Addr}{m b:Str}{st:Stmt}{N ps:Qh}{k:Nat}{R:Q8->List OT->(Q8->Prop)->Prop}(D:Mf K C m b st ps)(S:Qp N ps (Q2 st))(e:∀M ts Ψ,R M ts Ψ->ts.length+1=ps.length)
 (g:∀(f:Addr) (c:Value) (A:Around) (a:List Env) (s:Shared) (H:Hp) (E:XK) (v:V) (M:Q8) (ts:List OT) (Ψ:Q8->Prop),Room k (A.deeper<|envOfC b (Q2 st) s.heap.objs.size f c)->R M ts Ψ ->
  ∃t,PSs (Vo CX0 P w K mg base N b (Q2 st) f c A a s H E).nox (Z7 st) t/\Q0 K t (some (.own v<|Zd P w C M)::(ts.map some++List.replicate (N.length-(ts.length+1)) none)) { nx:=fun d=>∃h,Ψ h/\d[0]?=some (some<|.own v<|Zd P w C h),rt:=fun _=>False }) :
 Zn P w K mg base C m ps (k+1) (spN K P w C R):=by
 obtain⟨f,l,F,i,j⟩:=D.ex
 exact⟨f,l,i,j,F.evN S e fun c A a s H E v M ts Ψ=>g f c A a s H E v M ts Ψ⟩
def Df.evD {x:Str}{st:Stmt}{N ps:Qh}{k:Nat}{R:List OT->(OT->Prop)->Prop}(D:Df K mg x st ps)(S:Qp N ps (Q2 st))(c:∀ts Φ,R ts Φ->ts.length=ps.length)
 (d:∀(f:Addr) (b:Value) (A:Around) (a:List Env) (s:Shared) (H:Hp) (E:XK) (ts:List OT) (Φ:OT->Prop),Room k (A.deeper<|envOfC x (Q2 st) s.heap.objs.size f b)->R ts Φ ->
  ∃t,PSs (Vo CX0 P w K mg base N x (Q2 st) f b A a s H E).nox (Z7 st) t/\Q0 K t (ts.map some++List.replicate (N.length-ts.length) none) { nx:=fun _=>Φ<|.fz .none,rt:=Φ }):QD P w K mg base x ps (k+1) (QY K R):=by
 obtain⟨f,h,F,e,g⟩:=D.ex
 exact⟨f,h,e,F.kp,g,F.evD S c fun b A a s H E ts Φ=>d f b A a s H E ts Φ⟩
def Df.evN {C:Addr}{x:Str}{st:Stmt}{N ps:Qh}{k:Nat}{R:Q8->List OT->(Q8->Prop)->Prop}(D:Df K mg x st ps)(S:Qp N ps (Q2 st))(d:∀M ts Ψ,R M ts Ψ->ts.length+1=ps.length)
 (e:∀(f:Addr) (b:Value) (A:Around) (a:List Env) (s:Shared) (H:Hp) (E:XK) (v:V) (M:Q8) (ts:List OT) (Ψ:Q8->Prop),Room k (A.deeper<|envOfC x (Q2 st) s.heap.objs.size f b)->R M ts Ψ ->
  ∃t,PSs (Vo CX0 P w K mg base N x (Q2 st) f b A a s H E).nox (Z7 st) t/\Q0 K t (some (.own v<|Zd P w C M)::(ts.map some++List.replicate (N.length-(ts.length+1)) none)) { nx:=fun c=>∃g,Ψ g/\c[0]?=some (some<|.own v<|Zd P w C g),rt:=fun _=>False }) :
 QD P w K mg base x ps (k+1) (spN K P w C R):=by
 obtain⟨f,j,F,h,i⟩:=D.ex
 exact⟨f,j,h,F.kp,i,F.evN S d fun b A a s H E v M ts Ψ=>e f b A a s H E v M ts Ψ⟩
def MN (P:Program)(w:World)(K:W.Frag)(mg:Str->Qf)(base:Heap)(x:Str)(C:Addr)(k:Nat):Prop :=
 ∃f a,Mk K C f/\mg x=some (.ref C)/\Vj K a Zaj []/\FnOk P w K mg base CX0 k f a Zaj (spI P w C)
end
section
variable {X:Cx}
def Y8 {C:Addr}{m:Str}{a b:Pos}{o e:Expr}{es:Qi}{h:TE}{t:TA}{ps:Qh}{j k:Nat}{i:Sp}{pl:Sem Bool}(M:Zn X.prog X.w X.K X.mg X.base C m ps j i)(c:NetC X.K C)(p:Room k X.A)(s:PE X o h)(v:PA X (e::es) t)(r:j<=k:=by walk_at"j")
 (d:starEach (e::es) X.env=(false,eval e X.env)::starEach es X.env:=by rfl) (g:(backTo a<|starEach es X.env).any (·.1)=false:=by rfl)
 (n:eval (.Call (.Attribute o m b) (e::es) [] a) X.env=(do
  let l <- eval o X.env
  standAt b.atName
  let (f,first) <- holding [l] (getMethod l m pl)
  callWith a f first (backTo a<|starEach (e::es) X.env)<|backToKw a<|keywordEach [] X.env):=by rfl) :
 PE X (.Call (.Attribute o m b) (e::es) [] a) (Vr C m i [] E0 h t):=by
 obtain⟨f,w,q,u,F⟩:=M;exact DW (pl:=pl) s c.cl q F (p.mono r) u .nil J9 v d g n
def Cr {C:Addr} {x:Str} {p a:Pos} {j k:Nat} (M:MN X.prog X.w X.K X.mg X.base x C j) (c:Room k X.A) (e:j+1<=k:=by walk_at"j") (g:Gl X x:=by rfl) (b:(x==("__debug__" : Str))=false:=by decide +kernel) :
 PE X (.Call (.Name x p) [] [] a) (Uh C (spI X.prog X.w C) [] E0 QQ):=by
 obtain⟨f,i,M,d,h,F⟩:=M;exact AE M F (c.mono e) g d h .nil J9 b
end
end L2
end
section
namespace Mir
open PySem L2
def nk:Nd->List Key
 |.start=>[.inr "start"]
 |.fin=>[.inr "end"]
 |.guest k=>[.inr "guest",.inl (k:Int)]
 |.line l t=>[.inr "line",.inl (l:Int),.inl (t:Int)]
theorem JF:∀{a b:Nd},nk a=nk b->a=b
 |.start,.start,_=>rfl
 |.fin,.fin,_=>rfl
 |.start,.fin,h=>Xm h (by decide)
 |.fin,.start,h=>Xm h (by decide)
 |.guest a,.guest b,h=>by
   injection h with _ h;injection h with h _;injection h with h
   have:a=b:=by omega
   rw[this]
 |.line a b,.line c d,h=>by
   injection h with _ h;injection h with f h;injection h with e _;injection f with f;injection e with e;have i:a=c:=by omega
   have g:b=d:=by omega
   rw[i,g]
 |.start,.guest _,h=>by have q:=X8 List.length h;simp[nk]at q
 |.start,.line _ _,h=>by have q:=X8 List.length h;simp[nk]at q
 |.fin,.guest _,h=>by have q:=X8 List.length h;simp[nk]at q
 |.fin,.line _ _,h=>by have q:=X8 List.length h;simp[nk]at q
 |.guest _,.start,h=>by have q:=X8 List.length h;simp[nk]at q
 |.guest _,.fin,h=>by have q:=X8 List.length h;simp[nk]at q
 |.guest _,.line _ _,h=>by have q:=X8 List.length h;simp[nk]at q
 |.line _ _,.start,h=>by have q:=X8 List.length h;simp[nk]at q
 |.line _ _,.fin,h=>by have q:=X8 List.length h;simp[nk]at q
 |.line _ _,.guest _,h=>by have q:=X8 List.length h;simp[nk]at q
def TY:nk a=nk b↔a=b:=⟨JF,fun h=>by rw[h]⟩
def JX:Option Nat->PyData
 |none=>.none
 |some e=>.int (e:Int)
def kvG (es:Got Nd):V2:=es.map fun x=>(nk x.1,JX x.2)
theorem HL (n:Nd):∀es:Got Nd,VO (kvG es) (nk n)=(WZ es n).map JX
 |[]=>rfl
 |(k,v)::es=>by
   have a:=HL n es;unfold WZ at a ⊢;rw[XH];unfold kvG VO at a ⊢;rw[Xu,Xx];by_cases e:k=n
   .subst e
    simp
   .have c:¬nk k=nk n:=fun z=>e (JF z)
    have b:(n==k)=false:=by rw[beq_eq_false_iff_ne];exact fun z=>e z.symm
    rw[b];simp only[c,decide_false];exact a
def OR {es:Got Nd}:(es.lookup n).isSome=decide (n∈QV es):=by
 induction es with
 |nil=>rfl
 |cons p es a =>
   obtain⟨k,v⟩:=p;rw[XH];by_cases e:n=k
   .subst e
    simp[QV]
   .have b:(n==k)=false:=by rw[beq_eq_false_iff_ne];exact e
    rw[b];have:decide (n∈QV ((k,v)::es))=decide (n∈QV es):=by
     apply decide_eq_decide.mpr
     unfold QV;rw[Xu,Xf];exact⟨fun z=>z.resolve_left e,.inr⟩
    rw[this];exact a
def Gq (n:Nd)(es:Got Nd):(VO (kvG es)<|nk n).isSome=decide (n∈QV es):=by
 rw[HL,Js];exact OR
def E2 (es:Got Nd):DD (kvG es):=fun x a=>by
 obtain⟨y,_,rfl⟩:=XL.mp a
 cases h:y.2 with
 |none=>exact⟨.non,by simp[h,JX,Vk]⟩
 |some e=>exact⟨.int (e:Int),by simp[h,JX,Vk]⟩
def Ac {es:Got Nd}{n:Nd}{e:Nat}(h:n∉QV es):JZ (kvG es) (nk n) (.int (e:Int))=kvG (es++[(n,some e)]):=by
 unfold JZ;have:¬((kvG es).any fun a=>decide (a.1=nk n))=true:=fun z=>by
  obtain⟨x,d,b⟩:=List.any_eq_true.mp z;obtain⟨y,c,rfl⟩:=XL.mp d;have q:y.1=n:=JF (XJ b);exact h (by rw[<- q];exact XL.mpr ⟨y,c,rfl⟩)
 rw[Xc this];unfold kvG;rw[Xy];rfl
structure NetR (N:Q8)(L:Lay Nd)(φ:Zc Nd):Prop where
 ends:N.ends=(Wf L).map nk
 rooms:N.rooms=Vz L φ
 leav:∀(n:Nd) (e:Int),e∈(QO N.leav<|nk n).getD [] ↔ ∃j:Nat,e=(j:Int)/\tlE L j=some n
 laid:∀(i:Nat) (x:Nd×Nd×Int),L[i]?=some x->ZK N.laid (nk x.1,nk x.2.1)=some ((2*i:Nat):Int)
 laid0:∀p q:Nd,(p,q)∉L.map (fun x=>(x.1,x.2.1))->ZK N.laid (nk p,nk q)=none
 l1:N.leav.length<=2*L.length
 l2:N.laid.length<=L.length
 l3:∀k ns,QO N.leav k=some ns->ns.length<=2*L.length
theorem Lq (φ:Zc Nd):NetR ⟨[],[],[],[]⟩ [] φ where
 ends:=rfl
 rooms:=rfl
 leav n e:=by
  constructor
  .intro h;simp[QO]at h
  .rintro⟨j,_,h⟩;simp[tlE]at h
 laid i x h:=by simp at h
 laid0 p q _:=rfl
 l1:=XM _
 l2:=XM _
 l3 k ns h:=by simp[QO]at h
def Wt  : QO ((k',ns)::ls) k=if k'=k then some ns else QO ls k:=by
 by_cases e:k'=k
 .simp[QO,Xx,e]
 .simp[QO,Xx,e]
theorem Sz (k b:List Key)(x:Int):∀ls:List (List Key×Ql),QO (VD ls k x) b=if b=k then (QO ls k).map (· ++ [x]) else QO ls b
 |[]=>by
   unfold VD;by_cases e:b=k
   .rw[Xd e];simp[QO]
   .rw[Xc e]
 |(j,d)::ls=>by
   unfold VD;have c:=Sz k b x ls
   by_cases e:j=k
   .rw[Xd e,Wt,Wt,Wt,Xd e]
    by_cases a:b=k
    .rw[Xd a,Xd<|e.trans a.symm];rfl
    .rw[Xc a,Xc fun z=>a<|z.symm.trans e,Xc fun z=>a<|z.symm.trans e]
   .rw[Xc e,Wt,Wt,Wt,Xc e,c]
    by_cases a:b=k
    .rw[Xd a,Xc fun z=>e<|z.trans a,Xd a]
    .rw[Xc a,Xc a]
theorem BI (k:List Key)(x:Int):∀ls:List (List Key×Ql),(VD ls k x).length=ls.length
 |[]=>rfl
 |(j,a)::ls=>by
   unfold VD;split
   .simp
   .simp[BI k x ls]
theorem Ti (k a:List Key):∀ls:List (List Key×Ql),QO ls k=none->QO (ls++[(k,[])]) a=if a=k then some [] else QO ls a
 |[],_=>by
   rw[List.nil_append,Wt];by_cases e:a=k
   .rw[Xd e,Xd e.symm]
   .rw[Xc e,Xc fun z=>e z.symm]
 |(j,c)::ls,h=>by
   rw[Wt]at h;by_cases e:j=k
   .rw[Xd e]at h;cases h
   .rw[Xc e]at h
    rw[Jq,Wt,Wt,Ti k a ls h];by_cases b:a=k
    .rw[Xd b,Xc fun z=>e<|z.trans b,Xd b]
    .rw[Xc b,Xc b]
def HH (ls:List (List Key×Ql))(k a:List Key):QO (VE ls k) a=if a=k then some ((QO ls k).getD []) else QO ls a:=by
 unfold VE;cases h:QO ls k with
 |some b =>
   rw[Xd<|by rfl];by_cases e:a=k
   .rw[Xd e,e,h];rfl
   .rw[Xc e]
 |none =>
   rw[Xc<|by simp,Ti k a ls h];rfl
def Hr (ls:List (List Key×Ql))(k:List Key):(VE ls k).length<=ls.length+1:=by
 unfold VE;split
 .omega
 .simp
def Ub (N:Q8)(s e:List Key)(r:Int):Q8:={ N with ends:=N.ends++[e],rooms:=N.rooms++[r],leav:=VD (VE N.leav s) s (N.ends.length:Int) }
def J5 (N:Q8)(s e:List Key)(r:Int):Q8:=Ub (Ub { N with laid:=Yy N.laid (s,e) (N.ends.length:Int) } s e r) e s 0
def U9 (N:Q8)(s e:List Key)(r:Int)(k:List Key):QO (Ub N s e r).leav k=if k=s then some ((QO N.leav s).getD []++[(N.ends.length:Int)]) else QO N.leav k:=by
 show QO (VD (VE N.leav s) s _) k=_;rw[Sz,HH,Xd rfl,HH];by_cases e:k=s
 .rw[Xd e,Xd e];rfl
 .rw[Xc e,Xc e,Xc e]
def Ws  : ZK ((k',n)::ls) k=if k'=k then some n else ZK ls k:=by
 by_cases e:k'=k
 .simp[ZK,Xx,e]
 .simp[ZK,Xx,e]
theorem SA (k a:KK)(n:Int):∀ls:List (KK×Int),ZK (ls.map fun x=>if x.1=k then (x.1,n) else x) a=if a=k then (ZK ls k).map fun _=>n else ZK ls a
 |[]=>by
   by_cases e:a=k
   .rw[Xd e];rfl
   .rw[Xc e];rfl
 |(j,m)::ls=>by
   rw[Xu];have c:=SA k a n ls
   by_cases e:j=k
   .simp only[e,if_true]
    rw[Ws,Ws,Ws,c];by_cases b:a=k
    .simp[b]
    .have:¬k=a:=fun z=>b z.symm
     simp[b,this]
   .simp only[e,if_false]
    rw[Ws,Ws,Ws,c];by_cases b:a=k
    .simp[b,e]
    .simp[b]
theorem P4 (k a:KK)(n:Int):∀ls:List (KK×Int),ZK ls k=none->ZK (ls++[(k,n)]) a=if a=k then some n else ZK ls a
 |[],_=>by
   rw[List.nil_append,Ws];by_cases e:a=k
   .rw[Xd e,Xd e.symm]
   .rw[Xc e,Xc fun z=>e z.symm]
 |(j,m)::ls,h=>by
   rw[Ws]at h;by_cases e:j=k
   .rw[Xd e]at h;cases h
   .rw[Xc e]at h
    rw[Jq,Ws,Ws,P4 k a n ls h];by_cases b:a=k
    .rw[Xd b,Xc fun z=>e<|z.trans b,Xd b]
    .rw[Xc b,Xc b]
def SM (ls:List (KK×Int))(k a:KK)(n:Int):ZK (Yy ls k n) a=if a=k then some n else ZK ls a:=by
 unfold Yy;cases h:ZK ls k with
 |some m=>rw[Xd<|by rfl,SA,h];rfl
 |none=>rw[Xc<|by simp,P4 k a n ls h]
def Aa (ls:List (KK×Int))(k:KK)(n:Int):(Yy ls k n).length<=ls.length+1:=by
 unfold Yy;split
 .simp
 .simp
def Ph {a:Type} [DecidableEq a] (L:Lay a):(Wf L).length=2*L.length:=by
 unfold Wf;induction L with
 |nil=>rfl
 |cons x L b=>rw[M7,Xo,b,XN];simp;omega
def NetR.elen  (h:NetR N L φ):N.ends.length=2*L.length:=by rw[h.ends,Xn,Ph]
def Kt {a:Type} [DecidableEq a] (L:Lay a)(φ:Zc a):(Vz L φ).length=2*L.length:=by
 unfold Vz;induction L with
 |nil=>rfl
 |cons x L b=>rw[M7,Xo,b,XN];simp;omega
def BU {x:Nd×Nd×Int}  : tlE (L++[x]) j=some n↔tlE L j=some n\/(j=2*L.length/\n=x.1)\/(j=2*L.length+1/\n=x.2.1):=by
 unfold tlE;by_cases h:j/2<L.length
 .rw[XG h]
  constructor
  .exact .inl
  .rintro(z|⟨z,_⟩|⟨z,_⟩)
   .exact z
   .omega
   .omega
 .rw[X0<|by omega,Nb.mpr (show L.length<=j/2 by omega)]
  by_cases a:j/2=L.length
  .rw[a,Nat.sub_self]
   simp only[List.getElem?_cons_zero,YW,Option.map_none,Option.some.injEq];by_cases p:j%2=0
   .rw[Xd p]
    constructor
    .intro z;exact .inr (.inl ⟨by omega,z.symm⟩)
    .rintro(z|⟨_,z⟩|⟨z,_⟩)
     .cases z
     .exact z.symm
     .omega
   .rw[Xc p]
    constructor
    .intro z;exact .inr (.inr ⟨by omega,z.symm⟩)
    .rintro(z|⟨z,_⟩|⟨_,z⟩)
     .cases z
     .omega
     .exact z.symm
  .have:([x]:Lay Nd)[j/2-L.length]?=none:=Nb.mpr (by simp;omega)
   rw[this];constructor
   .intro z;cases z
   .rintro(z|⟨z,_⟩|⟨z,_⟩)
    .cases z
    .omega
    .omega
theorem Am  (h:NetR N L φ)  (h0:φ s e=0)(new:(s,e)∉L.map (fun x=>(x.1,x.2.1))):NetR (J5 N (nk s) (nk e) r) (L++[(s,e,r)]) φ where
 ends:=by
  show(N.ends++[nk e])++[nk s]=_
  unfold Wf;rw[JT,Xy,h.ends];simp[Wf]
 rooms:=by
  show(N.rooms++[r])++[0]=_
  unfold Vz;rw[JT,h.rooms];simp[Vz,h0]
 leav n e':=by
  have v:=h.elen
  have l1:(Ub { N with laid:=Yy N.laid (nk s,nk e) (N.ends.length:Int) } (nk s) (nk e) r).ends.length=2*L.length+1:=by
   show(N.ends++[nk e]).length=_
   rw[Xo,v];rfl
  have q:(QO (J5 N (nk s) (nk e) r).leav (nk n)).getD []=((QO N.leav<|nk n).getD []++(if n=s then [((2*L.length:Nat):Int)] else []))++(if n=e then [((2*L.length+1:Nat):Int)] else []):=by
   unfold J5;rw[U9,l1,U9,U9];show Option.getD (if nk n=nk e then some ((if nk e=nk s then some ((QO N.leav<|nk s).getD []++[(N.ends.length:Int)]) else QO N.leav<|nk e).getD []++[((2*L.length+1:Nat):Int)]) else if nk n=nk s then some ((QO N.leav<|nk s).getD []++[(N.ends.length:Int)]) else QO N.leav<|nk n) []=_;rw[v];simp only[TY];by_cases u:n=e
   .subst u
    by_cases c:n=s
    .subst c;simp
    .simp[c]
   .by_cases c:n=s
    .subst c;simp[u]
    .simp[u,c]
  rw[q,XB,XB,h.leav n e'];constructor
  .rintro((⟨j,rfl,o⟩|z)|z)
   .exact⟨j,rfl,BU.mpr<|.inl o⟩
   .by_cases c:n=s
    .rw[Xd c]at z
     exact⟨2*L.length,Xi.mp z,BU.mpr<|.inr<|.inl ⟨rfl,c⟩⟩
    .rw[Xc c]at z;cases z
   .by_cases c:n=e
    .rw[Xd c]at z
     exact⟨2*L.length+1,Xi.mp z,BU.mpr<|.inr<|.inr ⟨rfl,c⟩⟩
    .rw[Xc c]at z;cases z
  .rintro⟨j,rfl,o⟩
   rcases BU.mp o with z|⟨rfl,z⟩|⟨rfl,z⟩
   .exact .inl (.inl ⟨j,rfl,z⟩)
   .exact .inl (.inr<|by rw[Xd z];exact Xi.mpr rfl)
   .exact .inr (by rw[Xd z];exact Xi.mpr rfl)
 laid i x hx:=by
  show ZK (Yy N.laid (nk s,nk e) (N.ends.length:Int)) (nk x.1,nk x.2.1)=_;rw[SM,h.elen];by_cases y:i<L.length
  .rw[XG y]at hx
   have ne:¬(nk x.1,nk x.2.1)=(nk s,nk e):=fun z=>new (by
    injection z with l f;exact XL.mpr ⟨x,List.mem_of_getElem? hx,by rw[JF l,JF f]⟩)
   rw[Xc ne];exact h.laid i x hx
  .rw[X0<|by omega]at hx
   have t:i=L.length:=by
    have:=(Xh.mp hx).1
    simp at this
    omega
   subst t;rw[Nat.sub_self]at hx;cases hx;rw[Xd rfl]
 laid0 p q hn:=by
  show ZK (Yy N.laid (nk s,nk e) (N.ends.length:Int)) (nk p,nk q)=_;rw[Xy,XB,not_or]at hn;rw[SM,Xc fun z=>?_]
  .exact h.laid0 p q hn.1
  .injection z with l f
   exact hn.2 (by rw[JF l,JF f];simp)
 l1:=by
  have a:=h.l1
  have b:(J5 N (nk s) (nk e) r).leav.length<=N.leav.length+2:=by
   unfold J5;show(VD (VE (VD (VE N.leav<|nk s) (nk s) _)<|nk e) (nk e) _).length<=_;rw[BI];refine X7 (Hr _ _) ?_;rw[BI];have:=Hr N.leav (nk s);omega
  rw[Xo];simp;omega
 l2:=by
  have a:=h.l2;have b:(J5 N (nk s) (nk e) r).laid.length<=N.laid.length+1:=Aa _ _ _;rw[Xo];simp;omega
 l3 k ns hk:=by
  have g:∀d,((QO N.leav d).getD []).length<=2*L.length:=fun d=>by
   cases z:QO N.leav d with
   |none=>exact XM _
   |some m=>exact h.l3 d m z
  have w:∀d,((QO (Ub { N with laid:=Yy N.laid (nk s,nk e) (N.ends.length:Int) } (nk s) (nk e) r).leav d).getD []).length<=2*L.length+1:=fun d=>by
   rw[U9];by_cases z:d=nk s
   .rw[Xd z]
    have:=g (nk s)
    simpa using this
   .rw[Xc z]
    have:=g d
    show((QO N.leav d).getD []).length<=_
    omega
  unfold J5 at hk;rw[U9]at hk;rw[Xo];by_cases z:k=nk e
  .rw[Xd z]at hk
   cases hk
   have:=w (nk e)
   simp at this ⊢
   omega
  .rw[Xc z]at hk
   have:=w k
   rw[hk]at this;simp at this ⊢;omega
def On {L:Lay Nd}(A:Dis L){φ:Zc Nd}{a r k:Int}{e:Nat}(b:(Vz L φ)[e]?=some r)(c:(Vz L φ)[Ze7 e]?=some k):Vz L (VQ L a φ e)=((Vz L φ).set e (r-a)).set (Ze7 e) (k+a):=by
 have D:Ze7 e≠e:=by unfold Ze7;split<;>omega
 have m:Ze7 e/2=e/2:=by unfold Ze7;split<;>omega
 rw[UC]at b c;have B:=b;unfold rmE at b c;rw[m]at c;cases d:L[e/2]? with
 |none=>rw[d]at b;cases b
 |some x =>
   rw[d]at b c;simp only[YW,Option.some.injEq]at b c;have w:VQ L a φ e=VB φ x.1 x.2.1 (if e%2=0 then a else -a):=by unfold VQ;rw[d]
   have o:VB φ x.1 x.2.1 (if e%2=0 then a else -a) x.1 x.2.1=φ x.1 x.2.1+(if e%2=0 then a else -a):=by unfold VB;rw[Xd ⟨rfl,rfl⟩]
   have F:e/2<L.length:=(Xh.mp d).1;have E:=Kt L φ;have h:e<(Vz L φ).length:=by omega
   have v:Ze7 e<(Vz L φ).length:=by omega
   refine List.ext_getElem? fun i=>?_;rw[UC,List.getElem?_set,List.getElem?_set,UC,w];by_cases f:Ze7 e=i
   .subst f
    rw[Xd rfl,Xd (show Ze7 e<((Vz L φ).set e (r-a)).length by simpa using v)]
    unfold rmE;rw[m,d];simp only[YW,Option.some.injEq];rw[o];have l:(Ze7 e%2=0)=¬(e%2=0):=by
     apply propext
     unfold Ze7;split<;>omega
    by_cases p:e%2=0
    .have g:¬Ze7 e%2=0:=by rw[l];exact fun z=>z p
     rw[Xc g]at c ⊢;rw[Xd p];omega
    .have g:Ze7 e%2=0:=by rw[l];exact p
     rw[Xd g]at c ⊢;rw[Xc p];omega
   .rw[Xc f]
    by_cases n:e=i
    .subst n
     rw[Xd rfl,Xd h];unfold rmE;rw[d];simp only[YW,Option.some.injEq];rw[o];by_cases p:e%2=0
     .rw[Xd p]at b ⊢
      rw[Xd p];omega
     .rw[Xc p]at b ⊢
      rw[Xc p];omega
    .rw[Xc n]
     unfold rmE;cases C:L[i/2]? with
     |none=>rfl
     |some y =>
       have u:¬(y.1=x.1/\y.2.1=x.2.1):=fun⟨t,s⟩=>by
        have q:=Hn A C d t s;unfold Ze7 at f;split at f<;>omega
       have j:VB φ x.1 x.2.1 (if e%2=0 then a else -a) y.1 y.2.1=φ y.1 y.2.1:=by unfold VB;rw[Xc u]
       simp only[YW,j]
def J0 (L:Lay Nd)(φ:Zc Nd)(es:Got Nd)(U:List Nd):Prop := ∀e m n r,tlE L e=some m->hdE L e=some n->rmE L φ e=some r->0<r->m∈QV es->m∉U->n∈QV es
def J0.closed  (h:J0 L φ es []):VR L φ es:=fun e m n r f d c b a=>h e m n r f d c b a (by rintro⟨⟩)
def Jn {x:Nd×Option Nat}:n∈QV (es++[x])↔n∈QV es\/n=x.1:=by
 unfold QV;rw[Xy,XB];simp
def J0.add  {U V:List Nd}(h:J0 L φ es (U++V))(n:Nd)(o:Option Nat):J0 L φ (es++[(n,o)]) (U++(V++[n])):=fun e m k r i g f d c a=>by
 rw[<- UQ,XB,not_or]at a;have b:m≠n:=fun z=>a.2 (by simp[z])
 rcases Jn.mp c with z|z
 .exact Jn.mpr (.inl<|h e m k r i g f d z a.1)
 .exact Xm z b
theorem Tree.inClosed {L:Lay Nd}{φ:Zc Nd}{s:Nd}{c:Got Nd}(b:VR L φ c)(a:s∈QV c):∀{es:Got Nd},Tree L φ s es->∀n∈QV es,n∈QV c
 |_,.root,n,d=>by
   have e:n=s:=by simpa [QV] using d
   rw[e];exact a
 |_,.add t d j g i h k,n,f=>by
   rcases Jn.mp f with z|z
   .exact t.inClosed b a n z
   .rw[z]
    exact b _ _ _ _ g j h k (t.inClosed b a _ i)
end Mir
end
section
namespace L2
open PySem PySem.Spec PyProof.Rows
section
variable {K:W.Frag}
theorem Ts {F f H:Hp}:∀{as:Qg} {c:List (Qd)},(∀ds∈c,Br ds)->(∀a∈as,f a=none)->Zy F H as c->Zy f H as c
 |[],[],_,_,_=>trivial
 |a::as,ds::c,h,e,o=>by
   obtain⟨⟨_,g,m,l⟩,i⟩:=o
   exact⟨⟨e a Xb,g,m,l.flats<|h ds Xb⟩,Ts (fun d j=>h d<|Xe _ j) (fun b k=>e b<|Xe _ k) i⟩
 |[],_::_,_,_,o=>False.elim o
 |_::_,[],_,_,o=>False.elim o
def AL (h:∀ds∈dss,Br ds):WP (.oll dss):=fun K F l H v p c d=>by
 obtain⟨a,j,rfl,rfl,i,k,g,f⟩:=d
 exact⟨a,j,rfl,rfl,i,c a Xb,g,Ts h (fun b e=>c b<|Xe _ e) f⟩
end
end L2
end
namespace L2
open PySem
section
variable {prog:Program}{w:World}{A:Around}{E:Qb}{h:Heap}{g:Array GenState}{d:Drawn}{t:Nat}{os:OsState}
variable {nm q:Str}{C N:Addr}{bs bm bmB:Qe}{hdct:Bool}{sn:Qh}{sub:Qe}{ab:Bool}{col:Option Bool}{dd:Qj}{k0 k1 k2 k3 k5:Qf}{B newId initId:String}
abbrev Bx (C a:Addr):Obj:={ cls:=.ref C,data:=.fields #[.ref a,.none,.none,.none,.bool false,.none] }
abbrev LO (vs:Qe):Obj:={ cls:=.type "tuple",data:=.seq vs.toArray }
def V0 (h:Heap)(C:Addr)(vs:Qe):Heap:=(h.push<|LO vs).push (Bx C h.objs.size)
def FQ (F:ExcBaseFacts B newId initId bmB)(T:OwnTail h bmB bm)
 (i:h.get? C=some (excClassObj nm q C N bs bm hdct sn sub ab col dd k0 k1 k2 k3 k5 newId)) (hn:h.Ns N mN)
 (v:mN "__init__"=some (.ref f)) (x:h.get? f=some fo) (y:fo.cls=.type "function") (a:rest.length<=sizeLine)
 (u:wpAny (model prog w) A (call (.ref f) (.ref (h.objs.size+1)::rest)) (fun r n=>r=.none/\Q (.done<|.ret<|.ref<|h.objs.size+1) n) E ⟨V0 h C rest,g,d,t,os⟩) :
 wpAny (model prog w) A (Builtin.«type.__call__» ⟨.ref C::rest,[]⟩) Q E ⟨h,g,d,t,os⟩:=by
 have j:∀b o,h.get? b=some o->(V0 h C rest).get? b=some o:=fun b o e=>Xg _ (Xg _ e)
 repeat (first
  |with_reducible refine wpAny_loadPart_at i ?_
  |with_reducible refine wpAny_madeBy_exc i ?_
  |wp_step)
 refine codeAny_call_builtin_code (Code.quiet_builtin _ F.quiet)
  (wpAny_check_new_subT F T i ?_)
 refine codeAny_exc_new_subT F T i ?_ a;show wpAny _ _ _ _ _ ⟨V0 h C rest,g,d,t,os⟩
 have p:(V0 h C rest).get? (h.objs.size+1)=some (Bx C h.objs.size):=by
  unfold V0;exact M6 (by rw[Ww]) rfl
 have c:=j _ _ i;have m:(V0 h C rest).Ns N mN:=hn.keeps j;have D:=T.keeps j;have k:(Value.ref C::bm).contains (.ref C)=true:=by simp
 unfold isInstance;repeat (first
  |with_reducible refine wpAny_loadPart_at p ?_
  |(with_reducible refine wpAny_isSubtype_exc c ?_;rw[k])
  |wp_step)
 show wpAny _ _ (typeLookup (.ref C) _) _ _ _;refine wpAny_typeLookup_tail c m D F.mroIs F.init.lookup ?_;rw[v];refine wpAny_holding (Xa<|wpAny_bindSpecial_def (s:=⟨V0 h C rest,g,d,t,os⟩) (j _ _ x) y ?_);refine Xa (wpAny_mono u (fun r n l=>?_) fun _ _ z=>z);obtain⟨rfl,l⟩:=l
 wp_walk
 exact l
def Fe (F:ExcBaseFacts B newId initId bmB)(T:OwnTail h bmB bm)
 (b:h.get? C=some (excClassObj nm q C N bs bm hdct sn sub ab col dd k0 k1 k2 k3 k5 newId)) (hn:h.Ns N mN)
 (i:mN "__init__"=some (.ref f)) (j:h.get? f=some fo) (k:fo.cls=.type "function") (a:rest.length<=sizeLine)
 (e:wpAny (model prog w) (A.under<|.builtin "type.__call__" ⟨.ref C::rest,[]⟩) (call (.ref f) (.ref (h.objs.size+1)::rest)) (fun r c=>r=.none/\Q (.ref<|h.objs.size+1) c) E ⟨V0 h C rest,g,d,t,os⟩) :
 wpAny (model prog w) A (call (.ref C) rest) Q E ⟨h,g,d,t,os⟩:=by
 have n:=tc_lookup;have m:=tc_bind (.ref C);have l:(⟨h,g,d,t,os⟩:Shared).TypeIs (.ref C) "type" := ⟨_,b,rfl⟩;refine wpAny_call (codeAny_of_tree ?_);show wpAny _ _ (callAny (.ref C) _) _ _ _
 repeat (any_goals (first
  |assumption
  |with_reducible refine wpAny_loadPart_at b ?_
  |wp_step))
 refine⟨rfl,?_⟩;refine codeAny_call_builtin_at (Code.quiet_builtin _<|by decide +kernel) entry_typeCall (wpAny_check_type_call_sub b ?_);refine FQ F T b hn i j k a ?_;exact wpAny_mono e (fun r c z=>z) fun _ _ z=>z
end
end L2
namespace L2
open PySem PySem.Spec PyProof.Rows
def phX (C e:Addr)(a:Qj):Heap->Prop:=fun h=>∃(t:Addr) (b:Array (Qf)),h.get? e=some { cls:=.ref C,dict:=a,data:=.fields #[.ref t,.none,.none,.none,.bool false,.none],slots:=b }
def Bw    (p:phX C e dct h):ZA P w H h e (.ext<|phX C e dct):=⟨p,by obtain⟨t,a,q⟩:=p;exact⟨_,q⟩,fun d c b k=>by obtain⟨t,a,q⟩:=b;exact⟨t,a,k _ q⟩⟩
section
variable {prog:Program}{w:World}{A:Around}{E:Qb}{h:Heap}{g:Array GenState}{d:Drawn}{t:Nat}{os:OsState}
variable {nm q:Str}{C N:Addr}{bs bm bmB:Qe}{hdct:Bool}{sn:Qh}{sub:Qe}{ab:Bool}{col:Option Bool}{dd:Qj}{k0 k1 k2 k3 k5:Qf}{B newId initId:String}
def LZ (F:ExcBaseFacts B newId initId bmB)(T:OwnTail h bmB bm)
 (j:h.get? C=some (excClassObj nm q C N bs bm hdct sn sub ab col dd k0 k1 k2 k3 k5 newId))
 (c:h.get? e=some { cls:=.ref C,dict:=dct,data:=.fields #[.ref a,.none,.none,.none,.bool false,.none],slots:=sl })
 (f:∀h',(∀b o,b≠e->h.get? b=some o->h'.get? b=some o)->phX C e dct h'->Q .none ⟨h',g,d,t,os⟩) :
 wpAny (model prog w) A (call (.builtin initId) [.ref e,v]) Q E ⟨h,g,d,t,os⟩:=by
 refine wpAny_call (codeAny_call_builtin F.init.plain F.initEntry<|wpAny_check_init_subT F T j c rfl ?_)
 wp_walk using AutoSeq1.wpAny_loadPart' c
 refine f _ (fun b o i z=>?_) ⟨h.objs.size,sl,?_⟩
 .rw[XQ _ _<|Ne.symm i]
  exact Xg _ z
 .rw[Wz _ (Xg _ c) rfl]
  rfl
end
structure JW (K:W.Frag)(Y C f:Addr):Prop where
 ga:W.specialIn K (.ref Y) "__getattribute__"=some (some<|.builtin "type.__getattribute__")
 rd:W.readsIn K Y (.type "type")=true
 ini:W.findCls K (.ref Y) (.type "type") "__init__"=some (.val<|.builtin "ValueError.__init__")
 cls:∀h:Heap,K.In h->∃(bmB bm:Qe) (nm q:Str) (N:Addr) (bs:Qe) (hdct:Bool) (sn:Qh) (sub:Qe) (ab:Bool) (col:Option Bool) (dd:Qj) (k0 k1 k2 k3 k5:Qf),
  ExcBaseFacts "ValueError" "ValueError.__new__" "ValueError.__init__" bmB/\OwnTail h bmB bm/\h.get? C=some (excClassObj nm q C N bs bm hdct sn sub ab col dd k0 k1 k2 k3 k5 "ValueError.__new__") /\
  ∃(mN:Str->Qf) (fo:Obj),h.Ns N mN/\mN "__init__"=some (.ref f)/\h.get? f=some fo/\fo.cls=.type "function"
def tXI (C:Addr)(i:Nat):TE:=fun b H Q=>∃e a,b[i]?=some (some<|.ref e)/\H e=some (.ext<|phX C e a)/\Q .non H
def A6 {X:Cx}{Y C f:Addr}(c:JW X.K Y C f){x y:Str}{i:Nat}{t p m l d:Pos}{a:Str}{n:Nat}(hg:Gl X x)(hm:X.mg x=some (.ref Y))(hN:X.N[i]?=some y)(hv:Vis X.env.scope y)
 (u:(x==("__debug__" : Str))=false:=by decide) (hd:(y==("__debug__" : Str))=false:=by decide) (v:(y==("__classdict__" : Str))=false:=by decide) {pl:Sem Bool}
 (ht:eval (.Call (.Attribute (.Name x t) "__init__" p) [.Name y m,.Constant (.str a) n l] [] d) X.env=(do
  let G <- eval (.Name x t) X.env
  standAt p.atName
  let (f,first) <- holding [G] (getMethod G "__init__" pl)
  callWith d f first (backTo d<|starEach [.Name y m,.Constant (.str a) n l] X.env)<|backToKw d<|keywordEach [] X.env):=by rfl) :
 PE X (.Call (.Attribute (.Name x t) "__init__" p) [.Name y m,.Constant (.str a) n l] [] d) (tXI C i):=by
 intro A s M H Q I h;obtain⟨e,j,e1,w,q⟩:=h;refine W.methodCall_KW (pl:=pl) (Jg I hg hm ?_ u) ht;refine W.method_cls I.kIn c.ga (W.cls_value I.kIn c.rd c.ini (by decide +kernel) ?_);have I1:=I.tok (s.toks+1);have k:PA X [.Name y m,.Constant (.str a) n l] (QE (QB i)<|QE (tC<|.str a) QQ):=Qo (RG hN hv hd v) (Qo Z1 Qq);refine PyProof.Rows.callWith_builtin1 (Q7 (k d A _ M H (fun D g=>D=[.ref e,.str a]/\g=H) I1 ⟨_,e1,rfl,rfl⟩) ?_) rfl rfl;rintro us P ⟨D,g,B,r,ev,eH⟩;subst ev eH;cases r with
 |cons S r =>
 cases r with
 |cons R r =>
 cases r
 cases S
 obtain⟨tk,rfl⟩:=R;have hx:=B.hok e _ w;obtain⟨⟨ta,sl,he⟩,_,_⟩:=hx;obtain⟨bmB,bm,nm,qn,N,bs,J,sn,O,ab,col,dd,k0,k1,k2,k3,k5,F,T,hC,_⟩:=c.cls _ B.kIn;refine LZ F T hC he fun h' Z E=>?_;have U:Mut (g e):=by rw[w];trivial
 have W:=B.write (h':=h') (t':=P.toks) (o:=.ext (phX C e j)) U Qa Z (by obtain⟨_,_,z⟩:=E;exact⟨_,z⟩) (Bw E)
 have eu:upd g e (.ext<|phX C e j)=g:=by
  funext b
  by_cases L:b=e
  .subst L;simp[upd,w]
  .simp[upd,L]
 rw[eu]at W;exact⟨.non,g,W,rfl,q⟩
def WA:Qe->Bool
 |.ref _::r=>WA r
 |l=>l==[.type "ValueError",.type "Exception",.type "BaseException",.type "object"]
theorem Pg (a:Value):∀{l:Qe},WA l=true->refuseLoop a "__setattr__" l=pure ()
 |.ref c::r,e=>by rw[refuseLoop_ref];exact Pg a (by simpa [WA] using e)
 |[],e=>by cases e
 |.type n::r,e=>by rw[show(Value.type n::r)=_ from beq_iff_eq.mp e];exact PySem.F.store_ValueError.passes a
theorem R5:∀{l:Qe},WA l=true->l.contains (.type "object")=true
 |.ref c::r,e=>by rw[List.contains_cons,R5 (l:=r)<|by simpa [WA] using e,Bool.or_true]
 |[],e=>by cases e
 |.type n::r,e=>by rw[show(Value.type n::r)=_ from beq_iff_eq.mp e];decide
section
open PySem.W
variable {prog:Program}{w:World}{A:Around}{R:Result->Shared->Prop}{K:Frag}{s:Shared}{x C:Addr}
def T6    (X:K.In s.heap)(I:W.InstAt s.heap x ox C od)(p:((clsIn K C).any fun d=>WA d.mro)=true)(o:takerIn K C name=some r)
 (h:∀b,wpAny (model prog w) A.in1 (match r with|some a=>Builtin.ObjectAttr.setByDescriptor a (.ref x) v|none=>Builtin.ObjectAttr.storeInOwnDict (.ref x) (.ref C) (.str name tk) name v b)
  (fun fin i=>match fin with|.done f=>R (.ok f) i|.again c'=>c'.quiet=true/\codeAny (model prog w) A c' R i) (fun e i=>R (.error e) i) s) :
 codeAny (model prog w) A (.call (.builtin "object.__setattr__") ⟨[.ref x,.str name tk,v],[]⟩) R s:=by
 have g:=PySem.F.store_object;obtain⟨d,m,j⟩:=any_some p;have n:d.mro.isEmpty=false:=by cases q:d.mro with|nil=>rw[q]at j;cases j|cons _ _=>rfl
 have k:Looks (model prog w) s.heap (isInstance (.ref x)<|.type "object") true:=I.type.andThen (looks_mroIn X<|by unfold mroIn;rw[m,Option.bind_some,Xc<|by rw[n];decide,R5 j]);refine codeAny_call_builtin g.slot.plain g.entry (@check_slot (model prog w) _ _ s "object.__setattr__" "object" "__setattr__" (.ref x) [.str name tk,v] [] _ g.kind g.split k (g.args (.ref x) (.str name tk) v) ?_);obtain⟨c,y,l⟩:=Option.bind_eq_some_iff.mp o;have t:Looks (model prog w) s.heap (mroOf<|.ref C) d.mro:=(looks_clsIn X m).andThen .now
 have z:Looks (model prog w) s.heap (Builtin.ObjectAttr.storeTaker? c) r:=by
  cases c with
  |none=>cases l;exact .now
  |some a =>
    obtain⟨b,u,rfl⟩:=Option.map_eq_some_iff.mp l;refine(looks_takesIn X u).andThen ?_
    cases b<;>exact .now
 rw[osa_eq,refuse_eq];refine Xa (Xa<|I.type.here<|Xa<|t.here ?_);rw[Pg _ j];refine Xk (Xa<|I.type.here<|Xa<|(looks_findIn X y).here (Xa<|z.here ?_));exact h _
def T9    (X:K.In s.heap)
 (f:findIn K (.ref C) "__setattr__"=some (some<|.builtin "object.__setattr__")) (z:((clsIn K C).any fun t=>WA t.mro)=true) (u:takerIn K C name=some none) (B:hasDictIn K C=true)
 (d:s.heap.get? x=some { cls:=.ref C,dict:=none,data:=.fields fs,slots:=sl })
 (h:∀h' t',(∀b o,b≠x->s.heap.get? b=some o->h'.get? b=some o)->h'.get? x=some { cls:=.ref C,dict:=some s.heap.objs.size,data:=.fields fs,slots:=sl } ->
  h'.Ns1 s.heap.objs.size (fun y=>if y=name then some v else none)->Q () { s with heap:=h',toks:=t' }) :
 wpAny (model prog w) A (setAttr (.ref x) name v) Q E s:=by
 have J:W.InstAt s.heap x _ C none:=⟨d,rfl,rfl,trivial⟩;refine W.set_plain X J f (T6 (s:={ s with toks:=s.toks+1 }) (r:=none) X J z u fun b=>?_);obtain⟨t,F,l⟩:=W.any_some B;refine Xa (Xk<|Xa<|Xa<|wpAny_loadPart d<|Xa<|W.Looks.here (s:={ s with toks:=s.toks+1 }) (W.looks_clsIn X F) ?_);rw[l];have q:(s.heap.push { cls:=.type "dict",data:=.dict #[] }).get? x=_:=Xg _ d;have a:x≠s.heap.objs.size:=Xr (Xj d);rw[Xc<|by decide];dsimp only;rw[Xc<|by simp[typeHasDict]];refine Xa (wpAny_alloc' ?_);refine Xa (wpAny_update' q ?_);refine Xk ?_
 have j:((s.heap.push { cls:=.type "dict",data:=.dict #[] }).update x fun o=>{ cls:=o.cls,dict:=some s.heap.objs.size,data:=o.data,slots:=o.slots }).get? s.heap.objs.size
  = some { cls:=.type "dict",data:=.dict #[] } :=
  (Heap.get?_update_ne _ _ _ _ a.symm).trans (M6 rfl rfl)
 have i:((s.heap.push { cls:=.type "dict",data:=.dict #[] }).update x fun o=>{ cls:=o.cls,dict:=some s.heap.objs.size,data:=o.data,slots:=o.slots }).Ns s.heap.objs.size (fun _=>none) :=
  ⟨_,#[],_,j,rfl,fun e D=>Xm D<|by simp,fun _=>rfl⟩
 show wpAny _ _ (Builtin.ObjectAttr.storeInDict s.heap.objs.size (.str name s.toks) name v) _ _ _;unfold Builtin.ObjectAttr.storeInDict Builtin.ObjectAttr.newKeyGuard;refine Xa (Xk<|Xa<|wpAny_nsSet1 (Heap.Ns1.of_empty i) fun h' c f=>?_);obtain⟨L,G,H,g,k,m⟩:=c.count (Within.cons name v Within.nil);refine Xa (wpAny_lookBehind g (by rw[k];exact pastItsLine_dict<|X7 m<|by rw[XN,List.length_nil,sizeLine_eq];omega) ?_);refine Xk (h _ _ (fun b I n p=>?_) ?_ c)
 .exact(f.2 b<|Xr<|Xj p).trans ((Heap.get?_update_ne _ _ _ _ n).trans (Xg _ p))
 .exact(f.2 x a).trans (Wz _ q rfl)
end
structure T3 (K:W.Frag)(C:Addr):Prop where
 sa:W.findIn K (.ref C) "__setattr__"=some (some<|.builtin "object.__setattr__")
 ov:((W.clsIn K C).any fun cd=>WA cd.mro)=true
 hd:W.hasDictIn K C=true
def sXF (C:Addr)(g d:TE)(f:Str):TS:=fun D b H=>d b H fun y h=>g b h fun x c=>∃e,x=.ref e/\c e=some (.ext<|phX C e none) /\
 ∀a,c a=none->a≠e->D.nx b (upd (upd c e<|.ext<|phX C e<|some a) a<|.xd [(f,y)])
section
variable {X:Cx}{o value:Expr}{f:Str}{pos pos':Pos}{ta tv:TE}{C:Addr}
def C3 (c:T3 X.K C)(Q:W.takerIn X.K C f=some none)(Y:PE X o ta)(n:PE X value tv)(R:swapsWith value (some<|.Attribute o f pos') pos.line X.env=pure false):PS X (.Assign [.Attribute o f pos'] value pos) (sXF C ta tv f):=by
 intro j s l H D I h;refine plainObj_wpAny_Assign_Attribute (Q7 (n j s l H _ I h) ?_) R;rintro u G ⟨y,H1,I1,J,q⟩;refine Q7 (Y j G l H1 _ I1 q) ?_;rintro N k ⟨x,E,b,L,e,Z,B,M⟩;subst Z;obtain rfl:N=Value.ref e:=L;obtain⟨⟨ta,F,A⟩,_,_⟩:=b.hok e _ B;refine T9 b.kIn c.sa c.ov Q c.hd A fun h' t' P w T=>?_;have O:Mut (E e):=by rw[B];trivial
 have W:=b.write (h':=h') (t':=t') (o:=.ext (phX C e<|some k.heap.objs.size)) O Qa P ⟨_,w⟩ (Bw ⟨ta,F,w⟩);have d:k.heap.objs.size≠e:=(Xr<|Xj A).symm;have i:E k.heap.objs.size=none:=b.fresh;refine⟨l,_,W.track (a:=k.heap.objs.size) (o:=.xd [(f,y)]) (by rw[Qu d];exact i) b.sz (VY b.lt) (fun z c U m=>?_) (fun p S m=>?_) ⟨_,T,fun g=>?_⟩,M _ i d⟩
 .obtain⟨v,n⟩:=b.cell z c U
  subst m;obtain⟨oc,t,_⟩:=n;exact Xm (Xj t) (Yt _)
 .have:=(b.pin p S).1
  rw[m]at this;exact Xm (Xj this) (Yt _)
 .show ZO (List.lookup g [(f,y)]) (if g=f then some u else none)
  by_cases r:g=f
  .subst r;simp[List.lookup];exact J
  .rw[Xc r]
   have:(g==f)=false:=by simpa using r
   simp[List.lookup,this]
   trivial
end
def MT (C:Addr)(d:Sp)(E:XK)(t:TA):TE:=fun c H Q=>t c H fun a b=>a.length<=1000/\∀x,b x=none ->
 d (.ref x::a) (upd b x<|.ext<|phX C x none) (fun v e=>v=.non/\Q (.ref x) e) E
section
variable {X:Cx}{CX:CXT}{k:Nat}{f C Y:Addr}{fd:FuncData}{ps:Qh}{sp:Sp}{E:XK}{x:Str}{p pos:Pos}{e:Expr}{es:Qi}{t:TA}
def IK {j:Qc}{l:St}{H:Hp}{s:Shared}{Q:VK}{us:Qe}{vs:List V}(c:JW X.K Y C f)(F:FnOk X.prog X.w X.K X.mg X.base CX k f fd ps sp)(S:Room (k+1) X.A)(Z:Vj X.K fd ps [])
 (R:VV CX X E) (I:Qr X j l H s) (r:QP vs us) (hl:vs.length<=1000)
 (h:∀x,H x=none->sp (.ref x::vs) (upd H x<|.ext<|phX C x none) (fun v H2=>v=.non/\Q (.ref x) H2) E) :
 wpAny (model X.prog X.w) X.A (call (.ref C) us) (EP X j l Q) X.xe s:=by
 obtain⟨bmB,bm,nm,qn,N,bs,B,sn,D,ab,col,dd,k0,k1,k2,k3,k5,FB,T,hC,mN,fo,hN,U,W,w⟩:=c.cls _ I.kIn;have A:=h (s.heap.objs.size+1) (I.hok.fresh<|Nat.le_succ _);obtain⟨a,g,d,y,M⟩:=s;have P:∀b o,a.get? b=some o->(V0 a C us).get? b=some o:=fun b o e=>Xg _ (Xg _ e)
 have O:(V0 a C us).get? (a.objs.size+1)=some (Bx C a.objs.size):=by
  unfold V0;exact M6 (by rw[Ww]) rfl
 have m:Qr X j l (upd H (a.objs.size+1)<|.ext<|phX C (a.objs.size+1) none) ⟨V0 a C us,g,d,y,M⟩:=I.laid (t':=y) P (Nat.le_succ _) (Bw ⟨_,_,O⟩);have z:QP (V.ref (a.objs.size+1)::vs) (Value.ref (a.objs.size+1)::us):=.cons rfl r
 have q:(Value.ref (a.objs.size+1)::us++[]).length=ps.length:=by
  have e:=z.length;rw[F.len _ _ _ _ A]at e;simpa using e.symm
 refine Fe FB T hC hN U W w (by rw[<- r.length,sizeLine_eq];omega) ?_;have n:=F.run _ X.stack _ _ ⟨Value.ref (a.objs.size+1)::us,[]⟩ (Value.ref (a.objs.size+1)::us) _ _ E (S.make C us []) (m.env0.make C us []) (by simpa using Z _ (Value.ref (a.objs.size+1)::us) m.kIn q) z A;refine wpAny_call (codeAny_mono n fun r G i=>?_)
 cases r with
 |error e=>exact R j l _ _ e G m i
 |ok fl =>
   cases fl with
   |ret u =>
     obtain⟨v,H',I3,J,ev,L⟩:=m.after i;subst ev;exact⟨J,⟨V.ref<|a.objs.size+1,H',I3,rfl,L⟩⟩
   |next=>exact False.elim i
   |brk=>exact False.elim i
   |cont=>exact False.elim i
def Ax (c:JW X.K Y C f)(j:W.keepIn X.K (.ref C)=true)(F:FnOk X.prog X.w X.K X.mg X.base CX k f fd ps sp)(m:Room (k+1) X.A)(o:Gl X x)(n:X.mg x=some (.ref C))(v:Vj X.K fd ps [])(l:VV CX X E)
 (w:PA X (e::es) t) (b:(x==("__debug__" : Str))=false:=by decide) (u:starEach (e::es) X.env=(false,eval e X.env)::starEach es X.env:=by rfl) (a:(backTo pos<|starEach es X.env).any (·.1)=false:=by rfl) :
 PE X (.Call (.Name x p) (e::es) [] pos) (MT C sp E t):=by
 intro d s i H Q I h;refine wpAny_Call_Name_kw (Jg I o n ?_ b);refine W.callWith_K (h₀:=X.base) I.ok.mod.kin j (Q7 (w pos d s i H _ I h) ?_) u a;rintro z A ⟨y,B,g,r,q⟩;refine⟨g.kIn,?_⟩;exact IK c F m v l g r q.1 q.2
end
def sXR (C:Addr)(d:TE)(R:Addr->Qj->Hp->Prop):TS:=fun D c H=>d c H fun v b=>∃e a,v=.ref e/\b e=some (.ext<|phX C e a)/\R e a b
section
variable {M:Model}{A:Around}{E:Qb}{env:Env}
variable {nm q:Str}{C N:Addr}{bs bm:Qe}{hdct:Bool}{sn:Qh}{sub:Qe}{ab:Bool}{col:Option Bool}{dd:Qj}{k0 k1 k2 k3 k5:Qf}{newId:String}
def RX  (k:A.handled=none)
 (h:wpAny M A x (fun v c=>∃e t b i bm nm q N bs hdct sn sub ab col dd k0 k1 k2 k3 k5 newId,v=.ref e/\bm.contains (Value.type "BaseException")=true/\c.heap.get? C=some (excClassObj nm q C N bs bm hdct sn sub ab col dd k0 k1 k2 k3 k5 newId) /\
  c.heap.get? e=some { cls:=.ref C,dict:=b,data:=.fields #[.ref t,.none,.none,.none,.bool false,.none],slots:=i }/\E (.ref e) c) E s) :
 wpAny M A (raiseStmt env (some x) none) Q E s:=by
 unfold raiseStmt;refine Xa (wpAny_mono h (fun v c n=>?_) fun _ _ x=>x);obtain⟨e,t,b,i,bm,nm,q,N,bs,hdct,sn,sub,ab,col,dd,k0,k1,k2,k3,k5,newId,rfl,a,j,l,m⟩:=n;have f:(Value.ref C::bm).contains (.type "BaseException")=true:=by rw[List.contains_cons,a,Bool.or_true]
 obtain⟨r,g,d,o,p⟩:=c
 repeat (first|with_reducible refine wpAny_loadPart_at l ?_|with_reducible refine wpAny_loadPart_at j ?_|(with_reducible refine wpAny_isSubtype_exc j ?_;rw[f])|wp_step)
 exact wpAny_raiseNew_none k m
end
end L2
namespace L2
open PySem
section
variable {M:Model}{A:Around}{E:Qb}{s:Shared}
structure Leaves (l:List Env)(e:Addr)(oe:Obj)(h h':Heap)(T:Addr):Prop where
 keep:∀b o,b∉l.filterMap (·.frame)->b≠e->h.get? b=some o->h'.get? b=some o
 slot:∀b o,b∈l.filterMap (·.frame)->h.get? b=some o->∃sl,h'.get? b=some { o with slots:=sl }
 new:h.objs.size<=T
 exc:h'.get? e=some (Obj.mapFields (·.setIfInBounds 1 (Value.ref T)) oe)
 tb:∃oT ts,h'.get? T=some oT/\oT.data=.fields ts/\ts[3]?=some .none
def Pr
 (r:A.frames=some (env::outer)) (v:s.heap.FunFrames base (env::outer)) (J:env.frame=some L)
 (w:s.heap.get? e=some oe) (t:oe.data=.fields vs) (hsz:1<vs.size)
 (h:∀h' T,Leaves (env::outer) e oe s.heap h' T->Q () { s with heap:=h' }) :
 wpAny M A (do let a <- frameOf env;let pl <- entryPlaceOf L hadNext;let b <- EntryCells.newEntry head a .none (rawInt L) .none pl;setField (.ref e) 1 b) (fun _ G=>wpAny M A (setFlight (.ref e) none) Q E G) E s:=by
 have i:e∉(env::outer).filterMap (·.frame):=fun I=>by
  obtain⟨_,o,g,p⟩:=v.mem I;rw[w]at g;injection g with g;subst g;exact p vs t
 refine Xa (wpAny_frameOf_fun r v J fun c n=>?_);refine Xa (wpAny_entryPlaceOf fun pl l=>?_);unfold EntryCells.newEntry newFields;refine Xa (wpAny_newObj_type ?_<|l.sizeOk5 _ _ _ _ _);have D:c.get? e=some oe:=(n.2.1 e i).trans w;have C:=Xg (h:=c) { cls:=.type "traceback",dict:=none,data:=.fields ([head,.ref L,.none,rawInt L,.none]++(if pl.isEmpty then List.replicate 6 Value.none else pl)).toArray } D;refine wpAny_setField C t hsz ?_;have m:c.objs.size≠e:=VY (Xj D);have B:=Obj.data_mapFields t (·.setIfInBounds 1 (Value.ref c.objs.size));have z:=Wz (Obj.mapFields (·.setIfInBounds 1 (Value.ref c.objs.size))) C (Obj.isFreed_of_fields B)
 have y:=(XQ (c.push { cls:=.type "traceback",dict:=none,data:=.fields ([head,.ref L,.none,rawInt L,.none]++(if pl.isEmpty then List.replicate 6 Value.none else pl)).toArray })
  (Obj.mapFields (·.setIfInBounds 1 (Value.ref c.objs.size))) (Ne.symm m)).trans (Xz c rfl)
 unfold setFlight;refine Xa (YV z B (x:=.ref c.objs.size) (by simp[hsz]) ?_);rw[Xd (show(Value.ref c.objs.size != Value.none)=true from by simp)];refine wpAny_setField y rfl (by simp only[Xv,Xo,XN,List.length_nil]<;>omega) (h _ c.objs.size ?_)
 have d:∀b o,b≠e->c.get? b=some o ->
  (((c.push { cls:=.type "traceback",dict:=none,data:=.fields ([head,.ref L,.none,rawInt L,.none]++(if pl.isEmpty then List.replicate 6 Value.none else pl)).toArray }).update e (Obj.mapFields (·.setIfInBounds 1 (Value.ref c.objs.size)))).update c.objs.size
    (Obj.mapFields (·.setIfInBounds 3 ((none:Qj).elim Value.none fun f=>rawInt f)))).get? b=some o:=fun b o j k=>by
  have u:c.objs.size≠b:=VY (Xj k);rw[XQ _ _ u,XQ _ _<|Ne.symm j];exact Xg _ k
 refine⟨fun b o k j g=>d b o j<|(n.2.1 b k).trans g,fun b o k g=>?_,?_,?_,?_⟩
 .obtain⟨F,H⟩:=n.2.2 b o g
  exact⟨F,d b _ (fun q=>i<|q▸k) H⟩
 .exact Nat.le_of_eq n.1.symm
 .rw[XQ _ _ m];exact z
 .exact⟨_,_,Wz _ y<|Obj.isFreed_of_fields<|Obj.data_mapFields rfl _,Obj.data_mapFields rfl _,by first|(simp;done)|(rcases l with rfl|⟨_,_,_,_,_,_,_,rfl⟩<;>simp)⟩
def OO
 (a:A.frames=some (env::outer)) (g:s.heap.FunFrames base (env::outer)) (b:env.frame=some L)
 (c:s.heap.get? e=some oe) (d:oe.data=.fields vs) (f:vs[1]?=some .none)
 (h:∀h' T,Leaves (env::outer) e oe s.heap h' T->Q () { s with heap:=h' }):wpAny M A (leaving env<|.ref e) Q E s:=by
 unfold leaving noteFrame;simp only[b];refine Xa (Xa<|YV c d f ?_);rw[Xc<|by decide];exact Pr a g b c d (Array.getElem?_eq_some_iff.mp f).1 h
def Te {env:Env}
 (p:A.frames=some (env::outer)) (B:s.heap.FunFrames base (env::outer)) (t:env.frame=some L)
 (u:s.heap.get? e=some oe) (v:oe.data=.fields vs) (w:vs[1]?=some (.ref T0)) (C:T0≠e) (hT:s.heap.get? T0=some oT) (a:oT.data=.fields ts) (l:ts[3]?=some .none)
 (h:∀h' T,Leaves (env::outer) e oe s.heap h' T->Q () { s with heap:=h' }):wpAny M A (noteFrame (.ref e) env) (fun _ y=>wpAny M A (setFlight (.ref e) none) Q E y) E s:=by
 unfold noteFrame;simp only[t];refine Xa (YV u v w ?_);rw[Xd (show(Value.ref T0 != Value.none)=true from by simp)];refine Xa (YV hT a l ?_);rw[Xc (show ¬((Value.none==rawInt L)=true) from by simp[rawInt])];refine Xa (wpAny_setField hT a (Array.getElem?_eq_some_iff.mp l).1 ?_);have j:3<ts.size:=(Array.getElem?_eq_some_iff.mp l).1
 have g:Obj.mapFields (·.setIfInBounds 3 Value.none) oT=oT:=by
  obtain⟨c,d,F,D⟩:=oT
  subst a;have:ts.setIfInBounds 3 Value.none=ts:=by
   apply Array.ext_getElem?
   intro i;rw[Array.getElem?_setIfInBounds];by_cases r:3=i
   .subst r;rw[Xd rfl,Xd j,l]
   .rw[Xc r]
  unfold Obj.mapFields;simp[this]
 have f:∀b o,s.heap.get? b=some o->(s.heap.update T0<|Obj.mapFields (·.setIfInBounds 3 Value.none)).get? b=some o:=fun b o k=>by
  by_cases q:b=T0
  .subst q
   rw[hT]at k;cases k;rw[Wz _ hT<|Obj.isFreed_of_fields<|Obj.data_mapFields a _,g]
  .rw[XQ _ _<|Ne.symm q];exact k
 refine Pr (s:={ s with heap:=_ }) p (B.of_keeps fun b o k z=>⟨o,f b o k,rfl⟩) t (f e _ u) v (Array.getElem?_eq_some_iff.mp w).1 fun h' T Z=>h h' T ?_
 exact⟨fun b o n m x=>Z.keep b o n m<|f b o x,fun b o n m=>Z.slot b o n<|f b o m,by have:=Z.new;simpa only [Heap.size_update] using this,Z.exc,Z.tb⟩
def Os
 (a:A.frames=some (env::outer)) (d:s.heap.FunFrames base (env::outer)) (f:env.frame=some L)
 (g:s.heap.get? e=some oe) (i:oe.data=.fields vs) (k:vs[1]?=some (.ref T0)) (c:T0≠e) (hT:s.heap.get? T0=some oT) (b:oT.data=.fields ts) (j:ts[3]?=some .none)
 (h:∀h' T,Leaves (env::outer) e oe s.heap h' T->Q () { s with heap:=h' }):wpAny M A (leaving env<|.ref e) Q E s:=Xa (Te a d f g i k c hT b j h)
end
end L2
namespace L2
open PySem PySem.Spec PyProof.Rows
def phT (T:Addr):Heap->Prop:=fun h=>∃b a,h.get? T=some b/\b.data=.fields a/\a[3]?=some .none
def phF (C e:Addr)(b:Qj)(T:Addr):Heap->Prop:=fun h=>∃(a:Array Value) (c:Array (Qf)),h.get? e=some { cls:=.ref C,dict:=b,data:=.fields a,slots:=c }/\a[1]?=some (.ref T)/\a[2]?=some .none
def LW   (p:phT T h):ZA P w H h T (.ext<|phT T):=⟨p,by obtain⟨o,_,q,_⟩:=p;exact⟨_,q⟩,fun d c b k=>by obtain⟨o,a,q,r⟩:=b;exact⟨o,a,k _ q,r⟩⟩
def LX    (p:phF C e dct T h):ZA P w H h e (.ext<|phF C e dct T):=⟨p,by obtain⟨o,_,q,_⟩:=p;exact⟨_,q⟩,fun d c b k=>by obtain⟨o,a,q,r⟩:=b;exact⟨o,a,k _ q,r⟩⟩
abbrev left (C e:Addr)(dct:Qj)(T:Addr)(H:Hp):Hp:=upd (upd H e<|.ext<|phF C e dct T) T (.ext<|phT T)
section
variable {X:Cx}{Xa0:Qc}{σ:St}{H:Hp}{s:Shared}
def Kd   (I:Qr X Xa0 σ H s)(r:Mut (H e))
 (F:s.heap.get? e=some { cls:=.ref C,dict:=dct,data:=.fields vs,slots:=D }) (hsz:1<vs.size) (A:vs[2]?=some .none)
 (Z:Leaves X.stack e { cls:=.ref C,dict:=dct,data:=.fields vs,slots:=D } s.heap h' T):Qr X Xa0 σ (left C e dct T H) { s with heap:=h' }:=by
 have G:T≠e:=VY (Xp (Xj F) Z.new);have h:∀b,H b=none->b≠e:=fun b a q=>by subst q;rw[a]at r;exact r
 have y:∀b o,H b=some o->b≠T:=fun b o a=>Xr (Xp (I.hok.lt a) Z.new)
 have i:∀b o,H b=some o->b≠e->left C e dct T H b=some o:=fun b o a q=>by
  unfold left;rw[Qu<|y b o a,Qu q];exact a
 have k:∀b o,H b=some o->b∉frs X.stack:=fun b o a q=>by rw[I.stkFree b q]at a;cases a
 have f:∀b o,H b=some o->¬Mut (some o)->b≠e:=fun b o a n q=>by subst q;rw[a]at r;exact n r
 have U:Un (frs X.stack) [] H (left C e dct T H) s.heap h' :=
  { keep:=fun b o j a m _=>Z.keep b o m (h b a) j
    slot:=fun b o j a m _=>Z.slot b o m j
    free:=fun b o j a _=>by
     unfold left;rw[Qu<|Xr<|Xp (Xj j) Z.new,Qu<|h b a];exact a
    there:=fun b o j _=>by
     by_cases m:b∈frs X.stack
     .obtain⟨D,z⟩:=Z.slot b o m j;exact⟨_,z⟩
     .by_cases q:b=e
      .subst q;exact⟨_,Z.exc⟩
      .exact⟨_,Z.keep b o m q j⟩
    tups:=fun b B a=>i b _ a (f b _ a fun z=>z)
    frzs:=fun b o u a=>i b _ a (f b _ a fun z=>z)
    tupo:=fun b B o a j _=>Z.keep b o (k b _ a) (f b _ a fun z=>z) j
    tbls:=fun b J a=>⟨#[],by rw[i b _ a<|f b _ a fun z=>z];simp⟩ }
 have x:HOk X.prog X.w (left C e dct T H) h':=fun b u a=>by
  by_cases q:b=T
  .subst q
   unfold left at a;rw[QC]at a;cases a;exact LW Z.tb
  .by_cases w:b=e
   .subst w
    unfold left at a;rw[Qu q,QC]at a;cases a;exact LX ⟨_,_,Z.exc,by simp[hsz],by rw[Array.getElem?_setIfInBounds_ne<|by decide];exact A⟩
   .have p:H b=some u:=by unfold left at a;rw[Qu q,Qu w]at a;exact a
    refine(I.hok b u p).stay (fun c v l E=>?_) (fun c l=>?_) fun c B l=>?_
    .rcases l with z|z
     .subst z;exact Z.keep c v (k c _ p) w E
     .exact Z.keep c v (k c _ z) (f c _ z fun z=>z) E
    .exact i c _ l (f c _ l fun z=>z)
    .exact i c _ l (f c _ l fun z=>z)
 obtain⟨M,g,d,t,L⟩:=s;exact I.call (h':=h') (g':=g) (d':=d) (t':=t) (ch:=[]) U x I.bare<|by rintro b ⟨⟩
end
def Fly (C e:Addr)(a:Qj)(H:Hp):Prop := ∃T,T≠e/\H e=some (.ext<|phF C e a T)/\H T=some (.ext<|phT T)
def XE (C:Addr)(R:Addr->Qj->Hp->Prop):XK:=fun v a H=>∃e,v=.ref e/\Fly C e a H/\R e a H
def CX1 (P:Program)(w:World):CXT:=fun a H s E v b=>∃c d,b.os=s.os/\AllBare b.gens/\Un (frs a) [] H d s.heap b.heap/\HOk P w d b.heap/\E v c d
def ZV (C:Addr)(R:Addr->Qj->Hp->Prop):Prop := ∀e a H T,R e a H->H T=none->T≠e->R e a (left C e a T H)
section
variable {P:Program}{w:World}{K:W.Frag}{mg:Str->Qf}{base:Heap}{N:Qh}{qual:Str}{scope:Scope}{f:Addr}{cd:Value}{A:Around}{outer:List Env}{s0:Shared}{H0:Hp}{C:Addr}{R:Addr->Qj->Hp->Prop}
abbrev cx1 (P:Program)(w:World)(K:W.Frag)(mg:Str->Qf)(base:Heap)(N:Qh)(qual:Str)(scope:Scope)(f:Addr)(cd:Value)(A:Around)(outer:List Env)(s0:Shared)(H0:Hp)(E:XK):Cx:=Vo (CX1 P w) P w K mg base N qual scope f cd A outer s0 H0 E
variable {Xa0:Qc}{σ:St}{H:Hp}{s:Shared}
def CG  (h:T≠e):Fly C e dct (left C e dct T H):=⟨T,h,by unfold left;rw[Qu<|Ne.symm h,QC],by unfold left;rw[QC]⟩
def Rj   (b:ZV C R)(I:Qr (cx1 P w K mg base N qual scope f cd A outer s0 H0<|XE C R) Xa0 σ (left C e dct T H) { s with heap:=h' })(hT:H T=none)(a:T≠e)(r:R e dct H) :
 CX1 P w outer H0 s0 (XE C R) (.ref e) { s with heap:=h' }:=⟨dct,_,I.os,I.bare,I.base,I.hok,e,rfl,CG a,b e dct H T r hT a⟩
def SB  (c:ZV C R)(I:Qr (cx1 P w K mg base N qual scope f cd A outer s0 H0<|XE C R) Xa0 σ H s)(b:H e=some (.ext<|phX C e dct))(r:R e dct H) :
 (cx1 P w K mg base N qual scope f cd A outer s0 H0<|XE C R).xe (.ref e) s:=by
 obtain⟨⟨t,d,a⟩,_,_⟩:=I.hok e _ b;refine OO I.ok.frames I.stack rfl a rfl rfl fun g T Z=>?_;exact Rj c (Kd I (by rw[b];trivial) a (by simp) rfl Z) (I.hok.fresh Z.new) (VY<|Xp (Xj a) Z.new) r
def Gc (B:ZV C R):VV (CX1 P w) (cx1 P w K mg base N qual scope f cd A outer s0 H0<|XE C R) (XE C R):=by
 intro Xa0 σ H s v u I h;obtain⟨F,Q,x,c,q,l,e,rfl,⟨G,m,o,hT⟩,r⟩:=h;obtain⟨y,g,d,t,i⟩:=u;obtain rfl:i=s.os:=x;have a:=I.call (h':=y) (g':=g) (d':=d) (t':=t) (ch:=[]) q l c (by rintro b ⟨⟩);obtain⟨⟨J,M,k,p,n⟩,_,_⟩:=a.hok e _ o;obtain⟨⟨O,L,j,E,D⟩,_,_⟩:=a.hok G _ hT;refine Os a.ok.frames a.stack rfl k rfl p m j E D fun h' T Z=>?_;exact Rj B (Kd a (by rw[o];trivial) k (Array.getElem?_eq_some_iff.mp p).1 n Z) (a.hok.fresh Z.new) (VY<|Xp (Xj k) Z.new) r
end
section
variable {X:Cx}{C Y f:Addr}{e:Expr}{te:TE}{pos:Pos}{R:Addr->Qj->Hp->Prop}
def AH (c:JW X.K Y C f)(i:X.calm=true)(J:PE X e te)(G:∀d j H s a b,Qr X d j H s->H a=some (.ext<|phX C a b)->R a b H->X.xe (.ref a) s):PS X (.Raise (some e) none pos) (sXR C te R):=by
 intro d s j H D I h;rw[arm_exec_Raise];simp only[evalOpt,Option.map];refine Xa (wpAny_standAt<|RX (C:=C) (I.ok.hd i)<|Xa<|Q7 (J d s j H _ I h) ?_);rintro u Z ⟨v,H1,n,r,a,b,M,o,q⟩;refine Xa<|wpAny_standAt<|Xk ?_;subst M;obtain rfl:u=Value.ref a:=r;obtain⟨⟨t,w,l⟩,_,_⟩:=n.hok a _ o;obtain⟨Q,S,y,x,N,P,g,p,k,U,m,O,F,E,B,A,z,W,T,L,_⟩:=c.cls _ n.kIn
 exact⟨a,t,b,w,S,y,x,N,P,g,p,k,U,m,O,F,E,B,A,z,_,rfl,T.hasType W.hasBase,L,l,G _ _ _ _ _ _ n o q⟩
end
inductive Lefts (C e:Addr)(dct:Qj):Hp->Hp->Prop
 |nil {H}:Lefts C e dct H H
 |step {H H' T}:Lefts C e dct H H'->H' T=none->T≠e->Lefts C e dct H (left C e dct T H')
def Lefts.head   (hT:H T=none)(d:T≠e)(h:Lefts C e dct (left C e dct T H) H'):Lefts C e dct H H':=by
 induction h with
 |nil=>exact .step .nil hT d
 |step _ a b c=>exact .step c a b
abbrev WK (X:Cx)(e:Addr)(pn:Qc):Cx:={ X with pn:=pn,A:=X.A.mark (some<|.ref e),calm:=false,xe:=fun _ _=>False }
section
variable {X:Cx}{Xa0:Qc}{σ:St}{H:Hp}{s:Shared}{D:Ends}
def Qr.toPn (I:Qr X Xa0 σ H s):Qr { X with pn:=X.pn++Xa0 } [] σ H s :=
 ⟨⟨I.ok.mod,I.ok.kind,I.ok.glob,I.ok.blt,I.ok.above,I.ok.inj,I.ok.has,I.ok.cab,I.ok.hd,I.ok.frames,I.ok.stk,I.ok.exf,I.ok.bs,I.ok.bsz,I.ok.noex,I.ok.exfs,I.ok.funs,I.ok.frf⟩,I.os,I.bare,I.base,I.loc,I.cell,I.free,I.freeC,fun p a=>I.pin p<|by simpa using a,I.hok,I.len⟩
def Qr.ofPn (I:Qr { X with pn:=X.pn++Xa0 } pins' σ H s):Qr X Xa0 σ H s :=
 ⟨⟨I.ok.mod,I.ok.kind,I.ok.glob,I.ok.blt,I.ok.above,I.ok.inj,I.ok.has,I.ok.cab,I.ok.hd,I.ok.frames,I.ok.stk,I.ok.exf,I.ok.bs,I.ok.bsz,I.ok.noex,I.ok.exfs,I.ok.funs,I.ok.frf⟩,I.os,I.bare,I.base,I.loc,I.cell,I.free,I.freeC,fun p a=>I.pin p<|UK _ a,I.hok,I.len⟩
def Qr.toHandler  (I:Qr { X with pn:=pn } Xa0 σ H s):Qr (WK X e pn) Xa0 σ H s :=
 ⟨⟨I.ok.mod,I.ok.kind,I.ok.glob,I.ok.blt,I.ok.above,I.ok.inj,I.ok.has,I.ok.cab,(fun z=>by cases z),I.ok.frames,I.ok.stk,I.ok.exf,I.ok.bs,I.ok.bsz,I.ok.noex,I.ok.exfs,I.ok.funs,I.ok.frf⟩,I.os,I.bare,I.base,I.loc,I.cell,I.free,I.freeC,I.pin,I.hok,I.len⟩
def Qr.ofHandler  (a:X.Ok)(I:Qr (WK X e pn) Xa0 σ H s):Qr { X with pn:=pn } Xa0 σ H s :=
 ⟨⟨I.ok.mod,I.ok.kind,I.ok.glob,I.ok.blt,I.ok.above,I.ok.inj,I.ok.has,I.ok.cab,a.hd,a.frames,I.ok.stk,I.ok.exf,I.ok.bs,I.ok.bsz,I.ok.noex,I.ok.exfs,I.ok.funs,I.ok.frf⟩,I.os,I.bare,I.base,I.loc,I.cell,I.free,I.freeC,I.pin,I.hok,I.len⟩
def SP.ofPn   (h:SP { X with pn:=X.pn++Xa0,xe:=E } pins' D f s'):SP X Xa0 D f s':=by
 have o:∀{a b},Qr { X with pn:=X.pn++Xa0,xe:=E } pins' a b s'->Qr X Xa0 a b s':=fun I=>Qr.ofPn (I.unwish (X:={ X with pn:=X.pn++Xa0 }))
 cases f with
 |next=>obtain⟨a,b,I,q⟩:=h;exact⟨a,b,o I,q⟩
 |brk=>obtain⟨a,b,I,q⟩:=h;exact⟨a,b,o I,q⟩
 |cont=>obtain⟨a,b,I,q⟩:=h;exact⟨a,b,o I,q⟩
 |ret u=>obtain⟨v,a,b,I,r,q⟩:=h;exact⟨v,a,b,o I,r,q⟩
end
def OK    (u:phF C e dct T s.heap)(hT:phT T s.heap)
 (h:∀h',(∀b o,s.heap.get? b=some o->h'.get? b=some o)->Q () { s with heap:=h' }):wpAny M A (setFlight (.ref e) none) Q E s:=by
 obtain⟨w,r,t,v,_⟩:=u;obtain⟨l,k,f,g,p⟩:=hT;have a:3<k.size:=(Array.getElem?_eq_some_iff.mp p).1
 have j:Obj.mapFields (·.setIfInBounds 3 Value.none) l=l:=by
  obtain⟨c,d,x,r⟩:=l
  subst g;have:k.setIfInBounds 3 Value.none=k:=by
   apply Array.ext_getElem?
   intro i;rw[Array.getElem?_setIfInBounds];by_cases n:3=i
   .subst n;rw[Xd rfl,Xd a,p]
   .rw[Xc n]
  unfold Obj.mapFields;simp[this]
 refine wpAny_setFlight_none t rfl v f g a (h _ fun b o m=>?_)
 by_cases q:b=T
 .subst q
  rw[f]at m;cases m;rw[Wz _ f<|Obj.isFreed_of_fields<|Obj.data_mapFields g _,j]
 .rw[XQ _ _<|Ne.symm q];exact m
def GW (b:Ends->TS):TS:=fun D a H=>b D D a H
end L2
namespace L2
open PySem PySem.Spec PyProof.Rows PySem.W
abbrev GR:Qe:=[.type "ValueError",.type "Exception",.type "BaseException",.type "object"]
def Oe {K:Frag}{h:Heap}{N:Addr}{a:Str->Qf}{n:Str}{v:Value}(X:K.In h)(G:h.Ns N a)(e:nsIn K N n=some (some v)):a n=some v:=by
 obtain⟨o,m,p,b,i,_,f⟩:=G;unfold nsIn at e;split at e
 .rename_i c d j l k q
  have:=X _ _ q
  rw[b]at this;cases this
  cases i
  split at e
  .rename_i g
   cases e
   rw[<- f];unfold nsFind findBy;rw[<- Array.find?_toList,g];rfl
  .split at e<;>cases e
 .cases e
def DF (K:Frag)(C f:Addr):Bool:=match K.lookup C with
 |some ⟨.type "type",_,.cls a,b⟩=>(match a.mro,b.toList with
   |.ref d::c,[_,_,_,_,some<|.builtin n,_]=>d==C&&n == "ValueError.__new__" && !a.hasDel&&tailIn K GR c&&nsOkIn K a.ns&&nsIn K a.ns "__init__" == some (some<|.ref f)
   |_,_=>false)
 |_=>false
theorem Fh {K:Frag} {d:Obj} (q:DF K C f=true) (u:K.lookup f=some d) (x:d.cls=.type "function")
 (ga:specialIn K (.ref Y) "__getattribute__"=some (some<|.builtin "type.__getattribute__")) (rd:readsIn K Y (.type "type")=true) (ini:findCls K (.ref Y) (.type "type") "__init__"=some (.val<|.builtin "ValueError.__init__")):JW K Y C f where
 ga:=ga
 rd:=rd
 ini:=ini
 cls:=fun h X=>by
  unfold DF at q;split at q
  .rename_i z A g w
   split at q
   .rename_i E B k k1 k2 j n i o m
    simp only[YZ,beq_iff_eq,Bool.not_eq_true']at q;obtain⟨⟨⟨⟨⟨rfl,rfl⟩,a⟩,v⟩,hok⟩,b⟩:=q;obtain⟨s,bs,t,ns,r,hd,p,sub,D,e,y⟩:=A
    dsimp only at o a hok b;subst o a;have c:g=#[k,k1,k2,j,some<|.builtin "ValueError.__new__",i]:=by
     obtain⟨l⟩:=g
     simp only at m
     rw[m]
    subst c;have G:h.Ns ns _:=.of_isNs (isNs_of_in X hok)
    exact⟨GR,B,s,r,ns,bs,hd,p,sub,D,e,z,k,k1,k2,j,i,PySem.F.excBase_ValueError,tail_of_in X v,X _ _ w,_,d,G,Oe X G b,X _ _ u,x⟩
   .cases q
  .cases q
end L2
namespace L2
open PySem PySem.Spec PyProof.Rows
def Jx (P:Program)(w:World)(K:W.Frag)(a:Str->Qf)(base:Heap)(x:Str)(ps:Qh)(k:Nat)(c:Sp):Prop :=
 ∃f b,a x=some (.ref f)/\W.keepIn K (.ref f)=true/\Vj K b ps []/\FnOk P w K a base (CX1 P w) k f b ps c
section
variable {P:Program}{w:World}{K:W.Frag}{mg:Str->Qf}{base:Heap}
def Fun.okX {x b:Str}{st:Stmt}{f:Addr}{j:FuncData}{N ps:Qh}{k:Nat}{d:Sp}(F:Fun K x b st f j)(S:Qp N ps (Q2 st))(e:∀vs H Q E,d vs H Q E->vs.length=ps.length)
 (i:∀(c:Value) (A:Around) (a:List Env) (s:Shared) (H:Hp) (vs:List V) (Q:VK) (E:XK),Room k (A.deeper<|envOfC b (Q2 st) s.heap.objs.size f c)->d vs H Q E ->
  ∃t,PSs (cx1 P w K mg base N b (Q2 st) f c A a s H E) (Z7 st) t/\t { nx:=fun _ p=>Q .non p,rt:=Q } (start N vs) H):FnOk P w K mg base (CX1 P w) (k+1) f j ps d:=by
 obtain⟨u,r,kV,o,q,y,c,v,l,rfl,m,h⟩:=F.ex;exact NV m h S e fun A a s H vs Q E n g=>i c A a s H vs Q E n g
def Df.calX {x:Str}{st:Stmt}{N ps:Qh}{k:Nat}{c:Sp}(D:Df K mg x st ps)(S:Qp N ps (Q2 st))(d:∀vs H Q E,c vs H Q E->vs.length=ps.length)
 (e:∀(f:Addr) (b:Value) (A:Around) (a:List Env) (s:Shared) (H:Hp) (vs:List V) (Q:VK) (E:XK),Room k (A.deeper<|envOfC x (Q2 st) s.heap.objs.size f b)->c vs H Q E ->
  ∃t,PSs (cx1 P w K mg base N x (Q2 st) f b A a s H E) (Z7 st) t/\t { nx:=fun _ m=>Q .non m,rt:=Q } (start N vs) H):Jx P w K mg base x ps (k+1) c:=by
 obtain⟨f,l,F,i,j⟩:=D.ex
 exact⟨f,l,i,F.kp,j,F.okX S d fun b A a s H vs Q E g h=>e f b A a s H vs Q E g h⟩
end
section
variable {X:Cx}
def BD {x:Str}{p a:Pos}{e:Expr}{es:Qi}{t:TA}{ps:Qh}{j k:Nat}{d:Sp}{E:XK}(C:Jx X.prog X.w X.K X.mg X.base x ps j d)(h:Room k X.A)(g:VV (CX1 X.prog X.w) X E)(r:PA X (e::es) t)(m:j<=k:=by walk_at"j")(n:Gl X x:=by rfl)
 (c:(x==("__debug__" : Str))=false:=by decide +kernel)
 (o:starEach (e::es) X.env=(false,eval e X.env)::starEach es X.env:=by rfl) (b:(backTo a<|starEach es X.env).any (·.1)=false:=by rfl):PE X (.Call (.Name x p) (e::es) [] a) (VH d [] E t):=by
 obtain⟨f,s,i,l,q,F⟩:=C;exact RU F (h.mono m) n i l q .nil g r c o b
end
def G3 (K:W.Frag)(C:Addr)(f:Str):Sp:=fun c H Q _=>∃(e p:Addr) (b:List V),c=[.ref e,.ref p]/\H e=some (.ext<|phX C e none)/\SqL K H p b /\
 ∀q a,H q=none->H a=none->a≠q->a≠e->q≠e->Q .non (upd (upd (upd H q<|.lst b) e<|.ext<|phX C e<|some a) a<|.xd [(f,.ref q)])
def Ah {K:W.Frag}{C:Addr}{f:Str}{n:Nat}{vs:List V}{H:Hp}{Q:VK}{E:XK}(h:G3 K C f vs H Q E) :
 Yz (Vq<|tXI C 0) (sXF C (QB 0) (tCB (DZ K)<|QE (QB 1) QQ) f) { nx:=fun _ o=>Q .non o,rt:=Q } (vs.map some++List.replicate n none) H:=by
 obtain⟨e,p,k,rfl,g,m,l⟩:=h;refine⟨e,none,rfl,g,?_⟩;refine⟨.ref p,rfl,?_⟩;refine⟨p,k,rfl,.inl m,fun q b=>?_⟩;have c:q≠e:=fun z=>by subst z;rw[g]at b;cases b
 refine⟨.ref e,rfl,e,rfl,by rw[Qu<|Ne.symm c];exact g,fun j a i=>?_⟩;have d:j≠q:=fun z=>by subst z;rw[QC]at a;cases a
 exact l q j b (by rw[Qu d]at a;exact a) d i c
structure FldL (f:Str)(e:Addr)(F H H0:Hp)(ds:Qd)(dx q:Addr)(xs:List V):Prop where
 hd:H dx=some (.xd [(f,.ref q)])
 hq:H q=some (.lst xs)
 fq:F q=none
 rp:Qx F xs ds
 nd:dx≠e
 nq:q≠e
 dq:dx≠q
 fe:F e=none
 fd:F dx=none
 q0:H0 q=none
 d0:H0 dx=none
def Fld (f:Str)(e:Addr)(F H H0:Hp)(a:Qj)(ds:Qd):Prop := ∃b q c,a=some b/\FldL f e F H H0 ds b q c
def Fld.back   (h:Fld f e F H H1 dct ds)(s:Q3 H0 H1):Fld f e F H H0 dct ds:=by
 obtain⟨d,q,c,a,b⟩:=h
 exact⟨d,q,c,a,b.hd,b.hq,b.fq,b.rp,b.nd,b.nq,b.dq,b.fe,b.fd,s.free b.q0,s.free b.d0⟩
def VN (K:W.Frag)(C:Addr){j:Type}(n:Addr->Hp->Hp->Hp->Qj->j->Prop)(R:List OT->(OT->Prop)->Prop)(m:List OT->(j->Prop)->Prop):Sp:=fun l H Q E=>∃F h,KTs K F/\Q3 F H/\Args K F l h/\∃i,E=XE C i/\ZV C i /\
 ((∃k,R h k/\∀g b v p r,k r->Qy F H g b->(∀a∈p,H a=none)->Zp K g b v r p->Q v b)\/(∃c,m h c/\∀g b e f d,c d->Qy F H g b->H e=none->n e g b H f d->i e f b))
abbrev spX (K:W.Frag)(C:Addr)(f:Str)(R:List OT->(OT->Prop)->Prop)(Rx:List OT->(Qd->Prop)->Prop):Sp:=VN K C (Fld f) R Rx
def EvZ (K:W.Frag)(F0 H0:Hp)(t:TS)(ρ:Q9):Prop := ∀(F:Hp) (a:St) (H:Hp) (E:Ends),Qy F0 H0 F H->QA K H0 F ρ a H->t E a H
section
variable {P:Program}{w:World}{K:W.Frag}{mg:Str->Qf}{base:Heap}
def U8 {ps:Qh}  (k:KTs K F)(g:Q3 F H)(d:Args K F vs ts)(o:ts.length<=N.length):QA K H F (ts.map some++List.replicate (N.length-ts.length) none) (start N vs) H:=by
 refine⟨k,g,?_,fun _=>[],fun i f e=>?_,fun i j a h=>(nomatch h),fun i a h=>(nomatch h)⟩
 .unfold start
  simp[d.length]
 .have b:i<ts.length:=by
   by_cases z:i<ts.length
   .exact z
   .rw[X0<|by simpa using z]at e
    have:=List.mem_of_getElem? e
    simp at this
  rw[XG<|by simpa using b,Xt]at e;have n:ts[i]?=some f:=by
   cases z:ts[i]? with
   |none=>rw[z]at e;simp at e
   |some w=>rw[z]at e;simp at e;rw[e]
  obtain⟨v,m,l⟩:=d.get (H:=H) i f n;refine⟨v,?_,l⟩;unfold start;have c:i<vs.length:=by rw[d.length];exact b
  rw[XG<|by simpa using c,Xt,m];rfl
def Df.evZ {x:Str}{st:Stmt}{N ps:Qh}{k:Nat}{C:Addr}{G:Type}{X:Addr->Hp->Hp->Hp->Qj->G->Prop}{R:List OT->(OT->Prop)->Prop}{O:List OT->(G->Prop)->Prop}(D:Df K mg x st ps)(S:Qp N ps (Q2 st))(l:∀ts Φ,R ts Φ->ts.length=ps.length)(h:∀ts Φ,O ts Φ->ts.length=ps.length)
 (n:ps.length<=N.length)
 (m:∀(f:Addr) (b:Value) (A:Around) (a:List Env) (s:Shared) (H:Hp) RR (ts:List OT) (Φ:OT->Prop),Room k (A.deeper<|envOfC x (Q2 st) s.heap.objs.size f b)->ZV C RR->R ts Φ ->
  ∃t,PSs (cx1 P w K mg base N x (Q2 st) f b A a s H<|XE C RR) (Z7 st) t/\Q0 K t (ts.map some++List.replicate (N.length-ts.length) none) { nx:=fun _=>Φ<|.fz .none,rt:=Φ })
 (o:∀(f:Addr) (b:Value) (A:Around) (a:List Env) (s:Shared) (F H:Hp) RR (ts:List OT) (c:G->Prop),Room k (A.deeper<|envOfC x (Q2 st) s.heap.objs.size f b)->ZV C RR->(∀j i e y d,c d->Qy F H j i->H e=none->X e j i H y d->RR e y i)->O ts c ->
  ∃t,PSs (cx1 P w K mg base N x (Q2 st) f b A a s H<|XE C RR) (Z7 st) t/\EvZ K F H t (ts.map some++List.replicate (N.length-ts.length) none)) :
 Jx P w K mg base x ps (k+1) (VN K C X R O):=by
 refine D.calX S (fun J H Q E ⟨F,ts,_,_,u,RR,_,_,q⟩=>?_) fun f b A a s H J Q E U ⟨F,ts,T,B,u,RR,eE,st,q⟩=>?_
 .rcases q with ⟨r,g,_⟩|⟨r,g,_⟩
  .exact u.length.trans (l ts r g)
  .exact u.length.trans (h ts r g)
 .subst eE
  rcases q with ⟨Φ,g,q⟩|⟨c,g,q⟩
  .obtain⟨t,M,L⟩:=m f b A a s H RR ts Φ U st g
   refine⟨t,M,L F H F (start N J) H _ (Qy.refl B) (U8 (ps:=ps) T B u<|by rw[l ts Φ g];exact n) ⟨fun j Y i Z I _ e=>?_,fun j i v r' p I hp ok e=>?_,fun _ _ _ _ _ _ z=>False.elim z,fun _ _ _ _ _ _ z=>False.elim z⟩⟩
   .exact q j i _ [] _ e I (by rintro _ ⟨⟩) ⟨rfl,.non⟩
   .exact q j i v p r' e I hp ok
  .obtain⟨t,M,L⟩:=o f b A a s F H RR ts c U st q g
   exact⟨t,M,L F (start N J) H _ (Qy.refl B)<|U8 (ps:=ps) T B u<|by rw[h ts c g];exact n⟩
end
section
variable {K:W.Frag}{ρ:Q9}{ta:TE}{C:Addr}{f:Str}{F0 H0:Hp}{RR:Addr->Qj->Hp->Prop}{ds:Qd}{E:XK}
def AT {r:Qd->Prop}(h:Qs K ta ρ (.list ds))(hd:r ds)(Z:∀P L e w d,r d->Qy F0 H0 P L->H0 e=none->Fld f e P L H0 w d->RR e w L):EvZ K F0 H0 (sXR C (MT C (G3 K C f) E<|QE ta QQ) RR) ρ:=by
 intro F Q H D x S;refine h H0 F Q H _ S fun M p v A R=>⟨by simp,fun e y=>?_⟩
 cases R with
 |@lst a i _ U T =>
 have J:p a=some (.lst i):=A.fh a _ U;have I:a≠e:=fun z=>by subst z;rw[y]at J;cases J
 refine⟨e,a,i,rfl,QC,SqL.of<|by rw[Qu I];exact J,fun q c s u t l j=>⟨rfl,e,some c,rfl,?_,?_⟩⟩
 .rw[Qu<|Ne.symm l,QC]
 .have k:p q=none:=by rw[Qu j]at s;exact s
  have m:p c=none:=by rw[Qu l]at u;exact u
  have G:M q=none:=A.fh.free k
  have N:Q3 p (upd (upd (upd (upd p e<|.ext<|phX C e none) q<|.lst i) e<|.ext<|phX C e<|some c) c<|.xd [(f,.ref q)]):=fun b o g=>by
   have O:b≠e:=fun z=>by subst z;rw[y]at g;cases g
   have Y:b≠q:=fun z=>by subst z;rw[k]at g;cases g
   have X:b≠c:=fun z=>by subst z;rw[m]at g;cases g
   rw[Qu X,Qu O,Qu Y,Qu O];exact g
  have n:=x.trans A
  have B:upd (upd (upd (upd p e<|.ext<|phX C e none) q<|.lst i) e<|.ext<|phX C e<|some c) c (.xd [(f,.ref q)]) q=some (.lst i):=by
   rw[Qu<|Ne.symm t,Qu j,QC]
  have X2:Qy F0 H0 M (upd (upd (upd (upd p e<|.ext<|phX C e none) q<|.lst i) e<|.ext<|phX C e<|some c) c<|.xd [(f,.ref q)]):=n.trans ⟨N,Q3.refl _,n.fh.trans N,fun b g=>.inl g⟩;exact Z M _ e (some c) ds hd X2 (n.hh.free y) ⟨c,q,i,rfl,QC,B,G,T,l,j,t,n.fh.free y,n.fh.free m,n.hh.free k,n.hh.free m⟩
def Lh (M:Q9->Prop)(h:Q0 K t ρ { nx:=M,rt:=fun _=>False })(g:∀a,M a->EvZ K F0 H0 u a):EvZ K F0 H0 (Yz t u) ρ:=fun F c H E x S =>
 h F0 H0 F c H _ x S ⟨fun k b j a d i e=>g a e k b j E d i,fun _ _ _ _ _ _ _ _ z=>z.elim,fun _ _ _ _ _ _ z=>False.elim z,fun _ _ _ _ _ _ z=>False.elim z⟩
def T8 (i:Nat)(e:ρ[i]?=some (some<|.ol ds))(h:EvZ K F0 H0 t (ρ.set i<|some<|.fz<|.list ds)):EvZ K F0 H0 t ρ:=fun F b H E x S=>by
 obtain⟨a,k,g,d,c,_,_,j⟩:=S.freeze e;exact h _ b H E (x.freeze g d c) j
def D8  (h:Q0 K t ρ { nx:=fun a=>a=ρ1,rt:=fun _=>False })(g:EvZ K F0 H0 u ρ1):EvZ K F0 H0 (Yz t u) ρ:=fun F c H E x S =>
 h F0 H0 F c H _ x S ⟨fun k b j a d i e=>by subst e;exact g k b j E d i,fun _ _ _ _ _ _ _ _ z=>z.elim,fun _ _ _ _ _ _ z=>False.elim z,fun _ _ _ _ _ _ z=>False.elim z⟩
def Bh (h:EvZ K F0 H0 t ρ):EvZ K F0 H0 (Yz t u) ρ:=fun F a H E x S=>h F a H _ x S
def Du  (h:Zk K tA ρ b)(i:b=true->EvZ K F0 H0 t ρ)(g:b=false->EvZ K F0 H0 u ρ):EvZ K F0 H0 (MW tA t u) ρ:=fun F c H E x S =>
 h H0 F c H _ S fun e d a=>by
  cases b with
  |true=>rw[Xd rfl];exact i rfl e c d E (x.trans a) (S.ext a)
  |false=>rw[Xc<|by decide];exact g rfl e c d E (x.trans a) (S.ext a)
def A8    (o:Zz K t ρ ts)(n:Rx ts Φx)(st:ZV C RR)(j:∀g c e a d,Φx d->Qy F0 H0 g c->H0 e=none->Fld f e g c H0 a d->RR e a c)  (x:Qy F0 H0 F H)(S:QA K H9 F ρ σ H) :
 VH (spX K C f R Rx) [] (XE C RR) t σ H Q:=o H9 F σ H _ S fun p r q b i =>
 ⟨p,ts,(S.ext b).kt,b.fh,by rw[XF];exact i,RR,rfl,st,.inr ⟨Φx,n,fun g c e a d m h l k=>j g c e a d m ((x.trans b).trans h) ((x.trans b).hh.free l)<|k.back (x.trans b).hh⟩⟩
def C5   (i:Zz K t ρ ts)(h:Rx ts Φx)(st:ZV C RR)(g:∀c b e a d,Φx d->Qy F0 H0 c b->H0 e=none->Fld f e c b H0 a d->RR e a b) :
 EvZ K F0 H0 (Vq<|VH (spX K C f R Rx) [] (XE C RR) t) ρ:=fun F j H E x S=>A8 i h st g x S
def E5   (l:Zz K t ρ ts)(k:R ts Φ)(st:ZV C RR):Zm K (VH (spX K C f R Rx) [] (XE C RR) t) ρ Φ:=fun H0 F c H Q S q =>
 l H0 F c H _ S fun o u s b e =>
  ⟨o,ts,(S.ext b).kt,b.fh,by rw[XF];exact e,RR,rfl,st,.inl ⟨Φ,k,fun n m v p r h d i g=>q n m v p r h (b.trans d) (fun a j=>b.hh.free<|i a j) g⟩⟩
def U3  (h:Zm K t ρ Φ)(hn:D.nx ρ):Q0 K (Vq t) ρ D:=fun F0 H0 F a H E x S c =>
 h H0 F a H _ S fun e d v p r _ b _ _=>c.nx e a d ρ (x.trans b) (S.ext b) hn
end
section
variable {K:W.Frag}{ρ:Q9}{C:Addr}{tb:Ends->TS}{D:PEnds}
def Mp  (h:Lefts C e dct H H')(s:Q3 G H)(i:G e=none):Q3 G H':=by
 induction h with
 |nil=>exact s
 |@step l T k hT j g =>
   intro b o c;have f:b≠e:=fun z=>by subst z;rw[i]at c;cases c
   have a:=g b o c;have d:b≠T:=fun z=>by subst z;rw[hT]at a;cases a
   unfold left;rw[Qu d,Qu f];exact a
def Cv (h:∀E,Q0 K (tb E) ρ D):Q0 K (GW tb) ρ D:=fun d b F a H E x S c=>h E d b F a H E x S c
end
structure XC (K:W.Frag)(mg:Str->Qf)(x:Str)(Y C f:Addr):Prop where
 cl:JW K Y C f
 kp:W.keepIn K (.ref C)=true
 m:mg x=some (.ref C)
def Dt (P:Program)(w:World)(K:W.Frag)(c:Str->Qf)(base:Heap)(f:Addr)(ps:Qh)(k:Nat)(b:Sp):Prop := ∃a,Vj K a ps []/\FnOk P w K c base CX0 k f a ps b
section
variable {P:Program}{w:World}{K:W.Frag}{mg:Str->Qf}{base:Heap}{N:Qh}{qual:Str}{scope:Scope}{f f0:Addr}{cd:Value}{A:Around}{outer:List Env}{s0:Shared}{H0:Hp}{Y C:Addr}{RR:Addr->Qj->Hp->Prop}
def Po {x:Str}{p d b:Pos}{e:Expr}{es:Qi}{t:TA}{ps:Qh}{j k:Nat}{m:Sp}(c:XC K mg x Y C f)(z:Dt P w K mg base f ps j m)(g:ZV C RR)(n:Room k (cx1 P w K mg base N qual scope f0 cd A outer s0 H0<|XE C RR).A)
 (v:PA (cx1 P w K mg base N qual scope f0 cd A outer s0 H0<|XE C RR) (e::es) t) (o:j+1<=k:=by walk_at"j") (q:Gl (cx1 P w K mg base N qual scope f0 cd A outer s0 H0<|XE C RR) x:=by rfl)
 (l:(x==("__debug__" : Str))=false:=by decide) (i:starEach (e::es) (cx1 P w K mg base N qual scope f0 cd A outer s0 H0<|XE C RR).env=(false,eval e (cx1 P w K mg base N qual scope f0 cd A outer s0 H0<|XE C RR).env)::starEach es (cx1 P w K mg base N qual scope f0 cd A outer s0 H0<|XE C RR).env:=by rfl)
 (h:(backTo d<|starEach es (cx1 P w K mg base N qual scope f0 cd A outer s0 H0<|XE C RR).env).any (·.1)=false:=by rfl) :
 PS (cx1 P w K mg base N qual scope f0 cd A outer s0 H0<|XE C RR) (.Raise (some<|.Call (.Name x p) (e::es) [] d) none b) (sXR C (MT C m E0 t) RR):=by
 obtain⟨E,u,F⟩:=z;exact AH c.cl rfl (Ax c.cl c.kp F (n.mono o) q c.m u J9 v l i h) (fun B D H s a y I i r=>SB g I i r)
end
def Dh (D:Ends)(j:Nat):Ends:={ nx:=fun a H=>D.nx (a.set j none) H,rt:=fun _ _=>False }
def XWg (X:Cx)(E:XK)(pn:Qc)(v:Value)(s:Shared):Prop := ∃(b:St) (H:Hp) (a:Qj),Qr { X with pn:=pn } [] b H s/\E v a H
abbrev DP (X:Cx)(E:XK)(pn:Qc):Cx:={ X with pn:=pn,xe:=XWg X E pn }
section
variable {X:Cx}{Xa0:Qc}{σ:St}{H:Hp}{s:Shared}
def Ml  : VV (CX1 X.prog X.w) (DP X E pn) E:=by
 intro Xa0 σ H s v j I h;obtain⟨f,q,k,a,i,e,n⟩:=h;obtain⟨m,g,d,t,c⟩:=j;obtain rfl:c=s.os:=k;have o:=I.call (h':=m) (g':=g) (d':=d) (t':=t) (ch:=[]) i e a (by rintro b ⟨⟩)
 exact⟨σ,q,f,(o.unwish (X:={ X with pn:=pn })).pins_of (fun p l=>by cases l),n⟩
def EG    (I:Qr X Xa0 σ H s)(hN:X.N.Nodup)(T:X.N[i]?=some x)(hk:X.env.scope.names.lookup x=some .local)
 (h:∀P,Qr X Xa0 (σ.set i none) H P->Q () P):wpAny M A (do bindName X.env x .none;unbindBehindTheSuite X.env x pos) Q E s:=by
 obtain⟨m,S,hl⟩:=id I.loc;have w:(X.env.scope.kind==.class||(X.env.scope.kind==.module&&X.env.locals != X.env.globals))=false:=by rw[I.ok.kind];rfl
 have u:i<σ.length:=by rw[I.len];exact(Xh.mp T).1
 have B:=I.cne
 have f:∀{a:Addr} {D:Heap},(∃o,s.heap.get? a=some o/\H a=none)->Heap.SameBut a s.heap D->HOk X.prog X.w H D:=fun{a D} ha l b ob e=>by
  obtain⟨_,_,g⟩:=ha;refine(I.hok b ob e).stay (fun c O C q=>(l.2 c ?_).trans q) (fun _ q=>q) fun _ _ q=>q
  rintro rfl
  rcases C with rfl|C
  .rw[g]at e;cases e
  .rw[g]at C;cases C
 refine wpAny_nameGoes_keeps (m:=m) (by exact hk) S w fun D v J l=>?_;obtain⟨oL,_,_,G,_⟩:=id S;refine h _ ⟨I.ok,I.os,I.bare,⟨fun b o e n N r=>?_,fun b o e n N r=>?_,I.base.free,fun b o e r=>?_,I.base.tups,I.base.frzs,fun b U o q e r=>(l.2 b<|Xr<|Xp (Xj e) I.ok.above).trans (I.base.tupo b U o q e r),I.base.tbls⟩,⟨_,J,fun j y W t F e3=>?_⟩,fun y c e=>?_,I.free,I.freeC,fun p hp=>?_,f ⟨oL,G,I.free⟩ l,by simpa using I.len⟩
 .exact(l.2 b<|Xr<|Xp (Xj e) I.ok.above).trans (I.base.keep b o e n N r)
 .obtain⟨Z,t⟩:=I.base.slot b o e n N r
  exact⟨Z,(l.2 b<|Xr<|Xp (Xj e) I.ok.above).trans t⟩
 .obtain⟨o',t⟩:=I.base.there b o e r
  exact⟨o',(l.2 b<|Xr<|Xp (Xj e) I.ok.above).trans t⟩
 .by_cases L:j=i
  .subst L
   rw[Xl u]at F;cases F
  .rw[Xs<|Ne.symm L]at F
   obtain⟨Y,r',q⟩:=hl j y W t F e3;refine⟨Y,r',?_⟩
   rcases q with ⟨k,e⟩|⟨k,c,e,z⟩
   .refine .inl ⟨k,?_⟩
    have:y≠x:=fun e=>L (BV hN t<|e▸T)
    simp[this,e]
   .exact .inr ⟨k,c,e,z.sameBut l<|B y c e⟩
 .obtain⟨O,z⟩:=I.cell y c e
  exact⟨O,z.sameBut l<|B y c e⟩
 .obtain⟨e,n,R,nf,d⟩:=I.pin p hp
  exact⟨(l.2 p.1 R).trans e,n,R,nf,d⟩
end
end L2
section
namespace L2
open PySem PySem.Spec PyProof.Rows
section
variable {K:W.Frag}{ρ:Q9}
def QA.setN  (u:Option V)(s:QA K H0 F ρ σ H):QA K H0 F (ρ.set r none) (σ.set r u) H:=by
 obtain⟨a,g,f,h,d,c,b⟩:=s;refine⟨a,g,by simp[f],h,fun j t e=>?_,c,b⟩
 by_cases z:r=j
 .subst z
  by_cases l:r<ρ.length
  .rw[Xl l]at e;cases e
  .rw[Nb.mpr<|by simp;omega]at e;cases e
 .rw[Xs z]at e ⊢
  exact d j t e
end
end L2
end
namespace L2
open PySem PySem.Spec PyProof.Rows
section
open PySem.W
variable {prog:Program}{w:World}{A:Around}{E:Qb}{s:Shared}{K:Frag}{x C:Addr}{ox:Obj}{od:Option Obj}{name:Str}{tk:Tok}{fill expr:Bool}
structure UV (K:Frag)(C:Addr):Prop where
 ga:findIn K (.ref C) "__getattribute__"=some (some<|.builtin "BaseException.__getattribute__")
 gt:findIn K (.ref C) "__getattr__"=some none
 mb:mroIn K C (.type "BaseException")=some true
def EZ  (c:UV K C) (X:K.In s.heap) (I:InstAt s.heap x ox C od) (i:Q () s):wpAny M A (checkBuiltinCall "BaseException.__getattribute__" ⟨[.ref x,nameV],[]⟩) Q E s:=by
 have b:builtinKind "BaseException.__getattribute__"=some .slot:=by decide +kernel
 have a:splitId "BaseException.__getattribute__"=some ("BaseException","__getattribute__"):=by decide +kernel
 have k:=F.args_bexc_ga (.ref x) nameV;have f:=I.type (M:=M);have e:=looks_mroIn (M:=M) X c.mb;simp only[checkBuiltinCall,b,a];obtain⟨j,g,d,t,h⟩:=s;refine Xa ((f.andThen e).at ?_)
 repeat (any_goals (first|assumption|wp_step))
def A2 (c:UV K C)(X:K.In s.heap)(I:InstAt s.heap x ox C od)
 (h:codeAny (model prog w) A (.call (.builtin "BaseException.__getattribute__") ⟨[.ref x,.str name tk],[]⟩) (fun r i=>∃v,r=.ok (.ret v)/\wpAny (model prog w) A (handedOut v) Q E i) s) :
 wpAny (model prog w) A (getAttrBy (.ref x) (.str name tk) fill expr) Q E s:=by
 have j:=F.excAttr_ValueError.ga.bind (.ref x);have e:(expr&&onTheHeap (Value.builtin "BaseException.__getattribute__"))=false:=by cases expr<;>rfl
 have a:(Value.builtin "BaseException.__getattribute__" == Value.builtin "object.__getattribute__")=false:=by decide +kernel
 have b:(onTheHeap (Value.ref C)&&Value.builtin "BaseException.__getattribute__" == Value.builtin "object.__getattribute__")=false:=by rw[a];rfl
 obtain⟨o,g,d,t,n⟩:=s;have m:=I.type (M:=model prog w);have l:=looks_findIn (M:=model prog w) X c.ga;have k:=looks_findIn (M:=model prog w) X c.gt;unfold getAttrBy;refine wpAny_holding (Xa<|m.at<|Xa<|l.at ?_);dsimp only;rw[b,Xc Xw];unfold getAttrByItsOwn;refine Xa (k.at ?_);refine Xa (wpAny_attempt<|wpAny_holding ?_);unfold callGetattribute;rw[e,Xc Xw];unfold boundAndCalled;rw[j];refine Xa (Xk ?_);refine wpAny_call (codeAny_mono h fun r i f=>?_);obtain⟨v,rfl,f⟩:=f;exact f
def Io (c:UV K C) (a:hasDictIn K C=true) (l:findIn K (.ref C) "__class__"=some (some<|.builtin "object.__class__"))
 (hn:specialIn K (.builtin "object.__class__") "__get__"=some (some<|.builtin "getset_descriptor.__get__")) (b:takesIn K (.builtin "object.__class__")=some true) (i:mroIn K C (.type "object")=some true)
 (X:K.In s.heap) (I:InstAt s.heap x ox C od) (h:Q (some<|.ref C) { s with toks:=s.toks+1 }):wpAny (model prog w) A (getAttr? (.ref x) "__class__") Q E s:=by
 have j:findObj K C od "__class__"=some (.bind (.builtin "getset_descriptor.__get__")<|.builtin "object.__class__"):=by
  obtain⟨o,k,_⟩:=any_some a;unfold findObj;rw[k,Option.bind_some,l,Option.bind_some];simp[hn,b]
 unfold getAttr? getAttrBy?;refine Xa (wpAny_mkText<|Xa<|wpAny_attempt<|A2 (s:={ s with toks:=s.toks+1 }) c X I<|codeAny_call_builtin F.excAttr_ValueError.ga.plain F.entry_bexc_ga<|EZ c X I ?_);obtain⟨e,g,d,t,f⟩:=s;have n:=I.type (M:=model prog w);have m:=looks_find (M:=model prog w) X I j;refine Xa (Xk<|Xa<|Xk<|Xa<|n.at<|Xa<|m.at ?_);show wpAny _ _ (holding [_] (call _ [_,_,_]) >>= ret) _ _ _;refine Xa (wpAny_holding<|wpAny_call<|class_get (s:=⟨e,g,d,t+1,f⟩) (ox:=ox) (od:=od) X I i ?_);exact Xk ⟨_,rfl,Xk<|Xk h⟩
theorem BQ (c:UV K C) (b:hasDictIn K C=true) (r:findIn K (.ref C) "__class__"=some (some<|.builtin "object.__class__"))
 (hn:specialIn K (.builtin "object.__class__") "__get__"=some (some<|.builtin "getset_descriptor.__get__")) (g:takesIn K (.builtin "object.__class__")=some true) (p:mroIn K C (.type "object")=some true) :
 KitX K (.ref x) (.ref C) (fun h=>InstAt h x ox C od) where
 ty:=fun _ _ _ I=>I.type
 it:=fun _ _ X _=>by
  obtain⟨j,a,_⟩:=any_some b;unfold clsIn at a;split at a
  .rename_i u t l d i
   intro G D F y k q;unfold isType loadHead;exact Xa (wpAny_loadPart (k _ _<|X _ _ i)<|Xk q)
  .cases a
 ne:=fun h m B o n v X f=>by
  obtain⟨j,a,_⟩:=any_some b;refine Bool.eq_false_iff.mpr fun q=>?_;have e:C=m:=Value.ref.inj (beq_iff_eq.mp q);subst e;unfold clsIn at a;split at a
  .rename_i u t l d i
   have z:=(X _ _ i).symm.trans f
   cases z
  .cases a
 ca:=fun X I k=>Io c b r hn g p X I k
end
structure XGt (K:W.Frag)(C:Addr):Prop where
 ga:UV K C
 hd:W.hasDictIn K C=true
section
variable {X:Cx}{e:Expr}{f:Str}{C:Addr}
def RC {H:Hp}{g:Qc}{h:St}{s:Shared}(I:Qr X g h H s){a c T:Addr}{d:List (Str×V)}(m:H a=some (.ext<|phF C a (some c) T))(l:H c=some (.xd d)) :
 ∃(b:Str->Qf) (ox od:Obj),W.InstAt s.heap a ox C (some od)/\(∀name,W.lookIn name od=some (b name))/\∀f,ZO (d.lookup f) (b f):=by
 obtain⟨⟨o,p,i,_⟩,_,_⟩:=I.hok a _ m;obtain⟨b,n,r⟩:=(show ZA X.prog X.w H s.heap c (.xd d) from I.hok c _ l);obtain⟨od,j,k⟩:=P2 n
 exact⟨b,_,od,⟨i,rfl,rfl,j⟩,k,r⟩
def GV:V->Qf
 |.ref a=>some (.ref a)
 |.ty t=>some (.type t)
 |_=>none
structure GM (K:W.Frag)(C:Addr):Prop where
 ga:UV K C
 hd:W.hasDictIn K C=true
 fc:W.findIn K (.ref C) "__class__"=some (some<|.builtin "object.__class__")
 sp:W.specialIn K (.builtin "object.__class__") "__get__"=some (some<|.builtin "getset_descriptor.__get__")
 tk:W.takesIn K (.builtin "object.__class__")=some true
 mo:W.mroIn K C (.type "object")=some true
def Vu (K:W.Frag)(C:Addr):List V->Hp->VK->Prop:=fun g H Q=>∃x c a b,g=[x,c]/\GV c=some a /\
 ((∃e d T h,x=.ref e/\H e=some (.ext<|phF C e (some d) T)/\H d=some (.xd h)/\W.kitOne K (.ref C) a=some b)\/(∃e T,x=.ref e/\H e=some (.ext<|phF C e none T)/\W.kitOne K (.ref C) a=some b)\/(x=.non/\W.kitOne K (.type "NoneType") a=some b))/\Q (.bl b) H
def VU (c:GM X.K C):Zl X (.builtin "isinstance") (Vu X.K C):=by
 intro t s v H y B Q I r h;obtain⟨x,p,o,b,rfl,a,k,q⟩:=h;obtain⟨u,w,rfl,j,g⟩:=Ui r
 have n:w=o:=by
  cases p<;>simp[GV]at a
  .subst a;exact g
  .subst a;exact g
 subst n;rcases k with ⟨e,L,T,G,rfl,l,m,i⟩|⟨e,T,rfl,l,i⟩|⟨rfl,i⟩
 .obtain rfl:u=Value.ref e:=j
  obtain⟨F,E,od,J,_⟩:=RC I l m;exact W.kia_one (BQ c.ga c.hd c.fc c.sp c.tk c.mo) I.kIn J i (by intro z;cases z) fun d=>⟨.bl b,H,I.tok d,rfl,q⟩
 .obtain rfl:u=Value.ref e:=j
  obtain⟨⟨A,D,k,_⟩,_,_⟩:=I.hok e _ l;exact W.kia_one (BQ (od:=none) c.ga c.hd c.fc c.sp c.tk c.mo) I.kIn ⟨k,rfl,rfl,trivial⟩ i (by intro z;cases z) fun d=>⟨.bl b,H,I.tok d,rfl,q⟩
 .obtain rfl:u=Value.none:=j
  exact W.kia_one W.kitx_none I.kIn trivial i (by intro z;cases z) fun d=>⟨.bl b,H,I.tok d,rfl,q⟩
def GS (K:W.Frag)(C:Addr):List V->Hp->VK->Prop:=fun g H Q=>∃(e c T:Addr) (h:List (Str×V)) (a:Addr) (d:Qg) (b:Bool),g=[.ref e,.ref a]/\H e=some (.ext<|phF C e (some c) T)/\H c=some (.xd h)/\SqT K H a (d.map V.ref)/\W.kitAny K (.ref C) (d.map Value.ref)=some b/\Q (.bl b) H
theorem Ku:∀{cs:Qg} {us:Qe},QP (cs.map V.ref) us->us=cs.map Value.ref
 |[],_,r=>by cases r;rfl
 |c::cs,_,r=>by
   rw[Xu]at r;cases r with
   |cons b a =>
     cases b
     rw[Ku a];rfl
def RF (c:GM X.K C):Zl X (.builtin "isinstance") (GS X.K C):=by
 intro D s E H F G Q I r h;obtain⟨e,S,T,R,j,Y,b,rfl,y,x,p,v,q⟩:=h;obtain⟨u,w,rfl,m,a⟩:=Ui r;obtain rfl:u=Value.ref e:=m;obtain rfl:w=Value.ref j:=a;obtain⟨O,M,N,J,_⟩:=RC I y x;obtain⟨o,l,d,P⟩:=I.tuple p;obtain rfl:=Ku l;obtain⟨⟨B,A,U,L⟩,t,i,n,g⟩:=id d
 simp only at i g
 subst i g;exact W.kia_tup (BQ c.ga c.hd c.fc c.sp c.tk c.mo) I.kIn J t v (by intro z;cases z) fun k=>⟨.bl b,H,I.tok k,rfl,q⟩
end
def WR (C:Addr)(f:Str)(ds:Qd)(e c q:Addr):OwnP where
 ok:=fun K F H v p=>p=[e,c,q]/\(F e=none/\F c=none/\F q=none)/\(∃T,H e=some (.ext<|phF C e (some c) T))/\H c=some (.xd [(f,.ref q)])/\∃d,H q=some (.lst d)/\Qx F d ds
 there:=fun{K F H v p} h a b=>by
  obtain⟨rfl,⟨o,n,m⟩,⟨T,l⟩,k,d,j,_⟩:=h
  rcases Xf.mp b with rfl|b
  .exact⟨o,Z6 l⟩
  .rcases Xf.mp b with rfl|b
   .exact⟨n,Z6 k⟩
   .rcases Xf.mp b with rfl|b
    .exact⟨m,Z6 j⟩
    .cases b
 mono:=fun{K F x H w v p} s i g h=>by
  obtain⟨rfl,⟨o,n,m⟩,⟨T,l⟩,k,d,j,r⟩:=h;have m1:e∈[e,c,q]:=Xb;have m2:c∈[e,c,q]:=Xe _ Xb;have m3:q∈[e,c,q]:=Xe _ (Xe _ Xb)
  exact⟨rfl,⟨i _ m1,i _ m2,i _ m3⟩,⟨T,(g _ m1).trans l⟩,(g _ m2).trans k,d,(g _ m3).trans j,r.mono s⟩
 uniq:=fun{K F H v p u} h t a b=>by
  obtain⟨rfl,_⟩:=h;obtain⟨rfl,_⟩:=t;exact b
def Pe  (h:Lefts C e dct H H')  (f:b≠e)(d:H b=some o):H' b=some o:=by
 induction h with
 |nil=>exact d
 |@step j T i hT g a =>
   have c:b≠T:=fun z=>by subst z;rw[hT]at a;cases a
   unfold left;rw[Qu c,Qu f];exact a
section
variable {K:W.Frag}{ρ:Q9}{C:Addr}{f:Str}{i:Nat}
variable {ds:Qd}{e dx q:Addr}
def QA.exc  (S:QA K H0 F ρ σ H)(h:ρ[i]?=some (some<|.own v<|WR C f ds e dx q)):σ[i]?=some (some v)/\(∃T,H e=some (.ext<|phF C e (some dx) T))/\H dx=some (.xd [(f,.ref q)])/\(∃xs,H q=some (.lst xs)/\Qx F xs ds)/\F q=none/\H0 q=none:=by
 obtain⟨m,p,o,r,j,n,g⟩:=S;obtain⟨u,l,a,c,⟨t,s,k⟩,hT,d,b⟩:=j i _ h;subst a;exact⟨l,hT,d,b,k,(g i q<|by rw[c];exact Xe _<|Xe _ Xb).1⟩
def Bs  (h:ρ[i]?=some (some<|.own (.ref e)<|WR C f ds e dx q))(d:GV c=some cv)(a:W.kitOne K (.ref C) cv=some b):Qs K (tCB (Vu K C)<|QE (QB i)<|QE (tC c) QQ) ρ (.bool b):=fun n F m H Q S k=>by
 obtain⟨l,⟨T,j⟩,g,_⟩:=S.exc h
 exact⟨.ref e,l,.ref e,c,cv,b,rfl,d,.inl ⟨e,dx,T,_,rfl,j,g,a⟩,k F H _ (Qy.refl S.sub)<|.bl b⟩
def GZ:Qg->TA
 |[]=>QQ
 |c::a=>QE (tC<|.ref c) (GZ a)
theorem Hb {a:St}{H:Hp}:∀{cs:Qg} {Q:List V->Hp->Prop},Q (cs.map V.ref) H->GZ cs a H Q
 |[],_,h=>h
 |_::cs,_,h=>Hb (cs:=cs) h
def L9  (h:ρ[i]?=some (some<|.own (.ref e)<|WR C f ds e dx q))(l:cs.length<=1000)(m:W.kitAny K (.ref C) (cs.map Value.ref)=some b):Qs K (tCB (GS K C)<|QE (QB i)<|QE (Wa<|GZ cs) QQ) ρ (.bool b):=fun r F o H Q S k=>by
 obtain⟨n,⟨T,d⟩,c,_⟩:=S.exc h;refine⟨.ref e,n,Hb ⟨by rw[Xn];exact Ys<|Vc l,fun p a=>?_⟩⟩;have j:e≠p:=fun z=>by subst z;rw[a]at d;cases d
 have g:dx≠p:=fun z=>by subst z;rw[a]at c;cases c
 exact⟨e,dx,T,_,p,cs,b,rfl,by rw[Qu j];exact d,by rw[Qu g];exact c,SqT.of QC,m,k F _ _ (Qy.own S.sub a)<|.bl b⟩
end
end L2
section
namespace L2
open PySem PySem.Spec PyProof.Rows
def QP.at  (r:QP xs us):∀i:Nat,(xs[i]?=none/\us[i]?=none)\/∃x u,xs[i]?=some x/\us[i]?=some u/\QM x u:=by
 induction r with
 |nil=>intro i;exact .inl ⟨rfl,rfl⟩
 |cons a b c =>
   intro i;cases i with
   |zero=>exact .inr ⟨_,_,rfl,rfl,a⟩
   |succ i=>exact c i
end L2
end
set_option maxHeartbeats 8000000
set_option maxHeartbeats 8000000
set_option maxHeartbeats 8000000
set_option maxHeartbeats 8000000
set_option maxHeartbeats 8000000
namespace L2
open PySem PySem.Spec PyProof.Rows
def Mw:bootBuiltins "ValueError"=some (.type "ValueError"):=by decide +kernel
def JA {X:Cx}:VV (CX1 X.prog X.w) X (XE C fun _ _ _=>False):=fun _ _ _ _ _ _ _ h=>by
 obtain⟨_,_,_,_,_,_,_,_,_,z⟩:=h;exact z.elim
def B7:ZV C fun _ _ _=>False:=fun _ _ _ _ z=>z.elim
end L2
section
namespace L2
open PySem PySem.Spec PyProof.Rows
abbrev Zf:=List (Key×PyData)
def Y1 (kvs:Zf)(k:Key):Option PyData:=(kvs.find? fun a=>decide (a.1=k)).map (·.2)
def Ul (kvs:Zf)(k:Key)(d:PyData):Zf:=if (kvs.any fun a=>decide (a.1=k))=true then kvs.map (fun a=>if a.1=k then (a.1,d) else a) else kvs++[(k,d)]
inductive PairK (F:Hp):List (Key×V)->Zf->Prop
 |nil:PairK F [] []
 |cons {k:Key} {x:V} {d:PyData} {xs:List (Key×V)} {kvs:Zf}:Rep F x d->PairK F xs kvs->PairK F ((k,x)::xs) ((k,d)::kvs)
theorem PairK.mono {F a:Hp}(s:Q3 F a):∀{xs:List (Key×V)} {kvs:Zf},PairK F xs kvs->PairK a xs kvs
 |_,_,.nil=>.nil
 |_,_,.cons r t=>.cons (r.mono s) (t.mono s)
theorem PairK.length {F:Hp}:∀{xs:List (Key×V)} {kvs:Zf},PairK F xs kvs->xs.length=kvs.length
 |_,_,.nil=>rfl
 |_,_,.cons _ t=>by simp[t.length]
theorem PairK.val {F:Hp}(k:Key):∀{xs:List (Key×V)} {kvs:Zf},PairK F xs kvs->(Zx xs k=none/\Y1 kvs k=none)\/∃x d,Zx xs k=some x/\Y1 kvs k=some d/\Rep F x d
 |_,_,.nil=>.inl ⟨rfl,rfl⟩
 |_,_,.cons (k:=k') (x:=x) (d:=d) (xs:=xs) (kvs:=kvs) r t=>by
   by_cases e:k'=k
   .exact .inr ⟨x,d,YB e,by simp[Y1,Xx,e],r⟩
   .have q:Y1 ((k',d)::kvs) k=Y1 kvs k:=by simp[Y1,Xx,e]
    rw[YA (p:=(k',x)) e,q];exact t.val k
theorem PairK.any {F:Hp}(k:Key):∀{xs:List (Key×V)} {kvs:Zf},PairK F xs kvs->(xs.any fun a=>decide (a.1=k))=(kvs.any fun a=>decide (a.1=k))
 |_,_,.nil=>rfl
 |_,_,.cons _ t=>by simp[t.any k]
theorem PairK.mapP {F:Hp}(k:Key){y:V}{d:PyData}(r:Rep F y d):∀{xs:List (Key×V)} {kvs:Zf},PairK F xs kvs->PairK F (xs.map fun a=>if a.1=k then (a.1,y) else a) (kvs.map fun a=>if a.1=k then (a.1,d) else a)
 |_,_,.nil=>.nil
 |_,_,.cons (k:=k') b t=>by
   rw[Xu,Xu];by_cases e:k'=k
   .simp only[e,if_true]
    exact .cons r (t.mapP k r)
   .simp only[e,if_false]
    exact .cons b (t.mapP k r)
theorem PairK.snoc {F:Hp}(k:Key){y:V}{d:PyData}(r:Rep F y d):∀{xs:List (Key×V)} {kvs:Zf},PairK F xs kvs->PairK F (xs++[(k,y)]) (kvs++[(k,d)])
 |_,_,.nil=>.cons r .nil
 |_,_,.cons a t=>.cons a (t.snoc k r)
def PairK.put (k:Key)  (r:Rep F y d)  (t:PairK F xs kvs):PairK F (VP xs k y) (Ul kvs k d):=by
 unfold VP Ul;rw[t.any k];split
 .exact t.mapP k r
 .exact t.snoc k r
def dkP (kvs:Zf):OwnP where
 ok K F H v p := ∃a d,v=.ref a/\p=[a]/\F a=none/\H a=some (.dK d)/\PairK F d kvs
 there:=by
  rintro K F H v p ⟨a,d,rfl,rfl,h,f,g⟩ b j
  cases Xi.mp j
  exact⟨h,Z6 f⟩
 mono:=by
  rintro K F o H n v p s l k ⟨a,d,rfl,rfl,h,f,g⟩
  exact⟨a,d,rfl,rfl,l a Xb,by rw[k a Xb];exact f,g.mono s⟩
 uniq:=by
  rintro K F H v p q ⟨a,d,rfl,rfl,_⟩ ⟨b,m,e,rfl,_⟩ c i
  cases e
  exact i
section
variable {K:W.Frag}{ρ:Q9}{ty tv:TE}{D:PEnds}{i:Nat}{v:V}{kvs:Zf}{k:Key}{d:PyData}
def QA.dk  (S:QA K H0 F ρ σ H)(e:ρ[i]?=some (some<|.own v<|dkP kvs)) :
 ∃a xs,v=.ref a/\σ[i]?=some (some<|.ref a)/\F a=none/\H0 a=none/\H a=some (.dK xs)/\PairK F xs kvs:=by
 obtain⟨h,p,⟨a,xs,rfl,rfl,g,f,c⟩,b,_⟩:=S.writeOwn e
 exact⟨a,xs,rfl,h,g,(b a Xb).1,f,c⟩
def Ap (e:ρ[i]?=some (some<|.own v<|dkP kvs))(I:Qs K tv ρ d)(G:Qs K ty ρ (UW k))(hz:kvs.length<sizeLine)(hn:D.nx (ρ.set i<|some<|.own v<|dkP<|Ul kvs k d)):Q0 K (Dy (QB i) ty tv) ρ D:=fun Z r F g H E x S C =>
 I r F g H _ S fun Q O u f A=>by
  obtain⟨a,R,rfl,M,_⟩:=(S.ext f).dk e;refine⟨_,M,G r Q g O _ (S.ext f) fun P Y y h t=>?_⟩;have m:=S.ext (f.trans h);obtain⟨X,s,l,_,j,L,J,o⟩:=m.dk e
  cases l
  rw[HM t];refine⟨a,_,rfl,WV.k J<|by rw[o.length];exact hz,?_⟩;obtain⟨_,p,B,T,w⟩:=m.writeOwn e;obtain⟨N,n,l,rfl,_,U,_⟩:=B
  cases l
  refine C.nx P g _ _ ((x.trans<|f.trans h).wr L j) (w _ (dkP<|Ul kvs k d) [a] (m.sub.upd j) (fun c b _=>Qu fun z=>b<|by rw[z];exact Xb) (fun c b=>?_) ⟨a,_,rfl,rfl,j,QC,o.put k<|A.mono h.ff⟩ fun c b=>.inl b) hn
  by_cases z:c=a
  .subst z;rw[QC];rintro⟨⟩
  .rw[Qu z];exact b
def Ey:EvX K Re ρ (dkP []):=fun g F f H Q S q=>fun p b=>by
 have e:F p=none:=by
  cases z:F p with
  |none=>rfl
  |some o=>rw[S.sub _ _ z]at b;cases b
 refine q F _ (.ref p) [p] (Qy.own S.sub b) (fun a c=>by cases Xi.mp c;exact b) ⟨p,[],rfl,rfl,e,QC,.nil⟩
end
structure HandS where
 yard:PyData
 now:Int
 known:Qd
 given:Ql
 gone:Zf
 made:List Zf
inductive MadeD (F H:Hp):Qg->List Zf->Prop
 |nil:MadeD F H [] []
 |cons {a:Addr} {xs:List (Key×V)} {kvs:Zf} {as:Qg} {ms:List Zf}:F a=none->H a=some (.dK xs)->PairK F xs kvs->MadeD F H as ms->MadeD F H (a::as) (kvs::ms)
theorem MadeD.mem {F H:Hp}:∀{as:Qg} {ms:List Zf},MadeD F H as ms->∀a∈as,F a=none/\H a≠none
 |_,_,.nil,a,b=>nomatch b
 |_,_,.cons d c _ t,a,b=>by
   rcases Xf.mp b with rfl|b
   .exact⟨d,Z6 c⟩
   .exact t.mem a b
theorem MadeD.mono {F c H f:Hp}(s:Q3 F c):∀{as:Qg} {ms:List Zf},(∀a∈as,c a=none)->(∀a∈as,f a=H a)->MadeD F H as ms->MadeD c f as ms
 |_,_,_,_,.nil=>.nil
 |_,_,e,d,.cons i h g t=>.cons (e _ Xb) (by rw[d _ Xb];exact h) (g.mono s) (t.mono s (fun a b=>e a<|Xe _ b) fun a b=>d a<|Xe _ b)
def MadeD.other   (h:MadeD F H as ms)(n:b∉as):MadeD F (upd H b o) as ms :=
 h.mono (Q3.refl _) (fun a c=>(h.mem a c).1) (fun a c=>Qu fun z=>n<|z▸c)
inductive MadeZ (F:Hp):Qg->List Zf->Prop
 |nil:MadeZ F [] []
 |cons {a:Addr} {xs:List (Key×V)} {kvs:Zf} {as:Qg} {ms:List Zf}:F a=some (.dK xs)->PairK F xs kvs->MadeZ F as ms->MadeZ F (a::as) (kvs::ms)
theorem MadeZ.mono {F a:Hp}(s:Q3 F a):∀{as:Qg} {ms:List Zf},MadeZ F as ms->MadeZ a as ms
 |_,_,.nil=>.nil
 |_,_,.cons c b t=>.cons (s _ _ c) (b.mono s) (t.mono s)
theorem MadeD.fz {F b H:Hp}(s:Q3 F b):∀{as:Qg} {ms:List Zf},(∀a∈as,b a=H a)->MadeD F H as ms->MadeZ b as ms
 |_,_,_,.nil=>.nil
 |_,_,c,.cons _ f e t=>.cons (by rw[c _ Xb];exact f) (e.mono s) (t.fz s fun a d=>c a<|Xe _ d)
abbrev hfs (y:V) (n:Int) (k g d m:Addr):List (Str×V):=[("yard",y),("present",.int n),("known",.ref k),("given",.ref g),("gone",.ref d),("made",.ref m)]
structure HandOk (C:Addr)(N:HandS)(F H:Hp)(a dx k g d m:Addr)(y:V)(xs:List (Key×V))(as:Qg):Prop where
 nd:(a::dx::k::g::d::m::as).Nodup
 ins:F a=none/\H a=some (.ins C dx<|hfs y N.now k g d m)
 own:F dx=none/\H dx=some (.own a)
 yd:Rep F y N.yard
 known:Vn F H k N.known
 given:Vn F H g (N.given.map PyData.int)
 gone:F d=none/\H d=some (.dK xs)/\PairK F xs N.gone
 made:F m=none/\H m=some (.lst<|as.map V.ref)/\MadeD F H as N.made
def HandOk.mono    (o:HandOk C N F H a dx k g d m y xs as)(s:Q3 F F')(e:∀b∈a::dx::k::g::d::m::as,F' b=none)(c:∀b∈a::dx::k::g::d::m::as,H' b=H b):HandOk C N F' H' a dx k g d m y xs as:=by
 obtain⟨j,⟨E,t⟩,⟨A,i⟩,h,⟨D,p,r,q⟩,⟨G,u,w,v⟩,⟨I,z,x⟩,⟨B,n,l⟩⟩:=o
 exact⟨j,⟨e _<|by simp,by rw[c _<|by simp];exact t⟩,⟨e _<|by simp,by rw[c _<|by simp];exact i⟩,h.mono s,⟨e _<|by simp,p,by rw[c _<|by simp];exact r,q.mono s⟩,⟨e _<|by simp,u,by rw[c _<|by simp];exact w,v.mono s⟩,
  ⟨e _<|by simp,by rw[c _<|by simp];exact z,x.mono s⟩,⟨e _<|by simp,by rw[c _<|by simp];exact n,l.mono s (fun b f=>e b<|by simp[f]) fun b f=>c b<|by simp[f]⟩⟩
def QZ (C:Addr)(N:HandS):OwnP where
 ok K F H v p := ∃a e k g d m y h f,v=.ref a/\p=a::e::k::g::d::m::f/\HandOk C N F H a e k g d m y h f
 there:=by
  rintro K F H v p ⟨a,e,k,g,d,m,y,h,f,rfl,rfl,o⟩ b n
  obtain⟨_,⟨r,l⟩,⟨x,w⟩,_,⟨k1,P,k2,_⟩,⟨E,R,D,_⟩,⟨J,I,_⟩,⟨m1,m2,m3⟩⟩:=o;simp only[Xf]at n;rcases n with rfl|rfl|rfl|rfl|rfl|rfl|n
  .exact⟨r,Z6 l⟩
  .exact⟨x,Z6 w⟩
  .exact⟨k1,Z6 k2⟩
  .exact⟨E,Z6 D⟩
  .exact⟨J,Z6 I⟩
  .exact⟨m1,Z6 m2⟩
  .exact m3.mem b n
 mono:=by
  rintro K F X H W v p s B A ⟨a,e,k,g,d,m,y,h,f,rfl,rfl,o⟩
  exact⟨a,e,k,g,d,m,y,h,f,rfl,rfl,o.mono s B A⟩
 uniq:=by
  rintro K F H v p q ⟨a,e,k,g,d,m,y,h,f,rfl,rfl,o⟩ ⟨U,G,Q,S,T,O,M,u,L,ev,rfl,t⟩ c z
  cases ev
  have i:=o.ins.2.symm.trans t.ins.2;injection i with i;injection i with _ r l;subst r;simp only[hfs,List.cons.injEq,Prod.mk.injEq,true_and,and_true,V.ref.injEq]at l;obtain⟨rfl,rfl,rfl,rfl,rfl⟩:=l;have j:=o.made.2.1.symm.trans t.made.2.1;injection j with j;injection j with j;rw[BR j];exact z
structure HandFz (C:Addr)(N:HandS)(F:Hp)(a dx k g d m:Addr)(y:V)(ks gs:List V)(xs:List (Key×V))(as:Qg):Prop where
 ins:F a=some (.ins C dx<|hfs y N.now k g d m)
 yd:Rep F y N.yard
 known:F k=some (.lst ks)/\Qx F ks N.known
 given:F g=some (.lst gs)/\Qx F gs (N.given.map PyData.int)
 gone:F d=some (.dK xs)/\PairK F xs N.gone
 made:F m=some (.lst<|as.map V.ref)/\MadeZ F as N.made
def QW (C:Addr)(N:HandS):ZP where
 ok K F v := ∃a h k g d m y c f b i,v=.ref a/\HandFz C N F a h k g d m y c f b i
 mono:=by
  rintro K F w v s ⟨a,h,k,g,d,m,y,c,f,b,i,rfl,⟨u,t,⟨r,q⟩,⟨p,o⟩,⟨n,l⟩,⟨j,e⟩⟩⟩
  exact⟨a,h,k,g,d,m,y,c,f,b,i,rfl,s _ _ u,t.mono s,⟨s _ _ r,q.mono s⟩,⟨s _ _ p,o.mono s⟩,⟨s _ _ n,l.mono s⟩,⟨s _ _ j,e.mono s⟩⟩
def QZ.fz {C:Addr}{N:HandS}{K:W.Frag}{F e H:Hp}{v:V}{p:Qg}(h:(QZ C N).ok K F H v p)(s:Q3 F e)(c:∀b∈p,e b=H b):(QW C N).ok K e v:=by
 obtain⟨a,A,k,g,d,m,y,i,E,rfl,rfl,o⟩:=h;obtain⟨J,⟨O,t⟩,⟨I,G⟩,f,⟨M,n,r,q⟩,⟨P,w,z,x⟩,⟨Q,D,B⟩,⟨L,l,j⟩⟩:=o
 exact⟨a,A,k,g,d,m,y,n,w,i,E,rfl,by rw[c _<|by simp];exact t,f.mono s,⟨by rw[c _<|by simp];exact r,q.mono s⟩,⟨by rw[c _<|by simp];exact z,x.mono s⟩,⟨by rw[c _<|by simp];exact D,B.mono s⟩,⟨by rw[c _<|by simp];exact l,j.fz s fun b u=>c b<|by simp[u]⟩⟩
structure HandC (K:W.Frag)(C:Addr):Prop where
 cl:Cls K C
 yd:V8 K C "yard"
 pr:V8 K C "present"
 kn:V8 K C "known"
 gv:V8 K C "given"
 go:V8 K C "gone"
 md:V8 K C "made"
def NoH (m:Str):Prop := ∀(y:V) (n:Int) (k g d e:Addr),(hfs y n k g d e).lookup m=none
section
variable {K:W.Frag}{ρ:Q9}{ty:TE}{D:PEnds}{i:Nat}{C:Addr}{N:HandS}{m:Str}
def QA.hz  (S:QA K H0 F ρ σ H)(e:ρ[i]?=some (some<|.zow<|QW C N)):∃a f k g d m y b c xs as,σ[i]?=some (some<|.ref a)/\HandFz C N F a f k g d m y b c xs as:=by
 obtain⟨n,h,_⟩:=S.fp;obtain⟨v,l,_,a,f,k,g,d,m,y,b,c,xs,as,rfl,j⟩:=h i _ e
 exact⟨a,f,k,g,d,m,y,b,c,xs,as,l,j⟩
def Wr (c:HandC K C) (e:ρ[i]?=some (some<|.zow<|QW C N)):Qs K (ZT K (QB i) "yard") ρ N.yard:=fun r F h H Q S q=>by
 obtain⟨a,f,k,g,d,m,y,l,n,j,p,b,o⟩:=S.hz e
 exact⟨_,b,a,C,f,_,y,rfl,S.sub _ _ o.ins,c.cl,c.yd,rfl,q F H y (Qy.refl S.sub) o.yd⟩
def G6 (c:HandC K C) (e:ρ[i]?=some (some<|.zow<|QW C N)):Qs K (ZT K (QB i) "present") ρ (.int N.now):=fun r F h H Q S q=>by
 obtain⟨a,f,k,g,d,m,y,l,n,j,p,b,o⟩:=S.hz e
 exact⟨_,b,a,C,f,_,.int N.now,rfl,S.sub _ _ o.ins,c.cl,c.pr,rfl,q F H _ (Qy.refl S.sub)<|.int _⟩
def GA (c:HandC K C) (e:ρ[i]?=some (some<|.zow<|QW C N)):Qs K (ZT K (QB i) "known") ρ (.list N.known):=fun r F h H Q S q=>by
 obtain⟨a,f,k,g,d,m,y,l,n,j,p,b,o⟩:=S.hz e
 exact⟨_,b,a,C,f,_,.ref k,rfl,S.sub _ _ o.ins,c.cl,c.kn,rfl,q F H _ (Qy.refl S.sub)<|.lst o.known.1 o.known.2⟩
def Tl (c:HandC K C) (e:ρ[i]?=some (some<|.zow<|QW C N)):Qs K (ZT K (QB i) "given") ρ (.list<|N.given.map PyData.int):=fun r F h H Q S q=>by
 obtain⟨a,f,k,g,d,m,y,l,n,j,p,b,o⟩:=S.hz e
 exact⟨_,b,a,C,f,_,.ref g,rfl,S.sub _ _ o.ins,c.cl,c.gv,rfl,q F H _ (Qy.refl S.sub)<|.lst o.given.1 o.given.2⟩
def Ic (c:HandC K C) (p:Qs K ty ρ (UW k)) (e:ρ[i]?=some (some<|.zow<|QW C N)):Qs K (GU ty<|ZT K (QB i) "gone") ρ (.bool (Y1 N.gone k).isSome):=fun v F j H Q S q =>
 p v F j H _ S fun w u y b n=>by
  obtain⟨a,t,B,g,d,m,z,A,E,l,I,s,o⟩:=(S.ext b).hz e;refine⟨_,s,a,C,t,_,.ref d,rfl,b.fh _ _ o.ins,c.cl,c.go,rfl,?_⟩;rw[HM n];refine⟨d,_,rfl,Vw.k<|b.fh _ _ o.gone.1,?_⟩
  have r:(Zx l k).isSome=(Y1 N.gone k).isSome:=by
   rcases o.gone.2.val k with ⟨h,f⟩|⟨x,G,h,f,_⟩
   .rw[h,f];rfl
   .rw[h,f];rfl
  rw[r];exact q w u _ b (.bl _)
def JP   (B:NoH m)(e:ρ[i]?=some (some<|.zow<|QW C N))(h:Zz K t ρ ts)(I:R (.zow (QW C N)::ts) Φ) :
 Zm K (Vr C m (QY K R) [] E (QB i) t) ρ Φ:=fun P F n H Q S q=>by
 obtain⟨a,l,k,g,d,w,y,x,J,o,M,L,j⟩:=S.hz e;refine⟨_,L,a,l,_,rfl,S.sub _ _ j.ins,B _ _ _ _ _ _,h P F n H _ S fun U Y X c s=>?_⟩
 exact⟨U,_,Φ,(S.ext c).kt,c.fh,.zow (Ψ:=QW C N) ((QW C N).mono (K:=K) c.ff ⟨a,l,k,g,d,w,y,x,J,o,M,rfl,j⟩)<|by rw[XF];exact s,I,fun T O v p u z r A f=>q T O v p u z (c.trans r) (fun b G=>c.hh.free<|A b G) f⟩
def Jj   (a:NoH m)(e:ρ[i]?=some (some<|.zow<|QW C N))(h:Zz K t ρ ts)(b:R (.zow (QW C N)::ts) (fun r=>r=.fz d)):Qs K (Vr C m (QY K R) [] E (QB i) t) ρ d:=EvO.e (Zm.o<|JP a e h b)
def G4  (i:Nat)(e:ρ[i]?=some (some<|.own v<|QZ C N))(d:∀r,Φ r->WP r)(h:Zm K t (ρ.set i<|some<|.zow<|QW C N) Φ):Zm K t ρ Φ :=
 SG i e (fun a b c=>QZ.fz a b c) d h
def BK   (i:Nat)(e:ρ[i]?=some (some<|.own v<|QZ C N))(b:Vk d=some u)(h:Qs K t (ρ.set i<|some<|.zow<|QW C N) d):Qs K t ρ d :=
 EvO.e (Zm.o<|G4 (Φ:=fun r=>r=.fz d) i e (fun r a=>by subst a;exact U7 b)<|h.o.d rfl)
def HB  (i:Nat)(e:ρ[i]?=some (some<|.own v<|QZ C N))(h:Zk K t (ρ.set i<|some<|.zow<|QW C N) b):Zk K t ρ b:=fun k F g H Q S q=>by
 obtain⟨p,d,j⟩:=S.freezeZ e (fun a b c=>QZ.fz a b c);exact h k _ g H Q j fun n l x=>q _ l (UA (fun a f=>⟨(d a f).1,(d a f).2.1⟩) x)
def QA.hand  (S:QA K H0 F ρ σ H)(e:ρ[i]?=some (some<|.own v<|QZ C N)) :
 ∃a j k g d m y xs as,v=.ref a/\σ[i]?=some (some<|.ref a)/\HandOk C N F H a j k g d m y xs as/\(∀b∈a::j::k::g::d::m::as,H0 b=none/\F b=none/\H b≠none) /\
  ∀(l:Hp) (q:HandS) (o:V) (f:List (Key×V)) (c:Qg),Q3 F l->(∀b,b∉a::j::k::g::d::m::as->H b≠none->l b=H b)->(∀b,H b≠none->l b≠none) ->
   HandOk C q F l a j k g d m o f c->(∀b∈c,b∈as\/(H b=none/\H0 b=none))->QA K H0 F (ρ.set i<|some<|.own v<|QZ C q) σ l:=by
 obtain⟨E,p,⟨a,j,k,g,d,m,y,xs,as,rfl,rfl,s⟩,t,r⟩:=S.writeOwn e;refine⟨a,j,k,g,d,m,y,xs,as,rfl,E,s,t,fun l q o f c B A x w u=>r l _ _ B A x ⟨a,j,k,g,d,m,o,f,c,rfl,rfl,w⟩ fun b n=>?_⟩;simp only[Xf]at n ⊢;rcases n with h|h|h|h|h|h|n
 .exact .inl (.inl h)
 .exact .inl (.inr<|.inl h)
 .exact .inl (.inr<|.inr<|.inl h)
 .exact .inl (.inr<|.inr<|.inr<|.inl h)
 .exact .inl (.inr<|.inr<|.inr<|.inr<|.inl h)
 .exact .inl (.inr<|.inr<|.inr<|.inr<|.inr<|.inl h)
 .rcases u b n with z|z
  .exact .inl (.inr<|.inr<|.inr<|.inr<|.inr<|.inr z)
  .exact .inr z
def HandOk.same {A:HandS}{F H B q:Hp}{a p k g d m b n g' d' l:Addr}{y j:V}{xs c:List (Key×V)}{as f:Qg}
 (x:HandOk C N F H a p k g d m y xs as) (e:HandOk C A B q a b n g' d' l j c f) (s:q a=H a):b=p/\n=k/\g'=g/\d'=d/\l=m/\j=y:=by
 have h:=e.ins.2;rw[s,x.ins.2]at h;injection h with h;injection h with _ z o;simp only[hfs,List.cons.injEq,Prod.mk.injEq,true_and,and_true,V.ref.injEq]at o;obtain⟨w,_,v,u,t,r⟩:=o
 exact⟨z.symm,v.symm,u.symm,t.symm,r.symm,w.symm⟩
def HandOk.setKnown {F H:Hp}{a e k g d m:Addr}{y:V}{xs:List (Key×V)}{as:Qg}(h:HandOk C N F H a e k g d m y xs as){ns:Qd}{zs:List V}(t:Qx F zs ns) :
 HandOk C { N with known:=ns } F (upd H k<|.lst zs) a e k g d m y xs as:=by
 obtain⟨c,⟨s,r⟩,⟨l,j⟩,f,⟨q,O,Q,P⟩,⟨x,u,w,v⟩,⟨B,A,z⟩,⟨p,o,n⟩⟩:=h;have b:=c;simp only[XD,Xf,not_or]at b;obtain⟨⟨R,M,_⟩,⟨L,_⟩,⟨J,I,G,E⟩,_⟩:=b
 exact⟨c,⟨s,by rw[Qu M];exact r⟩,⟨l,by rw[Qu L];exact j⟩,f,⟨q,zs,QC,t⟩,⟨x,u,by rw[Qu<|Ne.symm J];exact w,v⟩,⟨B,by rw[Qu<|Ne.symm I];exact A,z⟩,⟨p,by rw[Qu<|Ne.symm G];exact o,n.other E⟩⟩
def HandOk.setGiven {F H:Hp}{a e k g d m:Addr}{y:V}{xs:List (Key×V)}{as:Qg}(h:HandOk C N F H a e k g d m y xs as){ns:Ql}{zs:List V}(w:Qx F zs (ns.map PyData.int)) :
 HandOk C { N with given:=ns } F (upd H g<|.lst zs) a e k g d m y xs as:=by
 obtain⟨c,⟨v,u⟩,⟨l,j⟩,f,⟨t,q,s,r⟩,⟨x,O,Q,P⟩,⟨I,G,E⟩,⟨p,o,n⟩⟩:=h;have b:=c;simp only[XD,Xf,not_or]at b;obtain⟨⟨T,S,M,_⟩,⟨R,L,_⟩,⟨J,_⟩,⟨B,A,z⟩,_⟩:=b
 exact⟨c,⟨v,by rw[Qu M];exact u⟩,⟨l,by rw[Qu L];exact j⟩,f,⟨t,q,by rw[Qu J];exact s,r⟩,⟨x,zs,QC,w⟩,⟨I,by rw[Qu<|Ne.symm B];exact G,E⟩,⟨p,by rw[Qu<|Ne.symm A];exact o,n.other z⟩⟩
variable {te:TE}{v:V}
def Eb (c:HandC K C)(e:ρ[i]?=some (some<|.own v<|QZ C N))(h:Qs K te ρ n)(hl:N.known.length<1000)
 (hn:D.nx (ρ.set i<|some<|.own v<|QZ C { N with known:=N.known++[n] })):Q0 K (Vq<|tBM K "list" YH (ZT K (QB i) "known")<|QE te QQ) ρ D:=fun F0 R F s H E x S U=>by
 obtain⟨a,Q,k,g,d,m,y,X,as,rfl,O,l,_⟩:=S.hand e;refine⟨_,O,a,C,Q,_,.ref k,rfl,l.ins.2,c.cl,c.kn,rfl,.inl ⟨rfl,_,SqL.of l.known.2.choose_spec.1⟩,h R F s H _ S fun T H1 u o G=>?_⟩;obtain⟨a',P,w,g',d',Z,A,p,r,M,g1,f,L,B⟩:=(S.ext o).hand e
 cases M
 obtain⟨rfl,rfl,rfl,rfl,rfl,rfl⟩:=l.same f ((o.hh _ _ l.ins.2).trans l.ins.2.symm);obtain⟨Y,I,J,t⟩:=f.known;have j:=L w (by simp);refine⟨w,I,u,rfl,rfl,J,by rw[t.length];exact Vc<|by omega,?_⟩;exact U.nx T s _ _ ((x.trans o).wr j.1 j.2.1) (B _ { N with known:=N.known++[n] } A p r ((S.ext o).sub.upd j.2.1) (fun b q _=>Qu fun z=>q<|by rw[z];simp) Yp (f.setKnown<|t.snoc G) fun b q=>.inl q) hn
def Eg (c:HandC K C)(e:ρ[i]?=some (some<|.own v<|QZ C N))(h:Qs K te ρ (.int n))(hl:N.given.length<1000)
 (hn:D.nx (ρ.set i<|some<|.own v<|QZ C { N with given:=N.given++[n] })):Q0 K (Vq<|tBM K "list" YH (ZT K (QB i) "given")<|QE te QQ) ρ D:=fun F0 R F s H E x S U=>by
 obtain⟨a,Q,k,g,d,m,y,X,as,rfl,O,l,_⟩:=S.hand e;refine⟨_,O,a,C,Q,_,.ref g,rfl,l.ins.2,c.cl,c.gv,rfl,.inl ⟨rfl,_,SqL.of l.given.2.choose_spec.1⟩,h R F s H _ S fun T H1 u o G=>?_⟩;obtain⟨a',P,k',w,d',Z,A,p,r,M,g1,f,L,B⟩:=(S.ext o).hand e
 cases M
 obtain⟨rfl,rfl,rfl,rfl,rfl,rfl⟩:=l.same f ((o.hh _ _ l.ins.2).trans l.ins.2.symm);obtain⟨Y,I,J,t⟩:=f.given;have j:=L w (by simp);refine⟨w,I,u,rfl,rfl,J,by rw[t.length,Xn];exact Vc<|by omega,?_⟩;exact U.nx T s _ _ ((x.trans o).wr j.1 j.2.1) (B _ { N with given:=N.given++[n] } A p r ((S.ext o).sub.upd j.2.1) (fun b q _=>Qu fun z=>q<|by rw[z];simp) Yp (f.setGiven<|by rw[Xy];exact t.snoc G) fun b q=>.inl q) hn
end
def spP (K:W.Frag){d:Type}(Φ:d->OwnP)(R:d->List OT->(OT->d->Prop)->Prop):Sp:=fun k H Q _=>∃F e a p i N h,k=e::a/\KTs K F/\Q3 F H/\Args K F a i/\(Φ N).ok K F H e p/\R N i h /\
 ∀g c f j v r q,h r j->ExtN p F H g c->(Φ j).ok K g c e f->(∀b∈f,b∈p\/H b=none)->Zp K g c v r q->(∀b∈q,(b∈p\/H b=none)/\b∉f)->Q v c
abbrev spH (K:W.Frag)(C:Addr)(R:HandS->List OT->(OT->HandS->Prop)->Prop):Sp:=spP K (QZ C) R
def Jy (K:W.Frag)(C CR:Addr){a:Type}(e:Addr->Hp->Hp->Hp->Qj->a->Prop)(R:HandS->List OT->(OT->HandS->Prop)->Prop)(d:List OT->(a->Prop)->Prop):Sp:=fun b H Q E=>(∃c,E=XE CR c/\ZV CR c/\spH K C R b H Q E)\/VN K CR e (fun _ _=>False) d b H Q E
abbrev No (K:W.Frag)(C CR:Addr)(f:Str)(R:HandS->List OT->(OT->HandS->Prop)->Prop)(Rx:List OT->(Qd->Prop)->Prop):Sp:=Jy K C CR (Fld f) R Rx
def GT (K:W.Frag)(C:Addr)(R:HandS->List OT->(OT->HandS->Prop)->Prop)(R2:List OT->(OT->Prop)->Prop):Sp:=fun a H Q E=>spH K C R a H Q E\/QY K R2 a H Q E
def EvR (K:W.Frag)(t:TS)(ρ:Q9)(Ψ:OT->Q9->Prop):Prop := ∀(j d F:Hp) (g:St) (H:Hp) (E:Ends),Qy j d F H->QA K d F ρ g H ->
 (∀f c e b v r q,Qy j d f e->QA K d f b c e->Zp K f e v r q->(∀a∈q,d a=none)->(∀a∈q,∀u h i,b[0]?=some (some h)->c[0]?=some (some u)->Zp K f e u h i->a∉i)->Ψ r b->E.rt v e)->t E g H
section
variable {K:W.Frag}{ρ:Q9}{te:TE}{t u:TS}{Ψ:OT->Q9->Prop}
def ZS (M:Q9->Prop)(i:Q0 K t ρ { nx:=M,rt:=fun _=>False })(h:∀a,M a->EvR K u a Ψ):EvR K (Yz t u) ρ Ψ:=fun d c F f H E x S k =>
 i d c F f H _ x S ⟨fun m b l a g j e=>h a e d c m b l E g j k,fun _ _ _ _ _ _ _ _ z=>z.elim,fun _ _ _ _ _ _ z=>False.elim z,fun _ _ _ _ _ _ z=>False.elim z⟩
def Bt (h:Qs K te ρ d)(c:Ψ (.fz d) ρ):EvR K (Y0 te) ρ Ψ:=fun i e F a H E x S k =>
 h e F a H _ S fun g f v b r=>k g a f ρ v (.fz d) [] (x.trans b) (S.ext b) ⟨rfl,r⟩ (by rintro _ ⟨⟩) (by rintro _ ⟨⟩) c
def Ci  (m:j≠0)(e:ρ[j]?=some (some r))(i:Ψ r ρ):EvR K (Y0<|QB j) ρ Ψ:=fun D C F f H E x S k=>by
 obtain⟨p,h,o,n⟩:=S.fp;obtain⟨v,y,g⟩:=h j _ e;refine⟨v,y,k F f H ρ v r (p j) x S g (fun a c=>(n j a c).1) (fun a c u A B w s b l=>?_) i⟩;obtain⟨z,d,q⟩:=h 0 _ w;rw[s]at d;cases d;exact m (o j 0 a c<|GF (K:=K) q b a l)
variable {α:Type}{Φ:α->OwnP}{N:α}
def IB    (q:KTs K F)(o:Q3 F H)(h:Args K F vs ts)(l:(Φ N).ok K F H f p) :
 QA K (fun b=>if b∈p then none else H b) F (some (.own f<|Φ N)::(ts.map some++List.replicate (L.length-(ts.length+1)) none)) (start L (f::vs)) H:=by
 have n:=fun b a=>(Φ N).there l b a;refine⟨q,o,?_,fun j=>if j=0 then p else [],fun j k e=>?_,fun j r b a s=>?_,fun j b a=>?_⟩
 .unfold start
  simp[h.length]
 .cases j with
  |zero =>
    simp at e
    subst e;refine⟨f,?_,rfl,?_⟩
    .unfold start
     simp
    .simp only[if_true]
     exact l
  |succ i =>
    rw[UL]at e;have c:i<ts.length:=by
     by_cases z:i<ts.length
     .exact z
     .rw[X0<|by simpa using z]at e
      have:=List.mem_of_getElem? e
      simp at this
    rw[XG<|by simpa using c,Xt]at e;have A:ts[i]?=some k:=by
     cases z:ts[i]? with
     |none=>rw[z]at e;simp at e
     |some w=>rw[z]at e;simp at e;rw[e]
    obtain⟨v,y,x⟩:=h.get (H:=H) i k A;refine⟨v,?_,?_⟩
    .unfold start
     have g:i<vs.length:=by rw[h.length];exact c
     rw[Xu,Jq,UL,XG<|by simpa using g,Xt,y];rfl
    .simp only[Nat.add_one_ne_zero,if_false]
     exact x
 .by_cases d:j=0
  .by_cases m:r=0
   .rw[d,m]
   .simp[m]at s
  .simp[d]at a
 .by_cases d:j=0
  .simp only[Xd d]at a
   exact⟨by simp[a],(n b a).2⟩
  .simp[d]at a
def HA {L:Qh}{R:α->List OT->(OT->α->Prop)->Prop}{vs:List V}{ts:List OT}{F H:Hp}{e:V}{p:Qg}{Ψ:OT->α->Prop}{Q:VK}{t:TS}{B:St->Hp->Prop}
 (h:EvR K t (some (.own e<|Φ N)::(ts.map some++List.replicate (L.length-(ts.length+1)) none)) (fun r d=>∃j,Ψ r j/\d[0]?=some (some<|.own e<|Φ j)))
 (E:KTs K F) (n:Q3 F H) (J:Args K F vs ts) (C:(Φ N).ok K F H e p)
 (q:∀g c l w v r q,Ψ r w->ExtN p F H g c->(Φ w).ok K g c e l->(∀b∈l,b∈p\/H b=none)->Zp K g c v r q->(∀b∈q,(b∈p\/H b=none)/\b∉l)->Q v c) :
 t { nx:=B,rt:=Q } (start L (e::vs)) H:=by
 have m:∀b,(fun b=>if b∈p then none else H b:Hp) b=none->b∈p\/H b=none:=fun b a=>by
  by_cases z:b∈p
  .exact .inl z
  .simp only[Xc z]at a;exact .inr a
 refine h F (fun b=>if b∈p then none else H b) F _ H _ ⟨fun b o a=>?_,Q3.refl _,n,fun _ h=>.inl h⟩ (IB E n J C) fun g x c d v r A i T k G I ⟨j,M,s⟩=>?_
 .by_cases z:b∈p
  .simp[z]at a
  .simp only[Xc z]at a;exact a
 .obtain⟨S,P,U,O⟩:=T.fp
  obtain⟨u,y,rfl,f⟩:=P 0 _ s;refine q g c (S 0) j v r A M ⟨fun b o D a=>i.hh b o<|by simp only[Xc D];exact a,i.ff,i.fh,fun b a=>?_⟩ f (fun b a=>m b (O 0 b a).1) k (fun b a=>⟨m b<|G b a,I b a _ _ _ s y ⟨rfl,f⟩⟩)
  rcases i.fr b a with z|z
  .exact .inl z
  .exact .inr ((m b z).symm)
end
def VI (P:Program)(w:World)(K:W.Frag)(c:Str->Qf)(base:Heap)(C:Addr)(m:Str)(ps:Qh)(k:Nat)(b:Sp):Prop :=
 ∃f a,Meth K C m f/\Vj K a ps []/\FnOk P w K c base (CX1 P w) k f a ps b
section
variable {P:Program}{w:World}{K:W.Frag}{mg:Str->Qf}{base:Heap}{C CR:Addr}
def Mf.evHX {m b:Str}{st:Stmt}{L ps:Qh}{k:Nat}{G:Type}{FL:Addr->Hp->Hp->Hp->Qj->G->Prop}{R:HandS->List OT->(OT->HandS->Prop)->Prop}{Y:List OT->(G->Prop)->Prop}(D:Mf K C m b st ps)(S:Qp L ps (Q2 st))(J:∀M ts Ψ,R M ts Ψ->ts.length+1=ps.length)(i:∀ts Φ,Y ts Φ->ts.length=ps.length)(O:ps.length<=L.length)
 (o:∀(f:Addr) (c:Value) (A:Around) (a:List Env) (s:Shared) (H:Hp) RR (v:V) (M:HandS) (ts:List OT) (Ψ:OT->HandS->Prop),Room k (A.deeper<|envOfC b (Q2 st) s.heap.objs.size f c)->ZV CR RR->R M ts Ψ ->
  ∃t,PSs (cx1 P w K mg base L b (Q2 st) f c A a s H<|XE CR RR) (Z7 st) t/\EvR K t (some (.own v<|QZ C M)::(ts.map some++List.replicate (L.length-(ts.length+1)) none)) (fun r B=>∃M',Ψ r M'/\B[0]?=some (some<|.own v<|QZ C M')))
 (u:∀(f:Addr) (c:Value) (A:Around) (a:List Env) (s:Shared) (F H:Hp) RR (ts:List OT) (g:G->Prop),Room k (A.deeper<|envOfC b (Q2 st) s.heap.objs.size f c)->ZV CR RR->(∀F' Z e x d,g d->Qy F H F' Z->H e=none->FL e F' Z H x d->RR e x Z)->Y ts g ->
  ∃t,PSs (cx1 P w K mg base L b (Q2 st) f c A a s H<|XE CR RR) (Z7 st) t/\EvZ K F H t (ts.map some++List.replicate (L.length-ts.length) none)) :
 VI P w K mg base C m ps (k+1) (Jy K C CR FL R Y):=by
 obtain⟨f,fd,F,hm,hb⟩:=D.ex;refine⟨f,fd,hm,hb,F.okX S (fun vs H Q E h=>?_) fun c A a s H vs Q E hr h=>?_⟩
 .rcases h with ⟨RR,_,_,F,v0,I,p,ts,M,Ψ,e,_,_,n,_,j,_⟩|⟨F,ts,_,_,n,RR,_,_,q⟩
  .rw[e,XN,n.length];exact J _ _ _ j
  .rcases q with ⟨_,z,_⟩|⟨r,j,_⟩
   .exact z.elim
   .exact n.length.trans (i ts r j)
 .rcases h with ⟨RR,X,l,F,v0,I,p,ts,M,Ψ,e,N,y,n,ok,j,q⟩|⟨F,ts,N,y,n,RR,X,l,q⟩
  .subst e X
   obtain⟨t,U,T⟩:=o f c A a s H RR v0 M ts Ψ hr l j
   exact⟨t,U,HA (R:=R) T N y n ok q⟩
  .subst X
   rcases q with ⟨_,z,_⟩|⟨g,j,q⟩
   .exact z.elim
   .obtain⟨t,U,T⟩:=u f c A a s F H RR ts g hr l q j
    exact⟨t,U,T F (start L vs) H _ (Qy.refl y)<|U8 (ps:=ps) N y n<|by rw[i ts g j];exact O⟩
def Df.evH2 {x:Str}{st:Stmt}{L ps:Qh}{k:Nat}{R:HandS->List OT->(OT->HandS->Prop)->Prop}{R2:List OT->(OT->Prop)->Prop}(D:Df K mg x st ps)(S:Qp L ps (Q2 st))(u:∀M ts Ψ,R M ts Ψ->ts.length+1=ps.length)(c:∀ts Φ,R2 ts Φ->ts.length=ps.length)(B:ps.length<=L.length)
 (j:∀(f:Addr) (b:Value) (A:Around) (a:List Env) (s:Shared) (H:Hp) (E:XK) (v:V) (M:HandS) (ts:List OT) (Ψ:OT->HandS->Prop),Room k (A.deeper<|envOfC x (Q2 st) s.heap.objs.size f b)->R M ts Ψ ->
  ∃t,PSs (Vo CX0 P w K mg base L x (Q2 st) f b A a s H E).nox (Z7 st) t/\EvR K t (some (.own v<|QZ C M)::(ts.map some++List.replicate (L.length-(ts.length+1)) none)) (fun r i=>∃Y,Ψ r Y/\i[0]?=some (some<|.own v<|QZ C Y)))
 (J:∀(f:Addr) (b:Value) (A:Around) (a:List Env) (s:Shared) (H:Hp) (E:XK) (ts:List OT) (Φ:OT->Prop),Room k (A.deeper<|envOfC x (Q2 st) s.heap.objs.size f b)->R2 ts Φ ->
  ∃t,PSs (Vo CX0 P w K mg base L x (Q2 st) f b A a s H E).nox (Z7 st) t/\Q0 K t (ts.map some++List.replicate (L.length-ts.length) none) { nx:=fun _=>Φ<|.fz .none,rt:=Φ }):QD P w K mg base x ps (k+1) (GT K C R R2):=by
 obtain⟨f,fd,F,hm,hb⟩:=D.ex;refine⟨f,fd,hm,F.kp,hb,F.ok S (fun T H Q E h=>?_) fun b A a s H T Q E X h=>?_⟩
 .rcases h with ⟨F,U,n,p,ts,M,Ψ,e,_,_,g,_,d,_⟩|⟨F,ts,Φ,_,_,g,d,_⟩
  .rw[e,XN,g.length];exact u _ _ _ d
  .exact g.length.trans (c ts Φ d)
 .rcases h with ⟨F,U,n,p,ts,M,Ψ,e,y,l,g,o,d,q⟩|⟨F,ts,Φ,y,l,g,d,q⟩
  .subst e
   obtain⟨t,I,G⟩:=j f b A a s H E U M ts Ψ X d
   exact⟨t,I,HA (R:=R) G y l g o q⟩
  .obtain⟨t,I,G⟩:=J f b A a s H E ts Φ X d
   refine⟨t,I,G F H F (start L T) H _ (Qy.refl l) (U8 (ps:=ps) y l g<|by rw[c ts Φ d];exact B) ⟨fun O Z N i m _ e=>?_,fun O N v r' p m hp o e=>q O N v p r' e m hp o,fun _ _ _ _ _ _ z=>False.elim z,fun _ _ _ _ _ _ z=>False.elim z⟩⟩;exact q O N _ [] _ e m (by rintro _ ⟨⟩) ⟨rfl,.non⟩
end
section
variable {X:Cx}
def Uy {C:Addr}{m:Str}{a b:Pos}{o e:Expr}{es:Qi}{h:TE}{t:TA}{ps:Qh}{j k:Nat}{i:Sp}{pl:Sem Bool}(M:Zn X.prog X.w X.K X.mg X.base C m ps j i)(c:HandC X.K C)(p:Room k X.A)(s:PE X o h)(v:PA X (e::es) t)(r:j<=k:=by walk_at"j")
 (d:starEach (e::es) X.env=(false,eval e X.env)::starEach es X.env:=by rfl) (g:(backTo a<|starEach es X.env).any (·.1)=false:=by rfl)
 (n:eval (.Call (.Attribute o m b) (e::es) [] a) X.env=(do
  let l <- eval o X.env
  standAt b.atName
  let (f,first) <- holding [l] (getMethod l m pl)
  callWith a f first (backTo a<|starEach (e::es) X.env)<|backToKw a<|keywordEach [] X.env):=by rfl) :
 PE X (.Call (.Attribute o m b) (e::es) [] a) (Vr C m i [] E0 h t):=by
 obtain⟨f,w,q,u,F⟩:=M;exact DW (pl:=pl) s c.cl q F (p.mono r) u .nil J9 v d g n
def YI {C:Addr}{m:Str}{a b:Pos}{o:Expr}{d:TE}{ps:Qh}{j k:Nat}{e:Sp}{pl:Sem Bool}(M:Zn X.prog X.w X.K X.mg X.base C m ps j e)(c:HandC X.K C)(i:Room k X.A)(p:PE X o d)(n:j<=k:=by walk_at"j")
 (h:eval (.Call (.Attribute o m b) [] [] a) X.env=(do
  let g <- eval o X.env
  standAt b.atName
  let (f,first) <- holding [g] (getMethod g m pl)
  callWith a f first (backTo a<|starEach [] X.env)<|backToKw a<|keywordEach [] X.env):=by rfl) :
 PE X (.Call (.Attribute o m b) [] [] a) (Vr C m e [] E0 d QQ):=by
 obtain⟨f,r,l,q,F⟩:=M;exact SI (pl:=pl) p c.cl l F (i.mono n) q .nil J9 h
def Wp {C:Addr}{m:Str}{a b:Pos}{o e:Expr}{es:Qi}{h:TE}{t:TA}{ps:Qh}{j k:Nat}{i:Sp}{E:XK}{pl:Sem Bool}(M:VI X.prog X.w X.K X.mg X.base C m ps j i)(c:HandC X.K C)(q:Room k X.A)(n:VV (CX1 X.prog X.w) X E)(u:PE X o h)(w:PA X (e::es) t)(s:j<=k:=by walk_at"j")
 (d:starEach (e::es) X.env=(false,eval e X.env)::starEach es X.env:=by rfl) (g:(backTo a<|starEach es X.env).any (·.1)=false:=by rfl)
 (p:eval (.Call (.Attribute o m b) (e::es) [] a) X.env=(do
  let l <- eval o X.env
  standAt b.atName
  let (f,first) <- holding [l] (getMethod l m pl)
  callWith a f first (backTo a<|starEach (e::es) X.env)<|backToKw a<|keywordEach [] X.env):=by rfl) :
 PE X (.Call (.Attribute o m b) (e::es) [] a) (Vr C m i [] E h t):=by
 obtain⟨f,x,r,v,F⟩:=M;exact DW (pl:=pl) u c.cl r F (q.mono s) v .nil n w d g p
end
section
variable {K:W.Frag}{ρ:Q9}{i j:Nat}{v:V}{C:Addr}{N:HandS}{m:Str}
def U1 {α:Type}{Φ:α->OwnP}{N:α}{F0 H0 F H:Hp}{M:St}(S:QA K H0 F ρ M H)(x:Qy F0 H0 F H)(e:ρ[i]?=some (some<|.own v<|Φ N)) :
 ∃p,M[i]?=some (some v)/\(Φ N).ok K F H v p/\∀h g D B,ExtN p F H h g->(Φ B).ok K h g v D->(∀b∈D,b∈p\/H b=none) ->
  Qy F0 H0 h g/\QA K H0 h (ρ.set i<|some<|.own v<|Φ B) M g/\∀(q:Qg),(∀b∈q,(b∈p\/H b=none)/\b∉D)->(∀b∈q,H0 b=none)/\∀b∈q,∀(j:Nat) (u:V) (t':OT) (T:Qg),(ρ.set i<|some<|.own v<|Φ B)[j]?=some (some t')->M[j]?=some (some u)->Zp K h g u t' T->b∉T:=by
 obtain⟨kt,h1,h2,w,X,Q,d⟩:=S;obtain⟨u,Z,rfl,ok⟩:=X i _ e;have G:=(Xh.mp e).1;refine⟨w i,Z,ok,fun h g D B f s n=>?_⟩;have r:∀j,j≠i->∀b∈w j,b∉w i:=fun j c b a z=>c (Q j i b a z)
 have hH:∀j,j≠i->∀b∈w j,g b=H b:=fun j c b a=>by
  obtain⟨o,ho⟩:=Uz (d j b a).2;rw[f.hh b o (r j c b a) ho,ho]
 have mv:∀j t' l,j≠i->Zp K F H l t' (w j)->Zp K h g l t' (w j):=fun j t' l c A=>by
  refine A.move f.ff (fun b a=>?_) (hH j c)
  cases z:h b with
  |none=>rfl
  |some o =>
    rcases f.fr b (Z6 z) with y|y|y
    .exact Xm (A.there b a).1 y
    .exact Xm y (d j b a).2
    .exact Xm y (r j c b a)
 refine⟨⟨fun b o a=>f.hh b o (fun z=>by rw[(d i b z).1]at a;cases a)<|x.hh b o a,x.ff.trans f.ff,f.fh,fun b a=>?_⟩,⟨kt.mono f.ff,f.fh,by simp[h2],fun j=>if j=i then D else w j,fun j t' R=>?_,fun j k b a t=>?_,fun j b a=>?_⟩,fun q U=>⟨fun b a=>?_,fun b a j u t' T P O E L=>?_⟩⟩
 .rcases f.fr b a with z|z|z
  .exact x.fr b z
  .exact .inr (x.hh.free z)
  .exact .inr (d i b z).1
 .by_cases c:j=i
  .subst c
   rw[Xl G]at R;cases R;refine⟨_,Z,rfl,?_⟩;simp only[if_true];exact s
  .rw[Xs<|Ne.symm c]at R
   obtain⟨l,Y,A⟩:=X j t' R;refine⟨l,Y,?_⟩;simp only[Xc c];exact mv j t' l c A
 .by_cases c:j=i
  .by_cases I:k=i
   .omega
   .simp only[Xd c]at a
    simp only[Xc I]at t;rcases n b a with z|z
    .exact Xm (Q k i b t z) I
    .exact Xm z (d k b t).2
  .simp only[Xc c]at a
   by_cases I:k=i
   .simp only[Xd I]at t
    rcases n b t with z|z
    .exact Xm (Q j i b a z) c
    .exact Xm z (d j b a).2
   .simp only[Xc I]at t
    exact Q j k b a t
 .by_cases c:j=i
  .simp only[Xd c]at a
   refine⟨?_,((Φ B).there s b a).2⟩
   rcases n b a with z|z
   .exact(d i b z).1
   .exact x.hh.free z
  .simp only[Xc c]at a
   exact⟨(d j b a).1,by rw[hH j c b a];exact(d j b a).2⟩
 .rcases(U b a).1 with z|z
  .exact(d i b z).1
  .exact x.hh.free z
 .by_cases c:j=i
  .subst c
   rw[Xl G]at P;cases P;rw[Z]at O;cases O
   exact(U b a).2 ((Φ B).uniq s E.2 b L)
  .rw[Xs<|Ne.symm c]at P
   obtain⟨l,Y,A⟩:=X j t' P;rw[Y]at O;cases O;have J:=GF (K:=K) (mv j t' u c A) E b L
   rcases(U b a).1 with z|z
   .exact r j c b J z
   .exact(d j b J).2 z
def QZ.at  (h:(QZ C N).ok K F H v p):∃a b y n k g d e,v=.ref a/\H a=some (.ins C b<|hfs y n k g d e):=by
 obtain⟨a,b,k,g,d,m,y,c,f,rfl,_,o⟩:=h
 exact⟨a,b,y,_,k,g,d,m,rfl,o.ins.2⟩
end
def GQ (C:Addr):Sp:=fun e H Q _=>∃x c y,e=[.ref x,y]/\H x=some (.ins C c [])/\∀k g d m a,H k=none->H g=none->H d=none->H m=none->[x,k,g,d,m].Nodup ->
 a x=some (.ins C c<|hfs y 0 k g d m)->a k=some (.lst [])->a g=some (.lst [])->a d=some (.dK [])->a m=some (.lst [])->(∀b,b∉[x,k,g,d,m]->a b=H b)->Q .non a
def Dd (P:Program)(w:World)(K:W.Frag)(a:Str->Qf)(base:Heap)(x:Str)(C:Addr)(ps:Qh)(k:Nat):Prop :=
 ∃f b,Mk K C f/\a x=some (.ref C)/\Vj K b ps []/\FnOk P w K a base CX0 k f b ps (GQ C)
def Ak {X:Cx} {C:Addr} {x:Str} {p a:Pos} {e:Expr} {es:Qi} {t:TA} {ps:Qh} {j k:Nat} (M:Dd X.prog X.w X.K X.mg X.base x C ps j) (d:Room k X.A) (n:PA X (e::es) t) (h:j+1<=k:=by walk_at"j") (i:Gl X x:=by rfl) (c:(x==("__debug__" : Str))=false:=by decide +kernel)
 (l:starEach (e::es) X.env=(false,eval e X.env)::starEach es X.env:=by rfl) (b:(backTo a<|starEach es X.env).any (·.1)=false:=by rfl) :
 PE X (.Call (.Name x p) (e::es) [] a) (Uh C (GQ C) [] E0 t):=by
 obtain⟨f,o,M,g,m,F⟩:=M;exact Ce M F (d.mono h) i g m .nil J9 n c l b
def A1 {K:W.Frag}{ρ:Q9}{G:TE}{C:Addr}{E:XK}{D:PyData}(h:Qs K G ρ D):EvX K (Uh C (GQ C) [] E<|QE G QQ) ρ (QZ C ⟨D,0,[],[],[],[]⟩):=fun H0 F Y H Q U q=>h H0 F Y H _ U fun X n B t Z=>fun x f s j u=>by
 have S:=U.ext t;refine⟨x,f,B,rfl,QC,fun e r l d A he hr hl hd J h1 h2 h3 h4 h5 P=>⟨rfl,?_⟩⟩
 have p:∀{b:Addr},upd (upd n f<|.own x) x (.ins C f []) b=none->n b=none/\b≠x/\b≠f:=fun{b} a=>by
  have M:b≠x:=fun z=>by rw[z,QC]at a;cases a
  rw[Qu M]at a;have L:b≠f:=fun z=>by rw[z,QC]at a;cases a
  rw[Qu L]at a;exact⟨a,M,L⟩
 obtain⟨w,e2,R⟩:=p he;obtain⟨g,r2,I⟩:=p hr;obtain⟨v,l2,N⟩:=p hl;obtain⟨y,d2,T⟩:=p hd
 have m:A f=some (.own x):=by
  rw[P f<|by simp only[Xf,XO,or_false,not_or];exact⟨u,Ne.symm R,Ne.symm I,Ne.symm N,Ne.symm T⟩,Qu u,QC]
 have O:∀b o,n b=some o->A b=some o:=fun b o a=>by
  have i:∀{c:Addr},n c=none->b≠c:=fun hc z=>by rw[z,hc]at a;cases a
  rw[P b<|by simp only[Xf,XO,or_false,not_or];exact⟨i s,i w,i g,i v,i y⟩,Qu<|i s,Qu<|i j];exact a
 have k:∀{b:Addr},n b=none->X b=none:=fun a=>S.sub.free a;refine q X A (.ref x) [x,f,e,r,l,d] (t.trans ⟨O,Q3.refl _,fun b o a=>O b o<|S.sub b o a,fun _ h=>.inl h⟩) (fun b a=>?_) ⟨x,f,e,r,l,d,B,[],[],rfl,rfl,?_,⟨k s,h1⟩,⟨k j,m⟩,Z,⟨k w,[],h2,.nil⟩,⟨k g,[],h3,.nil⟩,⟨k v,h4,.nil⟩,⟨k y,h5,.nil⟩⟩
 .refine t.hh.free ?_
  simp only[Xf,XO,or_false]at a;rcases a with rfl|rfl|rfl|rfl|rfl|rfl
  .exact s
  .exact j
  .exact w
  .exact g
  .exact v
  .exact y
 .simp only[XD,Xf,XO,or_false,not_or,not_false_eq_true,Ju,and_true]at J ⊢
  obtain⟨⟨a1,a2,a3,a4⟩,b1,c1,f1⟩:=J
  exact⟨⟨Ne.symm u,a1,a2,a3,a4⟩,⟨Ne.symm R,Ne.symm I,Ne.symm N,Ne.symm T⟩,b1,c1,f1⟩
section
variable {X:Cx}{Xa0:Qc}{σ:St}{H:Hp}{s:Shared}
def Og    (Z:Qr X Xa0 σ H s)(hN:X.N.Nodup)(O:X.N[i]?=some x)(G:X.env.scope.names.lookup x=some .cell)(t:X.fn x=true)
 (h:∀s',Qr X Xa0 (σ.set i none) H s'->Q () s'):wpAny M A (do bindName X.env x .none;unbindBehindTheSuite X.env x pos) Q E s:=by
 have B:i<σ.length:=by rw[Z.len];exact(Xh.mp O).1
 refine Xa (wpAny_bindName<|BS (v:=.non) Z hN O (.inr G) rfl (fun s I=>?_)<|.inl t);obtain⟨m,hn,hl⟩:=id I.loc;have hiσ:i<(σ.set i<|some V.non).length:=by simpa using B
 have Y:=I.cne;obtain⟨c,f⟩:=I.ok.has x (.inl G)
 have S:s.heap.IsCell c (some .none):=by
  obtain⟨u,ru,q⟩:=hl i x .non O (by rw[Xl B]) (.inr<|.inl G)
  cases ru
  rcases q with ⟨k,_⟩|⟨k,L,e,z⟩
  .have z:=G.symm.trans k;cases z
  .rw[f]at e;cases e;exact z
 have g:∀{a:Addr} {P:Heap},(∃o,s.heap.get? a=some o/\H a=none)->Heap.SameBut a s.heap P->HOk X.prog X.w H P:=fun{a P} ha l b ob e=>by
  obtain⟨_,_,r⟩:=ha;refine(I.hok b ob e).stay (fun c w' f q=>(l.2 c ?_).trans q) (fun _ q=>q) fun _ _ q=>q
  rintro rfl
  rcases f with rfl|f
  .rw[r]at e;cases e
  .rw[r]at f;cases f
 unfold unbindBehindTheSuite;refine wpAny_onRaise ?_;unfold unbindName;refine Xa (wpAny_point<|Xa ?_);unfold deleteName;have T:X.env.kindOf x=some .cell:=G;simp only[T];refine Xa (wpAny_cellOf f<|Xa<|wpAny_cellGet S ?_);simp only[Option.isSome_some,if_true];refine wpAny_cellSet S fun P U l=>?_;obtain⟨oc,F,D⟩:=id S;refine wpAny_point (h _ ⟨I.ok,I.os,I.bare,⟨fun b o e n W w=>?_,fun b o e n W w=>?_,I.base.free,fun b o e w=>?_,I.base.tups,I.base.frzs,fun b xs o q e w=>(l.2 b<|Xr<|Xp (Xj e)<|I.ok.cab x c t f).trans (I.base.tupo b xs o q e w),I.base.tbls⟩,⟨m,hn.sameBut l<|Ne.symm<|Y x c f,fun j y v' C R e3=>?_⟩,fun y L e=>?_,I.free,I.freeC,fun p hp=>?_,g ⟨oc,F,I.freeC x c f⟩ l,by simpa using Z.len⟩)
 .exact(l.2 b<|Xr<|Xp (Xj e)<|I.ok.cab x c t f).trans (I.base.keep b o e n W w)
 .obtain⟨sl,C⟩:=I.base.slot b o e n W w
  exact⟨sl,(l.2 b<|Xr<|Xp (Xj e)<|I.ok.cab x c t f).trans C⟩
 .obtain⟨o',C⟩:=I.base.there b o e w
  exact⟨o',(l.2 b<|Xr<|Xp (Xj e)<|I.ok.cab x c t f).trans C⟩
 .by_cases N:j=i
  .subst N
   rw[Xl B]at R;cases R
  .rw[Xs<|Ne.symm N]at R
   obtain⟨u',r',q⟩:=hl j y v' C (by rw[Xs<|Ne.symm N];exact R) e3;refine⟨u',r',?_⟩
   rcases q with q|⟨k,L,e,z'⟩
   .exact .inl q
   .refine .inr ⟨k,L,e,z'.sameBut l ?_⟩
    rintro rfl
    exact N (BV hN C<|I.ok.inj _ _ _ e f▸O)
 .by_cases J:L=c
  .subst J;exact⟨_,U⟩
  .obtain⟨w2,z2⟩:=I.cell y L e
   exact⟨w2,z2.sameBut l J⟩
 .obtain⟨e,n,ne,nf,d⟩:=I.pin p hp
  refine⟨(l.2 p.1 ?_).trans e,n,ne,nf,d⟩;intro q;rw[q,F]at e;have q':oc=p.2:=Option.some.inj e;exact d _ (by rw[<- q'];exact D)
end
def EHc (C:Addr)(th:Addr->TS)(D:Ends)(n j:Nat):XK:=XE C fun e a H=>∀(b:St) H' T,b.length=n->Lefts C e a H H'->H' T=none->T≠e->th e (Dh D j) (b.set j<|some<|.ref e) (left C e a T H')
def Mi {C:Addr}{th:Addr->TS}{D:Ends}{n j:Nat}:ZV C fun e a H=>∀(c:St) b T,c.length=n->Lefts C e a H b->b T=none->T≠e->th e (Dh D j) (c.set j<|some<|.ref e) (left C e a T b):=fun _ _ _ _ r hT d c b h f g=>r c b h f (.head hT d g)
section
variable {X:Cx}{C B:Addr}{th:Addr->TS}{tb:Ends->TS}{body suite:List Stmt}{b0:Stmt}{x n:Str}{j:Nat}{np hpos pos:Pos}{rest:List ExceptHandler}
def Em   {g:St}  (cm:W.exmOne X.K (.ref C) (.ref B)=some true)(b:X.Ok)(a:X.stack=X.env::X.outer)(o:X.env.frame=some X.env.locals)(hg:Gl X x)(hm:X.mg x=some (.ref B))
 (w:X.N.Nodup) (m:X.N[j]?=some n) (c:X.env.scope.names.lookup n=some .local\/(X.env.scope.names.lookup n=some .cell/\X.fn n=true))
 (hh:∀e pn,PSs (WK X e pn) (b0::suite)<|th e) (I:Qr { X with pn:=X.pn++Xa0 } [] g H s) (t:T0≠e) (M:H e=some (.ext<|phF C e dct T0)) (hT:H T0=some (.ext<|phT T0))
 (hd:(x==("__debug__" : Str))=false)
 (hq:∀T,H T=none->T≠e->th e (Dh D j) (g.set j<|some<|.ref e) (left C e dct T H)) (N:∀f L,SP X Xa0 D f L->Q f L) :
 wpAny (model X.prog X.w) X.A (noteFrame (.ref e) X.env) (fun _ s2=>wpAny (model X.prog X.w) X.A (setFlight (.ref e) none) (fun _ i=>wpAny (model X.prog X.w) X.A (handleBy (.ref e) X.env (.ExceptHandler (some<|.Name x np) (some n) (b0::suite) hpos::rest)) Q E i) E s2) E s:=by
 obtain⟨⟨vs,sl,l,O,y⟩,_,_⟩:=I.hok e _ M;obtain⟨⟨oT,ts,k,A,h3⟩,_,_⟩:=I.hok T0 _ hT;have fr:X.A.frames=some (X.env::X.outer):=by rw[b.frames,a]
 have F:=I.stack;have F:s.heap.FunFrames X.base (X.env::X.outer):=by rw[<- a];exact F
 refine Te fr F o l rfl O t k A h3 fun P T Z=>?_;have J:=Kd I (by rw[M];trivial) l (Array.getElem?_eq_some_iff.mp O).1 y (by show Leaves X.stack _ _ _ _ _;rw[a];exact Z);have r:H T=none:=I.hok.fresh Z.new;have d:T≠e:=VY (Xp (Xj l) Z.new);have h:Qr (WK X e<|X.pn++Xa0) [] g (left C e dct T H) { s with heap:=P }:=J.toHandler;refine wpAny_handleBy_cons (codeAny_handlers_test<|Jg h hg hm ?_ hd) (by intro q;cases q);have LT:W.Looks (model X.prog X.w) P (typeOf<|.ref e) (.ref C):=(W.Looks.ld Z.exc).andThen .now;refine(W.exm_one J.kIn LT cm).here (codeAny_handlers_suite_as ?_);have o1:left C e dct T H e=some (.ext<|phF C e dct T):=by unfold left;rw[Qu<|Ne.symm d,QC]
 have o2:left C e dct T H T=some (.ext<|phT T):=by unfold left;rw[QC]
 obtain⟨p1,_,_⟩:=h.hok e _ o1;obtain⟨p2,_,_⟩:=h.hok T _ o2;refine OK p1 p2 fun A k2=>?_;have J2:Qr (WK X e<|X.pn++Xa0) [] g (left C e dct T H) { s with heap:=A }:=h.kept (t':=s.toks) k2;refine BS (X:=WK X e (X.pn++Xa0)) J2 w m (c.imp id And.left) (v:=.ref e) rfl (fun i J3=>?_) (c.symm.imp And.right id);refine wpAny_mono (hh e _ [] i _ _ (Dh D j) J3<|hq T r d) (fun fl s4 z=>?_) fun _ _ z=>False.elim z
 cases fl with
 |next =>
   obtain⟨U,S,R,q⟩:=z
   rcases c with c|⟨c,p⟩
   .exact EG (X:=WK X e (X.pn++Xa0)) R w m c fun Y G=>N _ _ ⟨_,S,(G.ofHandler b).ofPn,q⟩
   .exact Og (X:=WK X e (X.pn++Xa0)) R w m c p fun Y G=>N _ _ ⟨_,S,(G.ofHandler b).ofPn,q⟩
 |ret u=>obtain⟨_,_,_,_,_,z⟩:=z;exact False.elim z
 |brk=>obtain⟨_,_,_,z⟩:=z;exact False.elim z
 |cont=>obtain⟨_,_,_,z⟩:=z;exact False.elim z
def Mh (O:W.exmOne X.K (.ref C) (.ref B)=some true)(i:X.stack=X.env::X.outer)(k:X.env.frame=some X.env.locals)(E:Gl X x)(t:X.mg x=some (.ref B))
 (M:X.N.Nodup) (y:X.N[j]?=some n) (w:X.env.scope.names.lookup n=some .local\/(X.env.scope.names.lookup n=some .cell/\X.fn n=true))
 (L:∀D g,PSs (DP X (EHc C th D X.N.length j) g) body<|tb D) (A:∀e g,PSs (WK X e g) (b0::suite)<|th e) (G:(x==("__debug__" : Str))=false:=by decide) :
 PS X (.Try body (.ExceptHandler (some<|.Name x np) (some n) (b0::suite) hpos::rest) [] [] pos) (GW tb):=by
 intro c s m H D I h;have P:Qr (DP X (EHc C th D X.N.length j)<|X.pn++c) [] m H s:=I.toPn.wish _;refine wpAny_Try_except (wpAny_mono (L D (X.pn++c) [] s m H D P h) (fun o p q=>?_) fun v p q=>?_)
 .have d:=SP.ofPn q
  cases o with
  |next=>exact wpAny_execs_nil d
  |ret u=>exact d
  |brk=>exact d
  |cont=>exact d
 .obtain⟨f,S,N,J,e,rfl,⟨R,l,F,hT⟩,r⟩:=q
  exact Em O I.ok i k E t M y w A J l F hT G (fun T a b=>r f _ T J.len .nil a b) fun o Q z=>z
end
end L2
end
namespace L2
open PySem PySem.Spec PyProof.Rows
section
variable {K:W.Frag}{ρ:Q9}{d:PyData}
def QA.freezeO   (hz:∀{p:Qg},Φ.ok K F H v p->Rep (frF F H p) v d)(s:QA K H0 F ρ σ H)(e:ρ[i]?=some (some<|.own v Φ)) :
 ∃p,(∀a∈p,F a=none/\H a≠none/\H0 a=none)/\QA K H0 (frF F H p) (ρ.set i<|some<|.fz d) σ H:=by
 obtain⟨C,E,D,o,y,x,w⟩:=s;obtain⟨u,J,rfl,r⟩:=y i _ e;have m:=(Xh.mp e).1;have l:=fun a f=>Φ.there r a f;have q:Q3 F (frF F H<|o i):=YK fun a f=>(l a f).1;refine⟨o i,fun a f=>⟨(l a f).1,(l a f).2,(w i a f).1⟩,C.mono q,Je E,by simp[D],fun j=>if j=i then [] else o j,fun j B h=>?_,fun j k b g n=>?_,fun j b g=>?_⟩
 .by_cases c:j=i
  .subst c
   rw[Xl m]at h;cases h;refine⟨_,J,?_,hz r⟩;dsimp only;rw[Xd rfl]
  .rw[Xs<|Ne.symm c]at h
   obtain⟨A,I,G⟩:=y j B h;refine⟨A,I,?_⟩;dsimp only;rw[Xc c];exact G.frOther q fun a f z=>c (x j i a f z)
 .by_cases c:j=i
  .simp[c]at g
  .by_cases t:k=i
   .simp[t]at n
   .simp only[Xc c]at g
    simp only[Xc t]at n;exact x j k b g n
 .by_cases c:j=i
  .simp[c]at g
  .simp only[Xc c]at g
   exact w j b g
end
end L2
section
namespace L2
open PySem PySem.Spec PyProof.Rows
section
variable {K:W.Frag}{C:Addr}
structure MG (K:W.Frag)(mg:Str->Qf)(Y C cg ct:Addr):Prop where
 em:W.exmOne K (.ref C) (.ref Y)=some true
 my:mg "YardError"=some (.ref Y)
 gt:XGt K C
 na:V8 K C "some"
 is:GM K C
 k1:W.kitOne K (.ref C) (.ref C)=some true
 k2:W.kitOne K (.ref C) (.type "ValueError")=some true
 kg:W.kitOne K (.ref C) (.ref cg)=some false
 kt:W.kitOne K (.ref C) (.ref ct)=some false
 m1:mg "NoGuest"=some (.ref cg)
 m2:mg "NoTime"=some (.ref ct)
end
end L2
end
section
set_option maxHeartbeats 400000
namespace L2
open PySem PySem.Spec PyProof.Rows
section
variable {X:Cx}
def ND (X:Cx):List V->Hp->VK->Prop:=fun c H Q=>X.calm=true/\∃(x:V) (b:Ql) (M:Int),c=[x]/\Rep H x (.list<|b.map PyData.int)/\M∈b/\(∀a∈b,a<=M)/\Q (.int M) H
def FJ:Zl X (.builtin "max") (ND X):=by
 intro Y s Z H xs us Q I r h;obtain⟨R,x,c,M,rfl,N,B,d,q⟩:=h;obtain⟨u,rfl,G⟩:=YQ r
 cases N with
 |@lst l ys _ S L =>
   cases G
   have U:=GC L;subst U;obtain⟨a,J,p,hz⟩:=I.list (SqL.of (K:=X.K) S);have o:=p.isList;have y:=BZ J;have E:a.length=c.length:=y.length;have D:0<c.length:=M9.mpr fun z=>by rw[z]at B;cases B
   have f:l<s.heap.objs.size:=by obtain⟨_,e,_⟩:=o;exact Xj e
   refine call_max_walk (wpAny_pyIter_list o ?_)
   refine⟨s.heap.objs.size,[s.heap.objs.size,l],[s.heap.objs.size],a.toArray.size,_,_,_,rfl,Walks.list (A:=X.A.in1) (I.ok.hd R) _ l (Xr f) a.toArray,
    ⟨⟨_,Xz _ rfl,rfl,rfl⟩,o.push _⟩,fun b g=>?_,by simp only[Xv];omega,CmpOf.ints_gt (fun i=>c.getD i 0) (fun i v m=>Jf y<|by simpa using m),fun v h' tk m O=>?_⟩
   .show b<(s.heap.push _).objs.size
    rw[Ww];rcases Xf.mp g with rfl|g
    .exact WN _
    .rcases Xf.mp g with rfl|g
     .exact US f
     .cases g
   .rw[List.getElem?_toArray]at m
    obtain⟨t,rfl⟩:=Jf y m;obtain⟨F,C⟩:=argBest_gt (fun i=>c.getD i 0) (a.toArray.size-1);have n:a.toArray.size=a.length:=by simp
    generalize argBest (fun i j=>decide (c.getD i 0 > c.getD j 0)) (a.toArray.size-1)=k at F C ⊢;rw[n]at F C;have w:k<c.length:=by omega
    have W:c.getD k 0=M:=by
     have T:c.getD k 0∈c:=by simp[w]
     have h2:=d _ T;obtain⟨j,P,e⟩:=UJ.mp B;have h3:=C j (by omega);have h4:c.getD j 0=M:=by simp[P,e]
     omega
    exact⟨.int M,H,I.kept<|Hk O,⟨t,by rw[W]⟩,q⟩
end
section
variable {K:W.Frag}{ρ:Q9}{ta:TE}{D:PEnds}
def FR {ns:Ql}(h:Qs K ta ρ (.list<|ns.map PyData.int))(f:X.calm=true)(g:M∈ns)(e:∀a∈ns,a<=M):Qs K (tCB (ND X)<|QE ta QQ) ρ (.int M):=fun j F c H Q S q =>
 h j F c H _ S fun k i v b d=>⟨f,v,ns,M,rfl,d.mono b.fh,g,e,q k i _ b<|.int _⟩
def Lp (J:Q9->Prop)(h:Q0 K t ρ { nx:=J,ct:=D.ct,bk:=D.bk,rt:=D.rt })(k:∀a,J a->D.nx a):Q0 K t ρ D:=fun j g F c H E x S C =>
 h j g F c H E x S ⟨fun l b i a d f e=>C.nx l b i a d f<|k a e,C.rt,C.bk,C.ct⟩
end
def olP (ds:Qd):OwnP where
 ok K F H v p := ∃a,v=.ref a/\p=[a]/\Vn F H a ds
 there:=by
  rintro K F H v p ⟨a,rfl,rfl,g,f,d,_⟩ c b
  cases Xi.mp b
  exact⟨g,Z6 d⟩
 mono:=by
  rintro K F m H l v p s i h ⟨a,rfl,rfl,g,f,d,j⟩
  exact⟨a,rfl,rfl,i _<|by simp,f,by rw[h _<|by simp];exact d,j.mono s⟩
 uniq:=by
  rintro K F H v p q ⟨a,rfl,rfl,_⟩ ⟨k,e,rfl,_⟩ c b
  cases e
  exact b
def EvW (K:W.Frag)(t:TE)(ρ:Q9)(i:Nat)(Θ:Int->OT->Prop):Prop := ∀(e a F:Hp) (b:St) (H:Hp) (Q:VK),Qy e a F H->QA K a F ρ b H ->
 (∀d c n o,Θ n o->Qy e a d c->Q3 F d->QA K a d (ρ.set i<|some o) b c->Q (.int n) c)->t b H Q
section
variable {K:W.Frag}{ρ:Q9}{ta te tb:TE}{t:TA}{D:PEnds}{i j:Nat}{v:V}{ds:Qd}{ts:List OT}{Θ:Int->OT->Prop}
def olP.frz  (b:(olP ds).ok K F H v p):Rep (frF F H p) v (.list ds):=by
 have c:Q3 F (frF F H p):=YK fun a d=>((olP ds).there b a d).1;obtain⟨a,rfl,rfl,h,g,f,e⟩:=b;exact .lst (by rw[Y4<|by simp];exact f) (e.mono c)
def Sx  (i:Nat)(e:ρ[i]?=some (some<|.own v<|olP ds))(g:Vk d=some u)(h:Qs K te (ρ.set i<|some<|.fz<|.list ds) d):Qs K te ρ d:=fun l F f H Q S q=>by
 obtain⟨p,b,k⟩:=S.freezeO olP.frz e;exact h l _ f H Q k fun n m v x r=>q _ m v (UA (fun a c=>⟨(b a c).1,(b a c).2.1⟩) x) (r.thin g)
def HR  (e:ρ[i]?=some (some<|.own v<|olP ds))(h:Qs K te ρ d)(J:Qs K tb ρ (.int k))(I:ixN ds.length k=some j)(hn:D.nx (ρ.set i<|some<|.own v<|olP<|ds.set j d)) :
 Q0 K (Vp te<|N0 (QB i) tb UY) ρ D:=fun F0 q F g H E x S C =>
 h q F g H _ S fun P N u b B=>by
  obtain⟨M,p,⟨a,rfl,rfl,Y,Q,X,U⟩,Z,_⟩:=(S.ext b).writeOwn e;refine⟨_,M,J q P g N _ (S.ext b) fun O H2 y f A=>?_⟩
  cases A
  obtain⟨_,T,⟨a',L,rfl,R,s,G,o⟩,m,w⟩:=(S.ext<|b.trans f).writeOwn e
  cases L
  obtain⟨r,l,_⟩:=m a Xb;refine⟨a,s,k,j,rfl,rfl,G,by rw[o.length];exact I,?_⟩;exact C.nx O g _ _ ((x.trans<|b.trans f).wr r l) (w _ (olP<|ds.set j d) [a] ((S.ext<|b.trans f).sub.upd l) (fun c n _=>Qu fun z=>n<|by rw[z];exact Xb) Yp ⟨a,rfl,rfl,l,_,QC,o.set (B.mono f.ff) j⟩ fun c n=>.inl n) hn
def FZ {a:Type}{Φ:a->OwnP}{N:a}{R:a->List OT->(OT->a->Prop)->Prop}{Ψ:OT->a->Prop}{O:XK}(e:ρ[i]?=some (some<|.own v<|Φ N))(G:Zz K t ρ ts)(E:R N ts Ψ)(hn:∀r c,Ψ r c->∃n,r=.fz (.int n)/\Θ n (.own v<|Φ c)) :
 EvW K (VH (spP K Φ R) [] O<|QE (QB i) t) ρ i Θ:=fun F0 L F u H Q x S q=>by
 obtain⟨X,y,_⟩:=U1 S x e;refine⟨_,y,G L F u H _ S fun M Z w b A=>?_⟩;obtain⟨p,T,g,l⟩:=U1 (S.ext b) (x.trans b) e;refine⟨M,v,w++[],p,ts,N,Ψ,rfl,(S.ext b).kt,b.fh,by rw[XF];exact A,g,E,fun s o B c P r U C m h d f Y=>?_⟩;obtain⟨n,rfl,k⟩:=hn r c C;obtain⟨I,J,_⟩:=l s o B c m h d;obtain⟨_,z⟩:=f
 cases z
 exact q s o n _ k I (b.ff.trans m.ff) J
def Gu {s:TE->TS}(hw:EvW K te ρ i Θ)(h:∀(H0 F:Hp) (a:St) (H:Hp) (E:Ends),QA K H0 F ρ a H->(∀Q:VK,(∀n d,s (tC<|.int n) E a d->Q (.int n) d)->te a H Q)->s te E a H)
 (hn:∀n o,Θ n o->Q0 K (s<|tC<|.int n) (ρ.set i<|some o) D):Q0 K (s te) ρ D:=fun f H0 F a H E x S c =>
 h H0 F a H E S fun Q k=>hw f H0 F a H Q x S fun m e n o b g _ l=>k n e (hn n o b f H0 m a e E g l c)
def PD (B:Qs K ta ρ (.list ds))(hw:EvW K te ρ i Θ)(hn:∀n o,Θ n o->∃d,atI ds n=some d/\D.nx ((ρ.set i<|some o).set j (some<|.fz d))):Q0 K (Vp (tOp (rIx K) ta te)<|Vd j) ρ D:=fun J m F g H E x S c =>
 B m F g H _ S fun I C u h w=>hw J m I g C _ (x.trans h) (S.ext h) fun L G n o b s k l=>by
  obtain⟨d,e,f⟩:=hn n o b
  cases w with
  |@lst a r _ A y =>
    obtain⟨z,q,p⟩:=U2 (y.mono k) e;exact .inl ⟨a,r,n,z,rfl,rfl,SqL.of<|l.sub _ _<|k _ _ A,q,c.nx L _ G _ s (l.setF p) f⟩
end
section
variable {P:Program}{w:World}{K:W.Frag}{mg:Str->Qf}{base:Heap}
def Df.evP {c:Type}{Φ:c->OwnP}{x:Str}{st:Stmt}{L ps:Qh}{k:Nat}{R:c->List OT->(OT->c->Prop)->Prop}(D:Df K mg x st ps)(S:Qp L ps (Q2 st))(j:∀M ts Ψ,R M ts Ψ->ts.length+1=ps.length)
 (d:∀(f:Addr) (b:Value) (A:Around) (a:List Env) (s:Shared) (H:Hp) (E:XK) (v:V) (M:c) (ts:List OT) (Ψ:OT->c->Prop),Room k (A.deeper<|envOfC x (Q2 st) s.heap.objs.size f b)->R M ts Ψ ->
  ∃t,PSs (Vo CX0 P w K mg base L x (Q2 st) f b A a s H E).nox (Z7 st) t/\EvR K t (some (.own v<|Φ M)::(ts.map some++List.replicate (L.length-(ts.length+1)) none)) (fun r g=>∃o,Ψ r o/\g[0]?=some (some<|.own v<|Φ o))):QD P w K mg base x ps (k+1) (spP K Φ R):=by
 obtain⟨f,O,F,G,I⟩:=D.ex;refine⟨f,O,G,F.kp,I,F.ok S (fun u H Q E h=>?_) fun b A a s H u Q E C h=>?_⟩
 .obtain⟨F,n,i,p,ts,M,Ψ,e,_,_,l,_,m,_⟩:=h
  rw[e,XN,l.length];exact j _ _ _ m
 .obtain⟨F,n,i,p,ts,M,Ψ,e,B,y,l,z,m,q⟩:=h
  subst e;obtain⟨t,N,J⟩:=d f b A a s H E n M ts Ψ C m
  exact⟨t,N,HA (R:=R) J B y l z q⟩
end
section
variable {X:Cx}
def NJ (X:Cx):List V->Hp->VK->Prop:=fun c H Q=>X.calm=true/\∃(x:V) (b:Ql) (M:Int),c=[x]/\Rep H x (.tuple<|b.map PyData.int)/\M∈b/\(∀a∈b,a<=M)/\Q (.int M) H
def FY:Zl X (.builtin "max") (NJ X):=by
 intro W s Y H xs us Q I r h;obtain⟨P,x,c,M,rfl,L,y,d,q⟩:=h;obtain⟨u,rfl,F⟩:=YQ r
 cases L with
 |@tup l Z _ R J =>
   cases F
   have T:=GC J;subst T;obtain⟨a,G,o,hz⟩:=I.tuple (SqT.of (K:=X.K) R);have w:=BZ G;have D:a.length=c.length:=w.length;have C:0<c.length:=M9.mpr fun z=>by rw[z]at y;cases y
   have f:l<s.heap.objs.size:=by obtain⟨_,e,_⟩:=o;exact Xj e
   refine call_max_walk (wpAny_pyIter_tuple o ?_)
   refine⟨s.heap.objs.size,[s.heap.objs.size,l],[s.heap.objs.size],a.toArray.size,_,_,_,rfl,Walks.tuple (A:=X.A.in1) (I.ok.hd P) _ l (Xr f) a.toArray,
    ⟨⟨_,Xz _ rfl,rfl,rfl⟩,o.push _⟩,fun b g=>?_,by simp only[Xv];omega,CmpOf.ints_gt (fun i=>c.getD i 0) (fun i v m=>Jf w<|by simpa using m),fun v h' tk m N=>?_⟩
   .show b<(s.heap.push _).objs.size
    rw[Ww];rcases Xf.mp g with rfl|g
    .exact WN _
    .rcases Xf.mp g with rfl|g
     .exact US f
     .cases g
   .rw[List.getElem?_toArray]at m
    obtain⟨t,rfl⟩:=Jf w m;obtain⟨E,B⟩:=argBest_gt (fun i=>c.getD i 0) (a.toArray.size-1);have n:a.toArray.size=a.length:=by simp
    generalize argBest (fun i j=>decide (c.getD i 0 > c.getD j 0)) (a.toArray.size-1)=k at E B ⊢;rw[n]at E B;have p:k<c.length:=by omega
    have U:c.getD k 0=M:=by
     have S:c.getD k 0∈c:=by simp[p]
     have h2:=d _ S;obtain⟨j,O,e⟩:=UJ.mp y;have h3:=B j (by omega);have h4:c.getD j 0=M:=by simp[O,e]
     omega
    exact⟨.int M,H,I.kept<|Hk N,⟨t,by rw[U]⟩,q⟩
def FE {K:W.Frag}{ρ:Q9}{c:TE}{ns:Ql}{M:Int}(h:Qs K c ρ (.tuple<|ns.map PyData.int))(g:X.calm=true)(i:M∈ns)(f:∀a∈ns,a<=M):Qs K (tCB (NJ X)<|QE c QQ) ρ (.int M):=fun k F d H Q S q =>
 h k F d H _ S fun l j v b e=>⟨g,v,ns,M,rfl,e.mono b.fh,i,f,q l j _ b<|.int _⟩
end
def ZhV:entryFor table "proto.unchain"=some Builtin.«proto.unchain» := entryFor_of_tree (by kernel_rfl)
section
variable {prog:Program}{w:World}{A:Around}{E:Qb}{s:Shared}
def Iy {it e:Addr}{x left step:Int}{g:Obj}{vs:Array Value}{Q:Qf->Shared->Prop}(l:A.handled=some (.ref e))(c:IsRangeIter s.heap it x left step)(d:left<=0)(n:s.heap.get? e=some g)(r:g.data=.fields vs)(u:vs[2]?=some .none)
 (t:∀h',Heap.ExtBut it s.heap h'->Q none { s with heap:=h' }):wpAny (model prog w) A (pyNext<|.ref it) Q E s:=by
 have hT:s.TypeIs (.ref it) "range_iterator" := ⟨_,c,rfl⟩
 unfold pyNext;refine Xa (wpAny_attempt (wpAny_callSpecial?_slot (name:=Str.ofString "__next__") hT F.slot_range_iterator_next
  (wpAny_call_entry F.slot_range_iterator_next hT F.entry_range_iterator_next ?_<|F.args_range_iterator_next_1 _)))
 show wpAny _ _ (field (.ref it) 0 >>= _) _ _ s;refine Xa (YV c rfl (x:=rawInt x) rfl ?_);show wpAny _ _ (field (.ref it) 1 >>= _) _ _ s;refine Xa (YV c rfl (x:=rawInt left) rfl ?_);show wpAny _ _ (field (.ref it) 2 >>= _) _ _ s;refine Xa (YV c rfl (x:=rawInt step) rfl ?_);show wpAny _ _ (if left<=0 then _ else _) _ _ s;rw[Xd d];refine Xa (wpAny_rule ?_);refine Xa ?_;show wpAny _ _ (newExc (.type "StopIteration") [] >>= _) _ _ _;refine Xa ?_;simp only[newExc,newTuple];refine Xa (wpAny_newObj_type ?_<|by size_fits);refine Xa (m:=firstArgMember _ _) (wpAny_of_eq (a:=Value.none) (by first|rfl|(simp only[firstArgMember];rfl)) ?_);refine wpAny_newObj_type ?_ (by size_fits);simp only[raiseNew];refine Xa (wpAny_handled ?_)
 first|rw[show A.in1.handled=some (.ref e) from l]|rw[l]
 have i:e<s.heap.objs.size:=Xj n;have f:(s.heap.push { cls:=Value.type "tuple",data:=Data.seq #[] }).objs.size=s.heap.objs.size+1:=Ww _ _
 have h:(Value.ref e != Value.ref (s.heap.push { cls:=Value.type "tuple",data:=Data.seq #[] }).objs.size)=true:=by
  rw[f,bne_iff_ne];intro z;injection z with z;exact Xr (US i) z
 have j:((s.heap.push { cls:=Value.type "tuple",data:=Data.seq #[] }).push { cls:=Value.type "StopIteration",data:=Data.fields (#[Value.ref s.heap.objs.size,Value.none,Value.none,Value.none,Value.bool false,Value.none]++ownMembersOf (Value.type "StopIteration") []) }).get? e=some g:=Xg _ (Xg _ n);show wpAny _ _ (if (Value.ref e != Value.ref (s.heap.push { cls:=Value.type "tuple",data:=Data.seq #[] }).objs.size)=true then _ else _) _ _ _;rw[Xd h];refine Xa (wpAny_holding<|wpAny_runValue<|codeAny_builtin ZhV ?_);show wpAny _ _ (field (.ref e) 2 >>= _) _ _ _;refine Xa (YV j r u ?_);show wpAny _ _ (if (Value.none==Value.none)=true then _ else _) _ _ _;rw[Xd<|by decide];refine Xa (Xk ?_);refine Xk ?_;show wpAny _ _ (updateField (s.heap.push { cls:=Value.type "tuple",data:=Data.seq #[] }).objs.size 2 (.ref e) >>= _) _ _ _;refine Xa ?_;unfold updateField;refine Xa (wpAny_load (Xz _ rfl) ?_);show wpAny _ _ (if 2<(#[Value.ref s.heap.objs.size,Value.none,Value.none,Value.none,Value.bool false,Value.none]++ownMembersOf (Value.type "StopIteration") []).size then _ else _) _ _ _;rw[Xd<|by rw[Array.size_append];show 2<6+_;omega];refine wpAny_update (Xz _ rfl) (wpAny_throw ?_);refine Xa (wpAny_isInstance (T := "StopIteration") (b:=true) ⟨_,Wz _ (Xz _ rfl) rfl,rfl⟩ isSubtype_stop ?_);refine Xk (t _ fun b o v p=>?_);have q:=Xg { cls:=Value.type "StopIteration",data:=Data.fields (#[Value.ref s.heap.objs.size,Value.none,Value.none,Value.none,Value.bool false,Value.none]++ownMembersOf (Value.type "StopIteration") []) } (Xg { cls:=Value.type "tuple",data:=Data.seq #[] } p)
 rw[XQ _ _ (fun z=>by
  have:=Xj p
  have k:(s.heap.push { cls:=Value.type "tuple",data:=Data.seq #[] }).objs.size=b:=z;rw[f]at k;exact Xm this<|by rw[<- k];exact Nat.not_lt.mpr<|Nat.le_succ _)]
 exact q
end
def MV (C e:Addr)(lo:Int)(n:Nat):It where
 go:=(Itr lo n).go
 stop:=fun i H=>(Itr lo n).stop i H/\∃dct T,H e=some (.ext<|phF C e dct T)
 yld:=(Itr lo n).yld
theorem OE  (hh:X.A.handled=some (.ref e))(it:Addr)(lo:Int)(n:Nat):TurnX X tg (MV C e lo n) [it] it (fun i h=>IsRangeIter h it (lo+(i:Nat)*1) ((n:Int)-(i:Nat)) 1) where
 mem:=by simp
 obj:=fun i h a b c=>by
  have e:b=it:=by simpa using c
  subst e;exact⟨_,a,fun v z=>by
   have D:Data.fields _=Data.cell v:=z
   cases D⟩
 keep:=fun i h q a k=>k it (by simp) _ a
 item:=by
  intro R p l L A _ i y s B H E I j a g;rw[<- p,<- l];obtain⟨x,w,N,u,t,r⟩:=j it (by simp);have G:i<n:=g;refine wpAny_pyNext_range_item a (by omega) fun q f m=>?_;have Q:lo+((i+1:Nat):Int)*1=lo+(i:Int)*1+1:=by push_cast;omega
  have P:(n:Int)-((i+1:Nat):Int)=(n:Int)-(i:Int)-1:=by push_cast;omega
  have d:IsRangeIter q it (lo+((i+1:Nat):Int)*1) ((n:Int)-((i+1:Nat):Int)) 1:=by rw[Q,P];exact f
  refine⟨_,rfl,?_⟩;refine Ge (n := "range_iterator") d rfl rfl (by decide) ⟨.int<|lo+i,H,I.turned (fun b o c e=>(m.2 b c).trans e) x w u t r,?_,⟨rfl,rfl⟩,d,fun b c=>(j b c).1⟩;have z:lo+(i:Int)=lo+(i:Int)*1:=by omega
  rw[z];exact⟨_,rfl⟩
 done:=by
  intro R p l L A _ i y s B H E I j a g;rw[<- p,<- l];obtain⟨x,w,N,u,t,r⟩:=j it (by simp);obtain⟨g,dct,T,J⟩:=g;obtain⟨⟨S,U,F,W,M⟩,_,_⟩:=I.hok e _ J;exact Iy (by rw[A];exact hh) a (by have:n<=i:=g;omega) F rfl M fun q O=>⟨rfl,I.turned (t':=s.toks) (fun b o c e=>O b o c e) x w u t r⟩
 self:=fun _ _ _ _ _ a h=>wpAny_pyIter_rangeiter a h
section
variable {X:Cx}{tg:Expr}
def Di (C e:Addr)(c:TA):TI:=fun a H R=>c a H fun b d=>∃j:Int,b=[.int j] /\ -(2^62)<=j/\j<2^62/\R (MV C e 0 j.toNat) d
def EW {C e:Addr}{c:Qc}{d:St}{H:Hp}{s:Shared}{R:It->Hp->Prop}{E:Qb}{lo a:Int}{t u v:Tok}{f:Nat}(h:X.A.handled=some (.ref e))(I:Qr X c d H s)(h1 : -(2^62)<=lo)(k:lo<2^62)(h3 : -(2^62)<=a)(j:a<2^62)
 (q:R (MV C e lo (a-lo).toNat) H):wpAny (model X.prog X.w) X.A (pyIter<|.ref s.heap.objs.size) (N3 X c d tg R) E { s with heap:=s.heap.push { cls:=.type "range",data:=.fields #[.int lo t,.int a u,.int 1 v] },toks:=f }:=by
 refine wpAny_pyIter_range (IsRange.new ..) (small_one h1 k h3 j) ?_;have g:Qr X c d H { s with heap:=s.heap.push { cls:=.type "range",data:=.fields #[.int lo t,.int a u,.int 1 v] },toks:=f }:=I.kept fun b o e=>Xg _ e
 refine⟨(s.heap.push { cls:=.type "range",data:=.fields #[.int lo t,.int a u,.int 1 v] }).objs.size,[(s.heap.push { cls:=.type "range",data:=.fields #[.int lo t,.int a u,.int 1 v] }).objs.size],_,_,H,rfl,
  g.kept (t':=f) fun b o e=>Xg _ e,OE h _ lo (a-lo).toNat,?_,fun b i=>?_,q⟩
 .have m:lo+((0:Nat):Int)*1=lo:=by simp
  have l:(((a-lo).toNat:Nat):Int)-((0:Nat):Int)=Builtin.Range.rangeSize lo a 1:=by rw[rangeSize_one];split<;>omega
  show IsRangeIter _ _ (lo+((0:Nat):Int)*1) ((((a-lo).toNat:Nat):Int)-((0:Nat):Int)) 1;rw[m,l];exact Xz _ rfl
 .have e:b=(s.heap.push { cls:=.type "range",data:=.fields #[.int lo t,.int a u,.int 1 v] }).objs.size:=by simpa using i
  subst e;exact g.fpOk (Xq _) (g.hok.fresh<|Xq _)
def Me   (m:X.A.handled=some (.ref e)) (n:Gl X "range") (l:X.mg "range"=none) (o:PA X [a] ta) (k:starEach [a] X.env=[(false,eval a X.env)]:=by rfl):PIH X tg (.Call (.Name "range" p) [a] [] pos) (Di C e ta):=by
 intro c s d H R I h;refine Call_ (Jd I n l boot_range<|PyProof.Rows.callWith_type1 (Q7 (o pos c s d H _ I h) ?_) k rfl);rintro w x ⟨v,y,u,g,b⟩;obtain⟨j,e,b,i,q⟩:=b;subst e;cases g with
 |cons r f =>
   cases f
   obtain⟨t,rfl⟩:=r;exact call_range_1 (EW m u (by omega) (by omega) b i<|by simpa using q)
end
def GP (C:Addr)(f:Str)(ds:Qd)(e b q:Addr):ZP where
 ok:=fun K F v=>v=.ref e/\(∃T,F e=some (.ext<|phF C e (some b) T))/\F b=some (.xd [(f,.ref q)])/\∃a,F q=some (.lst a)/\Qx F a ds
 mono:=by
  rintro K F i v s ⟨rfl,⟨T,h⟩,g,a,d,c⟩
  exact⟨rfl,⟨T,s _ _ h⟩,s _ _ g,a,s _ _ d,c.mono s⟩
section
variable {K:W.Frag}{ρ:Q9}{C:Addr}{f:Str}{th:Addr->TS}{tb:Ends->TS}{D:PEnds}{n i j:Nat}{ds:Qd}{e dx q:Addr}
def WR.fz  (h:(WR C f ds e dx q).ok K F H (.ref e) p)(s:Q3 F F')(a:∀b∈p,F' b=H b):(GP C f ds e dx q).ok K F' (.ref e):=by
 obtain⟨rfl,_,⟨T,l⟩,k,c,g,d⟩:=h
 exact⟨rfl,⟨T,by rw[a _<|by simp];exact l⟩,by rw[a _<|by simp];exact k,c,by rw[a _<|by simp];exact g,d.mono s⟩
def QA.excz  (S:QA K H0 F ρ σ H)(h:ρ[i]?=some (some<|.zow<|GP C f ds e dx q)):σ[i]?=some (some<|.ref e)/\(∃T,F e=some (.ext<|phF C e (some dx) T))/\F dx=some (.xd [(f,.ref q)]):=by
 obtain⟨d,g,_⟩:=S.fp;obtain⟨v,c,_,rfl,b,a,_⟩:=g i _ h
 exact⟨c,b,a⟩
def Ij  (h:ρ[i]?=some (some<|.zow<|GP C f ds e dx q))(s:Zz K t ρ [.fz<|.int k])(h1 : -(2^62)<=k)(w:k<2^62):EvI K (Di C e t) ρ (ZQ 0 k.toNat):=fun A F l H R S r =>
 s A F l H _ S fun E z G c o=>by
  cases o with
  |fz a b =>
    cases b
    cases a
    obtain⟨_,⟨T,y⟩,_⟩:=(S.ext c).excz h;refine⟨k,rfl,h1,w,r E z _ c fun B J m g=>⟨⟨?_,_,T,g _ _<|m _ _ y⟩,fun i d v=>?_⟩⟩
    .rw[Wo];exact Xq _
    .obtain⟨u,rfl⟩:=YJ v
     exact⟨u,fun x I p=>by
      obtain⟨rfl,rfl⟩:=p
      exact⟨B,Qy.refl g,.int _⟩⟩
def QA.freezeZX    (s:QA K H0 F ρ σ H)(e:ρ[i]?=some (some<|.own v Φ))
 (hz:∀{F t H:Hp} {p:Qg},Φ.ok K F H v p->Q3 F t->(∀b∈p,t b=H b)->Ψ.ok K t v) :
 ∃p,(∀a∈p,F a=none/\H a≠none/\H0 a=none)/\QA K H0 (frF F H p) (ρ.set i<|some<|.zow Ψ) σ H:=by
 obtain⟨I,L,J,r,B,A,y⟩:=s;obtain⟨u,O,rfl,w⟩:=B i _ e;have m:=(Xh.mp e).1;have th:=fun a g=>Φ.there w a g;have l:Q3 F (frF F H<|r i):=YK fun a g=>(th a g).1;refine⟨r i,fun a g=>⟨(th a g).1,(th a g).2,(y i a g).1⟩,I.mono l,Je L,by simp[J],fun j=>if j=i then [] else r j,fun j G h=>?_,fun j k b d o=>?_,fun j b d=>?_⟩
 .by_cases c:j=i
  .subst c
   rw[Xl m]at h;cases h;refine⟨_,O,?_,hz w l fun b d=>Y4 d⟩;dsimp only;rw[Xd rfl]
  .rw[Xs<|Ne.symm c]at h
   obtain⟨E,N,M⟩:=B j G h;refine⟨E,N,?_⟩;dsimp only;rw[Xc c];exact M.frOther l fun a g z=>c (A j i a g z)
 .by_cases c:j=i
  .simp[c]at d
  .by_cases x:k=i
   .simp[x]at o
   .simp only[Xc c]at d
    simp only[Xc x]at o;exact A j k b d o
 .by_cases c:j=i
  .simp[c]at d
  .simp only[Xc c]at d
   exact y j b d
def Ib (s:Qd->Prop)(hj:j<n)(hth:∀ds e dx q,s ds->Q0 K (th e) ((List.replicate n none).set j (some<|.own (.ref e)<|WR C f ds e dx q)) { nx:=fun B=>D.nx<|B.set j none,rt:=fun _=>False })
 (hz:∀(E:Ends) (F0 H0 F:Hp) (w:St) (H:Hp),Qy F0 H0 F H->QA K H0 F ρ w H->(∀r A e m ds,s ds->Qy F H r A->H e=none->Fld f e r A H m ds->∀(h:St) b T,h.length=n->Lefts C e m A b->b T=none->T≠e->th e (Dh E j) (h.set j<|some<|.ref e) (left C e m T b))->tb E E w H):Q0 K (GW tb) ρ D:=fun F0 H0 F w H E x S c=>by
 refine hz E F0 H0 F w H x S fun r A e m ds M u X d h b T hl y hT p=>?_;obtain⟨dx,q,G,rfl,d⟩:=d;have O:b dx=some (.xd [(f,.ref q)]):=Pe y d.nd d.hd;have N:b q=some (.lst G):=Pe y d.nq d.hq;have J:dx≠T:=fun z=>by subst z;rw[hT]at O;cases O
 have I:q≠T:=fun z=>by subst z;rw[hT]at N;cases N
 have s1:Q3 H (left C e (some dx) T b):=Mp (.step y hT p) u.hh X;have P:Q3 r (left C e (some dx) T b):=Mp (.step y hT p) u.fh d.fe;have U:left C e (some dx) T b e=some (.ext<|phF C e (some dx) T):=by unfold left;rw[Qu<|Ne.symm p,QC]
 have R:left C e (some dx) T b dx=some (.xd [(f,.ref q)]):=by unfold left;rw[Qu J,Qu d.nd];exact O
 have Q:left C e (some dx) T b q=some (.lst G):=by unfold left;rw[Qu I,Qu d.nq];exact N
 have X1:Qy F0 H0 r (left C e (some dx) T b):=x.trans ⟨s1,u.ff,P,u.fr⟩;have L:j<h.length:=by omega
 refine hth ds e dx q M F0 H0 r (h.set j<|some<|.ref e) _ (Dh E j) X1 ⟨S.kt.mono u.ff,P,by simp[hl],fun k=>if k=j then [e,dx,q] else [],fun k t v=>?_,fun k l a g hb=>?_,fun k a g=>?_⟩ ⟨fun F4 Y H4 Z x4 S4 q4=>c.nx F4 _ H4 _ x4 (S4.setN none) q4,fun _ _ _ _ _ _ _ _ z=>False.elim z,fun _ _ _ _ _ _ z=>False.elim z,fun _ _ _ _ _ _ z=>False.elim z⟩
 .by_cases o:k=j
  .subst o
   rw[Xl<|by simpa using hj]at v;cases v;refine⟨.ref e,Xl L,?_⟩;dsimp only;rw[Xd rfl];exact⟨rfl,rfl,⟨d.fe,d.fd,d.fq⟩,⟨T,U⟩,R,G,Q,d.rp⟩
  .rw[Xs<|Ne.symm o,MC]at v
   split at v<;>cases v
 .by_cases o:k=j
  .by_cases hm:l=j
   .omega
   .simp[hm]at hb
  .simp[o]at g
 .dsimp only at g
  by_cases o:k=j
  .rw[Xd o]at g
   rcases Xf.mp g with rfl|g
   .exact⟨x.hh.free X,Z6 U⟩
   .rcases Xf.mp g with rfl|g
    .exact⟨x.hh.free d.d0,Z6 R⟩
    .rcases Xf.mp g with rfl|g
     .exact⟨x.hh.free d.q0,Z6 Q⟩
     .cases g
  .simp[o]at g
end
section
variable {K:W.Frag}{ρ:Q9}{te:TE}{D:PEnds}{i j k:Nat}{Θ:Int->OT->Prop}{r:R2}{c:V}{Ψ:OT->Q9->Prop}
def LY {s:TE->TS}(hw:EvW K te ρ i Θ)(h:∀(H0 F:Hp) (a:St) (H:Hp) (E:Ends),QA K H0 F ρ a H->(∀Q:VK,(∀n d,s (tC<|.int n) E a d->Q (.int n) d)->te a H Q)->s te E a H)
 (hn:∀n o,Θ n o->EvR K (s<|tC<|.int n) (ρ.set i<|some o) Ψ):EvR K (s te) ρ Ψ:=fun f H0 F a H E x S c =>
 h H0 F a H E S fun Q l=>hw f H0 F a H Q x S fun p e n o b g _ m=>l n e (hn n o b f H0 p a e E g m c)
def BH (hw:EvW K te ρ i Θ)(hn:∀n o,Θ n o->D.nx ((ρ.set i<|some o).set j (some<|.fz<|.int n))):Q0 K (Vp te<|Vd j) ρ D :=
 Gu (s:=fun x=>Vp x<|Vd j) hw (fun _ _ _ _ _ _ h=>h _ fun _ _ q=>q) fun n o h=>Z2 Q1 (hn n o h)
def Sy (hw:EvW K te ρ i Θ)(hn:∀n o,Θ n o->Q0 K (Vp (tOp r (tC c)<|tC<|.int n)<|Vd j) (ρ.set i<|some o) D):Q0 K (Vp (tOp r (tC c) te)<|Vd j) ρ D :=
 Gu (s:=fun x=>Vp (tOp r (tC c) x)<|Vd j) hw (fun _ _ _ _ _ _ h=>h _ fun _ _ q=>q) hn
def Ae (l:ρ[k]?=some (some<|.fz d))(hw:EvW K te ρ i Θ)(hn:∀n o,Θ n o->Q0 K (Vp (tOp r (QB k)<|tC<|.int n)<|Vd j) (ρ.set i<|some o) D):Q0 K (Vp (tOp r (QB k) te)<|Vd j) ρ D :=
 Gu (s:=fun x=>Vp (tOp r (QB k) x)<|Vd j) hw (fun u F m H E S h=>by
  obtain⟨p,g,_⟩:=S.fp;obtain⟨f,b,_⟩:=g k _ l
  exact⟨f,b,h _<|by rintro n t ⟨e,a,q⟩;rw[b]at a;cases a;exact q⟩) hn
def FW  (hw:EvW K te ρ i Θ)(hn:∀n o,Θ n o->Q0 K (Uc (Gb<|QE (tOp r (tC c)<|tC<|.int n) QQ) g b) (ρ.set i<|some o) D):Q0 K (Uc (Gb<|QE (tOp r (tC c) te) QQ) g b) ρ D :=
 Gu (s:=fun x=>Uc (Gb<|QE (tOp r (tC c) x) QQ) g b) hw (fun _ _ _ _ _ _ h=>h _ fun _ _ q=>q) hn
def Cl   (w:ρ[b]?=some (some<|.ol ds))(v:ρ[k]?=some (some<|.fz d))(hw:EvW K te ρ i Θ)
 (hn:∀n o,Θ n o->Q0 K (Vq<|tBM K "list" YH (QB b)<|QE (tOp r (QB k)<|tCB r2<|QE (tOp r3 (tC<|.int n)<|tC c) QQ) QQ) (ρ.set i<|some o) D) :
 Q0 K (Vq<|tBM K "list" YH (QB b)<|QE (tOp r (QB k)<|tCB r2<|QE (tOp r3 te<|tC c) QQ) QQ) ρ D :=
 Gu (s:=fun x=>Vq<|tBM K "list" YH (QB b)<|QE (tOp r (QB k)<|tCB r2<|QE (tOp r3 x<|tC c) QQ) QQ) hw (fun I F y H E S h=>by
  obtain⟨C,g,_⟩:=S.fp;obtain⟨p,m,_⟩:=g k _ v;obtain⟨u,l,a,rfl,_,_,z,t,_⟩:=g b _ w;refine⟨.ref a,l,.inl ⟨rfl,_,SqL.of t⟩,p,m,h _ fun n G ⟨B,f,_,A,e,q⟩=>?_⟩;rw[l]at f;cases f;rw[m]at e;cases e;exact q) hn
def F8  (e1:ρ[a1]?=some (some<|.fz d1))(e2:ρ[a2]?=some (some<|.fz d2))(z:ρ[a3]?=some (some<|.fz d3))(y:ρ[a4]?=some (some<|.fz d4))(hw:EvW K te ρ i Θ)
 (hn:∀n o,Θ n o->EvR K (Y0<|Wa<|QE (QB a1)<|QE (QB a2)<|QE (QB a3)<|QE (QB a4)<|QE (tOp r (tC c)<|tC<|.int n) QQ) (ρ.set i<|some o) Ψ) :
 EvR K (Y0<|Wa<|QE (QB a1)<|QE (QB a2)<|QE (QB a3)<|QE (QB a4)<|QE (tOp r (tC c) te) QQ) ρ Ψ :=
 LY (s:=fun x=>Y0<|Wa<|QE (QB a1)<|QE (QB a2)<|QE (QB a3)<|QE (QB a4)<|QE (tOp r (tC c) x) QQ) hw (fun M F A H E S h=>by
  obtain⟨J,g,_⟩:=S.fp;obtain⟨w,p,_⟩:=g a1 _ e1;obtain⟨v,m,_⟩:=g a2 _ e2;obtain⟨u,l,_⟩:=g a3 _ z;obtain⟨t,f,_⟩:=g a4 _ y;refine⟨w,p,v,m,u,l,t,f,h _ fun n L ⟨I,e,G,d,C,b,B,a,q⟩=>?_⟩;rw[p]at e;cases e;rw[m]at d;cases d;rw[l]at b;cases b;rw[f]at a;cases a;exact q) hn
end
def K0 {K:W.Frag}{ρ:Q9}{w:TE}{t:TA}{ts:List OT}{R:Qd->List OT->(OT->Qd->Prop)->Prop}{e Φ:OT->Prop}{E':XK}(h:Zm K w ρ e)(P:Zz K t ρ ts)(m:∀r,e r->∃ds Ψ,r=.ol ds/\R ds ts Ψ/\∀r n,Ψ r n->Φ r) :
 Zm K (VH (spP K olP R) [] E'<|QE w t) ρ Φ:=fun x F s H Q S q =>
 h x F s H _ S fun Z U u p D k v N J=>by
  obtain⟨ds,Ψ,rfl,m,O⟩:=m D k;refine P x Z s U _ (S.ext v) fun Y H2 y g C=>?_;have j:=J.ext g;obtain⟨a,rfl,rfl,G⟩:=j;have c:=v.trans g;have l:H a=none:=N a Xb;refine⟨Y,.ref a,y++[],[a],ts,ds,Ψ,rfl,(S.ext c).kt,g.fh,by rw[XF];exact C,⟨a,rfl,rfl,G⟩,m,fun F' X p' T A r E L f I B i M=>?_⟩;refine q F' X A E r (O r T L) ⟨fun b o d=>?_,c.ff.trans f.ff,f.fh,fun b d=>?_⟩ (fun b d=>?_) i
  .refine f.hh b o (fun z=>?_) (c.hh b o d)
   cases Xi.mp z
   rw[l]at d;cases d
  .rcases f.fr b d with z|z|z
   .exact c.fr b z
   .exact .inr (c.hh.free z)
   .cases Xi.mp z;exact .inr l
  .rcases(M b d).1 with z|z
   .cases Xi.mp z;exact l
   .exact c.hh.free z
section
variable {K:W.Frag}{ρ:Q9}{D:PEnds}{i:Nat}{t:TA}{te:TE}
def Ny (K:W.Frag)(t:TE)(ρ:Q9)(i:Nat)(Θ:PyData->OT->Prop):Prop := ∀(f a F:Hp) (b:St) (H:Hp) (Q:VK),Qy f a F H->QA K a F ρ b H ->
 (∀e c d w o,Θ d o->Vk d=some w->Qy f a e c->Q3 F e->QA K a e (ρ.set i<|some o) b c->Q w c)->t b H Q
def CC {s:TE->TS}{Θ:PyData->OT->Prop}(hw:Ny K te ρ i Θ)(j:∀(H0 F:Hp) (a:St) (H:Hp) (E:Ends),QA K H0 F ρ a H->(∀Q:VK,(∀w e,s (tC w) E a e->Q w e)->te a H Q)->s te E a H)
 (hn:∀d w o,Θ d o->Vk d=some w->Q0 K (s<|tC w) (ρ.set i<|some o) D):Q0 K (s te) ρ D:=fun g H0 F a H E x S c =>
 j H0 F a H E S fun Q l=>hw g H0 F a H Q x S fun n f d w o b k h _ m=>l w f (hn d w o b k g H0 n a f E h m c)
end
def Ho:bootBuiltins "dict"=some (.type "dict"):=by decide +kernel
def DQ:List V->Hp->VK->Prop:=fun c H Q=>∃a b,c=[.ref a]/\H a=some (.dK b)/\∀p,H p=none->Q (.ref p) (upd H p<|.dK b)
def HE:Zl X (.type "dict") DQ:=by
 intro f s i H j k Q I r h;obtain⟨a,c,rfl,e,q⟩:=h;obtain⟨u,rfl,b⟩:=YQ r
 cases b
 exact Ev I (.of e) fun p l d g=>⟨.ref p,_,g,rfl,q p d⟩
section
variable {K:W.Frag}{ρ:Q9}{te tb:TE}{t:TA}{D:PEnds}{i j:Nat}{v u:V}{C:Addr}{N:HandS}{m:Str}{kvs:Zf}
def QA.absorb  (s:QA K H0 F ρ σ H)(M:i≠j)(e:ρ[i]?=some (some<|.own v Φ))(S:ρ[j]?=some (some<|.own u Φj)) :
 σ[i]?=some (some v)/\σ[j]?=some (some u)/\∃p q,Φ.ok K F H v p/\Φj.ok K F H u q/\(∀a∈p,H0 a=none/\F a=none/\H a≠none)/\(∀a∈q,H0 a=none/\F a=none/\H a≠none)/\(∀a∈q,a∉p) /\
  ∀(w:Hp) (n:OwnP) (y:Qg),Q3 F w->(∀b,b∉p->b∉q->H b≠none->w b=H b)->(∀b,H b≠none->w b≠none)->n.ok K F w v y->(∀a∈y,a∈p\/a∈q\/(H a=none/\H0 a=none)) ->
   QA K H0 F ((ρ.set j none).set i (some<|.own v n)) σ w:=by
 obtain⟨Z,h1,h2,G,O,r,h⟩:=s;obtain⟨v',U,rfl,T⟩:=O i _ e;obtain⟨P,f1,rfl,R⟩:=O j _ S;refine⟨U,f1,G i,G j,T,R,fun a c=>⟨(h i a c).1,(Φ.there T a c).1,(h i a c).2⟩,fun a c=>⟨(h j a c).1,(Φj.there R a c).1,(h j a c).2⟩,fun a c d=>M (r j i a c d).symm,fun w n y Y kp I Q x=>?_⟩;have J:=(Xh.mp e).1;have L:=(Xh.mp S).1;refine⟨Z,Y,by simp[h2],fun k=>if k=i then y else if k=j then [] else G k,fun k X o=>?_,fun k l a c d=>?_,fun k a c=>?_⟩
 .by_cases g:k=i
  .subst g
   rw[Xl<|by simpa using J]at o;cases o;refine⟨_,U,rfl,?_⟩;simp only[if_true];exact Q
  .rw[Xs<|Ne.symm g]at o
   by_cases f:k=j
   .subst f
    rw[Xl L]at o;cases o
   .rw[Xs<|Ne.symm f]at o
    obtain⟨P,g1,g2⟩:=O k X o;refine⟨P,g1,?_⟩;simp only[Xc g,Xc f];exact g2.keep fun b d=>kp b (fun z=>g<|r k i b d z) (fun z=>f<|r k j b d z) (h k b d).2
 .have A:∀{k l:Nat} {a:Addr},k≠i->a∈(if k=j then ([]:Qg) else G k)->a∈y->False:=fun{k l a} g c d=>by
   by_cases f:k=j
   .rw[Xd f]at c;exact nomatch c
   .rw[Xc f]at c
    rcases x a d with z|z|z
    .exact g (r k i a c z)
    .exact f (r k j a c z)
    .exact(h k a c).2 z.1
  by_cases g:k=i
  .by_cases B:l=i
   .omega
   .simp only[Xd g]at c
    simp only[Xc B]at d;exact(A (l:=0) B d c).elim
  .simp only[Xc g]at c
   by_cases B:l=i
   .simp only[Xd B]at d
    exact(A (l:=0) g c d).elim
   .simp only[Xc B]at d
    by_cases f:k=j
    .rw[Xd f]at c;exact nomatch c
    .by_cases E:l=j
     .rw[Xd E]at d;exact nomatch d
     .rw[Xc f]at c
      rw[Xc E]at d;exact r k l a c d
 .by_cases g:k=i
  .simp only[Xd g]at c
   rcases x a c with z|z|z
   .exact⟨(h i a z).1,I a (h i a z).2⟩
   .exact⟨(h j a z).1,I a (h j a z).2⟩
   .exact⟨z.2,(n.there Q a c).2⟩
  .simp only[Xc g]at c
   by_cases f:k=j
   .rw[Xd f]at c;exact nomatch c
   .rw[Xc f]at c
    exact⟨(h k a c).1,I a (h k a c).2⟩
def F7 {k m n:Int}(c:HandC K C)(e:ρ[i]?=some (some<|.own v<|QZ C N))(hi:Qs K tb ρ (.int k))(h0:0<=k)(L:N.given[k.toNat]?=some m)(h:Qs K te ρ (.int n))
 (hn:D.nx (ρ.set i<|some<|.own v<|QZ C { N with given:=N.given.set k.toNat (m+n) })):Q0 K (Bd (ZT K (QB i) "given") tb te (Bb K) (ipI fun a b=>a+b) UY) ρ D:=fun F0 O F r H E x S C'=>by
 obtain⟨a,dx,kk,g,d,m',y,xs,as,rfl,e1,p,_⟩:=S.hand e;refine⟨_,e1,a,C,dx,_,.ref g,rfl,p.ins.2,c.cl,c.gv,rfl,hi O F r H _ S fun F1 H1 y1 f r1=>?_⟩
 cases r1
 obtain⟨_,X,Z,Y⟩:=p.given;have A:(N.given.map PyData.int)[k.toNat]?=some (.int m):=by rw[Xt,L];rfl
 obtain⟨z,R,Q⟩:=(Y.mono f.ff).get A;refine⟨g,X,k,z,rfl,rfl,SqL.of<|f.hh _ _ Z,h0,R,h O F1 r H1 _ (S.ext f) fun P H2 u q w=>?_⟩
 cases w
 cases Q
 refine⟨m,n,rfl,rfl,?_⟩;obtain⟨a',dx',k',M,d',m'',T,s,G,ea,g1,l,hp,U⟩:=(S.ext<|f.trans q).hand e
 cases ea
 obtain⟨rfl,rfl,rfl,rfl,rfl,rfl⟩:=p.same l (((f.trans q).hh _ _ p.ins.2).trans p.ins.2.symm);obtain⟨q1,I,q2,J⟩:=l.given;have hlt:k.toNat<N.given.length:=(Xh.mp L).1
 have hr:Qx P (I.set k.toNat<|.int<|m+n) ((N.given.set k.toNat<|m+n).map PyData.int):=by
  rw[List.map_set];exact J.set (.int _) _
 have o:=hp M (by simp);refine⟨M,I,k,k.toNat,rfl,rfl,q2,?_,?_⟩
 .rw[J.length,Xn]
  unfold ixN;rw[Xd h0,Xd<|by omega]
 .exact C'.nx P r _ _ ((x.trans<|f.trans q).wr o.1 o.2.1) (U _ _ T s G ((S.ext<|f.trans q).sub.upd o.2.1) (fun b B _=>Qu fun z=>B<|by rw[z];simp) Yp (l.setGiven hr) fun b B=>.inl B) hn
theorem MadeD.len {F H:Hp}:∀{as:Qg} {ms:List Zf},MadeD F H as ms->as.length=ms.length
 |_,_,.nil=>rfl
 |_,_,.cons _ _ _ t=>by simp[t.len]
theorem MadeD.snoc {F H:Hp}{b:Addr}{xs:List (Key×V)}{ms:List Zf}(d:F b=none)(c:H b=some (.dK xs))(a:PairK F xs kvs):∀{as:Qg} {ms:List Zf},MadeD F H as ms->MadeD F H (as++[b]) (ms++[kvs])
 |_,_,.nil=>.cons d c a .nil
 |_,_,.cons g f e t=>.cons g f e (MadeD.snoc (ms:=ms) d c a t)
def HandOk.addMade {F H:Hp}{a c k g d m b:Addr}{y:V}{xs zs:List (Key×V)}{as:Qg}(A:HandOk C N F H a c k g d m y xs as)(r:b∉a::c::k::g::d::m::as)(h1:F b=none)(h2:H b=some (.dK zs))(Z:PairK F zs kvs) :
 HandOk C { N with made:=N.made++[kvs] } F (upd H m<|.lst<|(as++[b]).map V.ref) a c k g d m y xs (as++[b]):=by
 obtain⟨o,⟨Y,X⟩,⟨E,B⟩,s,⟨U,R,T,S⟩,⟨g1,gx,g2,g3⟩,⟨d1,d2,d3⟩,⟨Q,m2,P⟩⟩:=A;have f:=o;simp only[XD,Xf,not_or]at f;obtain⟨⟨a1,a2,a3,a4,a5,a6⟩,⟨b1,b2,b3,b4,b5⟩,⟨c1,c2,c3,c4⟩,⟨f1,f2,f3⟩,⟨x,u2⟩,w,w2⟩:=f;simp only[Xf,not_or]at r;obtain⟨O,M,L,J,I,p,G⟩:=r
 have l:(a::c::k::g::d::m::(as++[b])).Nodup:=by
  have e:a::c::k::g::d::m::(as++[b])=(a::c::k::g::d::m::as)++[b]:=rfl;rw[e,UR];refine⟨o,by simp,fun z q z' n=>?_⟩;rw[Xi.mp n];rintro rfl;simp only[Xf]at q;rcases q with h|h|h|h|h|h|h
  .exact O h
  .exact M h
  .exact L h
  .exact J h
  .exact I h
  .exact p h
  .exact G h
 refine⟨l,⟨Y,by rw[Qu a5];exact X⟩,⟨E,by rw[Qu b4];exact B⟩,s,⟨U,R,by rw[Qu c3];exact T,S⟩,⟨g1,gx,by rw[Qu f2];exact g2,g3⟩,⟨d1,by rw[Qu x];exact d2,d3⟩,⟨Q,QC,?_⟩⟩
 exact(P.snoc (ms:=N.made) h1 h2 Z).other fun z=>by
  rcases XB.mp z with z|z
  .exact w z
  .exact p (Xi.mp z).symm
def HandOk.setNow {F H:Hp}{a c k g d m:Addr}{y:V}{xs:List (Key×V)}{as:Qg}(h:HandOk C N F H a c k g d m y xs as)(n:Int) :
 HandOk C { N with now:=n } F (upd H a<|.ins C c<|hfs y n k g d m) a c k g d m y xs as:=by
 obtain⟨e,⟨A,U⟩,⟨o,l⟩,f,⟨z,s,x,w⟩,⟨I,B,G,E⟩,⟨M,L,J⟩,⟨r,q,p⟩⟩:=h;have b:=e;simp only[XD,Xf,not_or]at b;obtain⟨⟨T,S,R,Q,P,O⟩,_⟩:=b
 exact⟨e,⟨A,QC⟩,⟨o,by rw[Qu<|Ne.symm T];exact l⟩,f,⟨z,s,by rw[Qu<|Ne.symm S];exact x,w⟩,⟨I,B,by rw[Qu<|Ne.symm R];exact G,E⟩,⟨M,by rw[Qu<|Ne.symm Q];exact L,J⟩,⟨r,by rw[Qu<|Ne.symm P];exact q,p.other O⟩⟩
def CI (hj:0≠j)(c:HandC K C)(e0:ρ[0]?=some (some<|.own v<|QZ C N))(ej:ρ[j]?=some (some<|.own u<|dkP kvs))(hl:N.made.length<1000)
 (hr:∀w,Ψ (.own w<|dkP kvs)<|(ρ.set j none).set 0 (some<|.own v<|QZ C { N with made:=N.made++[kvs],now:=N.now+1 })) :
 EvR K (Yz (Vq<|tBM K "list" YH (ZT K (QB 0) "made")<|QE (QB j) QQ)<|Yz (RV K (QB 0) (tC<|.int 1) Nu "present")<|Y0<|tCB DQ<|QE (QB j) QQ) ρ Ψ:=fun F0 H0 F σ H E x S kk=>by
 obtain⟨s0,sj,p,q,Z,Y,hp,hq,hd,wr⟩:=S.absorb hj e0 ej;obtain⟨a,n,k,g,d,m,y,xs,o,rfl,rfl,G⟩:=Z;obtain⟨b,T,rfl,rfl,b1,b2,b3⟩:=Y;have P:b∉a::n::k::g::d::m::o:=hd b Xb;have al:o.length=N.made.length:=G.made.2.2.len;have nd:=G.nd;simp only[XD,Xf,not_or]at nd;have am:a≠m:=nd.1.2.2.2.2.1;have L:=hp m (by simp);have M:=hp a (by simp);have f:=G.addMade P b1 b2 b3;have s:=f.setNow (N.now+1)
 have nb:b≠a/\b≠m:=by
  simp only[Xf,not_or]at P;exact⟨P.1,P.2.2.2.2.2.1⟩
 refine⟨_,s0,a,C,n,_,.ref m,rfl,G.ins.2,c.cl,c.md,rfl,.inl ⟨rfl,_,SqL.of G.made.2.1⟩,_,sj,m,_,_,rfl,rfl,G.made.2.1,by rw[Xn,al];exact Vc<|by omega,?_⟩;have em:o.map V.ref++[V.ref b]=(o++[b]).map V.ref:=by rw[Xy];rfl
 rw[em];refine⟨_,s0,a,C,n,_,.int N.now,rfl,f.ins.2,c.cl,c.pr,rfl,N.now,1,rfl,rfl,n,_,f.ins.2,by show 6<1000;decide,?_⟩;have ef:V3 "present" (.int<|N.now+1) (hfs y N.now k g d m)=hfs y (N.now+1) k g d m:=rfl;rw[ef];generalize B:upd H m (.lst<|(o++[b]).map V.ref)=R at f s;generalize A:upd R a (.ins C n<|hfs y (N.now+1) k g d m)=I at s;have e2:∀z,z≠a->z≠m->I z=H z:=fun z O z2=>by rw[<- A,Qu O,<- B,Qu z2]
 have X1:Qy F0 H0 F R:=by rw[<- B];exact x.wr L.1 L.2.1
 have X2:Qy F0 H0 F I:=by rw[<- A];exact X1.wr M.1 M.2.1
 have X:∀z,H z≠none->R z≠none:=by rw[<- B];exact Yp
 have U:∀z,R z≠none->I z≠none:=by rw[<- A];exact Yp
 have Q:=wr I (QZ C { N with made:=N.made++[kvs],now:=N.now+1 }) (a::n::k::g::d::m::(o++[b])) X2.fh
  (fun z O _ _=>e2 z (fun h=>O<|by rw[h];simp) fun h=>O<|by rw[h];simp) (fun z e=>U z<|X z e) ⟨a,n,k,g,d,m,y,xs,o++[b],rfl,rfl,s⟩ (fun z e=>by
   have ee:a::n::k::g::d::m::(o++[b])=(a::n::k::g::d::m::o)++[b]:=rfl;rw[ee]at e;rcases XB.mp e with e|e
   .exact .inl e
   .exact .inr (.inl e))
 refine⟨_,sj,b,T,rfl,(e2 b nb.1 nb.2).trans b2,fun r l=>?_⟩;have X3:Qy F I F (upd I r<|.dK T):=Qy.own Q.sub l;have hr0:H0 r=none:=X2.hh.free l;refine kk F σ _ _ (.ref r) (.own (.ref r)<|dkP kvs) [r] (X2.trans X3) (Q.ext X3) ⟨rfl,r,T,rfl,rfl,Q.sub.free l,QC,b3⟩ (fun z e=>by rw[Xi.mp e];exact hr0) (fun z e u' t' q' f1 f2 ok' J=>?_) (hr _);rw[Xi.mp e]at J;obtain⟨fp,g1,g2,g3⟩:=Q.fp;obtain⟨v2,h1,h2⟩:=g1 0 _ f1;rw[f2]at h1;cases h1
 exact(g3 0 r<|GF (K:=K) (h2.ext X3) ok' r J).2 l
def LN {t:TS}{Ψ:OT->Q9->Prop}(i:Nat){r:OT}{d:PyData}(e:ρ[i]?=some (some r))(k:MX r=some d)(h:EvR K t (ρ.set i<|some<|.fz d) Ψ):EvR K t ρ Ψ:=fun n l F g H E x S C=>by
 obtain⟨p,c,f⟩:=S.freezeG e k;refine h n l _ g H E ⟨x.hh,x.ff.trans<|YK fun a b=>(c a b).1,f.sub,fun a b=>?_⟩ f C
 by_cases z:a∈p
 .exact .inr (c a z).2.2
 .rw[Yo z]at b;exact x.fr a b
end
def dlP (i:List Zf):OwnP where
 ok K F H v p := ∃a d,v=.ref a/\p=a::d/\(a::d).Nodup/\F a=none/\H a=some (.lst<|d.map V.ref)/\MadeD F H d i
 there:=by
  rintro K F H v p ⟨a,d,rfl,rfl,nd,l,g,h⟩ b f
  rcases Xf.mp f with rfl|f
  .exact⟨l,Z6 g⟩
  .exact h.mem b f
 mono:=by
  rintro K F z H y v p s n m ⟨a,d,rfl,rfl,nd,l,g,h⟩
  exact⟨a,d,rfl,rfl,nd,n a Xb,by rw[m a Xb];exact g,h.mono s (fun b f=>n b<|Xe _ f) fun b f=>m b<|Xe _ f⟩
 uniq:=by
  rintro K F H v p q ⟨a,d,rfl,rfl,nd,l,g,h⟩ ⟨x,w,e,rfl,o,u,k,t⟩ c r
  cases e
  have j:=g.symm.trans k;injection j with j;injection j with j;rw[BR j];exact r
def W7 (kvs:Zf):Prop := ∀x∈kvs,∃k n,x.1=.inl k/\x.2=.int n
def MI (xs:List (Key×V)):Prop := ∀p∈xs,∃k n,p.1=.inl k/\p.2=.int n
def PairK.ints  (h:PairK F xs kvs)(b:W7 kvs):MI xs:=by
 induction h with
 |nil=>rintro p ⟨⟩
 |@cons k x d xs kvs r t f =>
   intro p a;rcases Xf.mp a with rfl|a
   .obtain⟨c,n,i,e⟩:=b _ Xb
    have e:d=.int n:=e;subst e;cases r
    exact⟨c,n,i,rfl⟩
   .exact f (fun x g=>b x<|Xe _ g) p a
def PairK.one  (b:W7 kvs)(h:PairK F xs kvs):∀{ys:List (Key×V)},PairK F ys kvs->xs=ys:=by
 induction h with
 |nil =>
   intro ys a;cases a
   rfl
 |@cons k x d xs kvs r t g =>
   intro ys a;obtain⟨j,n,l,e⟩:=b _ Xb;have e:d=.int n:=e;subst e;cases a with
   |cons f c =>
     cases r
     cases f
     rw[g (fun x i=>b x<|Xe _ i) c]
def AJ {xs:List (Key×V)}(b:(xs.map (·.1)).Nodup):∀p∈xs,Zx xs p.1=some p.2:=by
 induction xs with
 |nil=>rintro p ⟨⟩
 |cons q xs c =>
   intro p a;rw[Xu,XD]at b;rcases Xf.mp a with rfl|a
   .exact YB rfl
   .rw[YA fun z=>b.1<|by rw[z];exact XL.mpr ⟨p,a,rfl⟩]
    exact c b.2 p a
def T7  {e:List (Key×Value)}{xs:List (Key×V)}{f:List (Key×Value)}(r:KV xs f)(h:∀p∈xs,∃n t,p.2=.int n/\valueAt e p.1=some (.int n t)):W.KeqHits A s e f true:=by
 unfold KV at r;induction r with
 |nil=>exact .nil
 |@cons p q y x u t o =>
   obtain⟨c,g⟩:=u;obtain⟨n,l,w,j⟩:=h p Xb;rw[w]at g;obtain⟨a,d⟩:=g;obtain⟨k,v⟩:=q;have d:v=.int n a:=d;have c:p.1=k:=c;subst d;rw[c]at j;have i:=SeqAt.EqAt.int_int (A:=A) (s:=s) n a n l;rw[show(n==n)=true by simp]at i;exact .hit j i (o fun m b=>h m<|Xe _ b)
section
variable {X:Cx}{Xa0:Qc}{σ:St}{H:Hp}{s:Shared}
def SY  {h:Heap}  (d:h.DictOf (ZI P w) a vs)(f:∀p∈vs,∃i,p.1=.inl i):h.DictOf (ZI P' w') a vs:=by
 obtain⟨o,n,M,I,G,F,E,D,C⟩:=d
 have g:∀{l:List DictEntry} {c:List (Key×Value)},Pairs (ZI P w) l c->(∀p∈c,∃i,p.1=.inl i)->Pairs (ZI P' w') l c/\∀e∈l,∃i,JD (.inl i) e.key=true:=by
  intro l c q;induction q with
  |nil=>exact fun _=>⟨.nil,by rintro e ⟨⟩⟩
  |@cons e u n t j r R y =>
    intro f;obtain⟨A,z⟩:=y fun p B=>f p (Xe _ B);refine⟨.cons j r A,fun Q b=>?_⟩
    rcases Xf.mp b with rfl|b
    .obtain⟨i,O⟩:=f u Xb
     refine⟨i,?_⟩;rw[<- O];exact j
    .exact z Q b
 obtain⟨x,v⟩:=g D f;refine⟨o,n,M,I,G,F,fun e b=>?_,x,C⟩;obtain⟨k,L,J⟩:=E e b;obtain⟨i,m⟩:=v e (by simpa using b);have N:k=.inl i:=(ZI P w).inj e.key k (.inl i) L m;subst N;exact⟨.inl i,m,J⟩
def EQ (I:Qr X Xa0 σ H s)  (F:H a=some (.dK xs))(E:H b=some (.dK xs))(u:MI xs)(A:Around)(P:Program)(w:World) :
 ∃l k,(a==sysModules)=false/\(b==sysModules)=false/\s.heap.DictOf (ZI P w) a l/\s.heap.DictOf (ZI P w) b k/\l.length=k.length/\W.KeqHits A s k l true:=by
 obtain⟨z,C,g,d,J⟩:=Dx I.hok F;obtain⟨L,B,f,c,h⟩:=Dx I.hok E
 have y:(xs.map (·.1)).Nodup:=by
  rw[c.keys];obtain⟨_,_,_,_,_,_,_,_,q⟩:=h;exact q
 have m:∀{g:List (Key×Value)},KV xs g->∀p∈g,∃i,p.1=.inl i:=fun{g} r p j=>by
  have:p.1∈xs.map (·.1):=by rw[r.keys];exact XL.mpr ⟨p,j,rfl⟩
  obtain⟨q,D,e⟩:=XL.mp this;obtain⟨o,n,x,_⟩:=u q D
  exact⟨o,by rw[<- e,x]⟩
 refine⟨g,f,C,B,SY J<|m d,SY h<|m c,d.length.symm.trans c.length,T7 d fun p j=>?_⟩;obtain⟨o,n,x,e⟩:=u p j;have r:=c.val p.1;rw[AJ y p j,e]at r;cases q:valueAt f p.1 with
 |none=>rw[q]at r;exact r.elim
 |some v =>
   rw[q]at r;obtain⟨t,G⟩:=(show ∃t,v=Value.int n t from r)
   exact⟨n,t,e,by rw[G]⟩
def DI (H:Hp)(as bs:Qg):Prop:=as.length=bs.length/\∀(i:Nat) (a b:Addr),as[i]?=some a->bs[i]?=some b->∃c,H a=some (.dK c)/\H b=some (.dK c)/\MI c
theorem Kv:∀{as:Qg} {us:Qe},QP (as.map V.ref) us->us=as.map Value.ref
 |[],_,.nil=>rfl
 |a::as,_,.cons r t=>by
   cases r
   rw[Kv t];rfl
def AC (I:Qr X Xa0 σ H s)(h:DI H as bs){A:Around}(B:A.units+8<cLine) :
 (as.map Value.ref).toArray.size=(bs.map Value.ref).toArray.size/\∀j (d:j<(as.map Value.ref).toArray.size) (c:j<(bs.map Value.ref).toArray.size),SeqAt.EqAt A.in1 s (as.map Value.ref).toArray[j] (bs.map Value.ref).toArray[j] ((fun _=>true) j):=by
 refine⟨by simpa using h.1,fun j d c=>?_⟩;have l:j<as.length:=by simpa using d
 have k:j<bs.length:=by simpa using c
 obtain⟨x,t,p,o⟩:=h.2 j as[j] bs[j] (by simp[l]) (by simp[k]);have f:(as.map Value.ref).toArray[j]=.ref as[j]:=by simp
 have e:(bs.map Value.ref).toArray[j]=.ref bs[j]:=by simp
 rw[f,e];by_cases b:as[j]=bs[j]
 .rw[b];exact SeqAt.EqAt.same _
 .refine SeqAt.EqAt.of_refs b fun a w E Q q=>?_
  obtain⟨z,y,i,g,v,u,m,n⟩:=EQ I t p o A.in1.in1 a w;refine W.keq_eq (r:=true) i g v u (show A.units+1<cLine by omega) (fun _=>n) ?_;rw[m,beq_self_eq_true];exact q
end
section
variable {t:TA}{i:Nat}{kss:List Zf}
theorem MadeZ.len {F:Hp}:∀{as:Qg} {ms:List Zf},MadeZ F as ms->as.length=ms.length
 |_,_,.nil=>rfl
 |_,_,.cons _ _ t=>by simp[t.len]
theorem MadeZ.at {F:Hp}:∀{as:Qg} {ms:List Zf},MadeZ F as ms->∀(i:Nat) (a:Addr),as[i]?=some a->∃xs k,ms[i]?=some k/\F a=some (.dK xs)/\PairK F xs k
 |_,_,.nil,i,a,e=>by simp at e
 |_,_,.cons c b t,0,a,e=>by
   simp at e
   subst e;exact⟨_,_,rfl,c,b⟩
 |_,_,.cons c b t,i+1,a,e=>t.at i a (by simpa using e)
theorem MadeD.at {F H:Hp}:∀{as:Qg} {ms:List Zf},MadeD F H as ms->∀(i:Nat) (a:Addr),as[i]?=some a->∃xs k,ms[i]?=some k/\H a=some (.dK xs)/\PairK F xs k
 |_,_,.nil,i,a,e=>by simp at e
 |_,_,.cons _ c b t,0,a,e=>by
   simp at e
   subst e;exact⟨_,_,rfl,c,b⟩
 |_,_,.cons _ c b t,i+1,a,e=>t.at i a (by simpa using e)
def Lg  (j:∀k∈kss,W7 k)(l1:as.length=kss.length)(l2:bs.length=kss.length)
 (m:∀(i:Nat) (a:Addr),as[i]?=some a->∃xs k,kss[i]?=some k/\H a=some (.dK xs)/\PairK F xs k) (l:∀(i:Nat) (a:Addr),bs[i]?=some a->∃xs k,kss[i]?=some k/\H a=some (.dK xs)/\PairK F xs k):DI H as bs:=by
 refine⟨l1.trans l2.symm,fun i a b p o=>?_⟩;obtain⟨xs,k,g,n,f⟩:=m i a p;obtain⟨q,r,c,e,d⟩:=l i b o;rw[g]at c;cases c;have h:=j k (List.mem_of_getElem? g)
 have:=f.one h d
 subst this;exact⟨xs,n,e,f.ints h⟩
end
section
variable {K:W.Frag}{ρ:Q9}{i:Nat}{v:V}{C:Addr}{N:HandS}{m:Str}
def Ez  (c:HandC K C)(e:ρ[i]?=some (some<|.zow<|QW C N))(hl:N.made.length<=1000)(E:∀c,g c=Vd 0)(B:∀c,tcc c=W3)(A:∀c,tee c=tCB DQ (QE (QB 0) QQ)) :
 Zm K (tLC [none] (Dn K<|ZT K (QB i) "made") g tcc tee) ρ fun r=>∃v,r=.own v (dlP N.made):=fun H0 F σ H Q S q=>by
 obtain⟨a,dx,k,gg,d,m,y,ks,gs,xs,f,Z,o⟩:=S.hz e;have s:=S.sub;have al:f.length=N.made.length:=o.made.2.len;refine⟨_,Z,a,C,dx,_,.ref m,rfl,s _ _ o.ins,c.cl,c.md,rfl,m,rfl,⟨_,SqL.of<|s _ _ o.made.1⟩,fun J=>?_⟩;refine⟨fun k O L w=>O=f.length-k/\k<=f.length/\∃j:Qg,L=j.map V.ref/\j.length=k/\Qy F H F w/\(∀b∈j,H b=none)/\j.Nodup/\MadeD F w j (N.made.take k),⟨f.length,by simp,XM _,[],rfl,rfl,Qy.refl s,(by rintro b ⟨⟩),Ju,.nil⟩,?_⟩
 rintro k O L w ⟨rfl,hle,j,rfl,U,l,T,M,u⟩
 have t:w m=some (.lst<|f.map V.ref):=l.fh _ _ o.made.1
 by_cases D:k<f.length
 .have R:(f.map V.ref)[k]?=some (.ref f[k]):=by simp[D]
  have ec:f[k]?=some f[k]:=by simp[D]
  refine .inr ⟨⟨_,_,SqL.of t,R⟩,?_⟩
  rintro v1 H3 ⟨rfl,hy⟩
  have P:=hy _ (SqL.of t);rw[R]at P;cases P;obtain⟨X,kv,g1,g2,g3⟩:=o.made.2.at k f[k] ec;rw[E J,B J,A J];dsimp only[Vd,W3];rw[Xd rfl];refine⟨.ref f[k],by simp[Ya],f[k],X,rfl,l.fh _ _ g2,fun p n=>⟨by rw[Xn,U];exact Vc<|by omega,f.length-(k+1),by omega,rfl,D,j++[p],by rw[Xy];rfl,by rw[Xo,U];rfl,l.trans<|Qy.own l.fh n,fun b h=>?_,?_,?_⟩⟩
  .rcases XB.mp h with h|h
   .exact T b h
   .rw[Xi.mp h];exact l.hh.free n
  .rw[UR]
   refine⟨M,by simp,fun c hc c' G=>?_⟩;rw[Xi.mp G];rintro rfl
   exact(u.mem c hc).2 n
  .have I:N.made.take (k+1)=N.made.take k++[kv]:=by rw[JV,g1];rfl
   rw[I];exact MadeD.snoc (ms:=[]) (l.fh.free n) QC g3 (u.other fun z=>(u.mem p z).2 n)
 .have ee:k=f.length:=by omega
  refine .inl ⟨⟨_,SqL.of t,by simp;omega⟩,fun p n=>?_⟩;have X2:Qy F w F (upd w p<|.lst<|j.map V.ref):=Qy.own l.fh n;have Y:N.made.take k=N.made:=by rw[ee,al,Jr]
  rw[Y]at u;have x:p∉j:=fun z=>(u.mem p z).2 n;refine q F _ (.ref p) (p::j) _ ⟨.ref p,rfl⟩ (l.trans X2) (fun b h=>?_) ⟨rfl,p,j,rfl,rfl,XD.mpr ⟨x,M⟩,l.fh.free n,QC,u.other x⟩
  rcases Xf.mp h with rfl|h
  .exact l.hh.free n
  .exact T b h
end
section
variable {P:Program}{w:World}{K:W.Frag}{mg:Str->Qf}{base:Heap}{C CR:Addr}
def Mf.evZ {m b:Str}{st:Stmt}{N ps:Qh}{k:Nat}{I:Type}{Y:Addr->Hp->Hp->Hp->Qj->I->Prop}{R:List OT->(OT->Prop)->Prop}{T:List OT->(I->Prop)->Prop}(D:Mf K C m b st ps)(S:Qp N ps (Q2 st))(n:∀ts Φ,R ts Φ->ts.length=ps.length)(i:∀ts Φ,T ts Φ->ts.length=ps.length)
 (u:ps.length<=N.length)
 (o:∀(f:Addr) (c:Value) (A:Around) (a:List Env) (s:Shared) (H:Hp) RR (ts:List OT) (Φ:OT->Prop),Room k (A.deeper<|envOfC b (Q2 st) s.heap.objs.size f c)->ZV CR RR->R ts Φ ->
  ∃t,PSs (cx1 P w K mg base N b (Q2 st) f c A a s H<|XE CR RR) (Z7 st) t/\Q0 K t (ts.map some++List.replicate (N.length-ts.length) none) { nx:=fun _=>Φ<|.fz .none,rt:=Φ })
 (x:∀(f:Addr) (c:Value) (A:Around) (a:List Env) (s:Shared) (F H:Hp) RR (ts:List OT) (g:I->Prop),Room k (A.deeper<|envOfC b (Q2 st) s.heap.objs.size f c)->ZV CR RR->(∀l j e B d,g d->Qy F H l j->H e=none->Y e l j H B d->RR e B j)->T ts g ->
  ∃t,PSs (cx1 P w K mg base N b (Q2 st) f c A a s H<|XE CR RR) (Z7 st) t/\EvZ K F H t (ts.map some++List.replicate (N.length-ts.length) none)) :
 VI P w K mg base C m ps (k+1) (VN K CR Y R T):=by
 obtain⟨f,fd,F,hm,hb⟩:=D.ex;refine⟨f,fd,hm,hb,F.okX S (fun L H Q E ⟨F,ts,_,_,y,RR,_,_,q⟩=>?_) fun c A a s H L Q E X ⟨F,ts,U,G,y,RR,eE,st,q⟩=>?_⟩
 .rcases q with ⟨r,h,_⟩|⟨r,h,_⟩
  .exact y.length.trans (n ts r h)
  .exact y.length.trans (i ts r h)
 .subst eE
  rcases q with ⟨Φ,h,q⟩|⟨g,h,q⟩
  .obtain⟨t,O,M⟩:=o f c A a s H RR ts Φ X st h
   refine⟨t,O,M F H F (start N L) H _ (Qy.refl G) (U8 (ps:=ps) U G y<|by rw[n ts Φ h];exact u) ⟨fun l Z j ρ' J _ e=>?_,fun l j v r' p J hp ok e=>?_,fun _ _ _ _ _ _ z=>False.elim z,fun _ _ _ _ _ _ z=>False.elim z⟩⟩
   .exact q l j _ [] _ e J (by rintro _ ⟨⟩) ⟨rfl,.non⟩
   .exact q l j v p r' e J hp ok
  .obtain⟨t,O,M⟩:=x f c A a s F H RR ts g X st q h
   exact⟨t,O,M F (start N L) H _ (Qy.refl G)<|U8 (ps:=ps) U G y<|by rw[i ts g h];exact u⟩
end
structure BackF {δ:Type}(FL:Addr->Hp->Hp->Hp->Qj->δ->Prop):Prop where
 back:∀{e:Addr} {F H H0 H1:Hp} {dct:Qj} {d:δ},FL e F H H1 dct d->Q3 H0 H1->FL e F H H0 dct d
section
variable {K:W.Frag}{ρ:Q9}{t:TA}{i:Nat}{v:V}{C CR:Addr}{N:HandS}{m:Str}{RR:Addr->Qj->Hp->Prop}{ts:List OT}{F0 H0:Hp}{δ:Type}{FL:Addr->Hp->Hp->Hp->Qj->δ->Prop}{R:List OT->(OT->Prop)->Prop}
def Kw  (B:NoH m)(e:ρ[i]?=some (some<|.zow<|QW C N))(h:Zz K t ρ ts)(E:R (.zow (QW C N)::ts) Φ)(st:ZV CR RR) :
 Zm K (Vr C m (VN K CR FL R Rx) [] (XE CR RR) (QB i) t) ρ Φ:=fun H0 F n H Q S q=>by
 obtain⟨a,l,k,g,d,w,y,x,G,o,J,I,j⟩:=S.hz e;refine⟨_,I,a,l,_,rfl,S.sub _ _ j.ins,B _ _ _ _ _ _,h H0 F n H _ S fun O T P c s=>?_⟩
 exact⟨O,_,(S.ext c).kt,c.fh,.zow (Ψ:=QW C N) ((QW C N).mono (K:=K) c.ff ⟨a,l,k,g,d,w,y,x,G,o,J,rfl,j⟩)<|by rw[XF];exact s,RR,rfl,st,.inl ⟨Φ,E,fun M L v p u z r A f=>q M L v p u z (c.trans r) (fun b D=>c.hh.free<|A b D) f⟩⟩
def Hu (J:BackF FL)   (w:NoH m)(e:ρ[i]?=some (some<|.zow<|QW C N))(E:Zz K t ρ ts)(D:Rx (.zow (QW C N)::ts) Φx)(st:ZV CR RR)
 (u:∀h c e b d,Φx d->Qy F0 H0 h c->H0 e=none->FL e h c H0 b d->RR e b c)  (x:Qy F0 H0 F H) (S:QA K H9 F ρ σ H) :
 Vr C m (VN K CR FL R Rx) [] (XE CR RR) (QB i) t σ H Q:=by
 obtain⟨a,n,k,g,d,r,y,s,G,o,L,I,l⟩:=S.hz e;refine⟨_,I,a,n,_,rfl,x.fh _ _ l.ins,w _ _ _ _ _ _,E H9 F σ H _ S fun M P O f q=>?_⟩;have j:=x.trans f
 exact⟨M,_,(S.ext f).kt,f.fh,.zow (Ψ:=QW C N) ((QW C N).mono (K:=K) f.ff ⟨a,n,k,g,d,r,y,s,G,o,L,rfl,l⟩)<|by rw[XF];exact q,RR,rfl,st,.inr ⟨Φx,D,fun h c e b d B p A z=>u h c e b d B (j.trans p) (j.hh.free A)<|J.back z j.hh⟩⟩
def P1 (k:BackF FL)  (g:NoH m)(e:ρ[i]?=some (some<|.zow<|QW C N))(j:Zz K t ρ ts)(h:Rx (.zow (QW C N)::ts) Φx)(st:ZV CR RR)
 (f:∀c b e a d,Φx d->Qy F0 H0 c b->H0 e=none->FL e c b H0 a d->RR e a b):EvZ K F0 H0 (Vq<|Vr C m (VN K CR FL R Rx) [] (XE CR RR) (QB i) t) ρ:=fun F l H E x S=>Hu k g e j h st f x S
end
def NE (H:Hp)(x y:V):Prop:=(∃d,Rep H x d/\Rep H y d/\VA d)\/∃a b e c,x=.ref a/\y=.ref b/\H a=some (.lst<|e.map V.ref)/\H b=some (.lst<|c.map V.ref)/\DI H e c
def NQ:R2:=fun x y H Q=>∃a b d c,x=.ref a/\y=.ref b/\H a=some (.lst d)/\H b=some (.lst c)/\d.length=c.length/\(∀(i:Nat) (u v:V),d[i]?=some u->c[i]?=some v->NE H u v)/\Q (.bl false) H
section
variable {X:Cx}{Xa0:Qc}{σ:St}{H:Hp}{s:Shared}
def FX (I:Qr X Xa0 σ H s)  (h:NE H x y)(m:QM x u)(k:QM y v)(M:A.units+62<cLine):SeqAt.EqAt A s u v true:=by
 rcases h with ⟨d,g,f,i⟩|⟨a,b,j,p,rfl,rfl,g,f,q⟩
 .obtain⟨j,w⟩:=g.reads I m
  obtain⟨p,t⟩:=f.reads I k
  have:=SeqAt.eqAt_reads d d A s u v j p w t i.1 i.1 (by
   have g:=i.2;have f:min d.depth d.depth<=d.depth:=Nat.min_le_left _ _
   omega)
  rwa [G9 i]at this
 .cases m
  cases k
  by_cases c:a=b
  .rw[c];exact SeqAt.EqAt.same _
  .refine SeqAt.EqAt.of_refs c ?_
   obtain⟨z,G,n,C,e⟩:=I.hok _ _ g;obtain⟨L,o,F,B,J⟩:=I.hok _ _ f;obtain rfl:=Kv C;obtain rfl:=Kv B;obtain⟨E,D⟩:=AC I q (A:=A) (by omega);have r:=SeqAt.RcAt.lists (l:=a) (b:=b) ⟨_,e,rfl,n,rfl⟩ ⟨_,J,rfl,F,rfl⟩ E (by omega) D;rw[show(List.range (j.map Value.ref).toArray.size).all (fun _=>true)=true by simp]at r;exact r
def RQ  (r:QP xs us):∀{j:Nat} {u:Value},us[j]?=some u->∃x,xs[j]?=some x/\QM x u:=by
 induction r with
 |nil=>intro j u e;simp at e
 |cons r t a =>
   intro j u e;cases j with
   |zero =>
     simp at e
     subst e;exact⟨_,rfl,r⟩
   |succ j =>
     obtain⟨x,c,b⟩:=a (by simpa using e)
     exact⟨x,by simpa using c,b⟩
def Cf (W:X.A.units+64<cLine):OpR X (compareOp .NotEq) NQ:=by
 intro Xa0 s σ H x y v u Q I p o h;obtain⟨a,b,S,R,rfl,rfl,F,E,Y,m,q⟩:=h
 cases p
 cases o
 obtain⟨z,d,n,g,e⟩:=I.hok _ _ F;obtain⟨P,c,t,f,O⟩:=I.hok _ _ E;have U:=g.length;have T:=f.length;have G:d.toArray.size=c.toArray.size:=by simp;omega
 have r:=SeqAt.RcNeAt.lists (l:=a) (b:=b) (e:=fun _=>true) ⟨_,e,rfl,n,rfl⟩ ⟨_,O,rfl,t,rfl⟩ G (show X.A.units<cLine by omega) (fun j D C=>?_)
 .rw[show(List.range d.toArray.size).all (fun _=>true)=true by simp]at r
  exact r X.prog X.w _ _ ⟨.bl false,H,I,rfl,q⟩
 .have B:j<d.length:=by simpa using D
  have w:j<c.length:=by simpa using C
  obtain⟨k,N,L⟩:=RQ g (j:=j) (u:=d[j]) (by simp[B]);obtain⟨i,M,J⟩:=RQ f (j:=j) (u:=c[j]) (by simp[w])
  have:=FX I (m j k i N M) L J (A:=X.A.in1) (show X.A.units+1+62<cLine by omega)
  simpa using this
end
section
theorem Hc {F:Hp}:∀{xs:List V} {ds:Qd},Qx F xs ds->∀(i:Nat) (u:V),xs[i]?=some u->∃d,ds[i]?=some d/\Rep F u d
 |_,_,.nil,i,u,e=>by simp at e
 |_,_,.cons r t,0,u,e=>by
   simp at e
   subst e;exact⟨_,rfl,r⟩
 |_,_,.cons r t,i+1,u,e=>Hc t i u (by simpa using e)
end
def VC (v:V)(Ψ:ZP):ZP where
 ok K F u:=u=v/\Ψ.ok K F u
 mono:=by
  rintro K F a u s ⟨rfl,h⟩
  exact⟨rfl,Ψ.mono s h⟩
section
variable {K:W.Frag}{ρ:Q9}{i:Nat}{v:V}{D:PEnds}{Ψ:ZP}
def QA.reslot  (S:QA K H0 F ρ σ H)(e:ρ[i]?=some (some t))(h:∀u p,σ[i]?=some (some u)->Zp K F H u t p->Zp K F H u t' p):QA K H0 F (ρ.set i<|some t') σ H:=by
 obtain⟨l,q,o,r,d,n,m⟩:=S;have b:=(Xh.mp e).1;refine⟨l,q,by simp[o],r,fun k g a=>?_,n,m⟩
 by_cases c:k=i
 .subst c
  rw[Xl b]at a;cases a;obtain⟨u,f,j⟩:=d k _ e
  exact⟨u,f,h u _ f j⟩
 .rw[Xs<|Ne.symm c]at a
  exact d k g a
def QA.unfix  (S:QA K H0 F ρ σ H)(e:ρ[i]?=some (some<|.zow<|VC v Ψ)):QA K H0 F (ρ.set i<|some<|.zow Ψ) σ H:=S.reslot e fun u p _ a=>⟨a.1,a.2.2⟩
def Eu  (i:Nat)(e:ρ[i]?=some (some<|.zow<|VC v Ψ))(h:Zm K t (ρ.set i<|some<|.zow Ψ) Φ):Zm K t ρ Φ:=fun b F a H Q S q=>h b F a H Q (S.unfix e) q
def SV  (i:Nat)(e:ρ[i]?=some (some<|.zow<|VC v Ψ))(h:Zk K t (ρ.set i<|some<|.zow Ψ) b):Zk K t ρ b:=fun c F a H Q S q=>h c F a H Q (S.unfix e) q
def CQ (h:Q0 K (Yz (Yz t u) w) ρ D):Q0 K (Yz t<|Yz u w) ρ D:=h
end
structure ME (K:W.Frag)(C:Addr):Prop where
 cls:∀h:Heap,K.In h->∃(bmB bm:Qe) (nm q:Str) (N:Addr) (bs:Qe) (hdct:Bool) (sn:Qh) (sub:Qe) (ab:Bool) (col:Option Bool) (dd:Qj) (k0 k1 k2 k3 k5:Qf),
  ExcBaseFacts "ValueError" "ValueError.__new__" "ValueError.__init__" bmB/\OwnTail h bmB bm/\h.get? C=some (excClassObj nm q C N bs bm hdct sn sub ab col dd k0 k1 k2 k3 k5 "ValueError.__new__") /\
  ∃mN:Str->Qf,h.Ns N mN/\mN "__init__"=none
open PySem.W in
def Bi (K:Frag)(C:Addr):Bool:=match K.lookup C with
 |some ⟨.type "type",_,.cls a,b⟩=>(match a.mro,b.toList with
   |.ref d::c,[_,_,_,_,some<|.builtin n,_]=>d==C&&n == "ValueError.__new__" && !a.hasDel&&tailIn K GR c&&nsOkIn K a.ns&&nsIn K a.ns "__init__" == some none
   |_,_=>false)
 |_=>false
open PySem.W in
theorem Rq {K:Frag}{C:Addr}(q:Bi K C=true):ME K C where
 cls:=fun h X=>by
  unfold Bi at q;split at q
  .rename_i v w e t
   split at q
   .rename_i z x i k1 k2 g n f k j
    simp only[YZ,beq_iff_eq,Bool.not_eq_true']at q;obtain⟨⟨⟨⟨⟨rfl,rfl⟩,a⟩,s⟩,hok⟩,b⟩:=q;obtain⟨p,bs,r,ns,o,hd,m,sub,y,d,u⟩:=w
    dsimp only at k a hok b;subst k a;have c:e=#[i,k1,k2,g,some<|.builtin "ValueError.__new__",f]:=by
     obtain⟨l⟩:=e
     simp only at j
     rw[j]
    subst c;exact⟨GR,x,p,o,ns,bs,hd,m,sub,y,d,v,i,k1,k2,g,f,PySem.F.excBase_ValueError,tail_of_in X s,X _ _ t,_,.of_isNs<|isNs_of_in X hok,nsMap_none_of_in X hok b⟩
   .cases q
  .cases q
structure GN (K:W.Frag)(mg:Str->Qf)(x:Str)(C:Addr):Prop where
 cl:ME K C
 kp:W.keepIn K (.ref C)=true
 m:mg x=some (.ref C)
def Dm (C:Addr)(t:TA):TE:=fun b H Q=>t b H fun c a=>c.length<=1000/\∀x,a x=none->Q (.ref x) (upd a x<|.ext<|phX C x none)
section
variable {prog:Program}{w:World}{A:Around}{E:Qb}{h:Heap}{g:Array GenState}{d:Drawn}{t:Nat}{os:OsState}
variable {nm q:Str}{C N:Addr}{bs bm bmB:Qe}{hdct:Bool}{sn:Qh}{sub:Qe}{ab:Bool}{col:Option Bool}{dd:Qj}{k0 k1 k2 k3 k5:Qf}{B newId initId:String}
def Ct (F:ExcBaseFacts B newId initId bmB)(T:OwnTail h bmB bm){a:Qe}
 (i:h.get? C=some (excClassObj nm q C N bs bm hdct sn sub ab col dd k0 k1 k2 k3 k5 newId)) (hn:h.Ns N mN) (m:mN "__init__"=none) (c:a.length<=sizeLine)
 (s:∀h':Heap,(∀b o,h.get? b=some o->h'.get? b=some o)->phX C (h.objs.size+1) none h'->Q (.done<|.ret<|.ref<|h.objs.size+1) ⟨h',g,d,t,os⟩) :
 wpAny (model prog w) A (Builtin.«type.__call__» ⟨.ref C::a,[]⟩) Q E ⟨h,g,d,t,os⟩:=by
 have k:∀b o,h.get? b=some o->(V0 h C a).get? b=some o:=fun b o e=>Xg _ (Xg _ e)
 repeat (first
  |with_reducible refine wpAny_loadPart_at i ?_
  |with_reducible refine wpAny_madeBy_exc i ?_
  |wp_step)
 refine codeAny_call_builtin_code (Code.quiet_builtin _ F.quiet)
  (wpAny_check_new_subT F T i ?_)
 refine codeAny_exc_new_subT F T i ?_ c;show wpAny _ _ _ _ _ ⟨V0 h C a,g,d,t,os⟩
 have j:(V0 h C a).get? (h.objs.size+1)=some (Bx C h.objs.size):=by
  unfold V0;exact M6 (by rw[Ww]) rfl
 have f:=k _ _ i;have n:(V0 h C a).Ns N mN:=hn.keeps k;have r:=T.keeps k;have l:(Value.ref C::bm).contains (.ref C)=true:=by simp
 unfold isInstance;repeat (first
  |with_reducible refine wpAny_loadPart_at j ?_
  |(with_reducible refine wpAny_isSubtype_exc f ?_;rw[l])
  |wp_step)
 show wpAny _ _ (typeLookup (.ref C) _) _ _ _;refine wpAny_typeLookup_tail f n r F.mroIs F.init.lookup ?_;rw[m];refine wpAny_holding (Xa<|wpAny_of_eq (F.init.bind _) ?_);refine Xa (wpAny_call<|codeAny_call_builtin F.init.plain F.initEntry<|wpAny_check_init_subT F r f j rfl ?_)
 wp_walk using AutoSeq1.wpAny_loadPart' j
 refine s _ (fun b o p=>?_) ⟨(V0 h C a).objs.size,#[],?_⟩
 .rw[XQ _ _<|VY<|US<|Xj p]
  exact Xg _ (k _ _ p)
 .rw[Wz _ (Xg _ j) rfl]
  rfl
def LQ (F:ExcBaseFacts B newId initId bmB)(T:OwnTail h bmB bm){a:Qe}
 (e:h.get? C=some (excClassObj nm q C N bs bm hdct sn sub ab col dd k0 k1 k2 k3 k5 newId)) (hn:h.Ns N mN) (f:mN "__init__"=none) (c:a.length<=sizeLine)
 (i:∀h':Heap,(∀b o,h.get? b=some o->h'.get? b=some o)->phX C (h.objs.size+1) none h'->Q (.ref<|h.objs.size+1) ⟨h',g,d,t,os⟩) :
 wpAny (model prog w) A (call (.ref C) a) Q E ⟨h,g,d,t,os⟩:=by
 have l:=tc_lookup;have k:=tc_bind (.ref C);have j:(⟨h,g,d,t,os⟩:Shared).TypeIs (.ref C) "type" := ⟨_,e,rfl⟩;refine wpAny_call (codeAny_of_tree ?_);show wpAny _ _ (callAny (.ref C) _) _ _ _
 repeat (any_goals (first
  |assumption
  |with_reducible refine wpAny_loadPart_at e ?_
  |wp_step))
 refine⟨rfl,?_⟩;refine codeAny_call_builtin_at (Code.quiet_builtin _<|by decide +kernel) entry_typeCall (wpAny_check_type_call_sub e ?_);exact Ct F T e hn f c i
end
section
variable {X:Cx}{C:Addr}{x:Str}{p pos:Pos}{e:Expr}{es:Qi}{t:TA}{te:TE}{R:Addr->Qj->Hp->Prop}
def IU (c:ME X.K C)(z:W.keepIn X.K (.ref C)=true)(D:Gl X x)(A:X.mg x=some (.ref C))
 (F:PA X (e::es) t) (i:(x==("__debug__" : Str))=false:=by decide) (E:starEach (e::es) X.env=(false,eval e X.env)::starEach es X.env:=by rfl) (f:(backTo pos<|starEach es X.env).any (·.1)=false:=by rfl) :
 PE X (.Call (.Name x p) (e::es) [] pos) (Dm C t):=by
 intro j s n H Q I h;refine wpAny_Call_Name_kw (Jg I D A ?_ i);refine W.callWith_K (h₀:=X.base) I.ok.mod.kin z (Q7 (F pos j s n H _ I h) ?_) E f;rintro o w ⟨P,H1,a,r,hl,q⟩;refine⟨a.kIn,?_⟩;obtain⟨M,bm,Z,U,N,bs,m,S,v,ab,L,dd,k0,k1,k2,k3,k5,O,T,J,mN,G,B⟩:=c.cls _ a.kIn;obtain⟨l,g,d,u,Y⟩:=w;refine LQ O T J G B (by show o.length<=_;rw[<- r.length,sizeLine_eq];omega) fun h' b y=>?_;have k:l.objs.size<=l.objs.size+1:=Nat.le_succ _
 exact⟨.ref _,_,a.laid (t':=u) b k<|Bw y,rfl,q _<|a.hok.fresh k⟩
def IQ (c:ME X.K C)(g:X.calm=true)(L:PE X e te)(J:∀d i H s a b,Qr X d i H s->H a=some (.ext<|phX C a b)->R a b H->X.xe (.ref a) s):PS X (.Raise (some e) none pos) (sXR C te R):=by
 intro d s i H D I h;rw[arm_exec_Raise];simp only[evalOpt,Option.map];refine Xa (wpAny_standAt<|RX (C:=C) (I.ok.hd g)<|Xa<|Q7 (L d s i H _ I h) ?_);rintro u Z ⟨v,H1,m,r,a,b,O,n,q⟩;refine Xa<|wpAny_standAt<|Xk ?_;subst O;obtain rfl:u=Value.ref a:=r;obtain⟨⟨t,w,k⟩,_,_⟩:=m.hok a _ n;obtain⟨S,U,z,y,N,Q,f,o,j,W,l,P,G,F,E,B,A,Y,T,M,_⟩:=c.cls _ m.kIn
 exact⟨a,t,b,w,U,z,y,N,Q,f,o,j,W,l,P,G,F,E,B,A,_,rfl,T.hasType Y.hasBase,M,k,J _ _ _ _ _ _ m n q⟩
def Ps {C:Addr}{m:Str}{pos a:Pos}{o:Expr}{b:TE}{ps:Qh}{j k:Nat}{d:Sp}{E:XK}{pl:Sem Bool}(M:VI X.prog X.w X.K X.mg X.base C m ps j d)(c:HandC X.K C)(l:Room k X.A)(h:VV (CX1 X.prog X.w) X E)(r:PE X o b)(q:j<=k:=by walk_at"j")
 (i:eval (.Call (.Attribute o m a) [] [] pos) X.env=(do
  let g <- eval o X.env
  standAt a.atName
  let (f,first) <- holding [g] (getMethod g m pl)
  callWith pos f first (backTo pos<|starEach [] X.env)<|backToKw pos<|keywordEach [] X.env):=by rfl) :
 PE X (.Call (.Attribute o m a) [] [] pos) (Vr C m d [] E b QQ):=by
 obtain⟨f,u,n,s,F⟩:=M;exact SI (pl:=pl) r c.cl n F (l.mono q) s .nil h i
end
section
variable {P:Program}{w:World}{K:W.Frag}{mg:Str->Qf}{base:Heap}{N:Qh}{qual:Str}{scope:Scope}{f0:Addr}{cd:Value}{A:Around}{outer:List Env}{s0:Shared}{H0:Hp}{C:Addr}{RR:Addr->Qj->Hp->Prop}
def K6 {x:Str}{p d b:Pos}{e:Expr}{es:Qi}{t:TA}(c:GN K mg x C)(f:ZV C RR)
 (k:PA (cx1 P w K mg base N qual scope f0 cd A outer s0 H0<|XE C RR) (e::es) t) (j:Gl (cx1 P w K mg base N qual scope f0 cd A outer s0 H0<|XE C RR) x:=by rfl)
 (i:(x==("__debug__" : Str))=false:=by decide) (h:starEach (e::es) (cx1 P w K mg base N qual scope f0 cd A outer s0 H0<|XE C RR).env=(false,eval e (cx1 P w K mg base N qual scope f0 cd A outer s0 H0<|XE C RR).env)::starEach es (cx1 P w K mg base N qual scope f0 cd A outer s0 H0<|XE C RR).env:=by rfl)
 (g:(backTo d<|starEach es (cx1 P w K mg base N qual scope f0 cd A outer s0 H0<|XE C RR).env).any (·.1)=false:=by rfl) :
 PS (cx1 P w K mg base N qual scope f0 cd A outer s0 H0<|XE C RR) (.Raise (some<|.Call (.Name x p) (e::es) [] d) none b) (sXR C (Dm C t) RR) :=
 IQ c.cl rfl (IU c.cl c.kp j c.m k i h g) (fun m n H s a l I h r=>SB f I h r)
end
def Yc (e:Addr)(F H H0:Hp)(a:Qj)(_:Unit):Prop:=a=none/\F e=none
def bkN:BackF Yc:=⟨fun h _=>h⟩
section
variable {K:W.Frag}{ρ:Q9}{ta:TE}{C:Addr}{F0 H0:Hp}{RR:Addr->Qj->Hp->Prop}
def Pn {a:Unit->Prop}{d:PyData}(h:Qs K ta ρ d)(s:a ())(r:∀m j e f d,a d->Qy F0 H0 m j->H0 e=none->Yc e m j H0 f d->RR e f j):EvZ K F0 H0 (sXR C (Dm C<|QE ta QQ) RR) ρ:=fun F n H D x S =>
 h H0 F n H _ S fun t l u p v=>⟨by simp,fun e i=>by
  have g:=x.trans p
  have k:Q3 l (upd l e<|.ext<|phX C e none):=fun b o c=>by
   have q:b≠e:=fun z=>by subst z;rw[i]at c;cases c
   rw[Qu q];exact c
  exact⟨e,none,rfl,QC,r t _ e none () s (g.trans ⟨k,Q3.refl _,g.fh.trans k,fun b c=>.inl c⟩) (g.hh.free i) ⟨rfl,g.fh.free i⟩⟩⟩
end
def J1 (C e:Addr):OwnP where
 ok:=fun K F H v p=>p=[e]/\F e=none/\∃T,H e=some (.ext<|phF C e none T)
 there:=fun{K F H v p} h a b=>by
  obtain⟨rfl,d,T,c⟩:=h
  cases Xi.mp b
  exact⟨d,Z6 c⟩
 mono:=fun{K F l H k v p} s g f h=>by
  obtain⟨rfl,d,T,c⟩:=h
  exact⟨rfl,g _ Xb,T,(f _ Xb).trans c⟩
 uniq:=fun{K F H v p j} h i a b=>by
  obtain⟨rfl,_⟩:=h;obtain⟨rfl,_⟩:=i;exact b
section
variable {K:W.Frag}{ρ:Q9}{C:Addr}{th:Addr->TS}{tb:Ends->TS}{D:PEnds}{n i j:Nat}{e:Addr}
def Pq (w:Unit->Prop)(U:j<n)(hth:∀e,Q0 K (th e) ((List.replicate n none).set j (some<|.own (.ref e)<|J1 C e)) { nx:=fun v=>D.nx<|v.set j none,rt:=fun _=>False })
 (hz:∀(E:Ends) (F0 H0 F:Hp) (r:St) (H:Hp),Qy F0 H0 F H->QA K H0 F ρ r H->(∀o s e f u,w u->Qy F H o s->H e=none->Yc e o s H f u->∀(d:St) b T,d.length=n->Lefts C e f s b->b T=none->T≠e->th e (Dh E j) (d.set j<|some<|.ref e) (left C e f T b))->tb E E r H):Q0 K (GW tb) ρ D:=fun F0 H0 F r H E x S c=>by
 refine hz E F0 H0 F r H x S fun o s e f u _ p G Y d b T R I hT h=>?_;obtain⟨rfl,J⟩:=Y;have O:Q3 H (left C e none T b):=Mp (.step I hT h) p.hh G;have A:Q3 o (left C e none T b):=Mp (.step I hT h) p.fh J;have B:left C e none T b e=some (.ext<|phF C e none T):=by unfold left;rw[Qu<|Ne.symm h,QC]
 have Z:Qy F0 H0 o (left C e none T b):=x.trans ⟨O,p.ff,A,p.fr⟩;have y:j<d.length:=by omega
 refine hth e F0 H0 o (d.set j<|some<|.ref e) _ (Dh E j) Z ⟨S.kt.mono p.ff,A,by simp[R],fun k=>if k=j then [e] else [],fun k t q=>?_,fun k l a m X=>?_,fun k a m=>?_⟩ ⟨fun F4 L H4 M N S4 P=>c.nx F4 _ H4 _ N (S4.setN none) P,fun _ _ _ _ _ _ _ _ z=>False.elim z,fun _ _ _ _ _ _ z=>False.elim z,fun _ _ _ _ _ _ z=>False.elim z⟩
 .by_cases g:k=j
  .subst g
   rw[Xl<|by simpa using U]at q;cases q;refine⟨.ref e,Xl y,?_⟩;dsimp only;rw[Xd rfl];exact⟨rfl,rfl,J,T,B⟩
  .rw[Xs<|Ne.symm g,MC]at q
   split at q<;>cases q
 .by_cases g:k=j
  .by_cases Q:l=j
   .omega
   .simp[Q]at X
  .simp[g]at m
 .dsimp only at m
  by_cases g:k=j
  .rw[Xd g]at m
   cases Xi.mp m
   exact⟨x.hh.free G,Z6 B⟩
  .simp[g]at m
def Jb  (h:ρ[i]?=some (some<|.own (.ref e)<|J1 C e))(d:GV c=some cv)(a:W.kitOne K (.ref C) cv=some b):Qs K (tCB (Vu K C)<|QE (QB i)<|QE (tC c) QQ) ρ (.bool b):=fun p F m H Q S k=>by
 obtain⟨o,f,_⟩:=S.fp;obtain⟨u,l,rfl,_,_,T,g⟩:=f i _ h
 exact⟨.ref e,l,.ref e,c,cv,b,rfl,d,.inr<|.inl ⟨e,T,rfl,g,a⟩,k F H _ (Qy.refl S.sub)<|.bl b⟩
def Ei {p:Type}{r:Addr->Hp->Hp->Hp->Qj->p->Prop}(Y:BackF r){CH CR:Addr}{N:HandS}{m:Str}{t:TA}{ts:List OT}{RR:Addr->Qj->Hp->Prop}{F0 H0 w:Hp}{E:Ends}{R:HandS->List OT->(OT->HandS->Prop)->Prop}{v:List OT->(p->Prop)->Prop}{c:p->Prop}(L:NoH m)(e:ρ[i]?=some (some<|.zow<|QW CH N))(T:Zz K t ρ ts)(Q:v (.zow (QW CH N)::ts) c)(st:ZV CR RR)
 (J:∀l f e b d,c d->Qy F0 H0 l f->H0 e=none->r e l f H0 b d->RR e b f) {F:Hp} {o:St} {H:Hp} (x:Qy F0 H0 F H) (S:QA K w F ρ o H) :
 Vq (Vr CH m (Jy K CH CR r R v) [] (XE CR RR) (QB i) t) E o H:=by
 obtain⟨a,u,k,g,d,G,y,I,U,z,Z,X,s⟩:=S.hz e;refine⟨_,X,a,u,_,rfl,x.fh _ _ s.ins,L _ _ _ _ _ _,T w F o H _ S fun F2 H2 vs h B=>.inr ?_⟩;have q:=x.trans h
 exact⟨F2,_,(S.ext h).kt,h.fh,.zow (Ψ:=QW CH N) ((QW CH N).mono (K:=K) h.ff ⟨a,u,k,g,d,G,y,I,U,z,Z,rfl,s⟩)<|by rw[XF];exact B,RR,rfl,st,.inr ⟨c,Q,fun l f e b d P A O M=>J l f e b d P (q.trans A) (q.hh.free O)<|Y.back M q.hh⟩⟩
end
structure MF (K:W.Frag)(mg:Str->Qf)(Y C:Addr):Prop where
 em:W.exmOne K (.ref C) (.ref Y)=some true
 my:mg "YardError"=some (.ref Y)
 is:GM K C
 k1:W.kitOne K (.ref C) (.ref C)=some true
 k2:W.kitOne K (.ref C) (.type "ValueError")=some true
def Uk:V->List V->Hp->VK->Prop:=fun x c H Q=>∃(z:Str) (b:Addr) (a:Qh),x=.str z/\c=[.ref b]/\H b=some (.lst<|a.map V.str)/\(a.map (·.length)).sum+a.length*z.length<=16777216/\Q (.str<|Str.join z a) H
theorem PL:∀{ys:Qh} {us:Qe},QP (ys.map V.str) us->StrsAre us ys
 |[],_,.nil=>.nil
 |_::_,_,.cons ⟨_,e⟩ r=>by subst e;exact .cons _ _ (PL r)
def BB:MtR X "str.join" Uk:=by
 intro l s m H x n v o Q I d e h;obtain⟨z,b,a,rfl,rfl,j,i,q⟩:=h;obtain⟨t,rfl⟩:=d;obtain⟨u,rfl,f⟩:=e.one
 cases f
 obtain⟨g,c,p,w⟩:=I.list (SqL.of j);refine join_list p.isList (PL c) i fun r k=>?_;rw[show Txt.join z a=Str.join z a from StrLaws.glued_eq_join z a];exact⟨.str _,H,I.tok _,⟨_,rfl⟩,q⟩
section
variable {K:W.Frag}{ρ:Q9}{ta tb:TE}
theorem Px {H:Hp}:∀{vs:List V} {l:Qh},Qx H vs (l.map PyData.str)->vs=l.map V.str
 |_,[],.nil=>rfl
 |_,i::l,.cons (.str _) t=>by rw[Xu,Px t]
def DY  (k:Qs K ta ρ (.str z)) (j:Qs K tb ρ (.list<|ys.map PyData.str)) (i:(ys.map (·.length)).sum+ys.length*z.length<=16777216):Qs K (tBM K "str" Uk ta<|QE tb QQ) ρ (.str<|Str.join z ys):=fun f F b H Q S q =>
 k f F b H _ S fun r o v d h=>by
  cases h
  refine⟨rfl,j f r b o _ (S.ext d) fun p n w c g=>?_⟩;obtain⟨a,s,rfl,t,m,l⟩:=JQ (K:=K) g c.fh;have e:=Px m;subst e;exact⟨z,a,ys,rfl,rfl,l,i,q p n _ (d.trans c)<|.str _⟩
end
def Bc (K:W.Frag)(C:Addr):List V->Hp->VK->Prop:=fun d H Q=>∃(e T:Addr) (a:Addr) (c:Qg) (b:Bool),d=[.ref e,.ref a]/\H e=some (.ext<|phF C e none T)/\SqT K H a (c.map V.ref)/\W.kitAny K (.ref C) (c.map Value.ref)=some b/\Q (.bl b) H
def RW  (c:GM X.K C):Zl X (.builtin "isinstance") (Bc X.K C):=by
 intro D s E H F J Q I r h;obtain⟨e,T,i,O,b,rfl,y,t,x,q⟩:=h;obtain⟨u,w,rfl,m,a⟩:=Ui r;obtain rfl:u=Value.ref e:=m;obtain rfl:w=Value.ref i:=a;obtain⟨⟨G,L,p,_⟩,_,_⟩:=I.hok e _ y;obtain⟨o,l,d,M⟩:=I.tuple t;obtain rfl:=Ku l;obtain⟨⟨B,A,N,k⟩,v,g,n,f⟩:=id d
 simp only at g f
 subst g f;exact W.kia_tup (BQ (od:=none) c.ga c.hd c.fc c.sp c.tk c.mo) I.kIn ⟨p,rfl,rfl,trivial⟩ v x (by intro z;cases z) fun j=>⟨.bl b,H,I.tok j,rfl,q⟩
variable {ρ:List (Option OT)} in
def RJ {K:W.Frag}{C e:Addr}{i:Nat}{cs:Qg}{b:Bool}(h:ρ[i]?=some (some<|.own (.ref e)<|J1 C e))(f:cs.length<=1000)(g:W.kitAny K (.ref C) (cs.map Value.ref)=some b):Qs K (tCB (Bc K C)<|QE (QB i)<|QE (Wa<|GZ cs) QQ) ρ (.bool b):=fun o F m H Q S k=>by
 obtain⟨n,j,_⟩:=S.fp;obtain⟨u,l,rfl,_,_,T,a⟩:=j i _ h;refine⟨.ref e,l,Hb ⟨by rw[Xn];exact Ys<|Vc f,fun p c=>?_⟩⟩;have d:e≠p:=fun z=>by subst z;rw[c]at a;cases a
 exact⟨e,T,p,cs,b,rfl,by rw[Qu d];exact a,SqT.of QC,g,k F _ _ (Qy.own S.sub c)<|.bl b⟩
structure MD (K:W.Frag)(mg:Str->Qf)(CR cg ct c3 c4 c5 c6:Addr):Prop where
 m3:mg "NoNumber"=some (.ref c3)
 m4:mg "NoRow"=some (.ref c4)
 m5:mg "NoText"=some (.ref c5)
 m6:mg "NoYard"=some (.ref c6)
 gt:W.kitOne K (.ref cg) (.ref ct)=some false
 gr:W.kitOne K (.ref cg) (.ref CR)=some false
 tg:W.kitOne K (.ref ct) (.ref cg)=some false
 tr:W.kitOne K (.ref ct) (.ref CR)=some false
 ra:W.kitAny K (.ref CR) [.ref c3,.ref c4,.ref c5,.ref c6]=some false
 ga:W.kitAny K (.ref cg) [.ref c3,.ref c4,.ref c5,.ref c6]=some false
 ta:W.kitAny K (.ref ct) [.ref c3,.ref c4,.ref c5,.ref c6]=some false
open HT
section
variable {prog:Program}{w:World}{A:Around}{E:Qb}{s:Shared}
def Zfi {t d:Addr}{a:Array Value}{h g:Value}{lo c:Option Int}{Q:Qb}(b:IsTup s.heap t a)(i:s.heap.IsSliceOf d h g .none)(pl:IsPart h lo)(k:IsPart g c)
 (hw:sIx a.size 0 lo=0/\sIx a.size a.size c=a.size) (q:Q (.ref t) s):wpAny (model prog w) A (getItem (.ref t)<|.ref d) Q E s:=by
 obtain⟨l,e,f,n⟩:=id i;have j:s.TypeIs (.ref d) "slice" := ⟨l,e,f⟩;unfold getItem;try with_reducible refine wpAny_holding ?_
 first|refine Xa (Xk ?_)|skip
 refine Xa (wpAny_sequenceKey b.typeIs (by decide)<|Xa<|wpAny_callSpecial?_slot (name:=Str.ofString "__getitem__") b.typeIs PyProof.Rows.slot_tuple_getitem<|wpAny_call_entry PyProof.Rows.slot_tuple_getitem b.typeIs entry_tuple_getitem ?_<|args_tuple_getitem _ _);show wpAny _ _ (Builtin.Tuple.tupleItemsOf (.ref t) >>= _) _ _ s;refine Xa (tupleItemsOf_ b<|Xa<|wpAny_typeOf j ?_);rw[Xd<|by decide];refine Xa (Tw i pl k ?_)
 have m:((((sIx a.size 0 lo:Nat):Int)==0&&(1:Int)==1&&(sIx a.size a.size c-sIx a.size 0 lo)==a.size)=true):=by
  rw[hw.1,hw.2];simp
 show wpAny _ _ (if (((sIx a.size 0 lo:Nat):Int)==0&&(1:Int)==1&&(sIx a.size a.size c-sIx a.size 0 lo)==a.size)=true then _ else _) _ _ s;rw[Xd m];unfold Builtin.Tuple.tupleIsExact
 first
  |exact Xa (Xa<|wpAny_typeOf b.typeIs<|Xk<|Xa<|wpAny_rule<|Xk ⟨_,rfl,Xk q⟩)
  |exact Xa (Xa<|wpAny_typeOf b.typeIs<|Xk<|Xa<|wpAny_rule<|Xa<|Xk<|Xk ⟨_,rfl,Xk q⟩)
end
section
variable {X:Cx}
def Ng (K:W.Frag):V->Option Int->Option Int->Hp->VK->Prop:=fun x c d H Q=>∃a b,x=.ref a/\SqT K H a b /\
 ((HT.sIx b.length 0 c=0/\HT.sIx b.length b.length d=b.length)->Q (.ref a) H) /\
 (¬(HT.sIx b.length 0 c=0/\HT.sIx b.length b.length d=b.length)->∀p,H p=none->Q (.ref p) (upd H p<|.tup<|Jv b c d))
def Hq:SlR X (Ng X.K):=by
 intro f s p H x v t q k o u Q I g n j i h;obtain⟨a,b,rfl,l,y,w⟩:=h
 by_cases d:HT.sIx b.length 0 k=0/\HT.sIx b.length b.length o=b.length
 .cases g
  obtain⟨e,r,m,z⟩:=I.tuple l;have c:e.toArray.size=b.length:=by rw[Xv];exact r.length.symm
  exact⟨"tuple",_,PyProof.Rows.slot_tuple_getitem.lookup,m.typeIs,Zfi m n j i (by rw[c];exact d) ⟨.ref a,H,I,rfl,y d⟩⟩
 .exact Fg f s p H _ v t q k o u Q I g n j i ⟨a,b,rfl,l,d,w d⟩
end
def Fp {b:Type}(xs:List b)(lo a:Option Int)(h:HT.sIx xs.length 0 lo=0/\HT.sIx xs.length xs.length a=xs.length):cut xs lo a=xs:=by
 unfold cut;rw[h.1,h.2];simp
section
variable {K:W.Frag}{ρ:Q9}{te:TE}
def DC {i th:TO}{ds:Qd}{lo c:Option Int}(h:Qs K te ρ (.tuple ds))(u:EvP K i ρ lo)(t:EvP K th ρ c):Qs K (tSl (Ng K) te i th) ρ (.tuple<|cut ds lo c):=fun g F d H Q S q =>
 h g F d H _ S fun B y v f r=>u g B d y _ (S.ext f) fun A x e=>t g A d x _ (S.ext<|f.trans e) fun z w b=>by
  have n:=(f.trans e).trans b;have j:=r.mono (e.trans b).ff;obtain⟨a,o,rfl,s,k,C⟩:=Jk (K:=K) j b.fh;refine⟨a,o,rfl,s,fun l=>?_,fun _ p m=>?_⟩
  .rw[k.length]at l
   exact q z w _ n (by rw[Fp ds lo c l];exact j)
  .exact q _ _ _ (n.trans<|Qy.new b.fh m) (.tup QC<|(AY k lo c).mono (Q3.new<|b.fh.free m))
end
def Dp (C e:Addr):ZP where
 ok:=fun K F v=>v=.ref e/\∃T,F e=some (.ext<|phF C e none T)
 mono:=by
  rintro K F b v s ⟨rfl,T,a⟩
  exact⟨rfl,T,s _ _ a⟩
section
variable {K:W.Frag}{ρ:Q9}{C:Addr}{i:Nat}{e:Addr}
def J1.fz  (h:(J1 C e).ok K F H (.ref e) p)(s:Q3 F F')(a:∀b∈p,F' b=H b):(Dp C e).ok K F' (.ref e):=by
 obtain⟨rfl,_,T,c⟩:=h
 exact⟨rfl,T,by rw[a _<|by simp];exact c⟩
def Pi  (h:ρ[i]?=some (some<|.zow<|Dp C e))(o:Zz K t ρ [.fz<|.int k])(h1 : -(2^62)<=k)(s:k<2^62):EvI K (Di C e t) ρ (ZQ 0 k.toNat):=fun y F j H R S r =>
 o y F j H _ S fun A w B c m=>by
  cases m with
  |fz a b =>
    cases b
    cases a
    obtain⟨D,g,_⟩:=(S.ext c).fp;obtain⟨v,_,_,_,T,u⟩:=g i _ h;refine⟨k,rfl,h1,s,r A w _ c fun z G l f=>⟨⟨?_,_,T,f _ _<|l _ _ u⟩,fun i d q=>?_⟩⟩
    .rw[Wo];exact Xq _
    .obtain⟨p,rfl⟩:=YJ q
     exact⟨p,fun x E n=>by
      obtain⟨rfl,rfl⟩:=n
      exact⟨z,Qy.refl f,.int _⟩⟩
def P9  (i:Nat)(h:ρ[i]?=some (some<|.own (.ref e)<|J1 C e))(k:Qs K t (ρ.set i<|some<|.zow<|Dp C e) (.str x)):Qs K t ρ (.str x):=fun m F g H Q S r=>by
 obtain⟨p,d,l⟩:=S.freezeZX h (fun a b c=>J1.fz a b c);refine k m _ g H Q l fun o n u x j=>?_;refine r _ n u (UA (fun a f=>⟨(d a f).1,(d a f).2.1⟩) x) ?_
 cases j
 exact .str _
def Ih   (i:Nat)(h:ρ[i]?=some (some<|.own (.ref e)<|WR C f ds e dx q))(k:Qs K t (ρ.set i<|some<|.zow<|GP C f ds e dx q) (.str x)):Qs K t ρ (.str x):=fun n F j H Q S r=>by
 obtain⟨p,d,m⟩:=S.freezeZX h (fun a b c=>WR.fz a b c);refine k n _ j H Q m fun s o u x l=>?_;refine r _ o u (UA (fun a g=>⟨(d a g).1,(d a g).2.1⟩) x) ?_
 cases l
 exact .str _
end
def StY (ds:Qd)(e:List Zf)(k:PyData):ZP where
 ok K F v := ∃a c b d u,v=.ref a/\F a=some (.lst<|c++[.ref b,u])/\Qx F c ds/\F b=some (.lst<|d.map V.ref)/\MadeZ F d e/\Rep F u k
 mono:=by
  rintro K F l v s ⟨a,c,b,d,u,rfl,j,i,h,g,f⟩
  exact⟨a,c,b,d,u,rfl,s _ _ j,i.mono s,s _ _ h,g.mono s,f.mono s⟩
section
variable {K:W.Frag}{ρ:Q9}{t1 t2 t3 t4 t5 te:TE}{D:PEnds}{j:Nat}{kss:List Zf}
def IN  (h1:Qs K t1 ρ d1)(h2:Qs K t2 ρ (.list ds))(h3:Qs K t3 ρ d3)(h4:Zm K t4 ρ fun r=>∃v,r=.own v (dlP kss))(h5:Qs K t5 ρ d5)(hr:D.rt (.zow<|StY [d1,.list ds,d3] kss d5)) :
 Q0 K (Y0<|J4<|QE t1<|QE t2<|QE t3<|QE t4<|QE t5 QQ) ρ D:=fun F0 m F n H E x S c =>
 h1 m F n H _ S fun F1 H1 L l r1=>h2 m F1 n H1 _ (S.ext l) fun F2 H2 J k Z=>h3 m F2 n H2 _ ((S.ext l).ext k) fun F3 H3 I t Y =>
  h4 m F3 n H3 _ (((S.ext l).ext k).ext t) fun F4 P u4 p r N C hp Q=>h5 m F4 n P _ ((((S.ext l).ext k).ext t).ext C) fun i g G s X=>by
   obtain⟨v,rfl⟩:=N;have h:=fun b d=>(dlP kss).there Q.2 b d
   have n5:∀b∈p,i b=none:=fun b d=>Classical.byContradiction fun z=>by
    rcases s.fr b z with q|q
    .exact q (h b d).1
    .exact(h b d).2 q
   have k5:∀b∈p,g b=P b:=fun b d=>by
    cases e:P b with
    |none=>exact Xm e (h b d).2
    |some o=>exact s.hh _ _ e
   obtain⟨rfl,M⟩:=Q;have u:=(dlP kss).mono (K:=K) s.ff n5 k5 M;have U:=fun b d=>(dlP kss).there u b d;obtain⟨a,f,rfl,rfl,nd,a0,a1,a2⟩:=u;have B:=(((x.trans l).trans k).trans (t.trans C)).trans s;have y:Q3 i (frF i g (a::f)):=YK fun b d=>(U b d).1
   have O:Qy F0 m (frF i g (a::f)) g:=⟨B.hh,B.ff.trans y,Je B.fh,fun b d=>by
    by_cases z:b∈a::f
    .exact .inr (((x.trans l).trans k).trans t |>.hh.free (hp b z))
    .rw[Yo z]at d;exact B.fr b d⟩
   refine⟨Ys<|Vc<|by show(5:Nat)<=1000;decide,fun z A=>?_⟩;have A:g z=none:=A;have X6:=O.trans (Qy.new (o:=.lst [L,J,I,.ref a,G]) O.fh A);have w:Q3 (frF i g (a::f)) (upd (frF i g (a::f)) z<|.lst [L,J,I,.ref a,G]):=Q3.new (O.fh.free A);have S4:=(s.ff.trans y).trans w;have R:=C.ff.trans S4;have T:=t.ff.trans R;have S1:=k.ff.trans T;have mz:MadeZ (frF i g (a::f)) f kss:=a2.fz y fun b d=>Y4 (Xe _ d);exact c.rt _ _ (.ref z) (.zow<|StY [d1,.list ds,d3] kss d5) [] X6 (by rintro _ ⟨⟩) ⟨rfl,z,[L,J,I],a,f,G,rfl,QC,.cons (r1.mono S1)<|.cons (Z.mono T)<|.cons (Y.mono R) .nil,w _ _<|by rw[Y4 Xb];exact a1,mz.mono w,X.mono<|y.trans w⟩ hr
def CY  (Y:∀d∈ds,VA d)(Z:VA d5)(X:∀k∈kss,W7 k)(h:Zm K te ρ fun r=>r=.zow (StY ds kss d5))(e2:ρ[j]?=some (some<|.zow<|StY ds kss d5)):Qs K (tOp NQ te<|QB j) ρ (.bool false):=fun H0 F O H Q S q =>
 h H0 F O H _ S fun N H1 v p r U c hp T=>by
  subst U;obtain⟨_,a,l,C,as,G,rfl,a1,M,a3,L,a5⟩:=T;obtain⟨fp,g,_⟩:=(S.ext c).fp;obtain⟨u,R,_,b,P,B,bs,E,rfl,b1,J,b3,I,b5⟩:=g j _ e2;have lx:=M.length;have ly:=J.length;refine⟨_,R,a,b,_,_,rfl,rfl,c.fh _ _ a1,c.fh _ _ b1,by simp;omega,fun i u v x t=>?_,q N H1 _ c<|.bl _⟩
  by_cases hi:i<ds.length
  .rw[XG<|by omega]at x t
   obtain⟨d,f,o⟩:=Hc M i u x;obtain⟨d',s,A⟩:=Hc J i v t;rw[f]at s;cases s;exact .inl ⟨d,o.mono c.fh,A.mono c.fh,Y d<|List.mem_of_getElem? f⟩
  .rw[X0<|by omega]at x t
   rw[show i-P.length=i-l.length by omega]at t
   have y:∀m:Nat,([V.ref C,G])[m]?=some u->([V.ref B,E])[m]?=some v->(u=.ref C/\v=.ref B)\/(u=G/\v=E):=fun m n w=>by
    match m with
    |0=>simp at n w;exact .inl ⟨n.symm,w.symm⟩
    |1=>simp at n w;exact .inr ⟨n.symm,w.symm⟩
    |m+2=>simp at n
   rcases y _ x t with ⟨e1,e2⟩|⟨rfl,rfl⟩
   .refine .inr ⟨C,B,as,bs,e1,e2,c.fh _ _ a3,c.fh _ _ b3,Lg (F:=N) X L.len I.len (fun i a e=>?_) fun i a e=>?_⟩
    .obtain⟨l,k,f,o,z⟩:=L.at i a e
     exact⟨l,k,f,c.fh _ _ o,z⟩
    .obtain⟨l,k,f,o,z⟩:=I.at i a e
     exact⟨l,k,f,c.fh _ _ o,z⟩
   .exact .inl ⟨d5,a5.mono c.fh,b5.mono c.fh,Z⟩
end
def bkL:BackF (Fld f):=⟨fun h s=>h.back s⟩
section
variable {K:W.Frag}{ρ:Q9}{D:PEnds}{i:Nat}{v:V}{C CR:Addr}{N:HandS}{m:Str}{t:TA}{ts:List OT}{RR:Addr->Qj->Hp->Prop}
def Pw {s:Type}{FL:Addr->Hp->Hp->Hp->Qj->s->Prop}{R:HandS->List OT->(OT->HandS->Prop)->Prop}{Z:List OT->(s->Prop)->Prop}{Ψ:OT->HandS->Prop}(O:NoH m)(e:ρ[i]?=some (some<|.own v<|QZ C N))(Q:Zz K t ρ ts)(P:R N ts Ψ)(st:ZV CR RR)
 (hn:∀r a,Ψ r a->D.nx (ρ.set i<|some<|.own v<|QZ C a)) :
 Q0 K (Vq<|Vr C m (Jy K C CR FL R Z) [] (XE CR RR) (QB i) t) ρ D:=fun F0 H0 F o H E x S C'=>by
 obtain⟨p0,I,h,_⟩:=U1 S x e;obtain⟨u,U,y,n,k,g,d,e',rfl,T⟩:=QZ.at h;refine⟨.ref u,I,u,U,_,rfl,T,O _ _ _ _ _ _,Q H0 F o H _ S fun F2 H2 B b J=>.inl ⟨RR,rfl,st,?_⟩⟩;obtain⟨p,s1,f,l⟩:=U1 (S.ext b) (x.trans b) e;refine⟨F2,_,B++[],p,ts,N,Ψ,rfl,(S.ext b).kt,b.fh,by rw[XF];exact J,f,P,fun z w L a v' r q M A j c G hq=>?_⟩;obtain⟨X,Y,dj⟩:=l z w L a A j c;exact C'.nx z o w _ X Y (hn r a M)
end
section
variable {K:W.Frag}{ρ:Q9}{i:Nat}{v:V}{C:Addr}{N:HandS}{tg:TE}{R:HandS->List OT->(OT->HandS->Prop)->Prop}{R2:List OT->(OT->Prop)->Prop}{E':XK}
def Ig  (e:ρ[i]?=some (some<|.own v<|QZ C N))(hD:Zm K tg ρ Φg)
 (O:∀r,Φg r->∃n,r=.fz n/\((∃Ψ,R N [.fz n] Ψ/\∀r o,Ψ r o->∃d w,r=.fz d/\Vk d=some w/\Θ d (.own v<|QZ C o)) \/
  (∃Φ,R2 [.zow<|QW C N,.fz n] Φ/\∀r,Φ r->∃d w,r=.fz d/\Vk d=some w/\Θ d (.own v<|QZ C N)))) :
 Ny K (VH (GT K C R R2) [] E'<|QE (QB i)<|QE tg QQ) ρ i Θ:=fun F0 H0 F σ H Q x S q=>by
 have l:=(Xh.mp e).1;obtain⟨p0,s0,_⟩:=U1 S x e;refine⟨_,s0,hD H0 F σ H _ S fun y H1 ug pg s P j hpg I=>?_⟩;obtain⟨n,rfl,O⟩:=O s P;obtain⟨rfl,s⟩:=I;have u:=S.ext j;have X1:=x.trans j;obtain⟨p,s1,G,X⟩:=U1 u X1 e
 rcases O with ⟨Ψ,U,L⟩|⟨Φ,U,M⟩
 .refine .inl ⟨y,_,[ug],p,[.fz n],N,Ψ,rfl,u.kt,j.fh,.fz s .nil,G,U,fun F' H' p' o B r qq T xn J D f hq=>?_⟩
  obtain⟨d,w,rfl,m,g⟩:=L r o T;obtain⟨X',S',_⟩:=X F' H' p' o xn J D;have Y:=f.2.flat m;subst Y;exact q F' H' d B _ g m X' (j.ff.trans xn.ff) S'
 .obtain⟨pf,h,Z⟩:=u.freezeZ e (fun a b c=>QZ.fz a b c)
  obtain⟨fp,g1,_⟩:=Z.fp;obtain⟨v2,f1,_,z⟩:=g1 i _ (Xl l);rw[s1]at f1;cases f1;have E:Q3 y (frF y H1 pf):=YK fun a t=>(h a t).1;refine .inr ⟨frF y H1 pf,_,Φ,Z.kt,Z.sub,.zow (Ψ:=QW C N) z<|.fz (s.mono E) .nil,U,fun F4 H4 B qq r T x4 hq' f=>?_⟩;obtain⟨d,w,rfl,m,g⟩:=M r T;have A:=UA (fun a t=>⟨(h a t).1,(h a t).2.1⟩) x4;have Y:=f.2.flat m;subst Y;refine q _ H4 d B _ g m (X1.trans A) (j.ff.trans A.ff) ?_
  have ze:ρ.set i (some<|.own v<|QZ C N)=ρ:=by
   apply List.ext_getElem?
   intro k;by_cases hk:k=i
   .subst hk;rw[Xl l,e]
   .rw[Xs<|Ne.symm hk]
  rw[ze];exact u.ext A
def Ee  (e:ρ[i]?=some (some<|.zow Ψ))(D:Zm K tg ρ Φg)(t:∀r,Φg r->∃k b,r=.fz k/\R2 [.zow Ψ,.fz k] b/\∀r,b r->Φ r) :
 Zm K (VH (QY K R2) [] E'<|QE (QB i)<|QE tg QQ) ρ Φ:=fun J F n H Q S q=>by
 obtain⟨U,g,_⟩:=S.fp;obtain⟨u,m,_⟩:=g i _ e;refine⟨_,m,D J F n H _ S fun M X O T f j c y h=>?_⟩;obtain⟨k,b,rfl,B,x⟩:=t f j;obtain⟨rfl,f⟩:=h;obtain⟨G,E,_⟩:=(S.ext c).fp;obtain⟨P,l,_,d⟩:=E i _ e;rw[m]at l;cases l
 exact⟨M,_,b,(S.ext c).kt,c.fh,.zow d<|.fz f .nil,B,fun L I v p r w o z s=>q L I v p r (x r w) (c.trans o) (fun a A=>c.hh.free<|z a A) s⟩
end
def dZ (d:PyData):ZP where
 ok K F v:=Rep F v d
 mono:=fun s h=>h.mono s
section
variable {K:W.Frag}{ρ:Q9}{i j:Nat}{v:V}{C:Addr}{N:HandS}{D:PEnds}{Ψ:ZP}{d:PyData}
def QA.unpin  (S:QA K H0 F ρ σ H)(e:ρ[i]?=some (some<|.zow<|VC v<|dZ d)):QA K H0 F (ρ.set i<|some<|.fz d) σ H:=S.reslot e fun u p _ a=>⟨a.1,a.2.2⟩
def Et  (i:Nat)(e:ρ[i]?=some (some<|.zow<|VC v<|dZ d))(h:Zm K t (ρ.set i<|some<|.fz d) Φ):Zm K t ρ Φ:=fun b F a H Q S q=>h b F a H Q (S.unpin e) q
def ST  (i:Nat)(e:ρ[i]?=some (some<|.zow<|VC v<|dZ d))(h:Zk K t (ρ.set i<|some<|.fz d) b):Zk K t ρ b:=fun c F a H Q S q=>h c F a H Q (S.unpin e) q
def Ay (i:Nat)(e:ρ[i]?=some (some<|.zow<|VC v<|dZ d))(h:Q0 K t (ρ.set i<|some<|.fz d) D):Q0 K t ρ D:=fun f b F a H E x S c=>h f b F a H E x (S.unpin e) c
def CD (i:Nat)(e:ρ[i]?=some (some<|.fz d))(h:∀w,Q0 K t (ρ.set i<|some<|.zow<|VC w<|dZ d) D):Q0 K t ρ D:=fun m l F f H E x S c=>by
 obtain⟨n,g,_⟩:=S.fp;obtain⟨w,k,_⟩:=g i _ e;refine h w m l F f H E x (S.reslot e fun u p b a=>⟨a.1,?_,a.2⟩) c;rw[k]at b;exact(Option.some.inj<|Option.some.inj b).symm
def Ab  (i:Nat)(e:ρ[i]?=some (some<|.own v<|QZ C N))(h:Q0 K t (ρ.set i<|some<|.zow<|VC v<|QW C N) { nx:=M,rt:=fun _=>False })
 (hn:∀n,M n->n[i]?=some (some<|.zow<|VC v<|QW C N)/\∃m:Q9,m.length=n.length/\m[i]?=some (some<|.own v<|QZ C N)/\(∀j o,j≠i->m[j]?=some (some o)->n[j]?=some (some o)/\(WP o\/((∃w Ψ,o=.zow (VC w Ψ))/\ρ[j]?=some (some o))))/\D.nx m):Q0 K t ρ D:=fun F0 H0 F σ H E x S c=>by
 obtain⟨kt,h1,h2,g,h3,h4,h5⟩:=id S;obtain⟨u,e1,rfl,ok⟩:=h3 i _ e;have hlt:=(Xh.mp e).1;have L:=fun a P=>(QZ C N).there ok a P;have sm:Q3 F (frF F H<|g i):=YK fun a P=>(L a P).1
 have Sf:QA K H0 (frF F H<|g i) (ρ.set i<|some<|.zow<|VC u<|QW C N) σ H:=by
  refine⟨kt.mono sm,Je h1,by simp[h2],fun j=>if j=i then [] else g j,fun j t' Y=>?_,fun j k b f G=>?_,fun j b f=>?_⟩
  .by_cases l:j=i
   .subst l
    rw[Xl hlt]at Y;cases Y;refine⟨_,e1,?_,rfl,QZ.fz ok sm fun b f=>Y4 f⟩;dsimp only;rw[Xd rfl]
   .rw[Xs<|Ne.symm l]at Y
    obtain⟨B,Q,s⟩:=h3 j t' Y;refine⟨B,Q,?_⟩;dsimp only;rw[Xc l];exact s.frOther sm fun a P z=>l (h4 j i a P z)
  .by_cases l:j=i
   .simp[l]at f
   .by_cases hk:k=i
    .simp[hk]at G
    .simp only[Xc l]at f
     simp only[Xc hk]at G;exact h4 j k b f G
  .by_cases l:j=i
   .simp[l]at f
   .simp only[Xc l]at f
    exact h5 j b f
 refine h (frF F H<|g i) H0 (frF F H<|g i) σ H E ⟨x.hh,Q3.refl _,Je h1,fun _ z=>.inl z⟩ Sf ⟨fun A σ' I n J S' hM=>?_,fun _ _ _ _ _ _ _ _ z=>z.elim,fun _ _ _ _ _ _ z=>False.elim z,fun _ _ _ _ _ _ z=>False.elim z⟩;obtain⟨ei,m,l2,o2,k2,nx2⟩:=hn n hM;obtain⟨kt',g1,g2,p,g3,g4,g5⟩:=S';obtain⟨u2,d1,d2,Z,d4⟩:=g3 i _ ei;have Z:u2=u:=Z
 have T:Q3 F fun b=>if b∈g i then none else A b:=fun b o f=>by
  have nb:b∉g i:=fun z=>by rw[(L b z).1]at f;cases f
  simp only[Xc nb];exact J.ff b o (by rw[Yo nb];exact f)
 have sH:Q3 (fun b=>if b∈g i then none else A b) I:=fun b o f=>by
  by_cases z:b∈g i
  .simp[z]at f
  .simp only[Xc z]at f;exact g1 b o f
 have pH:∀b∈g i,I b=H b:=fun b f=>by
  obtain⟨o,U⟩:=Uz (L b f).2
  have:(frF F H<|g i) b=some o:=by rw[Y4 f];exact U
  rw[g1 b o<|J.ff b o this,U]
 have x2:Qy F0 H0 (fun b=>if b∈g i then none else A b) I:=⟨J.hh,x.ff.trans T,sH,fun b f=>by
  by_cases z:b∈g i
  .simp[z]at f
  .simp only[Xc z]at f
   rcases J.fr b f with y|y
   .rw[Yo z]at y;exact x.fr b y
   .exact .inr y⟩
 have hn':∀b∈g i,(fun b=>if b∈g i then none else A b:Hp) b=none:=fun b f=>by simp only[Xd f]
 have ok':(QZ C N).ok K (fun b=>if b∈g i then none else A b) I u (g i):=(QZ C N).mono T hn' pH ok
 have O:∀j b,b∈p j->∀o,n[j]?=some (some o)->b∉g i:=fun j b f o U z=>by
  obtain⟨B,Q,s⟩:=g3 j o U
  have:=(s.there b f).1
  obtain⟨o',ho'⟩:=Uz (L b z).2;have q:(frF F H<|g i) b=some o':=by rw[Y4 z];exact ho'
  rw[J.ff b o' q]at this;cases this
 refine c.nx _ σ' I m x2 ⟨kt.mono T,sH,by rw[g2,l2],fun j=>if j=i then g i else (match m[j]? with|some (some _)=>p j|_=>[]),fun j o X=>?_,fun j k b f G=>?_,fun j b f=>?_⟩ nx2
 .by_cases l:j=i
  .subst l
   rw[o2]at X;cases X;refine⟨u2,d1,Z,?_⟩;dsimp only;rw[Xd rfl,Z];exact ok'
  .obtain⟨Q,s⟩:=k2 j o l X
   obtain⟨B,f3,f4⟩:=g3 j o Q;refine⟨B,f3,?_⟩;dsimp only;rw[Xc l,X];rcases s with s|⟨⟨w,Ψ,rfl⟩,f5⟩
   .refine s K A _ I B _ (fun b f=>?_) f4
    show(if b∈g i then none else A b)=none
    rw[Xc<|O j b f o Q];exact(f4.there b f).1
   .obtain⟨_,_,_,q1,q2⟩:=h3 j _ f5
    subst q1;obtain⟨f6,f7,_⟩:=f4;have f7:B=_:=f7;subst f7;exact⟨f6,rfl,Ψ.mono T q2⟩
 .have r:∀j b,b∈(if j=i then g i else (match m[j]? with|some (some _)=>p j|_=>[]))->(j=i/\b∈g i)\/(j≠i/\b∈p j/\b∉g i):=fun j b f=>by
   by_cases l:j=i
   .rw[Xd l]at f;exact .inl ⟨l,f⟩
   .rw[Xc l]at f
    cases z:m[j]? with
    |none=>rw[z]at f;cases f
    |some o =>
      cases o with
      |none=>rw[z]at f;cases f
      |some o =>
        rw[z]at f;exact .inr ⟨l,f,O j b f o (k2 j o l z).1⟩
  rcases r j b f with ⟨a1,a2⟩|⟨a1,a2,a3⟩
  .rcases r k b G with ⟨b1,R⟩|⟨b1,R,b3⟩
   .rw[a1,b1]
   .exact Xm a2 b3
  .rcases r k b G with ⟨b1,R⟩|⟨b1,R,b3⟩
   .exact Xm R a3
   .exact g4 j k b a2 R
 .by_cases l:j=i
  .simp only[Xd l]at f
   exact⟨(h5 i b f).1,by rw[pH b f];exact(L b f).2⟩
  .simp only[Xc l]at f
   cases z:m[j]? with
   |none=>rw[z]at f;cases f
   |some o =>
     cases o with
     |none=>rw[z]at f;cases f
     |some o=>rw[z]at f;exact g5 j b f
end
end L2
end
section
namespace My
open PySem L2 Mir
local macro_rules | `(tactic| walk_at "d") => `(tactic| dsimp only [List.set])
local macro_rules | `(tactic| walk_at "e") => `(tactic| dsimp only [List.set,WX,List.map,Wk])
local macro_rules | `(tactic| walk_at "x") => `(tactic| try dsimp only [Lo,A9])
local macro_rules | `(tactic| walk_at "p") => `(tactic| exact ⟨rfl,rfl,rfl,by decide +kernel,rfl,by decide +kernel,by decide +kernel⟩)
local macro_rules | `(tactic| walk_at "j") => `(tactic| first | decide | omega)
seal PA PE PI PS PSs PT PG
def top (i:Nat):Stmt:=PySem.Challenge.pw_chargeyard_k61_no_guests.main.body.getD i (.Pass ⟨0,0,0,0⟩)
abbrev Kf:Stmt:=top 11
abbrev KS:Stmt:=top 12
abbrev Kz:Stmt:=top 13
abbrev KC:Stmt:=top 14
abbrev K7:Stmt:=top 15
abbrev Kr:Stmt:=top 16
abbrev KN:Stmt:=top 17
abbrev Kl:Stmt:=top 18
abbrev Kj:Stmt:=top 19
abbrev HW:Stmt:=top 20
abbrev Kg:Stmt:=top 21
abbrev HS:Stmt:=top 22
abbrev HU:Stmt:=top 23
abbrev K1:Stmt:=top 24
abbrev KF:Stmt:=top 25
abbrev KO:Stmt:=top 30
abbrev Ky:Stmt:=top 31
abbrev KB:Stmt:=top 32
abbrev Ke:Stmt:=top 33
abbrev KL:Stmt:=top 34
abbrev Mq:Stmt:=top 35
abbrev M4:Stmt:=top 36
abbrev M3:Stmt:=top 37
abbrev Mx:Stmt:=top 39
abbrev Ki:Stmt:=top 40
abbrev Ms:Stmt:=top 41
abbrev BX:Stmt:=top 42
abbrev KG:Stmt:=top 44
abbrev KR:Stmt:=top 45
abbrev KP:Stmt:=top 46
abbrev KH:Stmt:=top 50
abbrev Kx:Stmt:=top 51
abbrev KI:Stmt:=top 52
abbrev KA:Stmt:=top 53
abbrev Mv:Stmt:=top 54
abbrev Km:Stmt:=top 55
abbrev WG:Stmt:=top 56
abbrev Mt:Stmt:=top 57
abbrev W5:Stmt:=top 58
abbrev UG:Stmt:=Vl (top 5) 0
abbrev UF:Stmt:=Vl (top 29) 0
abbrev HZ:Stmt:=Vl (top 29) 1
abbrev KD:Stmt:=Vl (top 29) 2
abbrev Kn:Stmt:=Vl (top 29) 3
abbrev KQ:Stmt:=Vl (top 29) 4
abbrev Mo:Stmt:=Vl (top 29) 5
abbrev Ks:Stmt:=Vl (top 29) 6
abbrev KM:Stmt:=Vl (top 29) 7
abbrev UE:Stmt:=Vl (top 48) 0
abbrev K8:Stmt:=Vl (top 48) 1
abbrev GI:Stmt:=Vl (top 48) 2
abbrev K3:Stmt:=Vl (top 48) 3
abbrev Ko:Stmt:=Vl (top 48) 5
abbrev K9:Stmt:=Vl (top 48) 6
abbrev M1:Stmt:=Vl (top 48) 8
abbrev Mr:Stmt:=Vl (top 48) 9
abbrev KY:Stmt:=Vl (top 48) 10
abbrev KZ:Stmt:=Vl (top 48) 11
abbrev KU:Stmt:=Vl (top 48) 12
abbrev Na:Stmt:=Vl (top 48) 13
structure Bl (mg:Str->Qf):Prop where
 abs:mg "abs"=none
 len:mg "len"=none
 max:mg "max"=none
 min:mg "min"=none
 sum:mg "sum"=none
 any:mg "any"=none
 all:mg "all"=none
 isi:mg "isinstance"=none
 int:mg "int"=none
 bool:mg "bool"=none
 list:mg "list"=none
 tuple:mg "tuple"=none
 range:mg "range"=none
 zip:mg "zip"=none
 enumerate:mg "enumerate"=none
 dict:mg "dict"=none
 ValueError:mg "ValueError"=none
structure Tx (K:W.Frag)(mg:Str->Qf)(C gS gE:Addr):Prop where
 net:NetC K C
 mSTART:mg "START"=some (.ref gS)
 mEND:mg "END"=some (.ref gE)
 aS:W.nsIn K mainGlobals "START"=some (some<|.ref gS)
 aE:W.nsIn K mainGlobals "END"=some (some<|.ref gE)
def upD:Option Nat->PyData
 |none=>.none
 |some a=>.int (a:Int)
def VZ (l:Ln):PyData:=.tuple [upD l.up,.tuple<|l.bs.map PyData.int]
def Za (y:Yd):PyData:=.tuple [.int (y.T:Int),.tuple<|y.ls.map VZ]
def Vi (l:Qk):Qd:=l.map fun(j:Nat)=>PyData.int (j:Int)
def cdl (b:0<j)(a:j<=10^60):Ug i j:=⟨b,Int.lt_of_le_of_lt a<|by decide +kernel⟩
def J6 (h0:0<=j)(a:j<=1000000):ML 10 j:=⟨h0,a,by decide⟩
def z60:(10:Int)^60=1000000000000000000000000000000000000000000000000000000000000:=by decide +kernel
def WT (b:0<j)(a:j<=1000000000000000000000000000000000000000000000000000000000000):Ug i j:=cdl b (by rw[z60];exact a)
def Lv {a:Type} [Inhabited a] {f:a->PyData}{xs:List a}{k:Int}(h0:0<=k)(c:k<(xs.length:Int)):atI (xs.map f) k=some (f<|xs.getD k.toNat default):=by
 have h:k.toNat<xs.length:=by omega
 have e:(xs.map f)[k.toNat]?=some (f<|xs.getD k.toNat default):=by simp[h]
 have b:=YG e
 rwa [Wy h0]at b
def L7 {xs:Ql}{k:Int}(h0:0<=k)(b:k<(xs.length:Int)):atI (xs.map PyData.int) k=some (.int<|xs.getD k.toNat 0):=by
 have h:k.toNat<xs.length:=by omega
 have e:(xs.map PyData.int)[k.toNat]?=some (.int<|xs.getD k.toNat 0):=by simp[h]
 have a:=YG e
 rwa [Wy h0]at a
def TB {xs:Ql}{k:Int}(h0:0<=k)(b:k<(xs.length:Int)):atI xs k=some (xs.getD k.toNat 0):=by
 have h:k.toNat<xs.length:=by omega
 have e:xs[k.toNat]?=some (xs.getD k.toNat 0):=by simp[h]
 have a:=YG e
 rwa [Wy h0]at a
def Ra {f:Nat->PyData}{n:Nat}{k:Int}(h0:0<=k)(b:k<(n:Int)):atI ((List.range n).map f) k=some (f k.toNat):=by
 have h:k.toNat<n:=by omega
 have e:((List.range n).map f)[k.toNat]?=some (f k.toNat):=by simp[h]
 have a:=YG e
 rwa [Wy h0]at a
instance:Inhabited Ln:=⟨⟨none,[]⟩⟩
def QK (g:Gs):PyData:=.tuple [.int (g.line:Int),.int (g.first:Int),.int (g.last:Int),.int g.want,.int g.most]
instance:Inhabited Gs:=⟨⟨0,0,0,1,1⟩⟩
def Tp  (h:∀d∈ds,d.canLay0=true/\d.depth<=m):PyData.canLayAll0 ds=true/\PyData.depthAll ds<=m:=by
 induction ds with
 |nil=>exact⟨rfl,XM _⟩
 |cons d ds f =>
   obtain⟨a,b⟩:=h d Xb;obtain⟨c,e⟩:=f fun x g=>h x (Xe _ g);refine⟨by rw[PyData.canLayAll0,a,c];rfl,?_⟩;rw[PyData.depthAll];omega
def VG (m:Nat)(d:PyData):Prop:=d.canLay0=true/\d.depth<=m
def VG.fine  (h:VG m d)(a:m<=60):VA d:=⟨h.1,X7 h.2 a⟩
def G5  (h:∀d∈ds,VG m d):VG (m+1) (.tuple ds):=by
 obtain⟨a,b⟩:=Tp h;refine⟨by rw[PyData.canLay0];exact a,?_⟩;rw[PyData.depth];omega
def Sd  (h:∀d∈ds,VG m d):VG (m+1) (.list ds):=by
 obtain⟨a,b⟩:=Tp h;refine⟨by rw[PyData.canLay0];exact a,?_⟩;rw[PyData.depth];omega
def Uo (i:Int)(m:Nat):VG m (.int i):=⟨rfl,XM _⟩
def Bk {a:Type}{f:a->PyData}{xs:List a}{m:Nat}(h:∀x,VG m<|f x):∀d∈xs.map f,VG m d:=fun d b=>by
 obtain⟨x,_,rfl⟩:=XL.mp b;exact h x
def DS:∀d∈([]:Qd),VG m d:=fun d a=>(nomatch a)
def Uw  (h:VG m d)(b:∀d∈ds,VG m d):∀x∈d::ds,VG m x:=fun x a=>by
 rcases Xf.mp a with rfl|a
 .exact h
 .exact b x a
def Lw (o:Option Nat)(m:Nat):VG m (upD o):=by cases o<;>exact⟨rfl,XM _⟩
def Ls (l:Ln):VG 2 (VZ l):=G5 (Uw (Lw _ _)<|Uw (G5 (m:=0)<|Bk fun i=>Uo i 0) DS)
def L5 (y:Yd):VG 4 (Za y):=G5 (Uw (Uo _ _)<|Uw (G5<|Bk Ls) DS)
def FP (l:Qk):VG 1 (.list<|Vi l):=Sd (Bk fun j=>Uo _ 0)
def NZ (y:Yd):VA (Za y):=(L5 y).fine (by decide)
def RP (l:Qk):VA (.list<|Vi l):=(FP l).fine (by decide)
def Lm {a:Type}(xs:List a)(k:Nat)(b:k<=xs.length):cut xs (some (k:Int)) none=xs.drop k:=by
 unfold cut;rw[HT.sIx_nat,Nat.min_eq_left b];show(xs.drop k).take (xs.length-k)=_;rw[<- List.length_drop,Jr]
def R9 {a:Type}(xs:List a)(k:Nat)(b:k<=xs.length):cut xs none (some (k:Int))=xs.take k:=by
 unfold cut;rw[HT.sIx_nat,Nat.min_eq_left b];rfl
def Dc (w:String):Lean.MacroM (Lean.TSyntax `tactic):=do
 let n:=Lean.mkIdent (w.drop 1).toString.toName
 match w.front with
 |'@' => `(tactic| with_reducible apply $n)
 |'!' => `(tactic| with_reducible exact $n)
 |'~' => `(tactic| apply $n)
 |_ => `(tactic| walk_at $(Lean.Syntax.mkStrLit w))
def Vx (s:String):Lean.MacroM (Lean.TSyntax `tactic):=do
 let l ← (s.splitOn "|").mapM fun a=>do
  match a.splitOn "<" with
  |[x,z] => `(tactic| ($(← Dc x):tactic <;> $(← Dc z):tactic))
  |_ =>
    let b ← (a.splitOn " ").mapM Dc
    `(tactic| ($[$b.toArray:tactic];*))
 `(tactic| first $[| $l.toArray:tactic]*)
local macro_rules | `(tactic| walk_at "rfl") => `(tactic| rfl)
local macro_rules | `(tactic| walk_at "hc") => `(tactic| intro hc)
local macro_rules | `(tactic| walk_at "ls") => `(tactic| dsimp only [List.set])
local macro_rules | `(tactic| walk_at "om") => `(tactic| first | lia | omega)
local macro_rules | `(tactic| walk_at "asm") => `(tactic| with_reducible assumption)
local macro_rules | `(tactic| walk_at "ble") => `(tactic| first | with_reducible rfl | decide | exact Nat.le_of_ble_eq_true rfl)
local macro_rules | `(tactic| walk_at "smo") => `(tactic| (focus (simp; (first | done | walk_at "om"))))
local macro_rules | `(tactic| walk_at "dso") => `(tactic| (focus (dsimp only; walk_at "om")))
local macro_rules | `(tactic| walk_at "r4") => `(tactic| (refine ⟨?_,?_,?_,?_⟩ <;> walk_at "r62"))
local macro_rules | `(tactic| walk_at "r62") => `(tactic| (rw [z62]; walk_at "side"))
local macro_rules | `(tactic| walk_at "ss") => `(tactic| repeat walk_at "s1")
local macro_rules | `(tactic| walk_at "call") => `(tactic| (constructor <;> walk_at "side"))
local macro_rules | `(tactic| walk_at "rg") => `(tactic| first | with_reducible rfl | (apply Jh <;> walk_at "rs") | (apply rngU_cong <;> walk_at "rs"))
local macro_rules | `(tactic| walk_at "rs")=>Vx "om|smo"
local macro_rules | `(tactic| walk_at "side")=>Vx "om|asm|ble|smo"
local macro_rules | `(tactic| walk_at "arith")=>Vx "om|asm|ble|smo"
local macro_rules | `(tactic| walk_at "ev")=>Vx "@Qt rfl|!Q1|!W4|!Gg|!ZE|@Z4 ev ev|@Yn ev ev|@Z5 ev ev cond|@GY ev|@JE ev ev|@NT ev ev|@Ri ev|@Hd ev ev ev|@VJ ev hc ev|@NK ev|@TX rfl ev item|@T4 rfl ev item|@V6 evd ev item|@Yf evd ev item|@V5 eas side|@Zb ea call|@L6 ea call|@Rb ev ev|@Rh ev ev|@B2 ev|@Wl ev rfl|@Lx rfl|@B3 evd|@Gy evd|@DA rfl|@Bn evd evd side|@Bf ev ev fine fine|@Dz ev ev fine fine|@D0 ev rfl|@EvO.fz eo"
local macro_rules | `(tactic| walk_at "evd")=>Vx "~Qt rfl|ev|@EvO.fz eo"
local macro_rules | `(tactic| walk_at "ea")=>Vx "!Q4|@Um rfl ea|@Qw ev ea"
local macro_rules | `(tactic| walk_at "ep")=>Vx "!Bo|@Bm ev"
local macro_rules | `(tactic| walk_at "eas")=>Vx "~Zw|~QF ev eas"
local macro_rules | `(tactic| walk_at "eo")=>Vx "@Vf eas side|@B1 ea call|@RO evd|@Be evd evd side"
local macro_rules | `(tactic| walk_at "et")=>Vx "!N9|@ZW ev|@ZN ev|@Gh et hc et|@UX et hc et|@Y5 et"
local macro_rules | `(tactic| walk_at "g")=>Vx "!Z8|!JG|@Y6 g g|@WW g rfl|~WW g rfl"
local macro_rules | `(tactic| walk_at "ei")=>Vx "@YL ea r62 r62|@Hg ea r4|@LG ea r4|@Gx ea|@Gw evd|@NS evd"
local macro_rules | `(tactic| walk_at "s1")=>Vx "@QH s1|@VT eo ls|@Z2 ev ls|@NR ev g ls|@UD rfl ev side ls"
local macro_rules | `(tactic| walk_at "ret")=>Vx "@D2 rfl|@Zq evd|@Ja eo"
local macro_rules | `(tactic| walk_at "if")=>Vx "@QH if|@ZB et"
local macro_rules | `(tactic| walk_at "eir")=>Vx "~EvI.cast ei rg"
local macro_rules | `(tactic| walk_at "item")=>Vx "rfl|asm|@L7<arith|@TB<arith|@Ra<arith|~Lv<arith"
local macro_rules | `(tactic| walk_at "cond")=>Vx "asm|@WT<om|@J6<om|om|dso"
local macro_rules | `(tactic| walk_at "fine")=>Vx "~NZ|~RP"
section
variable {P:Program}{w:World}{K:W.Frag}{mg:Str->Qf}{base:Heap}{C gS gE YR CR fR CH cg ct q1 q2 q3 q4 q5 q6:Addr}
inductive R_cell:List OT->OT->Prop
 |mk {ns:Ql} {k:Int} (h:0<=k):R_cell [.scr ns,.fz<|.int k] (.fz<|.int<|V4 ns k)
def Zgy:Qp Zav Zav (Q2 KH):=by walk_at"p"
def Fn (T:Bl mg) (D:Df K mg "_law_cell_at" KH Zav):QD P w K mg base "_law_cell_at" Zav 1 (QS (K:=K) R_cell):=by
 refine D.ev Zgy (fun b r h=>by cases h;rfl) (fun _ _ _ _ s H E b r d h=>?_)
 cases h with
 |@mk a k f =>
   refine⟨_,(Qz (Z0 (ZX Wg (pv 1) (Zj Yk (by rfl) T.len Yj<|Qo (pv 0) Qq)<|ZH _) (Q5<|QU<|QJ QI (pv 0)<|pv 1) Z3)
 (Q5<|QU Qv)),?_⟩
   show Q0 K _ [some _,some _] _
   walk_at"x"
   walk_at"if"
   .
    intro c;have c:=XJ c
    walk_at"ret"
    rfl
   .
    intro c;have c:=UT c;refine ZD ?_
    walk_at"ret"
    have e:V4 a k=0:=by
     have:a.length<=k.toNat:=by omega
     simp[V4,List.getD,this]
    rw[e]
def Yb (y:Yd)(k:Nat):Ln:=y.ls.getD k default
def upN (y:Yd)(k:Nat):Nat:=(Zh y k).getD 0
def PQ  (h:k<y.ls.length):Zh y k=(Yb y k).up:=by simp[Zh,Yb,h]
def Tj  (h:k<y.ls.length):ZG y k t=(Yb y k).bs.getD t 0:=by simp[ZG,Yb,h]
def S7 (a:y.Ok)(h:k<y.ls.length):(Yb y k).bs.length=y.T:=a.bl _ (by simp[Yb,h])
inductive R_turns:List OT->OT->Prop
 |mk {y:Yd}:R_turns [.fz<|Za y] (.fz<|.int (y.T:Int))
def O5:Qp Zaz Zaz (Q2 Kr):=by walk_at"p"
def CO (T:Bl mg) (D:Df K mg "turns_of" Kr Zaz):QD P w K mg base "turns_of" Zaz 1 (QS (K:=K) R_turns):=by
 refine D.ev O5 (fun a r h=>by cases h;rfl) (fun _ _ _ _ s H E a r b h=>?_)
 cases h with
 |@mk y =>
   refine⟨_,(Q5<|QU<|QJ QI (pv 0) Qv),?_⟩;show Q0 K _ [some _] _
   walk_at"x"
   walk_at"ret"
   rfl
inductive R_count:List OT->OT->Prop
 |mk {y:Yd}:R_count [.fz<|Za y] (.fz<|.int (y.ls.length:Int))
def Zh4:Qp Zaz Zaz (Q2 KN):=by walk_at"p"
def As (T:Bl mg) (D:Df K mg "line_count" KN Zaz):QD P w K mg base "line_count" Zaz 1 (QS (K:=K) R_count):=by
 refine D.ev Zh4 (fun a r h=>by cases h;rfl) (fun _ _ _ _ s H E a r b h=>?_)
 cases h with
 |@mk y =>
   refine⟨_,(Q5<|QU<|Zj Yk (by rfl) T.len Yj<|Qo (QJ QI (pv 0) Qv) Qq),?_⟩;show Q0 K _ [some _] _
   walk_at"x"
   walk_at"ret"
   show _=_;rw[Xn]
inductive R_above:List OT->OT->Prop
 |mk {y:Yd} {k:Int} (ok:y.Ok) (h0:0<k) (h1:k<(y.ls.length:Int)):R_above [.fz<|Za y,.fz<|.int k] (.fz<|.int (upN y k.toNat:Int))
 |zero {y:Yd} (ok:y.Ok):R_above [.fz<|Za y,.fz<|.int 0] (.fz .none)
def OF:Qp ZaF ZaF (Q2 Kl):=by walk_at"p"
def AG (T:Bl mg) (D:Df K mg "above_of" Kl ZaF):QD P w K mg base "above_of" ZaF 1 (QS (K:=K) R_above):=by
 refine D.ev OF (fun d r h=>by cases h<;>rfl) (fun _ _ _ _ s H E d r g h=>?_)
 cases h with
 |@mk y k b j i =>
   refine⟨_,(Q5<|QU<|QJ QI (QJ QI (QJ QI (pv 0) Qv)<|pv 1) Qv),?_⟩;show Q0 K _ [some _,some _] _
   walk_at"x"
   walk_at"ret"
   obtain⟨a,e,l⟩:=b.ups k.toNat (by omega) (by omega);have c:(Yb y k.toNat).up=some a:=by rw[<- PQ (by omega)];exact e
   show OT.fz (upD (Yb y k.toNat).up)=_;rw[c];simp[upN,e,upD]
 |@zero y b =>
   refine⟨_,(Q5<|QU<|QJ QI (QJ QI (QJ QI (pv 0) Qv)<|pv 1) Qv),?_⟩;show Q0 K _ [some _,some _] _
   walk_at"x"
   have f:=b.l1
   walk_at"ret"
   have c:(Yb y 0).up=none:=by rw[<- PQ (by omega)];exact b.up0
   show OT.fz (upD (Yb y 0).up)=_;rw[c];rfl
inductive R_bound:List OT->OT->Prop
 |mk {y:Yd} {k t:Int} (ok:y.Ok) (h0:0<=k) (h1:k<(y.ls.length:Int)) (h2:0<=t) (h3:t<(y.T:Int)):R_bound [.fz<|Za y,.fz<|.int k,.fz<|.int t] (.fz<|.int<|ZG y k.toNat t.toNat)
def ON:Qp Zas Zas (Q2 Kj):=by walk_at"p"
def Ew (T:Bl mg) (D:Df K mg "bound_at" Kj Zas):QD P w K mg base "bound_at" Zas 1 (QS (K:=K) R_bound):=by
 refine D.ev ON (fun a r h=>by cases h;rfl) (fun _ _ _ _ s H E a r c h=>?_)
 cases h with
 |@mk y k t b i g f e =>
   refine⟨_,(Q5<|QU<|QJ QI (QJ QI (QJ QI (QJ QI (pv 0) Qv)<|pv 1) Qv)<|pv 2),?_⟩;show Q0 K _ [some _,some _,some _] _
   walk_at"x"
   have d:(y.ls.getD k.toNat default).bs.length=y.T:=S7 b (by omega)
   walk_at"ret"
   show _=_;rw[Tj<|by omega];rfl
inductive R_lineof:List OT->OT->Prop
 |mk {g:Gs}:R_lineof [.fz<|QK g] (.fz<|.int (g.line:Int))
def IF:Qp Zat Zat (Q2 HW):=by walk_at"p"
def IS (T:Bl mg) (D:Df K mg "line_of" HW Zat):QD P w K mg base "line_of" Zat 1 (QS (K:=K) R_lineof):=by
 refine D.ev IF (fun a r h=>by cases h;rfl) (fun _ _ _ _ s H E a r b h=>?_)
 cases h with
 |@mk g =>
   refine⟨_,(Q5<|QU<|QJ QI (pv 0) Qv),?_⟩;show Q0 K _ [some _] _
   walk_at"x"
   walk_at"ret"
   rfl
inductive R_there:List OT->OT->Prop
 |mk {g:Gs} {t:Int}:R_there [.fz<|QK g,.fz<|.int t] (.fz<|.bool<|WC g t)
def OJ:Qp Zao Zao (Q2 Kg):=by walk_at"p"
def CU (T:Bl mg) (D:Df K mg "is_there" Kg Zao):QD P w K mg base "is_there" Zao 1 (QS (K:=K) R_there):=by
 refine D.ev OJ (fun a r h=>by cases h;rfl) (fun _ _ _ _ s H E a r b h=>?_)
 cases h with
 |@mk g t =>
   refine⟨_,(Q5<|QU<|S9 Dq Dq (QJ QI (pv 0) Qv) (pv 1)<|QJ QI (pv 0) Qv),?_⟩;show Q0 K _ [some _,some _] _
   walk_at"x"
   walk_at"ret"
   rfl
inductive R_most:List OT->OT->Prop
 |mk {g:Gs}:R_most [.fz<|QK g] (.fz<|.int g.most)
def Oo:Qp Zat Zat (Q2 HU):=by walk_at"p"
def Ch (T:Bl mg) (D:Df K mg "most_of" HU Zat):QD P w K mg base "most_of" Zat 1 (QS (K:=K) R_most):=by
 refine D.ev Oo (fun a r h=>by cases h;rfl) (fun _ _ _ _ s H E a r b h=>?_)
 cases h with
 |@mk g =>
   refine⟨_,(Q5<|QU<|QJ QI (pv 0) Qv),?_⟩;show Q0 K _ [some _] _
   walk_at"x"
   walk_at"ret"
   rfl
inductive R_want:List OT->OT->Prop
 |mk {g:Gs}:R_want [.fz<|QK g] (.fz<|.int g.want)
def IE:Qp Zat Zat (Q2 HS):=by walk_at"p"
def Fy (T:Bl mg) (D:Df K mg "want_of" HS Zat):QD P w K mg base "want_of" Zat 1 (QS (K:=K) R_want):=by
 refine D.ev IE (fun a r h=>by cases h;rfl) (fun _ _ _ _ s H E a r b h=>?_)
 cases h with
 |@mk g =>
   refine⟨_,(Q5<|QU<|QJ QI (pv 0) Qv),?_⟩;show Q0 K _ [some _] _
   walk_at"x"
   walk_at"ret"
   rfl
structure SetOk (gs:List Gs)(some:Qk):Prop where
 mem:∀k∈some,k<gs.length
 len:some.length<=8
def Us (b:List Gs)(t:Nat)(a:Qk):Qn:=fun l=>Vy b (t:Int) l a
def Up (y:Yd)(b:List Gs)(a:Qk)(t:Nat):Ql:=(List.range y.ls.length).map fun l=>Ym y (fun k=>ZG y k t) (Us b t a) l
inductive R_reaching:List OT->OT->Prop
 |mk {y:Yd} {gs:List Gs} {sm:Qk} {t:Int} (ok:y.Ok) (hg:∀g∈gs,g.line<y.ls.length) (hs:SetOk gs sm) (h0:0<=t) (h1:t<(y.T:Int)) :
  R_reaching [.fz<|Za y,.fz<|.list<|gs.map QK,.fz<|.list<|Vi sm,.fz<|.int t] (.ol<|(Up y gs sm t.toNat).map PyData.int)
def Sb {n j:Nat}{f g:Qn}(b:j<n)(e1:∀l,l<n->l≠j->g l=f l){v:Int}(e2:g j=v) :
 (((List.range n).map fun l=>PyData.int<|f l).set j (.int v))=(List.range n).map fun l=>PyData.int (g l):=by
 apply List.ext_getElem?
 intro i;by_cases a:i=j
 .subst a
  rw[Xl<|by simpa using b];simp[b,e2]
 .rw[Xs<|Ne.symm a]
  by_cases h:i<n
  .simp[h,e1 i h a]
  .simp[h]
def GJ:Qp Zau Zag (Q2 Mx):=by walk_at"p"
def OA (T:Bl mg) (D:Df K mg "reaching_at" Mx Zag) (o:QD P w K mg base "line_count" Zaz 1 (QS (K:=K) R_count)) (M:QD P w K mg base "is_there" Zao 1 (QS (K:=K) R_there))
 (O:QD P w K mg base "line_of" Zat 1 (QS (K:=K) R_lineof)) (L:QD P w K mg base "most_of" Zat 1 (QS (K:=K) R_most)) (J:QD P w K mg base "above_of" ZaF 1 (QS (K:=K) R_above))
 (Q:QD P w K mg base "bound_at" Zas 1 (QS (K:=K) R_bound)):QD P w K mg base "reaching_at" Zag 2 (QS (K:=K) R_reaching):=by
 refine D.ev GJ (fun X r h=>by cases h;rfl) (fun _ _ _ _ s H E X r g h=>?_)
 cases h with
 |@mk y e b t A hg S h0 h1 =>
   refine⟨_,(Qz (S6 (i:=4) GJ.nd rfl rfl (NX:=Zau) (sc:=Q2 Mx) (N:=["line"]) (f:=[none]) rfl (by decide +kernel) rfl rfl (Y9 rfl T.range<|Qo (QG o g<|Qo (pv 0) Qq) Qq) (fun _=>(Zr (i:=0) (show(["line"]:Qh).Nodup by decide +kernel) rfl Qa)) (fun _=>VM) (fun _=>WB) (fun _=>Qv) rfl)
 (Qz (V7 PassesOwn.never rfl (by exact(JM<|pv 2)) (Zr (i:=5) GJ.nd rfl Qa) (by exact(Qz (QR (i:=6) GJ.nd rfl Qa<|QJ QI (pv 1)<|pv 5)
 (Q5<|Z0 (Va<|QG M g<|Qo (pv 6)<|Qo (pv 3) Qq) (Q5<|U0 (pv 4) (QG O g<|Qo (pv 6) Qq) U4 (QG L g<|Qo (pv 6) Qq) Gp WF) Z3))))
 (Qz (V7 PassesOwn.never rfl (by exact(EM rfl T.range<|Qo (QN Yg (QG o g<|Qo (pv 0) Qq) Qv)<|Qo Qv<|Qo (UZ Gk Qv) Qq)) (Zr (i:=7) GJ.nd rfl Qa)<|by exact(Q5<|U0 (pv 4) (QG J g<|Qo (pv 0)<|Qo (pv 7) Qq) U4 (Zj (D3 rfl) (by rfl) T.min Bu<|Qo (QJ QI (pv 4)<|pv 7)<|Qo (QG Q g<|Qo (pv 0)<|Qo (pv 7)<|Qo (pv 3) Qq) Qq) Gp WF))
 (Q5<|QU<|pv 4)))),?_⟩
   show Q0 K _ [some _,some _,some _,some _,none,none,none,none] _
   walk_at"x"
   have l1:=A.l1;have l5:=A.l5;have n8:=S.len;refine QH (VT (D6 (lo:=0) (n:=y.ls.length) (h:=fun _=>.int 0) ?ei (by omega) ?el) ?_)
   case ei=>walk_at"eir"
   case el =>
    intro x hx c;exact⟨_,by walk_at"g",by walk_at"ev"⟩
   walk_at"d"
   refine QH (Hm (fun i=>[some<|.fz<|Za y,some<|.fz<|.list<|e.map QK,some<|.fz<|.list<|Vi b,some<|.fz<|.int t,some<|.ol<|(List.range y.ls.length).map fun l=>PyData.int<|Vy e t l<|b.take i,none,none,none]) (by walk_at"ei") ⟨rfl,rfl,rfl,rfl,rfl,trivial⟩ ?st ?fin)
   case st =>
    intro i d q;have p:i<b.length:=by
     have:=(Xh.mp q).1
     simpa [Vi] using this
    obtain rfl:d=.int ((b[i]:Nat):Int):=by simpa [Vi,p] using q.symm
    have j:b[i]<e.length:=S.mem _ (WM p);refine⟨_,by walk_at"g",?_⟩
    walk_at"d"
    walk_at"s1";have eg:e.getD ((b[i]:Nat):Int).toNat default=e[b[i]]:=by simp[j]
    rw[eg];have G:=hg e[b[i]] (WM j);have gl:=G;have v:b.take (i+1)=b.take i++[b[i]]:=by rw[JV];simp[p]
    refine ZB (by walk_at"et") (fun c=>?_) (fun c=>?_)
    .refine Se (m:=Vy e t e[b[i]].line (b.take i)) rfl (by walk_at"ev") (by omega) ?_ (by walk_at"ev") ?_
     .simp[gl]
     .walk_at"d"
      refine⟨rfl,rfl,rfl,rfl,?_,trivial⟩;rw[XI];congr 2;refine Sb gl (fun l Y B=>?_) ?_
      .rw[v,Mu]
       simp[Vy,j,Ne.symm B]
      .rw[v,Mu]
       simp[Vy,j,c]
    .refine ZD ⟨rfl,rfl,rfl,rfl,?_,trivial⟩
     refine X8 (fun z=>some<|OT.ol z) (UI fun l _=>?_);rw[v,Mu];simp[Vy,j,c]
   case fin =>
    intro u F;refine DE F ?_;have el:(Vi b).length=b.length:=by simp[Vi]
    rw[el,Jr];refine QH (Hm (fun i=>[some<|.fz<|Za y,some<|.fz<|.list<|e.map QK,some<|.fz<|.list<|Vi b,some<|.fz<|.int t,some<|.ol<|(List.range y.ls.length).map fun l=>PyData.int<|Yh y (fun k=>ZG y k t.toNat) (fun l=>Vy e t l b) i l,none,none,none]) (by walk_at"ei") ⟨rfl,rfl,rfl,rfl,rfl,trivial⟩ ?st2 ?fin2)
    case st2 =>
     intro i d q;obtain⟨p,rfl⟩:=SH q;have Z:i<y.ls.length-1:=by omega
     refine⟨_,by walk_at"g",?_⟩
     walk_at"d"
     have U:((y.ls.length:Int)-1-(i:Int)).toNat=y.ls.length-1-i:=by omega
     obtain⟨a,I,la⟩:=A.ups (y.ls.length-1-i) (by omega) (by omega);have R:upN y ((y.ls.length:Int)-1-(i:Int)).toNat=a:=by rw[U];simp[upN,I]
     refine Se (m:=Yh y (fun k=>ZG y k t.toNat) (fun l=>Vy e t l b) i a) rfl (by walk_at"ev") (by omega) ?_ (by walk_at"ev") ?_
     .rw[R,XI]
      have:a<y.ls.length:=by omega
      simp[this]
     .walk_at"d"
      refine⟨rfl,rfl,rfl,rfl,?_,trivial⟩;rw[R,XI];refine X8 (fun z=>some<|OT.ol z) (Sb (by omega) (fun l Y B=>?_) ?_)
      .simp only[Yh,JB]
       rw[I,Xc<|by simpa using fun z=>B z.symm];omega
      .simp only[Yh,JB]
       rw[I,Xd rfl,U]
    case fin2 =>
     intro u F;refine DE F ?_
     walk_at"ret"
     show _=_;have e2:(Ua ((y.ls.length:Int)-1) ((y.ls.length:Int)-1-0).toNat).length=y.ls.length-1:=by rw[SK];omega
     rw[e2];unfold Up Ym Us;rw[Wy h0,YM];rfl
def Ix (y:Yd)(b:List Gs)(a:Qk)(t:Nat):(Up y b a t).length=y.ls.length:=by simp[Up]
def EV   (h:l<y.ls.length):(Up y gs sm t).getD l 0=Ym y (fun k=>ZG y k t) (Us gs t sm) l:=by simp[Up,List.getD,h]
def G1 (y:Yd)(b:List Gs)(a:Qk)(t:Nat):Int:=passes y (fun k=>ZG y k t) (Us b t a) 0
def Mg (y:Yd)(b:List Gs)(a:Qk):Int:=((List.range y.T).map fun t=>G1 y b a t).sum
inductive R_given:List OT->OT->Prop
 |mk {y:Yd} {gs:List Gs} {sm:Qk} {t:Int} (ok:y.Ok) (hg:∀g∈gs,g.line<y.ls.length) (hs:SetOk gs sm) (h0:0<=t) (h1:t<(y.T:Int)) :
  R_given [.fz<|Za y,.fz<|.list<|gs.map QK,.fz<|.list<|Vi sm,.fz<|.int t] (.fz<|.int<|G1 y gs sm t.toNat)
def OL:Qp Zag Zag (Q2 Ki):=by walk_at"p"
def Er (T:Bl mg) (D:Df K mg "given_at" Ki Zag) (a:QD P w K mg base "reaching_at" Zag 2 (QS (K:=K) R_reaching)) (b:QD P w K mg base "bound_at" Zas 1 (QS (K:=K) R_bound)) :
 QD P w K mg base "given_at" Zag 3 (QS (K:=K) R_given):=by
 refine D.ev OL (fun d r h=>by cases h;rfl) (fun _ _ _ _ s H E d r c h=>?_)
 cases h with
 |@mk y g e t f l k n m =>
   refine⟨_,(Q5<|QU<|Zj (D3 rfl) (by rfl) T.min Bu<|Qo (QJ QI (QG a c<|Qo (pv 0)<|Qo (pv 1)<|Qo (pv 2)<|Qo (pv 3) Qq) Qv)<|Qo (QG b c<|Qo (pv 0)<|Qo Qv<|Qo (pv 3) Qq) Qq),?_⟩;show Q0 K _ [some _,some _,some _,some _] _
   walk_at"x"
   have j:=f.l1;have i:=Ix y g e t.toNat
   walk_at"ret"
   show _=_;rw[show(0:Int).toNat=0 from rfl,EV<|by omega];rfl
inductive R_givenm:List OT->OT->Prop
 |mk {y:Yd} {gs:List Gs} {sm:Qk} (ok:y.Ok) (hg:∀g∈gs,g.line<y.ls.length) (hs:SetOk gs sm) :
  R_givenm [.fz<|Za y,.fz<|.list<|gs.map QK,.fz<|.list<|Vi sm] (.fz<|.int<|Mg y gs sm)
def ZhF:Qp Zaf Zaf (Q2 Ms):=by walk_at"p"
def Ek (T:Bl mg) (D:Df K mg "given_most" Ms Zaf) (e:QD P w K mg base "turns_of" Zaz 1 (QS (K:=K) R_turns)) (d:QD P w K mg base "given_at" Zag 3 (QS (K:=K) R_given)) :
 QD P w K mg base "given_most" Zaf 4 (QS (K:=K) R_givenm):=by
 refine D.ev ZhF (fun k r h=>by cases h;rfl) (fun _ _ _ _ s H E k r j h=>?_)
 cases h with
 |@mk y b a g m l =>
   refine⟨_,(Q5<|QU<|Zj Rt (by rfl) T.sum Rr<|Qo (W8 (NX:=Zaf) (sc:=Q2 Ms) (N:=["turn","yard","guests","some"]) (f:=[none,some 0,some 1,some 2]) rfl (by decide +kernel) rfl rfl (Y9 rfl T.range<|Qo (QG e j<|Qo (pv 0) Qq) Qq) (fun _=>(Zr (i:=0) (show(["turn","yard","guests","some"]:Qh).Nodup by decide +kernel) rfl Qa)) (fun _=>VM) (fun _=>WB) fun _=>(QG d j<|Qo (pv 1)<|Qo (pv 2)<|Qo (pv 3)<|Qo (pv 0) Qq)) Qq),?_⟩;show Q0 K _ [some _,some _,some _] _
   walk_at"x"
   have o:=g.t8;refine Zq (D0 (ns:=(List.range y.T).map fun t=>G1 y b a t) ?_ rfl) rfl;refine EvO.fz ?_;rw[YM];refine D6 (lo:=0) (n:=y.T) ?_ (by omega) ?_
   .walk_at"eir"
   .intro x p c
    refine⟨_,by walk_at"g",?_⟩
    walk_at"e"
    rw[WO];have h:R_given [.fz<|Za y,.fz<|.list<|b.map QK,.fz<|.list<|Vi a,.fz<|.int (x:Int)] (.fz<|.int<|G1 y b a x):=R_given.mk (t:=(x:Int)) g m l (by omega) (by omega);exact Zb (by walk_at"ea") h
def BE:NoF "lay" := fun _ _ _ _=>rfl
def SU:NoF "lay_one" := fun _ _ _ _=>rfl
def A0:NoF "flow" := fun _ _ _ _=>rfl
def Ta:NoF "reached" := fun _ _ _ _=>rfl
def CW:NoF "push" := fun _ _ _ _=>rfl
def AV:NoF "fill" := fun _ _ _ _=>rfl
def Ck:NoF "way_to" := fun _ _ _ _=>rfl
def Zg6:Qp Zaj Zaj (Q2 UF):=by walk_at"p"
def LH  (T:Bl mg) (U:Tx K mg C gS gE) (F:Fun K "__init__" "Net.__init__" UF f fd):FnOk P w K mg base CX0 1 f fd Zaj (spI P w C):=by
 refine F.ok Zg6 (by rintro J H Q E ⟨x,m,e,_⟩;rw[e];rfl) ?_;rintro M A u s H J Q E X ⟨x,m,e,y,q⟩;subst e;refine⟨_,(Qz (Wj (pv 0) (ZC Qq) rfl)
 (Qz (Wj (pv 0) (ZC Qq) rfl)
 (Qz (Wj (pv 0) Es rfl)
 (Q5<|Wj (pv 0) AQ rfl)))),?_⟩
 refine⟨XM _,fun e z=>⟨_,rfl,x,C,m,[],rfl,?_,U.net.cl,U.net.ends,by decide,?_⟩⟩
 .rw[Qu<|Zs y z];exact y
 have k:x≠e:=Zs y z;refine⟨XM _,fun r c=>⟨_,rfl,x,C,m,[("ends",.ref e)],rfl,?_,U.net.cl,U.net.rooms,(by show(1:Nat)<1000;decide),?_⟩⟩
 .have h:x≠r:=Zs QC c
  rw[Qu h,QC];rfl
 have h:x≠r:=Zs QC c;have o:upd H e (.lst []) r=none:=by rw[Qu<|Ne.symm h]at c;exact c
 have B:e≠r:=Zs QC o;have L:H r=none:=by rw[Qu<|Ne.symm B]at o;exact o
 refine fun l g=>⟨_,rfl,x,C,m,[("ends",.ref e),("rooms",.ref r)],rfl,?_,U.net.cl,U.net.leav,(by show(2:Nat)<1000;decide),?_⟩
 .have i:x≠l:=Zs QC g
  rw[Qu i,QC];rfl
 have i:x≠l:=Zs QC g;rw[Qu<|Ne.symm i]at g;have p:r≠l:=Zs QC g;rw[Qu<|Ne.symm p,Qu<|Ne.symm i]at g;have D:e≠l:=Zs QC g;rw[Qu<|Ne.symm D]at g;refine fun d a=>⟨_,rfl,x,C,m,[("ends",.ref e),("rooms",.ref r),("leaving",.ref l)],rfl,?_,U.net.cl,U.net.laid,(by show(3:Nat)<1000;decide),?_⟩
 .have j:x≠d:=Zs QC a
  rw[Qu j,QC];rfl
 have j:x≠d:=Zs QC a;rw[Qu<|Ne.symm j]at a;have v:l≠d:=Zs QC a;rw[Qu<|Ne.symm v,Qu<|Ne.symm j]at a;have t:r≠d:=Zs QC a;rw[Qu<|Ne.symm t,Qu<|Ne.symm j]at a;have G:e≠d:=Zs QC a;rw[Qu<|Ne.symm G]at a;refine q e r l d _ z L g a ?_ ?_ ?_ ?_ ?_ ?_ (fun b I=>?_)
 .simp only[XD,Xf,XO,or_false,not_or,not_false_eq_true,Ju,and_true]
  exact⟨⟨k,h,i,j⟩,⟨B,D,G⟩,⟨p,t⟩,v⟩
 .rw[QC];rfl
 .rw[Qu<|Ne.symm k,Qu G,Qu<|Ne.symm k,Qu D,Qu<|Ne.symm k,Qu B,Qu<|Ne.symm k,QC]
 .rw[Qu<|Ne.symm h,Qu t,Qu<|Ne.symm h,Qu p,Qu<|Ne.symm h,QC]
 .rw[Qu<|Ne.symm i,Qu v,Qu<|Ne.symm i,QC]
 .rw[Qu<|Ne.symm j,QC];rfl
 .simp only[Xf,XO,or_false,not_or]at I
  obtain⟨n,S,R,O,N⟩:=I;rw[Qu n,Qu N,Qu n,Qu O,Qu n,Qu R,Qu n,Qu S]
inductive R_lay1:Q8->List OT->(Q8->Prop)->Prop
 |mk {N:Q8} {s e:List Key} {r:Int} (h1:N.ends.length<900) (h2:N.rooms.length<900) (h3:N.leav.length<900) (h4:∀k ns,QO N.leav k=some ns->ns.length<900):R_lay1 N [.fz<|QT s,.fz<|QT e,.fz<|.int r] (fun N'=>N'=Ub N s e r)
def ZgA:Qp Zac Zac (Q2 KD):=by walk_at"p"
def FH (T:Bl mg) (U:Tx K mg C gS gE) (D:Mf K C "lay_one" "Net.lay_one" KD Zac):Zn P w K mg base C "lay_one" Zac 1 (spN K P w C R_lay1):=by
 refine D.evN ZgA (fun M i g h=>by cases h;rfl) (fun f l A c s H E v M i g j h=>?_)
 cases h with
 |@mk b e r q p o k =>
   refine⟨_,(Qz (Zi<|Ve PySem.F.plainAttrs_list PySem.F.slot_list_append PySem.F.type_list_append V9 (Au (YD j) (QX (pv 0) rfl) (pv 1) (ZC Qq) ⟨rfl,rfl,rfl,rfl⟩)<|Qo (Zj Yk (by rfl) T.len Yj<|Qo (QX (pv 0) rfl) Qq) Qq)
 (Qz (Zi<|Ve PySem.F.plainAttrs_list PySem.F.slot_list_append PySem.F.type_list_append V9 (QX (pv 0) rfl)<|Qo (pv 2) Qq)
 (Q5<|Zi<|Ve PySem.F.plainAttrs_list PySem.F.slot_list_append PySem.F.type_list_append V9 (QX (pv 0) rfl)<|Qo (pv 3) Qq))),?_⟩
   show Q0 K _ [some _,some _,some _,some _] _
   walk_at"x"
   refine QH (Is (N:=M) (n:=(M.ends.length:Int)) U.net rfl (Qt rfl) (by omega) (fun m a=>?_) (P0 (N:={ M with leav:=VE M.leav b }) U.net rfl) ?_)
   .rw[HH,Xd rfl]at a
    cases a
    cases z:QO M.leav b with
    |none=>decide
    |some d=>have:=k b d z;show d.length<1000;omega
   walk_at"d"
   refine QH (Oy U.net rfl (Qt rfl) (show M.ends.length<1000 by omega) ?_)
   walk_at"d"
   refine Oc U.net rfl (Qt rfl) (show M.rooms.length<1000 by omega) ?_
   walk_at"d"
   exact⟨_,rfl,rfl⟩
abbrev YN:Zc Nd:=fun _ _=>0
inductive R_lay:Q8->List OT->(Q8->Prop)->Prop
 |mk {N:Q8} {L:Lay Nd} {s e:Nd} {r:Int} (h:NetR N L YN) (new:(s,e)∉L.map (fun x=>(x.1,x.2.1))) (l:L.length<400):R_lay N [.fz<|QT<|nk s,.fz<|QT<|nk e,.fz<|.int r] (fun N'=>NetR N' (L++[(s,e,r)]) YN)
def Ox:Qp Zac Zac (Q2 HZ):=by walk_at"p"
def LC (T:Bl mg) (U:Tx K mg C gS gE) (D:Mf K C "lay" "Net.lay" HZ Zac) (g:Zn P w K mg base C "lay_one" Zac 1 (spN K P w C R_lay1)):Zn P w K mg base C "lay" Zac 2 (spN K P w C R_lay):=by
 refine D.evN Ox (fun M b u h=>by cases h;rfl) (fun f F A i s H E v M b u p h=>?_)
 cases h with
 |@mk L a e r h m l =>
   refine⟨_,(Qz (Fz (DR p) (QX (pv 0) rfl) (Zu<|Qo (pv 1)<|Qo (pv 2) Qq) (Zj Yk (by rfl) T.len Yj<|Qo (QX (pv 0) rfl) Qq) rfl)
 (Qz (Zi<|Y8 g U.net p (pv 0)<|Qo (pv 1)<|Qo (pv 2)<|Qo (pv 3) Qq)
 (Q5<|Zi<|Y8 g U.net p (pv 0)<|Qo (pv 2)<|Qo (pv 1)<|Qo Qv Qq))),?_⟩
   show Q0 K _ [some _,some _,some _,some _] _
   walk_at"x"
   have B:=h.elen;have y:M.rooms.length=2*L.length:=by rw[h.rooms,Kt]
   have J:=h.l1;have I:=h.l2;have o:=h.l3;refine QH (Ik (N:=M) (n:=(M.ends.length:Int)) (k1:=nk a) (k2:=nk e) U.net rfl (P0 U.net rfl) (V5 (QF (Qt rfl)<|QF (Qt rfl) Zw) W1) (by omega) ?_)
   walk_at"d"
   refine QH (Ji (ΦA:=fun b=>b=[.fz<|QT<|nk a,.fz<|QT<|nk e,.fz<|.int r]) SU rfl (W9 (Qw (Qt rfl)<|Qw (Qt rfl)<|Qw (Qt rfl) Q4) rfl) fun b c=>?_);subst c;refine⟨_,R_lay1.mk (show M.ends.length<900 by omega) (show M.rooms.length<900 by omega) (show M.leav.length<900 by omega) (fun k j d=>by have:=o k j d;omega),fun G t=>?_⟩;subst t;walk_at"d"
   refine Ji (ΦA:=fun b=>b=[.fz<|QT<|nk e,.fz<|QT<|nk a,.fz<|.int 0]) SU rfl (W9 (Qw (Qt rfl)<|Qw (Qt rfl)<|Qw Q1 Q4) rfl) (fun b c=>?_);subst c;refine⟨_,R_lay1.mk ?a1 ?a2 ?a3 ?a4,fun G t=>?_⟩
   case a1=>show(M.ends++[nk e]).length<900;rw[Xo,B];show 2*L.length+1<900;omega
   case a2=>show(M.rooms++[r]).length<900;rw[Xo,y];show 2*L.length+1<900;omega
   case a3 =>
    show(VD (VE M.leav<|nk a) (nk a) _).length<900
    rw[BI];have:=Hr M.leav (nk a);omega
   case a4 =>
    intro k j d;rw[U9]at d;by_cases z:k=nk a
    .rw[Xd z]at d
     cases d
     have:((QO M.leav<|nk a).getD []).length<=2*L.length:=by
      cases q:QO M.leav (nk a) with
      |none=>exact XM _
      |some x=>exact o _ x q
     show((QO M.leav<|nk a).getD []++[_]).length<900
     rw[Xo];show _+1<900;omega
    .rw[Xc z]at d
     have:=o k j d
     omega
   subst t;walk_at"d"
   exact⟨_,Am (r:=r) h rfl m,rfl⟩
def Gn (L:Lay Nd)(φ:Zc Nd)(p q:Nd):Int:=if (p,q)∈L.map (fun x=>(x.1,x.2.1)) then φ p q else 0
inductive R_flow (P:Program)(w:World)(C:Addr):List OT->(OT->Prop)->Prop
 |mk {N:Q8} {L:Lay Nd} {φ:Zc Nd} {p q:Nd} (h:NetR N L φ):R_flow P w C [.zow<|ZU P w C N,.fz<|QT<|nk p,.fz<|QT<|nk q] (fun r=>r=.fz (.int<|Gn L φ p q))
def O2:Qp Zam Zam (Q2 Kn):=by walk_at"p"
def C7 (T:Bl mg) (U:Tx K mg C gS gE) (D:Mf K C "flow" "Net.flow" Kn Zam):Zn P w K mg base C "flow" Zam 1 (QY K<|R_flow P w C):=by
 refine D.evD O2 (fun A y h=>by cases h;rfl) (fun _ _ _ _ s H E A y u h=>?_)
 cases h with
 |@mk N L t p q h =>
   refine⟨_,(Qz (Z0 (Uu<|EA (DR u) (Zu<|Qo (pv 1)<|Qo (pv 2) Qq)<|QX (pv 0) rfl) (Q5<|QU Qv) Z3)
 (Q5<|QU<|QJ QI (QX (pv 0) rfl)<|QN DB (CA (DR u) (QX (pv 0) rfl) (Zu<|Qo (pv 1)<|Qo (pv 2) Qq) fun _ _=>rfl) Qv)),?_⟩
   show Q0 K _ [some _,some _,some _] _
   walk_at"x"
   have f:∀{l:Q9},l[1]?=some (some<|.fz<|QT<|nk p)->l[2]?=some (some<|.fz<|QT<|nk q)->Qs K (Wa<|QE (QB 1)<|QE (QB 2) QQ) l (.tuple [QT<|nk p,QT<|nk q]):=fun e d=>V5 (QF (Qt e)<|QF (Qt d) Zw) W1;refine QH (ZB (b := !(ZK N.laid (nk p,nk q)).isSome) (ZN<|Ej U.net (f rfl rfl) rfl) (fun c=>Zq Q1 ?_) fun c=>ZD ?_)
   .have c:ZK N.laid (nk p,nk q)=none:=by
     cases z:ZK N.laid (nk p,nk q) with
     |none=>rfl
     |some n=>rw[z]at c;cases c
    show OT.fz (.int 0)=_;unfold Gn;rw[Xc fun j=>?_];obtain⟨x,m,r⟩:=XL.mp j;obtain⟨i,k⟩:=List.mem_iff_getElem?.mp m
    have:=h.laid i x k
    injection r with e d;rw[e,d,c]at this;cases this
   .have j:(p,q)∈L.map (fun x=>(x.1,x.2.1)):=by
     apply Classical.byContradiction
     intro B;rw[h.laid0 p q B]at c;cases c
    obtain⟨x,m,r⟩:=XL.mp j;obtain⟨i,k⟩:=List.mem_iff_getElem?.mp m;have v:=h.laid i x k;injection r with e d
    rw[e,d]at v;have o:N.rooms[2*i+1]?=some (t p q):=by
     rw[h.rooms,UC];unfold rmE;have a:(2*i+1)/2=i:=by omega
     have b:¬(2*i+1)%2=0:=by omega
     rw[a,k];simp only[YW,Xc b,e,d]
    have F:atI (N.rooms.map PyData.int) (Builtin.bitXor ((2*i:Nat):Int) 1)=some (.int<|t p q):=by
     rw[K5];have a:Ze7 (2*i)=2*i+1:=by unfold Ze7;rw[Xd<|by omega]
     rw[a];exact YG (by rw[Xt,o];rfl)
    refine Zq (HN (N:=N) U.net rfl (Z4 (g:=Builtin.bitXor) (AB (n:=((2*i:Nat):Int)) U.net rfl (f rfl rfl) v) Q1) F) ?_;unfold Gn;rw[Xd j]
def Cd   (h:Qs K ta ρ (.list ds)):Zk K (fun b H Q=>ta b H fun x f=>∃k,MZ K x f k/\Q k f) ρ (!ds.isEmpty):=fun m F b H Q S q=>h m F b H _ S fun n l v d g=>by
 obtain⟨a,c,rfl,j,i,_⟩:=JQ (K:=K) g d.fh;refine⟨_,.inl ⟨c,j,rfl⟩,?_⟩
 have e:c.isEmpty=ds.isEmpty:=by
  have:=i.length
  cases c<;>cases ds<;>simp at this ⊢
 rw[e];exact q n l d
def Wb (n:Nd):PyData:=QT (nk n)
inductive R_reached (P:Program)(w:World)(C:Addr):List OT->(OT->Prop)->Prop
 |mk {N:Q8} {L:Lay Nd} {φ:Zc Nd} {s:Nd} (h:NetR N L φ) (l:L.length<400):R_reached P w C [.zow<|ZU P w C N,.fz<|QT<|nk s] (fun r=>∃v es,r=.own v (Vt<|kvG es)/\Tree L φ s es/\VR L φ es)
structure ReachI (L:Lay Nd)(φ:Zc Nd)(s:Nd)(es0 es:Got Nd)(U fu:List Nd):Prop where
 tree:Tree L φ s es
 fin:∀n∈fu,n∈QV es
 sub:∀n∈QV es0,n∈QV es
 done:J0 L φ es (U++fu)
 len:es.length=es0.length+fu.length
def JR:Qp ["self","start","edges","latest","further","node","edge"] ZaK (Q2 KQ):=by walk_at"p"
def IZ (T:Bl mg) (U:Tx K mg C gS gE) (D:Mf K C "reached" "Net.reached" KQ ZaK):Zn P w K mg base C "reached" ZaK 1 (QY K<|R_reached P w C):=by
 refine D.evD JR (fun ts Φ h=>by cases h;rfl) (fun _ _ _ _ s H E ts Φ hr h=>?_)
 cases h with
 |@mk N L Q A h l =>
   refine⟨_,(Qz (QR (i:=2) JR.nd rfl Qa<|E3 (YD hr) (pv 1) Bq)
 (Qz (QR (i:=3) JR.nd rfl Qa<|ZC<|Qo (pv 1) Qq)
 (Qz (BP PassesOwn.never (AK (pv 3) fun _=>rfl) (Qz (QR (i:=4) JR.nd rfl Qa<|ZC Qq)
 (Qz (V7 PassesOwn.never rfl (by exact(JM<|pv 3)) (Zr (i:=5) JR.nd rfl Qa) (by exact(Q5 (V7 PassesOwn.never rfl (by exact(JM<|Af (YD hr) (QX (pv 0) rfl) (pv 5) (ZC Qq) ⟨rfl,rfl,rfl,rfl⟩)) (Zr (i:=6) JR.nd rfl Qa) (by exact(Q5 (Z0 (PW.pt<|Bg (ZX W6 (QJ QI (QX (pv 0) rfl)<|pv 6) Qv<|ZH _)<|B4<|Uu<|EX (YD hr) (QJ QI (QX (pv 0) rfl)<|pv 6)<|pv 2) (Qz (Hi (YD hr) (pv 2) (QJ QI (QX (pv 0) rfl)<|pv 6) (pv 6) rfl)
 (Q5<|Zi<|Ve PySem.F.plainAttrs_list PySem.F.slot_list_append PySem.F.type_list_append V9 (pv 4)<|Qo (QJ QI (QX (pv 0) rfl)<|pv 6) Qq)) Z3)))))))
 (Q5<|QR (i:=3) JR.nd rfl Qa<|pv 4))))
 (Q5<|QU<|pv 2)))),?_⟩
   show Q0 K _ [some _,some _,none,none,none,none,none] _
   walk_at"x"
   refine QH (BG (E4 (k:=nk A) (d:=.none) (Qt rfl) Gg) fun v=>?_)
   walk_at"d"
   refine QH (VT (Vf (ds:=[QT<|nk A]) (QF (Qt rfl) Zw) Jw) ?_)
   walk_at"d"
   refine We 3 rfl ?_
   walk_at"d"
   have bnd:∀p,Tree L Q A p->p.length<=2*L.length+1:=fun p t=>by have:=t.len;rw[Ph]at this;exact this
   refine QH (BW (fun m B=>∃(p:Got Nd) (g:List Nd) (u4 u5 u6:Option OT),Tree L Q A p/\(∀n∈g,n∈QV p)/\J0 L Q p g/\m=2*(2*L.length+2-p.length)+(if g=[] then 0 else 1) /\
    B=[some<|.zow<|ZU P w C N,some<|.fz<|QT<|nk A,some<|.own v<|Vt<|kvG p,some<|.fz<|.list<|g.map Wb,u4,u5,u6]) _ ⟨[(A,none)],[A],none,none,none,.root,(fun n M=>by simpa [QV] using M),?d0,rfl,rfl⟩ ?ws)
   case d0 =>
    intro e m n r h1 h2 h3 h4 h5 h6;have:m=A:=by simpa [QV] using h5
    exact Xm (by rw[this];exact Xb) h6
   case ws =>
    rintro m _ ⟨p,g,u4,u5,u6,tr,sb,dn,rfl,rfl⟩
    refine⟨_,Cd (ds:=g.map Wb)<|Qt rfl,fun c=>?_,fun c=>?_⟩
    .have X:g≠[]:=fun z=>by rw[z]at c;cases c
     rw[Xc X];refine QH (VT (Vf (ds:=[]) Zw<|by decide) ?_)
     walk_at"d"
     refine QH (Yi (ds:=g.map Wb) (fun i B=>∃(u:Got Nd) (Z:List Nd) (u5 u6:Option OT),ReachI L Q A p u (g.drop i) Z /\
      B=[some<|.zow<|ZU P w C N,some<|.fz<|QT<|nk A,some<|.own v<|Vt<|kvG u,some<|.fz<|.list<|g.map Wb,some<|.ol<|Z.map Wb,u5,u6]) (Gw<|Qt rfl) ⟨p,[],_,_,⟨tr,(by rintro n ⟨⟩),fun n M=>M,by rw[List.drop_zero,XF];exact dn,by simp⟩,rfl⟩ ?st ?fin)
     case fin =>
      rintro _ ⟨u,Z,w5,w6,I,rfl⟩
      rw[Xn]at I;have dn':=I.done;rw[List.drop_length,List.nil_append]at dn';refine We 4 rfl ?_
      walk_at"d"
      refine Z2 (Qt rfl) ?_
      walk_at"d"
      refine⟨2*(2*L.length+2-u.length)+(if Z=[] then 0 else 1),?_,u,Z,_,_,_,I.tree,I.fin,dn',rfl,rfl⟩;have b1:=bnd u I.tree;have b2:=I.len
      by_cases z:Z=[]
      .rw[Xd z]
       rw[z]at b2;simp at b2;omega
      .rw[Xc z]
       have:0<Z.length:=M9.mpr z
       omega
     case st =>
      rintro i d _ hd ⟨es1,fu1,w5,w6,I1,rfl⟩
      have hi:i<g.length:=by
       have:=(Xh.mp hd).1
       simpa using this
      obtain rfl:d=Wb g[i]:=by simpa [hi] using hd.symm
      have Y:g.drop i=g[i]::g.drop (i+1):=List.drop_eq_getElem_cons hi;generalize g[i]=x at Y;refine⟨_,Z8,?_⟩
      walk_at"d"
      refine Yi (ds:=((QO N.leav<|nk x).getD []).map PyData.int) (fun j B=>∃(f:Got Nd) (o:List Nd) (u6:Option OT),ReachI L Q A p f (g.drop i) o /\
       (∀(k:Nat) (n:Nd) (r:Int),(k:Int)∈((QO N.leav<|nk x).getD []).take j->hdE L k=some n->rmE L Q k=some r->0<r->n∈QV f) /\
       B=[some<|.zow<|ZU P w C N,some<|.fz<|QT<|nk A,some<|.own v<|Vt<|kvG f,some<|.fz<|.list<|g.map Wb,some<|.ol<|o.map Wb,some<|.fz<|Wb x,u6]) (Gw<|CM (k:=nk x) U.net rfl (Qt rfl)) ⟨es1,fu1,_,I1,(fun k n r hk=>by simp at hk),rfl⟩ ?st2 ?fin2
      case fin2 =>
       rintro _ ⟨f,o,w6,q,J,rfl⟩
       refine⟨f,o,_,_,⟨q.tree,q.fin,q.sub,?_,q.len⟩,rfl⟩;rw[Xn,Jr]at J;intro e m n r h1 h2 h3 h4 h5 h6;by_cases z:m=x
       .subst z
        exact J e n r ((h.leav m (e:Int)).mpr ⟨e,rfl,h1⟩) h2 h3 h4
       .refine q.done e m n r h1 h2 h3 h4 h5 ?_
        rw[Y,Jq,Xf,not_or];exact⟨z,h6⟩
      case st2 =>
       rintro j d2 _ O ⟨f,o,w6,q,J,rfl⟩
       have hj:j<((QO N.leav<|nk x).getD []).length:=by
        have:=(Xh.mp O).1
        simpa using this
       obtain⟨k,ek,tk⟩:=(h.leav x _).mp (WM hj)
       obtain rfl:d2=.int (k:Int):=by
        rw[Xt,X9 hj]at O;rw[ek]at O;simpa using O.symm
       obtain⟨y,hy⟩:∃y,L[k/2]?=some y:=by
        unfold tlE at tk;cases z:L[k/2]? with
        |none=>rw[z]at tk;cases tk
        |some y=>exact⟨y,rfl⟩
       obtain⟨n,M⟩:∃n,hdE L k=some n:=⟨_,by unfold hdE;rw[hy];rfl⟩;obtain⟨r,S⟩:∃r,rmE L Q k=some r:=⟨_,by unfold rmE;rw[hy];rfl⟩;have ra:atI (N.rooms.map PyData.int) (k:Int)=some (.int r):=YG (by rw[Xt,h.rooms,UC,S];rfl);have ea:atI (N.ends.map QT) (k:Int)=some (QT<|nk n):=YG (by rw[h.ends,YM,Xt,Hl,M];rfl);have tks:((QO N.leav<|nk x).getD []).take (j+1)=((QO N.leav<|nk x).getD []).take j++[(k:Int)]:=by rw[JV,X9 hj,ek];rfl
       have bes:=bnd f q.tree;have ben:=q.len;refine⟨_,Z8,?_⟩
       walk_at"d"
       have G:∀{ρ:Q9},ρ[0]?=some (some<|.zow<|ZU P w C N)->ρ[6]?=some (some<|.fz<|.int (k:Int))->Qs K (tOp (rIx K) (ZT K (QB 0) "ends")<|QB 6) ρ (QT<|nk n):=fun e0 e6=>RN U.net e0 (Qt e6) ea;refine ZB (b:=decide (r > 0) && !(VO (kvG f)<|nk n).isSome) (Gh (ZW<|Yn (HN U.net rfl (Qt rfl) ra) Q1) fun _=>ZN<|Ou (G rfl rfl) rfl) (fun c=>?_) (fun c=>ZD ?_)
       .rw[Gq]at c
        have c1:r > 0:=XJ (Bool.and_eq_true_iff.mp c).1;have c2:n∉QV f:=by simpa using (Bool.and_eq_true_iff.mp c).2
        refine QH (E1 rfl (Qt rfl) (G rfl rfl) (by rw[show(kvG f).length=f.length from Xn _];exact Vc<|by omega) ?_)
        walk_at"d"
        rw[Ac c2];refine UD (ds:=o.map Wb) rfl (G rfl rfl) (by rw[Xn];omega) ?_
        walk_at"d"
        have km:x∈QV f:=q.sub x (sb x<|List.mem_of_mem_drop<|by rw[Y];exact Xb);refine⟨f++[(n,some k)],o++[n],_,⟨q.tree.add c2 M tk km S c1,fun z R=>?_,fun z R=>Jn.mpr<|.inl<|q.sub z R,?_,by simp;omega⟩,fun k' n' r' F q1 q2 q3=>?_,by rw[Xy];rfl⟩
        .rcases XB.mp R with R|R
         .exact Jn.mpr (.inl<|q.fin z R)
         .exact Jn.mpr (.inr<|by simpa using R)
        .exact q.done.add n (some k)
        .rw[tks]at F
         rcases XB.mp F with z|z
         .exact Jn.mpr (.inl<|J k' n' r' z q1 q2 q3)
         .have:k'=k:=by have:=Xi.mp z;omega
          subst this;rw[M]at q1;cases q1;exact Jn.mpr (.inr rfl)
       .rw[Gq]at c
        refine⟨f,o,_,q,fun k' n' r' F q1 q2 q3=>?_,rfl⟩;rw[tks]at F;rcases XB.mp F with z|z
        .exact J k' n' r' z q1 q2 q3
        .have:k'=k:=by have:=Xi.mp z;omega
         subst this;rw[M]at q1;rw[S]at q2;cases q1
         cases q2
         apply Classical.byContradiction
         intro hq;have q3':r > 0:=q3
         simp[q3',hq]at c
    .have X:g=[]:=by
      cases g with
      |nil=>rfl
      |cons a b=>cases c
     subst X;exact RL rfl ⟨v,p,rfl,tr,dn.closed⟩
def Yv (w:Qk):Qd:=w.map fun(e:Nat)=>PyData.int (e:Int)
def PJ {L:Lay Nd}{es:Got Nd}{n:Nd}{w:Qk}(b:Back L es n w):VO (kvG es) (nk n)=some (JX w.head?):=by
 rw[HL];cases b with
 |nil h=>rw[h];rfl
 |cons h t b=>rw[h];rfl
def NA {L:Lay Nd}{φ:Zc Nd}{e:Nat}{r:Int}(h:rmE L φ e=some r):e<2*L.length:=by
 unfold rmE at h;cases z:L[e/2]? with
 |none=>rw[z]at h;cases h
 |some x=>have:=(Xh.mp z).1;omega
def Sm {L:Lay Nd}  {w:Qk}(q:WayOk L φ s es n w):w.length<=2*L.length:=by
 have:=Kc (ys:=List.range (2*L.length)) q.nodup fun e b=>by
  obtain⟨r,a,_⟩:=q.room e b;exact XU.mpr (NA a)
 simpa using this
inductive R_way (P:Program)(w:World)(C:Addr):List OT->(OT->Prop)->Prop
 |mk {N:Q8} {L:Lay Nd} {φ:Zc Nd} {s n:Nd} {es:Got Nd} {wy:Qk} (h:NetR N L φ) (l:L.length<400) (q:WayOk L φ s es n wy):R_way P w C [.zow<|ZU P w C N,.zow<|Jz<|kvG es,.fz<|QT<|nk n] (fun r=>r=.ol (Yv wy))
def Mz:Qp ["self","edges","end","way","edge"] ZaC (Q2 KM):=by walk_at"p"
def Lk (T:Bl mg) (U:Tx K mg C gS gE) (D:Mf K C "way_to" "Net.way_to" KM ZaC):Zn P w K mg base C "way_to" ZaC 1 (QY K<|R_way P w C):=by
 refine D.evD Mz (fun A z h=>by cases h;rfl) (fun _ _ _ _ s H E A z v h=>?_)
 cases h with
 |@mk N L J O n x r h l q =>
   refine⟨_,(Qz (QR (i:=3) Mz.nd rfl Qa<|ZC Qq)
 (Qz (QR (i:=4) Mz.nd rfl Qa<|RZ (YD v) (pv 1) (pv 2) fun _ _=>rfl)
 (Qz (BP PassesOwn.never (Uu<|F9<|pv 4) (Qz (Zi<|Ve PySem.F.plainAttrs_list PySem.F.slot_list_append PySem.F.type_list_append V9 (pv 3)<|Qo (pv 4) Qq)
 (Q5<|QR (i:=4) Mz.nd rfl Qa<|RZ (YD v) (pv 1) (QJ QI (QX (pv 0) rfl)<|QN DB (pv 4) Qv) fun _ _=>rfl)))
 (Q5<|QU<|pv 3)))),?_⟩
   show Q0 K _ [some _,some _,some _,none,none] _
   walk_at"x"
   have M:=Sm q;refine QH (VT (Vf (ds:=[]) Zw<|by decide) ?_)
   walk_at"d"
   refine QH (Z2 (RY rfl (Qt rfl)<|PJ q.back) ?_)
   walk_at"d"
   refine QH (BW (fun m p=>∃(j f:Qk) (t:Nd),m=f.length/\j++f=r/\Back L x t f/\p=[some<|.zow<|ZU P w C N,some<|.zow<|Jz<|kvG x,some<|.fz<|QT<|nk n,some<|.ol<|Yv j,some<|.fz<|JX f.head?]) r.length ⟨[],r,n,rfl,rfl,q.back,rfl⟩ ?ws)
   case ws =>
    rintro m _ ⟨j,f,t,rfl,o,b,rfl⟩
    refine⟨_,ZN<|Ri<|Qt rfl,fun c=>?_,fun c=>?_⟩
    .cases b with
     |nil F=>cases c
     |@cons _ u e k F B y =>
       have I:j.length<1000:=by
        have:=X8 List.length o
        rw[Xo]at this;omega
       refine QH (UD (ds:=Yv j) (d:=.int (e:Int)) rfl (Qt rfl) (by unfold Yv;rw[Xn];exact I) ?_)
       walk_at"d"
       have G:atI (N.ends.map QT) (Builtin.bitXor (e:Int) 1)=some (QT<|nk u):=by
        rw[K5];exact YG (by rw[h.ends,YM,Xt,EF,B];rfl)
       refine Z2 (RY rfl (RN U.net rfl (Z4 (g:=Builtin.bitXor) (Qt rfl) Q1) G)<|PJ y) ?_
       walk_at"d"
       refine⟨k.length,WN _,j++[e],k,u,rfl,by rw[<- o,UQ];rfl,y,?_⟩;unfold Yv;rw[Xy];rfl
    .have:f=[]:=by
      cases f with
      |nil=>rfl
      |cons a b=>cases c
     subst this;rw[XF]at o;subst o;exact D2 rfl rfl
def amt (L:Lay Nd)(φ:Zc Nd)(w:Qk):Int:=Yu (w.map fun e=>(rmE L φ e).getD 0)
inductive R_push:Q8->List OT->(Q8->Prop)->Prop
 |mk {N:Q8} {L:Lay Nd} {φ:Zc Nd} {wy:Qk} (h:NetR N L φ) (hd:Dis L) (ne:wy≠[]) (hin:∀e∈wy,∃r,rmE L φ e=some r) (hl:wy.length<900):R_push N [.fz<|.list<|Yv wy] (fun N'=>NetR N' L<|YO L (amt L φ wy) φ wy)
def NetR.rm  (h:NetR N L φ)(a:e<2*L.length):∃r,N.rooms[e]?=some r/\(Vz L φ)[e]?=some r:=by
 have:e<(Vz L φ).length:=by rw[Kt];exact a
 exact⟨(Vz L φ)[e],by rw[h.rooms,X9 this],X9 this⟩
def NetR.push  (h:NetR N L φ)(b:Dis L)  (d:(Vz L φ)[e]?=some r)(c:(Vz L φ)[Ze7 e]?=some r'):NetR { N with rooms:=(N.rooms.set e<|r-a).set (Ze7 e) (r'+a) } L (VQ L a φ e) :=
 ⟨h.ends,by show(N.rooms.set e<|r-a).set (Ze7 e) (r'+a)=_;rw[h.rooms,On b d c],h.leav,h.laid,h.laid0,h.l1,h.l2,h.l3⟩
def Oi {L:Lay Nd}{a:Int}{φ:Zc Nd}{b:Qk}{i e:Nat}(h:b[i]?=some e):YO L a φ (b.take<|i+1)=VQ L a (YO L a φ<|b.take i) e:=by
 have t:b.take (i+1)=b.take i++[e]:=by rw[JV,h];rfl
 rw[t];unfold YO;rw[List.foldl_append];rfl
def K4:Qp ["self","way","amount","edge"] ["self","way"] (Q2 Mo):=by walk_at"p"
def FS (T:Bl mg) (U:Tx K mg C gS gE) (D:Mf K C "push" "Net.push" Mo ["self","way"]):Zn P w K mg base C "push" ["self","way"] 1 (spN K P w C R_push):=by
 refine D.evN K4 (fun M J I h=>by cases h;rfl) (fun f cdv A B s H E v M J I hr h=>?_)
 cases h with
 |@mk L q b h X Q u hl =>
   refine⟨_,(Qz (QR (i:=2) K4.nd rfl Qa<|Zj Cc (by rfl) T.min Bu<|Qo (W8 (NX:=["self","way","amount","edge"]) (sc:=Q2 Mo) (N:=["edge","self"]) (f:=[none,some 0]) rfl (by decide +kernel) rfl rfl (JM<|pv 1) (fun _=>(Zr (i:=0) (show(["edge","self"]:Qh).Nodup by decide +kernel) rfl Qa)) (fun _=>VM) (fun _=>WB) fun _=>(QJ QI (QX (pv 1) rfl)<|pv 0)) Qq)
 (Q5 (V7 PassesOwn.never rfl (by exact(JM<|pv 1)) (Zr (i:=3) K4.nd rfl Qa) (by exact(Qz (U0 (QX (pv 0) rfl) (pv 3) U4 (pv 2) Lj WF)
 (Q5<|U0 (QX (pv 0) rfl) (QN DB (pv 3) Qv) U4 (pv 2) Gp WF)))))),?_⟩
   show Q0 K _ [some _,some _,none,none] _
   walk_at"x"
   refine QH (Z2 (d:=.int (amt L q b)) (IX 0 rfl rfl (FI (ns:=b.map fun e=>(rmE L q e).getD 0) (Qs.cast (EvO.fz<|Ga (xs:=b) (enc:=fun(e:Nat)=>PyData.int (e:Int)) (h:=fun e=>.int<|(rmE L q e).getD 0) ?ei (by omega) ?el)<|by rw[YM];rfl) rfl (fun z=>Q<|List.map_eq_nil_iff.mp z))) ?_)
   case ei=>exact Gw (Qt rfl)
   case el =>
    intro e S c;refine⟨_,Z8,?_⟩
    walk_at"e"
    obtain⟨r,t⟩:=u e S;refine Qs.cast (HN (N:=M) (m:=r) U.net rfl (Qt rfl) ?_) (by rw[t];rfl);exact YG (by rw[Xt,h.rooms,UC,t];rfl)
   walk_at"d"
   generalize amt L q b=a;refine Yi (ds:=Yv b) (fun i x=>∃(p:Q8) (y:Option OT),NetR p L (YO L a q<|b.take i)/\x=[some<|.own v<|Zd P w C p,some<|.fz<|.list<|Yv b,some<|.fz<|.int a,y]) (Gw<|Qt rfl) ⟨M,_,h,rfl⟩ ?st ?fin
   case fin =>
    rintro _ ⟨p,y,o,rfl⟩
    unfold Yv at o;rw[Xn,Jr]at o;exact⟨p,o,rfl⟩
   case st =>
    rintro i d _ l ⟨p,y,o,rfl⟩
    have G:i<b.length:=by
     have:=(Xh.mp l).1
     unfold Yv at this;simpa using this
    obtain rfl:d=.int (b[i]:Int):=by
     unfold Yv at l;simpa [G] using l.symm
    obtain⟨r0,F⟩:=u b[i] (WM G);have el:=NA F;rw[Oi<|X9 G];generalize b[i]=e at el;have em:Ze7 e<2*L.length:=by unfold Ze7;split<;>omega
    have R:Ze7 e≠e:=by unfold Ze7;split<;>omega
    obtain⟨r,h1,h2⟩:=My.NetR.rm o el;obtain⟨O,Z,Y⟩:=My.NetR.rm o em;refine⟨_,Z8,?_⟩
    walk_at"d"
    refine QH (Pl (N:=p) (f:=fun i j=>i-j) (k:=(e:Int)) (m:=r) (n:=a) U.net rfl (Qt rfl) (by omega) (by rw[XI];exact h1) (Qt rfl) ?_)
    walk_at"d"
    rw[XI];refine Pl (f:=fun i j=>i+j) (k:=(Ze7 e:Int)) (m:=O) (n:=a) U.net rfl (Qs.cast (Z4 (g:=Builtin.bitXor) (Qt rfl) Q1)<|by rw[K5]) (by omega) (by rw[XI];show(p.rooms.set e<|r-a)[Ze7 e]?=_;rw[Xs<|Ne.symm R];exact Z) (Qt rfl) ?_
    walk_at"d"
    rw[XI];exact⟨_,_,My.NetR.push o X h2 Y,rfl⟩
inductive R_fill:Q8->List OT->(Q8->Prop)->Prop
 |mk {N:Q8} {y:Yd} {G:Gv} {φ:Zc Nd} (h:NetR N (Zg y G) φ) (F:Flow y G φ) (l:(Zg y G).length<400):R_fill N [.fz<|QT<|nk .start,.fz<|QT<|nk .fin] (fun N'=>∃φ' es,NetR N' (Zg y G) φ'/\Flow y G φ'/\Nd.start∈QV es/\VR (Zg y G) φ' es/\Nd.fin∉QV es)
def K2:Qp ["self","start","end","edges"] Zam (Q2 Ks):=by walk_at"p"
def C0 (T:Bl mg) (U:Tx K mg C gS gE) (D:Mf K C "fill" "Net.fill" Ks Zam) (J:Zn P w K mg base C "reached" ZaK 1 (QY K<|R_reached P w C)) (XbD:Zn P w K mg base C "push" ["self","way"] 1 (spN K P w C R_push)) (XbE:Zn P w K mg base C "way_to" ZaC 1 (QY K<|R_way P w C)) :
 Zn P w K mg base C "fill" Zam 2 (spN K P w C R_fill):=by
 refine D.evN K2 (fun M L Ψ h=>by cases h;rfl) (fun f cdv A R s H E v M L Ψ I h=>?_)
 cases h with
 |@mk y G b h F l =>
   refine⟨_,(Qz (QR (i:=3) K2.nd rfl Qa<|Y8 J U.net I (pv 0)<|Qo (pv 1) Qq)
 (Q5 (BP PassesOwn.never (Uu<|DM (YD I) (pv 2)<|pv 3) (Qz (Zi<|Y8 XbD U.net I (pv 0)<|Qo (Y8 XbE U.net I (pv 0)<|Qo (pv 3)<|Qo (pv 2) Qq) Qq)
 (Q5<|QR (i:=3) K2.nd rfl Qa<|Y8 J U.net I (pv 0)<|Qo (pv 1) Qq))))),?_⟩
   show Q0 K _ [some _,some _,some _,none] _
   walk_at"x"
   have Ym:∀{M:Q8} {b:Zc Nd} {u:Option OT} {E':XK},NetR M (Zg y G) b->Zm K (Vr C "reached" (QY K<|R_reached P w C) [] E' (QB 0)<|QE (QB 1) QQ) [some<|.own v<|Zd P w C M,some<|.fz<|QT<|nk .start,some<|.fz<|QT<|nk .fin,u] (fun r=>∃v' g,r=.own v' (Vt<|kvG g)/\Tree (Zg y G) b .start g/\VR (Zg y G) b g):=fun h' =>
    Kk 0 rfl (by rintro r ⟨v',g,e,_⟩;subst e;exact Ai<|E2 g) (Hv Ta rfl (Qw (Qt rfl) Q4)<|R_reached.mk h' l)
   refine QH (Wq (Ym h) fun r n=>?_);obtain⟨x,g,rfl,B,N⟩:=n
   walk_at"d"
   refine BW (fun m O=>∃(M:Q8) (b:Zc Nd) (g:Got Nd) (x:V),NetR M (Zg y G) b/\Flow y G b/\Tree (Zg y G) b .start g/\VR (Zg y G) b g/\m=(Q6 G.wa G.m-Vs (Zg y G) b .start).toNat /\
    O=[some<|.own v<|Zd P w C M,some<|.fz<|QT<|nk .start,some<|.fz<|QT<|nk .fin,some<|.own x<|Vt<|kvG g]) _ ⟨M,b,g,x,h,F,B,N,rfl,rfl⟩ ?ws
   clear B N g x h F;rintro m _ ⟨M,b,g,x,h,F,B,N,rfl,rfl⟩;refine⟨_,ZN<|FC (k:=nk .fin) (Qt rfl) rfl,fun c=>?_,fun c=>?_⟩
   .rw[Gq]at c
    obtain⟨o,q⟩:=B.way .fin (XJ c);have wl:=Sm q
    have t:o≠[]:=fun z=>by
     have:=q.chain
     rw[z]at this;cases this
    refine SZ 3 rfl ?_
    walk_at"d"
    refine QH (Ji (ΦA:=fun L=>L=[.fz<|.list<|Yv o]) CW rfl (Ll (Φ:=fun r=>r=.ol (Yv o)) (Kk 0 rfl (fun r e=>by subst e;exact Cs (fun d hd=>by
     obtain⟨e,_,rfl⟩:=XL.mp hd
     exact⟨_,rfl⟩))<|Hv Ck rfl (Gr rfl (Qw (Qt rfl) Q4))<|R_way.mk h l q) fun r e=>⟨_,e,rfl⟩) fun L S=>?_)
    subst S;refine⟨_,R_push.mk h (BT y G) t (fun e p=>let ⟨r,a,_⟩:=q.room e p;⟨r,a⟩)<|by omega,fun N' hN=>?_⟩
    walk_at"d"
    obtain⟨m1,m2⟩:=Kb (ns:=o.map fun e=>(rmE (Zg y G) b e).getD 0) (fun z=>t<|List.map_eq_nil_iff.mp z)
    have a0:0<amt (Zg y G) b o:=by
     obtain⟨e,p,ee⟩:=XL.mp m1;obtain⟨r,j,X⟩:=q.room e p;rw[j]at ee;show 0<Yu _;rw[<- ee];exact X
    obtain⟨F',nd⟩:=F.push (a:=amt (Zg y G) b o) (by omega) q.chain q.nodup (fun e p=>by
     obtain⟨r,j,_⟩:=q.room e p;refine⟨r,j,?_⟩
     have:=m2 _ (XL.mpr ⟨e,p,rfl⟩)
     rw[j]at this;exact this)
    refine Wq (Ym hN) (fun r n=>?_);obtain⟨v4,Y,rfl,Q,Z⟩:=n
    walk_at"d"
    refine⟨_,?_,N',_,Y,v4,hN,F',Q,Z,rfl,rfl⟩
    have:=F'.most
    rw[nd]at this ⊢;omega
   .rw[Gq]at c
    exact⟨M,⟨b,g,h,F,B.start,N,UT c⟩,rfl⟩
structure GOk (y:Yd)(g:Gs):Prop where
 ln:g.line<y.ls.length
 w0:0<=g.want
 m0:0<=g.most
def Fi  (h:g.Ok y):GOk y g:=⟨h.ln,by have:=h.w1;omega,by have:=h.m1;omega⟩
def QL (a:List Gs):Gv:={ m:=a.length,ln:=fun k=>(a.getD k default).line,wa:=fun k=>(a.getD k default).want,mo:=fun k=>(a.getD k default).most,th:=fun k t=>WC (a.getD k default) (t:Int) }
def JN {a:List Gs}(h:k<a.length):a.getD k default=a[k]:=by simp[List.getD,h]
def AX (y:Yd)(G:Gv)(k:Nat):(ZZ y G k).length<=1+y.T:=by
 unfold ZZ;rw[XN];have:∀n,((List.range n).flatMap fun t=>if G.th k t=true then [((.guest k,.line (G.ln k) t,G.mo k):Nd×Nd×Int)] else []).length<=n:=by
  intro n;induction n with
  |zero=>simp
  |succ n a =>
    rw[YX,JT,Xo];have:([n].flatMap fun t=>if G.th k t=true then [((.guest k,.line (G.ln k) t,G.mo k):Nd×Nd×Int)] else []).length<=1:=by
     simp only[M7,List.flatMap_nil,XF];split<;>simp
    omega
 have:=this y.T
 omega
def AW (h:1<=y.ls.length)(t:Nat):(V1 y t).length=y.ls.length:=by
 unfold V1;rw[XN];have:∀n,((List.range n).flatMap fun i=>[((.line (i+1) t,.line (Mir.upN y<|i+1) t,ZG y (i+1) t):Nd×Nd×Int)]).length=n:=by
  intro n;induction n with
  |zero=>simp
  |succ n a=>rw[YX,JT,Xo,a];simp
 rw[this];omega
theorem G8 {f:Nat->Lay Nd}{c:Nat}(h:∀k,(f k).length<=c):∀n,((List.range n).flatMap f).length<=n*c
 |0=>by simp
 |n+1=>by
   rw[YX,JT,Xo];have a:=G8 h n;have b:([n].flatMap f).length<=c:=by simpa using h n
   rw[Nat.add_mul];omega
def GE (f:Nat->Lay Nd)(n:Nat):(List.range<|n+1).flatMap f=(List.range n).flatMap f++f n:=by rw[YX,JT];simp
def HJ {f:Nat->Lay Nd}{n:Nat}{x:Nd×Nd×Int}:x∈(List.range n).flatMap f ↔ ∃k,k<n/\x∈f k:=by
 rw[YY];simp only[XU]
def BY (b:y.Ok)(G:Gv)(h:n<=8):((List.range n).flatMap (ZZ y G)).length<=72:=by
 have a:=G8 (f:=ZZ y G) (c:=9) (fun k=>by have:=AX y G k;have:=b.t8;omega) n;omega
def HY (b:y.Ok)(h:n<=8):((List.range n).flatMap (V1 y)).length<=40:=by
 have a:=G8 (f:=V1 y) (c:=5) (fun k=>by rw[AW b.l1 k];exact b.l5) n;omega
inductive R_gnode:List OT->OT->Prop
 |mk {k:Nat}:R_gnode [.fz<|.int (k:Int)] (.fz<|QT<|nk<|.guest k)
def Zh3:Qp ZaN ZaN (Q2 KO):=by walk_at"p"
def A5 (T:Bl mg) (D:Df K mg "guest_node" KO ZaN):QD P w K mg base "guest_node" ZaN 1 (QS (K:=K) R_gnode):=by
 refine D.ev Zh3 (fun a r h=>by cases h;rfl) (fun _ _ _ _ s H E a r b h=>?_)
 cases h with
 |@mk k =>
   refine⟨_,(Q5<|QU<|Zu<|Qo Z1<|Qo (pv 0) Qq),?_⟩;show Q0 K _ [some _] _
   walk_at"x"
   exact Zq (V5 (ds:=[.str "guest",.int (k:Int)]) (QF ZE<|QF (Qt rfl) Zw) W1) rfl
inductive R_lnode:List OT->OT->Prop
 |mk {l t:Nat}:R_lnode [.fz<|.int (l:Int),.fz<|.int (t:Int)] (.fz<|QT<|nk<|.line l t)
def ZiB:Qp ZaA ZaA (Q2 Ky):=by walk_at"p"
def Ep (T:Bl mg) (D:Df K mg "line_node" Ky ZaA):QD P w K mg base "line_node" ZaA 1 (QS (K:=K) R_lnode):=by
 refine D.ev ZiB (fun a r h=>by cases h;rfl) (fun _ _ _ _ s H E a r b h=>?_)
 cases h with
 |@mk l t =>
   refine⟨_,(Q5<|QU<|Zu<|Qo Z1<|Qo (pv 0)<|Qo (pv 1) Qq),?_⟩;show Q0 K _ [some _,some _] _
   walk_at"x"
   exact Zq (V5 (ds:=[.str "line",.int (l:Int),.int (t:Int)]) (QF ZE<|QF (Qt rfl)<|QF (Qt rfl) Zw)<|by show(3:Nat)<=1000;decide) rfl
inductive R_lguest:Q8->List OT->(Q8->Prop)->Prop
 |mk {N:Q8} {y:Yd} {gs:List Gs} {k:Nat} (ok:y.Ok) (g8:gs.length<=8) (hk:k<gs.length) (h:NetR N ((List.range k).flatMap (ZZ y<|QL gs)) YN) :
  R_lguest N [.fz<|Za y,.fz<|.int (k:Int),.fz<|QK gs[k]] (fun N'=>NetR N' ((List.range<|k+1).flatMap (ZZ y<|QL gs)) YN)
def Tq:Qp ["net","yard","number","guest","turn"] Zad (Q2 KB):=by walk_at"p"
def Ec (T:Bl mg) (U:Tx K mg C gS gE) (D:Df K mg "lay_guest" KB Zad) (B:Zn P w K mg base C "lay" Zac 2 (spN K P w C R_lay)) (Y:QD P w K mg base "want_of" Zat 1 (QS (K:=K) R_want)) (F:QD P w K mg base "guest_node" ZaN 1 (QS (K:=K) R_gnode))
 (Xa2:QD P w K mg base "turns_of" Zaz 1 (QS (K:=K) R_turns)) (X:QD P w K mg base "is_there" Zao 1 (QS (K:=K) R_there)) (S:QD P w K mg base "most_of" Zat 1 (QS (K:=K) R_most)) (Xa6:QD P w K mg base "line_node" ZaA 1 (QS (K:=K) R_lnode)) (Z:QD P w K mg base "line_of" Zat 1 (QS (K:=K) R_lineof)) :
 QD P w K mg base "lay_guest" Zad 3 (spN K P w C R_lguest):=by
 refine D.evN Tq (fun M o Ψ h=>by cases h;rfl) (fun f cdv A L s H E v M o Ψ g h=>?_)
 cases h with
 |@mk y a k ok g8 hk h =>
   refine⟨_,(Qz (Zi<|Y8 B U.net g (pv 0)<|Qo (Z9 (v:=.ref _) rfl U.mSTART rfl)<|Qo (QG F g<|Qo (pv 2) Qq)<|Qo (QG Y g<|Qo (pv 3) Qq) Qq)
 (Q5<|V7 PassesOwn.never rfl (by exact(Y9 rfl T.range<|Qo (QG Xa2 g<|Qo (pv 1) Qq) Qq)) (Zr (i:=4) Tq.nd rfl Qa)<|by exact(Q5<|Z0 (Va<|QG X g<|Qo (pv 3)<|Qo (pv 4) Qq) (Q5<|Zi<|Y8 B U.net g (pv 0)<|Qo (QG F g<|Qo (pv 2) Qq)<|Qo (QG Xa6 g<|Qo (QG Z g<|Qo (pv 3) Qq)<|Qo (pv 4) Qq)<|Qo (QG S g<|Qo (pv 3) Qq) Qq) Z3))),?_⟩
   show Q0 K _ [some _,some _,some _,some _,none] _
   walk_at"x"
   have t8:=ok.t8;have gl:=BY ok (QL a) (n:=k) (by omega);have G:=JN hk;have ew:(QL a).wa k=a[k].want:=by show(a.getD k default).want=_;rw[G]
   have z:∀x∈(List.range k).flatMap (ZZ y<|QL a),∃j,j<k/\x∈ZZ y (QL a) j:=fun x e=>HJ.mp e;refine QH (Ji (ΦA:=fun o=>o=[.fz<|QT<|nk .start,.fz<|QT<|nk<|.guest k,.fz<|.int a[k].want]) BE rfl (W9 (Qw (HF U.aS)<|Qw (Zb (Qw (Qt rfl) Q4) R_gnode.mk)<|Qw (Zb (Qw (Qt rfl) Q4) R_want.mk) Q4) rfl) fun o p=>?_);subst p;refine⟨_,R_lay.mk h ?n0<|by omega,fun N1 Q=>?_⟩
   case n0 =>
    intro O;obtain⟨x,e,R⟩:=XL.mp O;obtain⟨j,hj,e⟩:=z x e;injection R with m l
    rcases YU.mp e with rfl|⟨t,_,_,rfl⟩
    .injection l with l
     omega
    .cases m
   walk_at"d"
   refine Yi (ds:=ZQ 0 y.T) (fun i I=>∃(q:Q8) (J:Option OT),NetR q ((List.range k).flatMap (ZZ y<|QL a)++((.start,.guest k,(QL a).wa k)::(List.range i).flatMap fun t=>if (QL a).th k t=true then [(.guest k,.line ((QL a).ln k) t,(QL a).mo k)] else [])) YN /\
    I=[some<|.own v<|Zd P w C q,some<|.fz<|Za y,some<|.fz<|.int (k:Int),some<|.fz<|QK a[k],J]) ?ei ⟨N1,none,by rw[ew];exact Q,rfl⟩ ?st ?fin
   case ei=>exact EvI.cast (YL (Qw (Zb (Qw (Qt rfl) Q4) R_turns.mk) Q4) (by rw[z62];omega)<|by rw[z62];omega) (Jh rfl (by omega))
   case fin =>
    rintro _ ⟨q,J,u,rfl⟩
    rw[Wo]at u;refine⟨q,?_,rfl⟩;rw[GE];exact u
   case st =>
    rintro t d _ hd ⟨q,J,u,rfl⟩
    obtain⟨ht,rfl⟩:=YJ hd;rw[WO];refine⟨_,Z8,?_⟩
    walk_at"d"
    have et:WC a[k] (t:Int)=(QL a).th k t:=by show _=WC (a.getD k default) (t:Int);rw[G]
    refine ZB (b:=(QL a).th k t) (Zk.cast (ZN<|Zb (Qw (Qt rfl)<|Qw (Qt rfl) Q4) R_there.mk) et) (fun c=>?_) (fun c=>ZD ?_)
    .refine Ji (ΦA:=fun o=>o=[.fz<|QT<|nk<|.guest k,.fz<|QT<|nk<|.line a[k].line t,.fz<|.int a[k].most]) BE rfl (W9 (Qw (Zb (Qw (Qt rfl) Q4) R_gnode.mk)<|Qw (Zb (Qw (Zb (Qw (Qt rfl) Q4) R_lineof.mk)<|Qw (Qt rfl) Q4) R_lnode.mk)<|Qw (Zb (Qw (Qt rfl) Q4) R_most.mk) Q4) rfl) (fun o p=>?_)
     subst p;refine⟨_,R_lay.mk u ?n1 ?l1,fun N2 r=>?_⟩
     case n1 =>
      intro O;obtain⟨x,e,R⟩:=XL.mp O;injection R with m l
      rcases XB.mp e with e|e
      .obtain⟨j,hj,e⟩:=z x e
       rcases YU.mp e with rfl|⟨t',_,_,rfl⟩
       .cases m
       .injection m with m
        omega
      .rcases Xf.mp e with rfl|e
       .cases m
       .obtain⟨t',N,e⟩:=YY.mp e
        split at e
        .rw[Xi.mp e]at l
         injection l with _ l
         have:=XU.mp N
         omega
        .cases e
     case l1 =>
      rw[Xo];have:(((.start,.guest k,(QL a).wa k):Nd×Nd×Int)::(List.range t).flatMap fun t=>if (QL a).th k t=true then [((.guest k,.line ((QL a).ln k) t,(QL a).mo k):Nd×Nd×Int)] else []).length<=1+t*1:=by
       rw[XN];have:=G8 (f:=fun t=>if (QL a).th k t=true then [((.guest k,.line ((QL a).ln k) t,(QL a).mo k):Nd×Nd×Int)] else []) (c:=1) (fun t=>by split<;>simp) t;omega
      omega
     walk_at"d"
     refine⟨N2,_,?_,rfl⟩;rw[GE,Xd c];have m:(QL a).ln k=a[k].line:=by show(a.getD k default).line=_;rw[G]
     have l:(QL a).mo k=a[k].most:=by show(a.getD k default).most=_;rw[G]
     rw[<- m,<- l,UQ]at r;exact r
    .refine⟨q,_,?_,rfl⟩
     rw[GE,Xc<|by rw[c];decide,XF];exact u
inductive R_lturn:Q8->List OT->(Q8->Prop)->Prop
 |mk {N:Q8} {y:Yd} {G:Gv} {t:Nat} (ok:y.Ok) (g8:G.m<=8) (ht:t<y.T) (h:NetR N ((List.range G.m).flatMap (ZZ y G)++(List.range t).flatMap (V1 y)) YN) :
  R_lturn N [.fz<|Za y,.fz<|.int (t:Int)] (fun N'=>NetR N' ((List.range G.m).flatMap (ZZ y G)++(List.range<|t+1).flatMap (V1 y)) YN)
def PY:Qp ["net","yard","turn","line"] ZaG (Q2 Ke):=by walk_at"p"
def AU (T:Bl mg) (U:Tx K mg C gS gE) (D:Df K mg "lay_turn" Ke ZaG) (r:Zn P w K mg base C "lay" Zac 2 (spN K P w C R_lay)) (z:QD P w K mg base "bound_at" Zas 1 (QS (K:=K) R_bound)) (o:QD P w K mg base "line_node" ZaA 1 (QS (K:=K) R_lnode))
 (Xa8:QD P w K mg base "line_count" Zaz 1 (QS (K:=K) R_count)) (Z:QD P w K mg base "above_of" ZaF 1 (QS (K:=K) R_above)):QD P w K mg base "lay_turn" ZaG 3 (spN K P w C R_lturn):=by
 refine D.evN PY (fun M g Ψ h=>by cases h;rfl) (fun f cdv A O s H E v M g Ψ b h=>?_)
 cases h with
 |@mk y G t e g8 ht h =>
   refine⟨_,(Qz (Zi<|Y8 r U.net b (pv 0)<|Qo (QG o b<|Qo Qv<|Qo (pv 2) Qq)<|Qo (Z9 (v:=.ref _) rfl U.mEND rfl)<|Qo (QG z b<|Qo (pv 1)<|Qo Qv<|Qo (pv 2) Qq) Qq)
 (Q5<|V7 PassesOwn.never rfl (by exact(PN rfl T.range<|Qo Qv<|Qo (QG Xa8 b<|Qo (pv 1) Qq) Qq)) (Zr (i:=3) PY.nd rfl Qa)<|by exact(Q5<|Zi<|Y8 r U.net b (pv 0)<|Qo (QG o b<|Qo (pv 3)<|Qo (pv 2) Qq)<|Qo (QG o b<|Qo (QG Z b<|Qo (pv 1)<|Qo (pv 3) Qq)<|Qo (pv 2) Qq)<|Qo (QG z b<|Qo (pv 1)<|Qo (pv 3)<|Qo (pv 2) Qq) Qq))),?_⟩
   show Q0 K _ [some _,some _,some _,none] _
   walk_at"x"
   have t8:=e.t8;have l1:=e.l1;have l5:=e.l5;have gl:=BY e G g8;have tl:=HY e (n:=t) (by omega)
   have q:∀x∈(List.range G.m).flatMap (ZZ y G)++(List.range t).flatMap (V1 y),(∃j,x∈ZZ y G j)\/∃F,F<t/\x∈V1 y F:=fun x a=>by
    rcases XB.mp a with a|a
    .obtain⟨j,_,a⟩:=HJ.mp a
     exact .inl ⟨j,a⟩
    .obtain⟨j,hj,a⟩:=HJ.mp a
     exact .inr ⟨j,hj,a⟩
   refine QH (Ji (ΦA:=fun g=>g=[.fz<|QT<|nk<|.line 0 t,.fz<|QT<|nk .fin,.fz<|.int<|ZG y 0 t]) BE rfl (W9 (Qw (Zb (Qw Q1<|Qw (Qt rfl) Q4)<|R_lnode.mk (l:=0))<|Qw (RD U.aS U.aE)<|Qw (Zb (Qw (Qt rfl)<|Qw Q1<|Qw (Qt rfl) Q4)<|R_bound.mk (k:=0) (t:=(t:Int)) e (by decide) (by omega) (by omega)<|by omega) Q4) ?e0) fun g m=>?_)
   case e0=>rw[XI];rfl
   subst m;refine⟨_,R_lay.mk h ?n0<|by rw[Xo];omega,fun N1 X=>?_⟩
   case n0 =>
    intro R;obtain⟨x,a,Y⟩:=XL.mp R;injection Y with e1 J
    rcases q x a with ⟨j,a⟩|⟨F,Q,a⟩
    .rcases YU.mp a with rfl|⟨u,_,_,rfl⟩<;>cases e1
    .rcases WD.mp a with rfl|⟨i,_,rfl⟩
     .injection e1 with _ e1
      omega
     .cases J
   walk_at"d"
   refine Yi (ds:=ZQ 1 (y.ls.length-1)) (fun i L=>∃(B:Q8) (N:Option OT),NetR B (((List.range G.m).flatMap (ZZ y G)++(List.range t).flatMap (V1 y))++((.line 0 t,.fin,ZG y 0 t)::(List.range i).flatMap fun i=>[(.line (i+1) t,.line (Mir.upN y<|i+1) t,ZG y (i+1) t)])) YN /\
    L=[some<|.own v<|Zd P w C B,some<|.fz<|Za y,some<|.fz<|.int (t:Int),N]) ?ei ⟨N1,none,by simpa using X,rfl⟩ ?st ?fin
   case ei=>exact EvI.cast (Hg (Qw Q1<|Qw (Zb (Qw (Qt rfl) Q4) R_count.mk) Q4)<|by rw[z62];omega) (Jh rfl (by omega))
   case fin =>
    rintro _ ⟨B,N,I,rfl⟩
    rw[Wo]at I;refine⟨B,?_,rfl⟩;rw[GE,<- UQ];exact I
   case st =>
    rintro i d _ hd ⟨B,N,I,rfl⟩
    obtain⟨hi,rfl⟩:=YJ hd;have ei:(1:Int)+(i:Int)=((i+1:Nat):Int):=by omega
    rw[ei];refine⟨_,Z8,?_⟩
    walk_at"d"
    refine Ji (ΦA:=fun g=>g=[.fz<|QT<|nk<|.line (i+1) t,.fz<|QT<|nk<|.line (Mir.upN y<|i+1) t,.fz<|.int<|ZG y (i+1) t]) BE rfl (W9 (Qw (Zb (Qw (Qt rfl)<|Qw (Qt rfl) Q4)<|R_lnode.mk (l:=i+1))<|Qw (Zb (Qw (Zb (Qw (Qt rfl)<|Qw (Qt rfl) Q4)<|R_above.mk (k:=((i+1:Nat):Int)) e (by omega)<|by omega)<|Qw (Qt rfl) Q4)<|R_lnode.mk (l:=upN y (((i+1:Nat):Int)).toNat))<|Qw (Zb (Qw (Qt rfl)<|Qw (Qt rfl)<|Qw (Qt rfl) Q4)<|R_bound.mk (k:=((i+1:Nat):Int)) (t:=(t:Int)) e (by omega) (by omega) (by omega)<|by omega) Q4) ?e1) (fun g m=>?_)
    case e1=>rw[XI,XI];rfl
    subst m;refine⟨_,R_lay.mk I ?n1 ?l1,fun N2 p=>?_⟩
    case n1 =>
     intro R;obtain⟨x,a,Y⟩:=XL.mp R;injection Y with e1 J
     rcases XB.mp a with a|a
     .rcases q x a with ⟨j,a⟩|⟨F,Q,a⟩
      .rcases YU.mp a with rfl|⟨u,_,_,rfl⟩<;>cases e1
      .rcases WD.mp a with rfl|⟨i',_,rfl⟩
       .cases J
       .injection e1 with _ e1
        omega
     .rcases Xf.mp a with rfl|a
      .cases J
      .obtain⟨i',S,a⟩:=YY.mp a
       rw[Xi.mp a]at e1;injection e1 with e1 _
       have:=XU.mp S
       omega
    case l1 =>
     rw[Xo,Xo,XN];have:=G8 (f:=fun i=>[((.line (i+1) t,.line (Mir.upN y<|i+1) t,ZG y (i+1) t):Nd×Nd×Int)]) (c:=1) (fun i=>by simp) i;omega
    walk_at"d"
    refine⟨N2,_,?_,rfl⟩;rw[GE];rw[UQ]at p;exact p
def Ud (y:Yd)(G:Gv)(φ:Zc Nd):Prop:=Flow y G φ/\∃a:Got Nd,Nd.start∈QV a/\VR (Zg y G) φ a/\Nd.fin∉QV a
inductive R_filled (P:Program)(w:World)(C:Addr):List OT->(OT->Prop)->Prop
 |mk {y:Yd} {gs:List Gs} (ok:y.Ok) (hg:∀g∈gs,GOk y g) (g8:gs.length<=8):R_filled P w C [.fz<|Za y,.fz<|.list<|gs.map QK] (fun r=>∃v N φ,r=.own v (Zd P w C N)/\NetR N (Zg y<|QL gs) φ/\Ud y (QL gs) φ)
def NM (b:y.Ok)(a:l<y.ls.length)(d:t<y.T):0<=ZG y l t:=by
 rw[Tj a];have e:=S7 b a;have c:Yb y l∈y.ls:=by simp[Yb,a]
 have:(Yb y l).bs.getD t 0=(Yb y l).bs[t]'(by omega):=by simp[List.getD,show t<(Yb y l).bs.length by omega]
 rw[this];exact(b.bb _ c _<|WM _).1
def F6 (b:y.Ok)(f:∀g∈gs,GOk y g):∀x∈Zg y (QL gs),0<=x.2.2:=fun x a=>by
 have h:=b.l1
 rcases UB.mp a with ⟨k,e,a⟩|⟨t,c,a⟩
 .have d:GOk y (gs.getD k default):=by rw[JN e];exact f _ (WM _)
  rcases YU.mp a with rfl|⟨t,_,_,rfl⟩
  .exact d.w0
  .exact d.m0
 .rcases WD.mp a with rfl|⟨i,j,rfl⟩
  .exact NM b (by omega) c
  .exact NM b (by omega) c
def GH:Qp ["yard","guests","net","number","guest","turn"] Zaa (Q2 KL):=by walk_at"p"
def IP (T:Bl mg) (U:Tx K mg C gS gE) (D:Df K mg "filled_net" KL Zaa) (J:MN P w K mg base "Net" C 1) (I:QD P w K mg base "lay_guest" Zad 3 (spN K P w C R_lguest)) (L:QD P w K mg base "turns_of" Zaz 1 (QS (K:=K) R_turns))
 (G:QD P w K mg base "lay_turn" ZaG 3 (spN K P w C R_lturn)) (F:Zn P w K mg base C "fill" Zam 2 (spN K P w C R_fill)):QD P w K mg base "filled_net" Zaa 4 (QY K<|R_filled P w C):=by
 refine D.evD GH (fun g O h=>by cases h;rfl) (fun _ _ _ _ s H E g O o h=>?_)
 cases h with
 |@mk y c m X B =>
   refine⟨_,(Qz (QR (i:=2) GH.nd rfl Qa<|Cr J o)
 (Qz (V7 PassesOwn.never rfl (by exact(GG rfl T.enumerate<|Qo (pv 1) Qq)) (JK (n:=2) rfl (Yr (Zr (i:=3) GH.nd rfl Qa)<|Yr (Zr (i:=4) GH.nd rfl Qa) JL))<|by exact(Q5<|Zi<|QG I o<|Qo (pv 2)<|Qo (pv 0)<|Qo (pv 3)<|Qo (pv 4) Qq))
 (Qz (V7 PassesOwn.never rfl (by exact(Y9 rfl T.range<|Qo (QG L o<|Qo (pv 0) Qq) Qq)) (Zr (i:=5) GH.nd rfl Qa)<|by exact(Q5<|Zi<|QG G o<|Qo (pv 2)<|Qo (pv 0)<|Qo (pv 5) Qq))
 (Qz (Zi<|Y8 F U.net o (pv 2)<|Qo (Z9 (v:=.ref _) rfl U.mSTART rfl)<|Qo (Z9 (v:=.ref _) rfl U.mEND rfl) Qq)
 (Q5<|QU<|pv 2))))),?_⟩
   show Q0 K _ [some _,some _,none,none,none,none] _
   walk_at"x"
   have Q:=m.t8;refine QH (BG Fm fun v=>?_)
   walk_at"d"
   refine QH (Yi (ds:=J7 (c.map QK)) (fun i l=>∃(j:Q8) (u r:Option OT),NetR j ((List.range i).flatMap (ZZ y<|QL c)) YN/\l=[some<|.fz<|Za y,some<|.fz<|.list<|c.map QK,some<|.own v<|Zd P w C j,u,r,none]) (Gx<|Qw (Qt rfl) Q4) ⟨_,none,none,Lq _,rfl⟩ ?st ?fin)
   case st =>
    rintro i d _ A ⟨j,u,r,k,rfl⟩
    obtain⟨a,N,rfl⟩:=Mb A
    have M:i<c.length:=by
     have:=(Xh.mp N).1
     simpa using this
    obtain rfl:a=QK c[i]:=by simpa [M] using N.symm
    refine⟨_,WW (ds:=[.int (i:Int),QK c[i]]) (Y6 Z8<|Y6 Z8 JG) rfl,?_⟩
    walk_at"d"
    refine S8 (ΦA:=fun g=>g=[.fz<|Za y,.fz<|.int (i:Int),.fz<|QK c[i]]) rfl (W9 (Qw (Qt rfl)<|Qw (Qt rfl)<|Qw (Qt rfl) Q4) rfl) (fun g e=>?_);subst e;refine⟨_,R_lguest.mk m B M k,fun q f=>?_⟩
    walk_at"d"
    exact⟨q,_,_,f,rfl⟩
   case fin =>
    rintro _ ⟨N1,u,r,p,rfl⟩
    rw[Md,Xn]at p;refine QH (Yi (ds:=ZQ 0 y.T) (fun i l=>∃(j:Q8) (z:Option OT),NetR j ((List.range (QL c).m).flatMap (ZZ y<|QL c)++(List.range i).flatMap (V1 y)) YN/\l=[some<|.fz<|Za y,some<|.fz<|.list<|c.map QK,some<|.own v<|Zd P w C j,u,r,z]) ?ei2 ⟨N1,none,by rw[show(List.range 0).flatMap (V1 y)=[] from rfl,XF];exact p,rfl⟩ ?st2 ?fin2)
    case ei2=>exact EvI.cast (YL (Qw (Zb (Qw (Qt rfl) Q4) R_turns.mk) Q4) (by rw[z62];omega)<|by rw[z62];omega) (Jh rfl (by omega))
    case st2 =>
     rintro t d _ A ⟨j,z,k,rfl⟩
     obtain⟨S,rfl⟩:=YJ A;rw[WO];refine⟨_,Z8,?_⟩
     walk_at"d"
     refine S8 (ΦA:=fun g=>g=[.fz<|Za y,.fz<|.int (t:Int)]) rfl (W9 (Qw (Qt rfl)<|Qw (Qt rfl) Q4) rfl) (fun g e=>?_);subst e;refine⟨_,R_lturn.mk m B S k,fun q f=>?_⟩
     walk_at"d"
     exact⟨q,_,f,rfl⟩
    case fin2 =>
     rintro _ ⟨j,z,k,rfl⟩
     rw[Wo]at k;have k:NetR j (Zg y<|QL c) YN:=k
     have R:(Zg y<|QL c).length<400:=by
      unfold Zg;rw[Xo];have a:=BY m (QL c) (n:=(QL c).m) B;have b:=HY m Q;omega
     refine QH (Ji (ΦA:=fun g=>g=[.fz<|QT<|nk .start,.fz<|QT<|nk .fin]) AV rfl (W9 (Qw (HF U.aS)<|Qw (RD U.aS U.aE) Q4) rfl) fun g e=>?_);subst e;refine⟨_,R_fill.mk k (TD<|F6 m X) R,fun q f=>?_⟩;obtain⟨x,es,h1,h2,h3,Z,Y⟩:=f
     walk_at"d"
     exact RL rfl ⟨v,q,x,rfl,h1,h2,es,h3,Z,Y⟩
def Wh (y:Yd)(G:Gv)(φ:Zc Nd):List (Ql):=(List.range G.m).map fun k=>(List.range y.T).map fun t=>Ze G φ t k
def E7   (h:k<G.m)(f:t<y.T):Gn (Zg y G) φ (.guest k) (.line (G.ln k) t)=Ze G φ t k:=by
 unfold Gn Ze;by_cases c:G.th k t=true
 .rw[Xd c,Xd<|XL.mpr ⟨_,BF h f c,rfl⟩]
 .rw[Xc c,Xc fun g=>?_]
  obtain⟨x,a,l⟩:=XL.mp g;injection l with b d
  rcases UB.mp a with ⟨j,_,a⟩|⟨e,_,a⟩
  .rcases YU.mp a with rfl|⟨e,_,m,rfl⟩
   .cases b
   .injection b with b
    injection d with _ d;subst b d;exact c m
  .rcases WD.mp a with rfl|⟨i,_,rfl⟩<;>cases b
inductive R_takes (P:Program)(w:World)(C:Addr):List OT->OT->Prop
 |mk {N:Q8} {y:Yd} {gs:List Gs} {φ:Zc Nd} {k:Nat} (ok:y.Ok) (h:NetR N (Zg y<|QL gs) φ) (hk:k<gs.length):R_takes P w C [.zow<|ZU P w C N,.fz<|Za y,.fz<|.int (k:Int),.fz<|QK gs[k]] (.ol<|(List.range y.T).map fun t=>PyData.int<|Ze (QL gs) φ t k)
def O7:Qp Zad Zad (Q2 Mq):=by walk_at"p"
def Az (T:Bl mg) (U:Tx K mg C gS gE) (D:Df K mg "takes_by" Mq Zad) (l:QD P w K mg base "turns_of" Zaz 1 (QS (K:=K) R_turns)) (g:Zn P w K mg base C "flow" Zam 1 (QY K<|R_flow P w C)) (j:QD P w K mg base "line_node" ZaA 1 (QS (K:=K) R_lnode)) (d:QD P w K mg base "line_of" Zat 1 (QS (K:=K) R_lineof)) (e:QD P w K mg base "guest_node" ZaN 1 (QS (K:=K) R_gnode)) :
 QD P w K mg base "takes_by" Zad 2 (QS (K:=K)<|R_takes P w C):=by
 refine D.ev O7 (fun u r h=>by cases h;rfl) (fun _ _ _ _ s H E u r b h=>?_)
 cases h with
 |@mk N y a φ k v h m =>
   refine⟨_,(Q5<|QU<|W8 (NX:=Zad) (sc:=Q2 Mq) (N:=["turn","net","number","guest"]) (f:=[none,some 0,some 2,some 3]) rfl (by decide +kernel) rfl rfl (Y9 rfl T.range<|Qo (QG l b<|Qo (pv 1) Qq) Qq) (fun _=>(Zr (i:=0) (show(["turn","net","number","guest"]:Qh).Nodup by decide +kernel) rfl Qa)) (fun _=>VM) (fun _=>WB) fun _=>(Y8 g U.net b (pv 1)<|Qo (QG e b<|Qo (pv 2) Qq)<|Qo (QG j b<|Qo (QG d b<|Qo (pv 3) Qq)<|Qo (pv 0) Qq) Qq)),?_⟩;show Q0 K _ [some _,some _,some _,some _] _
   walk_at"x"
   have A:=v.t8;refine Ja (D6 (lo:=0) (n:=y.T) (h:=fun t=>PyData.int<|Ze (QL a) φ t k) ?ei (by omega) ?el) rfl
   case ei=>exact EvI.cast (YL (Qw (Zb (Qw (Qt rfl) Q4) R_turns.mk) Q4) (by rw[z62];omega)<|by rw[z62];omega) (Jh rfl (by omega))
   case el =>
    intro t x c;refine⟨_,Z8,?_⟩
    walk_at"e"
    rw[WO];have z:(QL a).ln k=a[k].line:=by show(a.getD k default).line=_;rw[JN m]
    have o:=E7 (y:=y) (G:=QL a) (φ:=φ) (k:=k) m x;rw[z]at o;exact Qs.cast (EvO.e<|Zm.o<|Hv A0 rfl (Qw (Zb (Qw (Qt rfl) Q4) R_gnode.mk)<|Qw (Zb (Qw (Zb (Qw (Qt rfl) Q4) R_lineof.mk)<|Qw (Qt rfl) Q4) R_lnode.mk) Q4)<|R_flow.mk (p:=.guest k) (q:=.line a[k].line t) h) (by rw[o])
inductive R_great:List OT->(OT->Prop)->Prop
 |mk {y:Yd} {gs:List Gs} (ok:y.Ok) (hg:∀g∈gs,GOk y g) (g8:gs.length<=8):R_great [.fz<|Za y,.fz<|.list<|gs.map QK] (fun r=>∃φ,Ud y (QL gs) φ/\r=.oll ((Wh y (QL gs) φ).map fun row=>row.map PyData.int))
def T2:Qp ["yard","guests","net"] Zaa (Q2 M4):=by walk_at"p"
def AI (T:Bl mg) (U:Tx K mg C gS gE) (D:Df K mg "greatest_filling" M4 Zaa) (l:QD P w K mg base "filled_net" Zaa 4 (QY K<|R_filled P w C)) (m:QD P w K mg base "takes_by" Zad 2 (QS (K:=K)<|R_takes P w C)):QD P w K mg base "greatest_filling" Zaa 5 (QY K R_great):=by
 refine D.evD T2 (fun B A h=>by cases h;rfl) (fun _ _ _ _ s H E B A q h=>?_)
 cases h with
 |@mk y a o G J =>
   refine⟨_,(Qz (QR (i:=2) T2.nd rfl (Or.inr rfl)<|QG l q<|Qo (pv 0)<|Qo (pv 1) Qq)
 (Q5<|QU<|W8 (NX:=["yard","guests","net"]) (sc:=Q2 M4) (N:=ZaB) (f:=[none,none,some 2,some 0]) rfl (by decide +kernel) rfl rfl (GG rfl T.enumerate<|Qo (pv 1) Qq) (fun _=>(JK (n:=2) rfl (Yr (Zr (i:=0) (show(ZaB:Qh).Nodup by decide +kernel) rfl Qa)<|Yr (Zr (i:=1) (show(ZaB:Qh).Nodup by decide +kernel) rfl Qa) JL))) (fun _=>(R3 (n:=2)<|BN VM<|BN VM Sq)) (fun _=>WB) fun _=>(QG m q<|Qo (pv 2)<|Qo (pv 3)<|Qo (pv 0)<|Qo (pv 1) Qq))),?_⟩
   show Q0 K _ [some _,some _,none] _
   walk_at"x"
   refine QH (Wq (Yq (Qw (Qt rfl)<|Qw (Qt rfl) Q4)<|R_filled.mk o G J) fun r j=>?_);obtain⟨v,N,d,rfl,I,b⟩:=j
   walk_at"d"
   refine Ad 2 rfl ?_
   walk_at"d"
   refine Ja (r:=.oll ((Wh y (QL a) d).map fun e=>e.map PyData.int)) (EvO.cast (TZ (xs:=a.zipIdx) (enc:=fun p=>PyData.tuple [.int (p.2:Int),QK p.1]) (h:=fun p=>(List.range y.T).map fun t=>PyData.int<|Ze (QL a) d t p.2) ?ei (by simp;omega) ?el) ?eq) ⟨d,b,rfl⟩
   case ei =>
    refine EvI.cast (Gx<|Qw (Qt rfl) Q4) ?_;unfold J7;rw[List.zipIdx_map,YM];rfl
   case eq =>
    congr 1
    unfold Wh;rw[YM];have:(QL a).m=a.length:=rfl;rw[this];apply List.ext_getElem?;intro i;by_cases x:i<a.length
    .simp[x,YM,Function.comp_def]
    .simp[x]
   case el =>
    intro p F c;obtain⟨u,z⟩:∃h:p.2<a.length,p.1=a[p.2]:=by
     have:=List.mem_zipIdx F
     simp at this
     exact⟨this.1,this.2⟩
    obtain⟨g,k⟩:=p
    simp only at u z
    subst z;refine⟨_,WW (ds:=[.int (k:Int),QK a[k]]) (Y6 Z8<|Y6 Z8 JG) rfl,?_⟩
    walk_at"e"
    exact B1 (Gr rfl (Qw (Qt rfl)<|Qw (Qt rfl)<|Qw (Qt rfl) Q4)) (R_takes.mk o I u)
def ZfU:Qp Zaa Zaa (Q2 KG):=by walk_at"p"
def FO (T:Bl mg) (D:Df K mg "best_filling" KG Zaa) (b:QD P w K mg base "greatest_filling" Zaa 5 (QY K R_great)):QD P w K mg base "best_filling" Zaa 6 (QY K R_great):=by
 refine D.evD ZfU (fun d c h=>by cases h;rfl) (fun _ _ _ _ s H E d c e h=>?_);have f:=h
 cases h with
 |@mk y j g i k =>
   refine⟨_,(Q5<|QU<|QG b e<|Qo (pv 0)<|Qo (pv 1) Qq),?_⟩;show Q0 K _ [some _,some _] _
   walk_at"x"
   exact DV (Yq (Qw (Qt rfl)<|Qw (Qt rfl) Q4) f) (fun r a=>a)
def VS (y:Yd)(G:Gv)(S:Qm):Int:=Q6 (Zo S G.wa) G.m-Q6 (fun t=>passes y (fun l=>ZG y l t) (W2 G S t) 0) y.T
def De (y:Yd)(G:Gv)(φ:Zc Nd):Int:=Q6 (fun k=>G.wa k-Q6 (fun t=>Ze G φ t k) y.T) G.m
def EI  (F:Flow y G φ)(c:y.Ok)(b:∀k,k<G.m->G.ln k<y.ls.length)(S:Qm):VS y G S<=De y G φ:=by
 have d:∀k,k<G.m->0<=G.wa k-Q6 (fun t=>Ze G φ t k) y.T:=fun k a=>by
  rw[F.total a];have:=F.want a;omega
 have i:Q6 (Zo S fun k=>G.wa k-Q6 (fun t=>Ze G φ t k) y.T) G.m<=De y G φ:=Wn fun k a=>HD (d k a)
 have h:Q6 (Zo S fun k=>G.wa k-Q6 (fun t=>Ze G φ t k) y.T) G.m=Q6 (Zo S G.wa) G.m-Q6 (Zo S fun k=>Q6 (fun t=>Ze G φ t k) y.T) G.m:=by
  rw[<- HP];refine Zt fun k _=>?_;unfold Zo;dsimp only;split<;>omega
 have g:Q6 (fun t=>Q6 (Zo S<|Ze G φ t) G.m) y.T=Q6 (Zo S fun k=>Q6 (fun t=>Ze G φ t k) y.T) G.m:=by
  rw[Mc (fun t k=>Zo S (Ze G φ t) k) y.T G.m];refine Zt fun k _=>?_;unfold Zo;cases S k with
  |true=>rfl
  |false=>simp only[Wx,if_false];exact VX _
 have f:Q6 (fun t=>Q6 (Zo S<|Ze G φ t) G.m) y.T<=Q6 (fun t=>passes y (fun l=>ZG y l t) (W2 G S t) 0) y.T:=Wn fun t e=>F.no_more c b S e;unfold VS;omega
def Rs  (b:∀g∈gs,GOk y g):∀k,k<(QL gs).m->(QL gs).ln k<y.ls.length:=fun k a=>by
 show(gs.getD k default).line<_
 rw[JN a];exact(b _<|WM _).ln
def Wd (a:List Gs)(S:Qm):Qk:=(List.range a.length).filter S
def Pb (b:gs.length<=8)(S:Qm):SetOk gs (Wd gs S) :=
 ⟨fun k a=>XU.mp (List.mem_filter.mp a).1,X7 (List.length_filter_le _ _)<|by simpa using b⟩
theorem PB (f:Qn):∀n,((List.range n).map f).sum=Q6 f n
 |0=>rfl
 |n+1=>by rw[YX,Xy,List.sum_append,PB f n];simp[Q6]
theorem Tg (f:Qn)(p:Qm):∀n,(((List.range n).filter p).map f).sum=Q6 (Zo p f) n
 |0=>rfl
 |n+1=>by
   rw[YX,UU,Xy,List.sum_append,Tg f p n];show _=Q6 (Zo p f) n+Zo p f n;unfold Zo;cases e:p n with
   |true=>simp[UP,e]
   |false=>simp[UP,e]
def Fk (a:List Gs)(S:Qm)(t l:Nat):W2 (QL a) S t l=Us a t (Wd a S) l:=by
 show _=Vy a (t:Int) l ((List.range a.length).filter S);rw[Iw];unfold W2;refine Zt fun k b=>?_;have b:k<a.length:=b;unfold Zo moT wgt ind;rw[X9 b];have g:(QL a).th k t=WC a[k] (t:Int):=by show WC (a.getD k default) _=_;rw[JN b]
 have f:(QL a).mo k=a[k].most:=by show(a.getD k default).most=_;rw[JN b]
 have e:(QL a).ln k=a[k].line:=by show(a.getD k default).line=_;rw[JN b]
 rw[g,f,e];cases S k with
 |false=>simp
 |true =>
   simp only[if_true];by_cases c:a[k].line=l
   .by_cases d:WC a[k] (t:Int)=true
    .simp[c,d]
    .simp[c,d]
   .simp[c]
def Sj (b:List Gs)(a:Qk):Int:=(a.map fun k=>(b.getD k default).want).sum
def Pv (y:Yd)(a:List Gs)(S:Qm):VS y (QL a) S=Sj a (Wd a S)-Mg y a (Wd a S):=by
 unfold VS;congr 1
 .exact(Tg _ S a.length).symm
 .unfold Mg
  rw[PB];refine Zt fun t _=>?_;unfold G1;rw[show W2 (QL a) S t=Us a t (Wd a S) from funext fun l=>Fk a S t l]
def DO (y:Yd)(G:Gv)(φ:Zc Nd)(es:Got Nd):Prop:=Flow y G φ/\Nd.start∈QV es/\VR (Zg y G) φ es/\Nd.fin∉QV es
inductive R_lset:List OT->(OT->Prop)->Prop
 |mk {y:Yd} {gs:List Gs} (ok:y.Ok) (hg:∀g∈gs,GOk y g) (g8:gs.length<=8):R_lset [.fz<|Za y,.fz<|.list<|gs.map QK] (fun r=>∃φ es,DO y (QL gs) φ es/\r=.ol (Vi<|Wd gs<|Vv es))
def Tv:Qp ["yard","guests","edges"] Zaa (Q2 M3):=by walk_at"p"
def OS (T:Bl mg) (U:Tx K mg C gS gE) (D:Df K mg "guests_reached" M3 Zaa) (t:QD P w K mg base "filled_net" Zaa 4 (QY K<|R_filled P w C)) (u:Zn P w K mg base C "reached" ZaK 1 (QY K<|R_reached P w C)) (x:QD P w K mg base "guest_node" ZaN 1 (QS (K:=K) R_gnode)) :
 QD P w K mg base "guests_reached" Zaa 5 (QY K R_lset):=by
 refine D.evD Tv (fun I Φ h=>by cases h;rfl) (fun _ _ _ _ s H E I Φ q h=>?_)
 cases h with
 |@mk y d o L B =>
   refine⟨_,(Qz (QR (i:=2) Tv.nd rfl (Or.inr rfl)<|Y8 u U.net q (QG t q<|Qo (pv 0)<|Qo (pv 1) Qq)<|Qo (Z9 (v:=.ref _) rfl U.mSTART rfl) Qq)
 (Q5<|QU<|W8 (NX:=["yard","guests","edges"]) (sc:=Q2 M3) (N:=["number","edges"]) (f:=[none,some 2]) rfl (by decide +kernel) rfl rfl (Y9 rfl T.range<|Qo (Zj Yk (by rfl) T.len Yj<|Qo (pv 1) Qq) Qq) (fun _=>(Zr (i:=0) (show(["number","edges"]:Qh).Nodup by decide +kernel) rfl Qa)) (fun _=>VM) (fun _=>(Ux<|Uu<|DM (YD q) (QG x q<|Qo (pv 0) Qq)<|pv 1)) fun _=>(pv 0))),?_⟩
   show Q0 K _ [some _,some _,none] _
   walk_at"x"
   have J:(Zg y<|QL d).length<400:=by
    unfold Zg;rw[Xo];have a:=BY o (QL d) (n:=(QL d).m) B;have b:=HY o o.t8;omega
   refine QH (Wq (Φ:=fun r=>∃v m g,r=.own v (Vt<|kvG g)/\DO y (QL d) m g) (Aq (P:=P) (w:=w) Ta (Yq (Qw (Qt rfl)<|Qw (Qt rfl) Q4)<|R_filled.mk o L B) (fun r l=>?_)<|Qw (HF U.aS) Q4) fun r l=>?_)
   .obtain⟨v,N,m,rfl,M,F,X,R,Q,O⟩:=l
    refine⟨v,N,rfl,_,R_reached.mk (s:=.start) M J,by rintro r ⟨G,g,e,A,Y⟩;exact⟨G,m,g,e,F,A.start,Y,fun z=>O<|A.inClosed Q R _ z⟩⟩
   .obtain⟨v,m,g,rfl,S⟩:=l
    walk_at"d"
    refine SZ 2 rfl ?_
    walk_at"d"
    refine Ja (r:=.ol (Vi<|Wd d<|Vv g)) (Ur (xs:=List.range d.length) (enc:=fun(j:Nat)=>PyData.int (j:Int)) (h:=fun(j:Nat)=>PyData.int (j:Int)) (p:=Vv g) ?ei (by simp;omega) ?el) ⟨m,g,S,rfl⟩
    case ei =>
     have e:(d.map QK).length=d.length:=by simp
     refine EvI.cast (YL (Qw (Gy<|Qt rfl) Q4) (by rw[z62,e];omega)<|by rw[z62,e];omega) ?_;rw[e,XI];unfold ZQ;refine UI fun i _=>?_;rw[WO]
    case el =>
     intro k Z c;refine⟨_,Z8,?_,fun _=>?_⟩
     .walk_at"e"
      exact Zk.cast (ZN<|L8 (k:=nk (.guest k)) (Zb (Qw (Qt rfl) Q4) R_gnode.mk) rfl) (Gq _ _)
     .walk_at"e"
      exact Qt rfl
def ZgD:Qp Zaa Zaa (Q2 KR):=by walk_at"p"
def C9 (T:Bl mg) (D:Df K mg "lacking_set" KR Zaa) (b:QD P w K mg base "guests_reached" Zaa 5 (QY K R_lset)):QD P w K mg base "lacking_set" Zaa 6 (QY K R_lset):=by
 refine D.evD ZgD (fun d c h=>by cases h;rfl) (fun _ _ _ _ s H E d c e h=>?_);have f:=h
 cases h with
 |@mk y j g i k =>
   refine⟨_,(Q5<|QU<|QG b e<|Qo (pv 0)<|Qo (pv 1) Qq),?_⟩;show Q0 K _ [some _,some _] _
   walk_at"x"
   exact DV (Yq (Qw (Qt rfl)<|Qw (Qt rfl) Q4) f) (fun r a=>a)
def DU (y:Yd)(b:List Gs)(a:Qk):Int:=Sj b a-Mg y b a
inductive R_short:List OT->OT->Prop
 |mk {y:Yd} {gs:List Gs} {sm:Qk} (ok:y.Ok) (hg:∀g∈gs,g.line<y.ls.length) (hs:SetOk gs sm) :
  R_short [.fz<|Za y,.fz<|.list<|gs.map QK,.fz<|.list<|Vi sm] (.fz<|.int<|DU y gs sm)
def OG:Qp Zaf Zaf (Q2 BX):=by walk_at"p"
def CS (T:Bl mg) (D:Df K mg "short_of" BX Zaf) (b:QD P w K mg base "want_of" Zat 1 (QS (K:=K) R_want)) (d:QD P w K mg base "given_most" Zaf 4 (QS (K:=K) R_givenm)) :
 QD P w K mg base "short_of" Zaf 5 (QS (K:=K) R_short):=by
 refine D.ev OG (fun ts r h=>by cases h;rfl) (fun _ _ _ _ s H E ts r g h=>?_)
 cases h with
 |@mk y l e m o a =>
   refine⟨_,(Q5<|QU<|QN Yg (Zj Rt (by rfl) T.sum Rr<|Qo (W8 (NX:=Zaf) (sc:=Q2 BX) (N:=["number","guests"]) (f:=[none,some 1]) rfl (by decide +kernel) rfl rfl (JM<|pv 2) (fun _=>(Zr (i:=0) (show(["number","guests"]:Qh).Nodup by decide +kernel) rfl Qa)) (fun _=>VM) (fun _=>WB) fun _=>(QG b g<|Qo (QJ QI (pv 1)<|pv 0) Qq)) Qq)<|QG d g<|Qo (pv 0)<|Qo (pv 1)<|Qo (pv 2) Qq),?_⟩;show Q0 K _ [some _,some _,some _] _
   walk_at"x"
   have p:=a.len;refine Zq (Z4 (D0 (ns:=e.map fun k=>(l.getD k default).want) ?_ rfl)<|Zb (by walk_at"ea")<|R_givenm.mk m o a) rfl
   refine EvO.fz ?_;rw[YM];refine Ga (xs:=e) (enc:=fun(j:Nat)=>PyData.int (j:Int)) ?_ (by omega) ?_
   .walk_at"ei"
   .intro x n c
    have q:=a.mem x n;refine⟨_,by walk_at"g",?_⟩
    walk_at"e"
    refine Zb (ts:=[.fz<|QK<|l.getD x default]) (Qw (Qs.cast (by walk_at"ev")<|by rw[XI]) Q4) R_want.mk
def ZeR:Qp ZaH ZaH (Q2 UG):=by walk_at"p"
def EO  (T:Bl mg) (F:Fun K "__init__" "NoRoom.__init__" UG f fd) (g:JW K YR CR f) (xs:T3 K CR) (c:W.takerIn K CR "some"=some none) (d:mg "YardError"=some (.ref YR)):FnOk P w K mg base CX0 1 f fd ZaH (G3 K CR "some"):=by
 refine F.ok ZeR ?_ (fun j A a s H b Q E k h=>⟨_,Qz (Zi<|A6 (i:=0) g rfl d rfl Qa)<|Q5<|C3 xs c (pv 0) (WJ Sn (by rfl) T.list RS<|Qo (pv 1) Qq) rfl,Ah h⟩);rintro b H Q E ⟨e,p,xs,h,_⟩;rw[h];rfl
inductive R_refuse:List OT->(OT->Prop)->Prop
 |mk {y:Yd} {gs:List Gs} (ok:y.Ok) (hg:∀g∈gs,GOk y g) (g8:gs.length<=8) (h:∀S,VS y (QL gs) S<=0):R_refuse [.fz<|Za y,.fz<|.list<|gs.map QK] (fun r=>r=.fz .none)
inductive X_refuse:List OT->(Qd->Prop)->Prop
 |mk {y:Yd} {gs:List Gs} (ok:y.Ok) (hg:∀g∈gs,GOk y g) (g8:gs.length<=8) {S:Qm} (h:0<VS y (QL gs) S):X_refuse [.fz<|Za y,.fz<|.list<|gs.map QK] (fun d=>∃S,0<VS y (QL gs) S/\d=Vi (Wd gs S))
def KW:Qp Zaf Zaa (Q2 KP):=by walk_at"p"
def E8 (T:Bl mg) (M:XC K mg "NoRoom" YR CR fR) (D:Df K mg "refuse_lack" KP Zaa) (B:QD P w K mg base "lacking_set" Zaa 6 (QY K R_lset)) (z:QD P w K mg base "short_of" Zaf 5 (QS (K:=K) R_short)) (x:Dt P w K mg base fR ZaH 1 (G3 K CR "some")) :
 Jx P w K mg base "refuse_lack" Zaa 7 (spX K CR "some" R_refuse X_refuse):=by
 refine D.evZ KW (fun J I h=>by cases h;rfl) (fun J I h=>by cases h;rfl) (by decide) (fun f L A k s H Q J I o m h=>?_) (fun f L A k s F H Q J I o m N h=>?_)
 .cases h with
  |@mk y p l u v h =>
    refine⟨_,(Qz (QR (i:=2) KW.nd rfl Qa<|QG B o<|Qo (pv 0)<|Qo (pv 1) Qq)
 (Q5<|Z0 (ZX W6 (QG z o<|Qo (pv 0)<|Qo (pv 1)<|Qo (pv 2) Qq) Qv<|ZH _) (Q5<|Po M x m o<|Qo (pv 2) Qq) Z3)),?_⟩
    show Q0 K _ [some _,some _,none] _
    walk_at"x"
    have t:=u;refine QH (Wq (Yq (Qw (Qt rfl)<|Qw (Qt rfl) Q4)<|R_lset.mk l t v) fun r n=>?_);obtain⟨q,d,j,rfl⟩:=n
    walk_at"d"
    refine We 2 rfl ?_
    walk_at"d"
    have E:=h (Vv d);rw[Pv]at E;exact ZB (b:=false) (Zk.cast (ZW<|Yn (Zb (Qw (Qt rfl)<|Qw (Qt rfl)<|Qw (Qt rfl) Q4)<|R_short.mk l (fun g h=>(u g h).ln)<|Pb v _) Q1)<|XT<|by unfold DU;omega) (by rintro⟨⟩) (fun _=>ZD rfl)
 .cases h with
  |@mk y p l u v S h =>
    refine⟨_,(Qz (QR (i:=2) KW.nd rfl Qa<|QG B o<|Qo (pv 0)<|Qo (pv 1) Qq)
 (Q5<|Z0 (ZX W6 (QG z o<|Qo (pv 0)<|Qo (pv 1)<|Qo (pv 2) Qq) Qv<|ZH _) (Q5<|Po M x m o<|Qo (pv 2) Qq) Z3)),?_⟩
    show EvZ K F H _ [some _,some _,none]
    walk_at"x"
    have t:=u;refine Lh (fun G=>∃q d,DO y (QL p) q d/\G=[some<|.fz<|Za y,some<|.fz<|.list<|p.map QK,some<|.ol<|Vi<|Wd p<|Vv d]) (Wq (Yq (Qw (Qt rfl)<|Qw (Qt rfl) Q4)<|R_lset.mk l t v) fun r n=>?_) ?_
    .obtain⟨q,d,j,rfl⟩:=n
     exact⟨q,d,j,rfl⟩
    .rintro _ ⟨q,d,j,rfl⟩
     refine T8 2 rfl ?_
     walk_at"d"
     have E:0<VS y (QL p) (Vv d):=by
      have a:=EI j.1 l (Rs t) S;have e:=j.1.lack l (Rs t) j.2.2.1 j.2.1 j.2.2.2;have e:De y (QL p) q=VS y (QL p) (Vv d):=e;omega
     have O:=E;rw[Pv]at O;exact Du (b:=true) (Zk.cast (ZW<|Yn (Zb (Qw (Qt rfl)<|Qw (Qt rfl)<|Qw (Qt rfl) Q4)<|R_short.mk l (fun g h=>(u g h).ln)<|Pb v _) Q1)<|Wv<|by unfold DU;omega) (fun _=>AT (Qt rfl) ⟨Vv d,E,rfl⟩ N) (by rintro⟨⟩)
inductive R_feed:List OT->(OT->Prop)->Prop
 |mk {n:Int}:R_feed [.fz<|.int n] (fun r=>∃a b:Int,r=.ol [.int a,.int b])
def Jl:Qp ["_law_cell","_law_big","_law_one","_law_other","_law_k"] ["_law_cell"] (Q2 Kx):=by walk_at"p"
def FK (T:Bl mg) (D:Df K mg "_law_feed" Kx ["_law_cell"]):QD P w K mg base "_law_feed" ["_law_cell"] 1 (QY K R_feed):=by
 refine D.evD Jl (fun o r h=>by cases h;rfl) (fun _ _ _ _ s H E o r M h=>?_)
 cases h with
 |@mk n =>
   refine⟨_,(Qz (QR (i:=1) Jl.nd rfl Qa Qv)
 (Qz (QR (i:=2) Jl.nd rfl Qa<|QN Vm (QN Y2 (QN WE (pv 0) Qv) Qv) Qv)
 (Qz (QR (i:=3) Jl.nd rfl Qa<|QN Vm (QN Y2 (QN WE (pv 0) Qv) Qv) Qv)
 (Qz (V7 PassesOwn.never rfl (by exact(Y9 rfl T.range<|Qo Qv Qq)) (Zr (i:=4) Jl.nd rfl Qa) (by exact(Qz (QR (i:=2) Jl.nd rfl Qa<|QN Y2 (QN Vm (QN Vm (QN Uv (pv 2)<|pv 2)<|QN Uv Qv<|pv 3)<|pv 4) Qv)
 (Qz (QR (i:=3) Jl.nd rfl Qa<|QN Y2 (QN Vm (QN Vm (QN Uv (pv 3)<|pv 3)<|QN Uv Qv<|pv 2) Qv) Qv)
 (Q5<|QR (i:=1) Jl.nd rfl Qa<|QN Vm (QN Uv (pv 1) Qv)<|pv 3)))))
 (Qz (Z0 (ZX Uf (QN Y2 (pv 0) Qv) Qv<|ZH _) (Q5<|QU<|ZC<|Qo (QN WE (pv 0) Qv)<|Qo (pv 1) Qq) Z3)
 (Q5<|QU<|ZC<|Qo (pv 1)<|Qo Qv Qq)))))),?_⟩
   show Q0 K _ [some _,none,none,none,none] _
   walk_at"x"
   refine QH (Z2 Q1 ?_)
   walk_at"d"
   have k:∀{i:Int},Ug i 2:=WT (by decide) (by decide);have J:∀{i:Int},Ug i 3:=WT (by decide) (by decide);refine QH (Z2 (Z4 (Z5 (Z5 (Qt rfl) Q1 k) Q1<|by decide) Q1) ?_)
   walk_at"d"
   refine QH (Z2 (Z4 (Z5 (Z5 (Qt rfl) Q1 J) Q1<|by decide) Q1) ?_)
   walk_at"d"
   have m:0<=n/2%2147483647+11/\n/2%2147483647+11<4294967296:=by omega
   have l:0<=n/3%2147483629+7/\n/3%2147483629+7<4294967296:=by omega
   generalize n/2%2147483647+11=x at m;generalize n/3%2147483629+7=y at l;refine QH (Yi (ds:=ZQ 0 40) (fun _ f=>∃(a b c:Int) (u:Option OT),(0<=a/\a<4294967296)/\(0<=b/\b<4294967296)/\f=[some<|.fz<|.int n,some<|.fz<|.int c,some<|.fz<|.int a,some<|.fz<|.int b,u]) ?ei ⟨x,y,0,none,m,l,rfl⟩ ?st ?fin)
   case ei=>exact EvI.cast (YL (Qw Q1 Q4) (by rw[z62];decide)<|by rw[z62];decide) (Jh rfl (by decide))
   case st =>
    rintro i d _ F ⟨a,b,c,u,I,G,rfl⟩
    obtain⟨N,rfl⟩:=YJ F;refine⟨_,Z8,?_⟩
    walk_at"d"
    have p:(2:Int)^64=18446744073709551616:=by decide
    have B:WS a a:=.inl ⟨by omega,by omega⟩;have A:∀{z:Int},WS 48271 z:=.inl ⟨by decide,by decide⟩;have v:∀{z:Int},WS 69621 z:=.inl ⟨by decide,by decide⟩;have t:∀{z:Int},WS z 2147483629:=.inr ⟨by decide,by decide⟩;have q:WS b b:=.inl ⟨by omega,by omega⟩;refine QH (Z2 (Z5 (Z4 (Z4 (Z5 (Qt rfl) (Qt rfl) B)<|Z5 Q1 (Qt rfl) A)<|Qt rfl) Q1<|by decide) ?_)
    walk_at"d"
    have j:0<=(a*a+48271*b+(0+(i:Int)))%2147483647/\(a*a+48271*b+(0+(i:Int)))%2147483647<4294967296:=⟨Jp _<|by decide,Int.lt_trans (JS _<|by decide)<|by decide⟩;generalize (a*a+48271*b+(0+(i:Int)))%2147483647=e at j;refine QH (Z2 (Z5 (Z4 (Z4 (Z5 (Qt rfl) (Qt rfl) q)<|Z5 Q1 (Qt rfl) v) Q1) Q1<|by decide) ?_)
    walk_at"d"
    have g:0<=(b*b+69621*e+1)%2147483629/\(b*b+69621*e+1)%2147483629<4294967296:=⟨Jp _<|by decide,Int.lt_trans (JS _<|by decide)<|by decide⟩;generalize (b*b+69621*e+1)%2147483629=L at g;refine Z2 (Z4 (Z5 (Qt rfl) Q1 t)<|Qt rfl) ?_
    exact⟨e,L,_,_,j,g,rfl⟩
   case fin =>
    rintro _ ⟨a,b,c,u,I,G,rfl⟩
    refine QH (ZB (b:=decide (n%2=0)) (Zk.cast (ZW<|JE (Z5 (Qt rfl) Q1<|by decide) Q1) rfl) (fun _=>?_) fun _=>ZD ?_)
    .exact Ja (Vf (ds:=[.int<|n/2,.int c]) (QF (Z5 (Qt rfl) Q1 k)<|QF (Qt rfl) Zw) W1) ⟨_,_,rfl⟩
    .exact Ja (Vf (ds:=[.int c,.int 0]) (QF (Qt rfl)<|QF Q1 Zw) W1) ⟨_,_,rfl⟩
inductive R_digit:Qd->List OT->(OT->Qd->Prop)->Prop
 |mk {a b m:Int} (h0:0<m) (h1:m<=10^60):R_digit [.int a,.int b] [.fz<|.int m] (fun r ds'=>∃n a' b':Int,0<=n/\n<m/\r=.fz (.int n)/\ds'=[.int a',.int b'])
def Tt:Qp ["_law_feed_here","_law_many","_law_digit_here"] Zar (Q2 KI):=by walk_at"p"
def Aw (T:Bl mg) (D:Df K mg "_law_digit" KI Zar):QD P w K mg base "_law_digit" Zar 1 (spP K olP R_digit):=by
 refine D.evP Tt (fun M p o h=>by cases h;rfl) (fun f r A l s H E v M p o t h=>?_)
 cases h with
 |@mk a b m k q =>
   refine⟨_,(Qz (Z0 (ZX Uf (QJ QI (pv 0) Qv) Qv<|ZH _) (Qz (Bp (QJ QI (pv 0) Qv)<|DK (pv 0) Qv WF)
 (Q5<|Bp Qv<|DK (pv 0) Qv WF)) Z3)
 (Qz (QR (i:=2) Tt.nd rfl Qa<|QN Y2 (QJ QI (pv 0) Qv)<|pv 1)
 (Qz (Bp (QN WE (QJ QI (pv 0) Qv)<|pv 1)<|DK (pv 0) Qv WF)
 (Q5<|QU<|pv 2)))),?_⟩
   show EvR K _ [some<|.own v<|olP [.int a,.int b],some<|.fz<|.int m,none] _
   walk_at"x"
   have g:∀{d:Q9} {x y:Int},d[0]?=some (some<|.own v<|olP [.int x,.int y])->Qs K (tOp (rIx K) (QB 0)<|tC<|.int 0) d (.int x)/\Qs K (tOp (rIx K) (QB 0)<|tC<|.int 1) d (.int y):=fun{d x y} e=>by
    have n:=(Xh.mp e).1
    exact⟨Sx 0 e rfl (Yf (ds:=[.int x,.int y]) (Qt<|Xl n) Q1 rfl),Sx 0 e rfl (Yf (ds:=[.int x,.int y]) (Qt<|Xl n) Q1 rfl)⟩
   refine ZS (fun c=>∃x y:Int,c=[some<|.own v<|olP [.int x,.int y],some<|.fz<|.int m,none]) (ZB (b:=decide (a=0)) (Zk.cast (ZW<|JE (g rfl).1 Q1) rfl) (fun _=>?_) fun _=>ZD ⟨a,b,rfl⟩) ?_
   .refine QH (HR (j:=0) rfl (g rfl).2 Q1 rfl ?_)
    walk_at"d"
    refine HR (j:=1) rfl Q1 Q1 rfl ?_
    exact⟨b,0,rfl⟩
   .rintro _ ⟨x,y,rfl⟩
    refine ZS (fun c=>c=[some<|.own v<|olP [.int x,.int y],some<|.fz<|.int m,some<|.fz<|.int<|x%m]) (Z2 (Z5 (g rfl).1 (Qt rfl) k) rfl) ?_
    rintro _ rfl
    refine ZS (fun c=>c=[some<|.own v<|olP [.int<|x/m,.int y],some<|.fz<|.int m,some<|.fz<|.int<|x%m]) (HR (j:=0) rfl (Z5 (g rfl).1 (Qt rfl) (cdl k q)) Q1 rfl rfl) ?_
    rintro _ rfl
    exact Bt (Qt rfl) ⟨_,⟨x%m,x/m,y,Jp _<|Int.ne_of_gt k,JS _ k,rfl,rfl⟩,rfl⟩
def Dg (K:W.Frag)(t:TE)(ρ:Q9)(v:V)(m:Int):Prop:=EvW K t ρ 0 fun n o=>0<=n/\n<m/\∃a b:Int,o=.own v (olP [.int a,.int b])
def YF   (e:ρ[0]?=some (some<|.own v<|olP [.int a,.int b]))(h:Qs K t ρ (.int m))(h0:0<m)(f:m<=10^60):Dg K (VH (spP K olP R_digit) [] E<|QE (QB 0)<|QE t QQ) ρ v m :=
 FZ (Φ:=olP) e (Qw h Q4) (R_digit.mk h0 f) (by
  rintro r j ⟨n,i,g,d,c,rfl,rfl⟩
  exact⟨n,rfl,d,c,i,g,rfl⟩)
def MS (k T:Nat)(l:Ln):Prop:=(l.up=none↔k=0)/\(∀a,l.up=some a->a<k)/\l.bs.length=T/\∀b∈l.bs,0<=b/\b<10^30
theorem L4 {ls:List Ln}(t1:1<=T)(t8:T<=8)(l1:1<=ls.length)(l5:ls.length<=5)(h:∀k (c:k<ls.length),MS k T ls[k]):(⟨T,ls⟩:Yd).Ok where
 t1:=t1
 t8:=t8
 l1:=l1
 l5:=l5
 up0:=by
  have g:=(h 0<|by omega).1.mpr rfl
  simp[Zh,show 0<ls.length by omega,g]
 ups:=fun k m c=>by
  have c:k<ls.length:=c;obtain⟨j,i,_⟩:=h k c
  cases e:ls[k].up with
  |none=>have:=j.mp e;omega
  |some a=>exact⟨a,by simp[Zh,c,e],i a e⟩
 bl:=fun l d=>by
  obtain⟨k,c,rfl⟩:=UJ.mp d
  exact(h k c).2.2.1
 bb:=fun l d b f=>by
  obtain⟨k,c,rfl⟩:=UJ.mp d
  have:=(h k c).2.2.2 b f
  exact⟨this.1,Ha this.2⟩
def TK (y:Yd):Prop := ∀l∈y.ls,∀b∈l.bs,0<=b/\b<10^30
inductive R_dyard:Qd->List OT->(OT->Qd->Prop)->Prop
 |mk {a b:Int}:R_dyard [.int a,.int b] [] (fun r ds'=>∃y:Yd,y.Ok/\TK y/\r=.fz (Za y))
def Ly {b:Int}{c:Bool}(h0:0<=b)(a:b<10^30):0<=b*(if c then 1 else 0)/\b*(if c then 1 else 0)<10^30:=by
 have e:(0:Int)<10^30:=by decide +kernel
 cases c
 .simp
 .simpa using ⟨h0,a⟩
def p60 {m:Int}(h:m<=10^30):m<=10^60:=Int.le_trans h (by decide +kernel)
def Wu:Qp ["_law_feed_here","_law_turns","_law_scale","_law_lines","_law_k","_law_above","_law_bounds","_law_turn","_law_bound"] ZaM (Q2 KA):=by walk_at"p"
def Ar (T:Bl mg) (D:Df K mg "_law_yard" KA ZaM) (r:QD P w K mg base "_law_digit" Zar 1 (spP K olP R_digit)):QD P w K mg base "_law_yard" ZaM 2 (spP K olP R_dyard):=by
 refine D.evP Wu (fun M ts Ψ h=>by cases h;rfl) (fun f cdv A Q s H E v M ts Ψ J h=>?_)
 cases h with
 |@mk a b =>
   refine⟨_,(Qz (QR (i:=1) Wu.nd rfl Qa<|QN Vm Qv<|QG r J<|Qo (pv 0)<|Qo Qv Qq)
 (Qz (QR (i:=2) Wu.nd rfl Qa<|QJ QI (ZC<|Qo Qv<|Qo Qv<|Qo Qv<|Qo (QN JJ Qv Qv) Qq)<|QG r J<|Qo (pv 0)<|Qo Qv Qq)
 (Qz (QR (i:=3) Wu.nd rfl Qa<|ZC Qq)
 (Qz (V7 PassesOwn.never rfl (by exact(Y9 rfl T.range<|Qo (QN Vm Qv<|QG r J<|Qo (pv 0)<|Qo Qv Qq) Qq)) (Zr (i:=4) Wu.nd rfl Qa) (by exact(Qz (QR (i:=5) Wu.nd rfl Qa Bq)
 (Qz (Z0 (ZX W6 (pv 4) Qv<|ZH _) (Q5<|QR (i:=5) Wu.nd rfl Qa<|QG r J<|Qo (pv 0)<|Qo (pv 4) Qq) Z3)
 (Qz (QR (i:=6) Wu.nd rfl Qa<|ZC Qq)
 (Qz (V7 PassesOwn.never rfl (by exact(Y9 rfl T.range<|Qo (pv 1) Qq)) (Zr (i:=7) Wu.nd rfl Qa) (by exact(Qz (QR (i:=8) Wu.nd rfl Qa<|QG r J<|Qo (pv 0)<|Qo (pv 2) Qq)
 (Q5<|Zi<|Ve PySem.F.plainAttrs_list PySem.F.slot_list_append PySem.F.type_list_append V9 (pv 6)<|Qo (QN Uv (pv 8)<|WJ Rz (by rfl) T.int DL<|Qo (B9 W6 (QG r J<|Qo (pv 0)<|Qo Qv Qq) Qv<|ZH _) Qq) Qq))))
 (Q5<|Zi<|Ve PySem.F.plainAttrs_list PySem.F.slot_list_append PySem.F.type_list_append V9 (pv 3)<|Qo (Zu<|Qo (pv 5)<|Qo (WJ SR (by rfl) T.tuple Hz<|Qo (pv 6) Qq) Qq) Qq)))))))
 (Q5<|QU<|Zu<|Qo (pv 1)<|Qo (WJ SR (by rfl) T.tuple Hz<|Qo (pv 3) Qq) Qq))))),?_⟩
   show EvR K _ [some<|.own v<|olP [.int a,.int b],none,none,none,none,none,none,none,none] _
   walk_at"x"
   have L:(0:Int)<10^(30:Int).toNat/\(10:Int)^(30:Int).toNat<=10^30:=by decide +kernel
   have q31:(16:Int)<=10^30:=by decide +kernel
   refine ZS (fun g=>∃(T:Nat) (a b:Int),1<=T/\T<=8/\g=[some<|.own v<|olP [.int a,.int b],some<|.fz<|.int (T:Int),none,none,none,none,none,none,none]) (Sy (YF rfl Q1 (by decide)<|by decide +kernel) ?_) ?_
   .rintro n _ ⟨n0,n1,a,b,rfl⟩
    refine Z2 (Z4 Q1 Q1) ⟨(1+n).toNat,a,b,by omega,by omega,?_⟩;rw[Wy<|by omega];rfl
   rintro _ ⟨T,a,b,t1,t8,rfl⟩
   refine ZS (fun g=>∃u a b:Int,0<u/\u<=10^30/\g=[some<|.own v<|olP [.int a,.int b],some<|.fz<|.int (T:Int),some<|.fz<|.int u,none,none,none,none,none,none]) (PD (ds:=[.int 5,.int 9,.int 16,.int<|10^(30:Int).toNat]) (EvO.fz<|Vf (QF Q1<|QF Q1<|QF Q1<|QF (Z5 Q1 Q1<|J6 (by decide)<|by decide) Zw)<|by show(4:Nat)<=1000;decide) (YF rfl Q1 (by decide)<|by decide +kernel) ?_) ?_
   .rintro n _ ⟨n0,n1,a,b,rfl⟩
    obtain rfl|rfl|rfl|rfl:n=0\/n=1\/n=2\/n=3:=by omega
    .exact⟨_,rfl,5,a,b,by decide,by omega,rfl⟩
    .exact⟨_,rfl,9,a,b,by decide,by omega,rfl⟩
    .exact⟨_,rfl,16,a,b,by decide,by omega,rfl⟩
    .exact⟨_,rfl,_,a,b,L.1,L.2,rfl⟩
   rintro _ ⟨u,a,b,s0,Z,rfl⟩
   refine ZS (fun g=>g=[some<|.own v<|olP [.int a,.int b],some<|.fz<|.int (T:Int),some<|.fz<|.int u,some<|.ol [],none,none,none,none,none]) (VT (Vf (ds:=[]) Zw<|by decide) rfl) ?_
   rintro _ rfl
   refine ZS (fun g=>∃(o:List Ln) (a b:Int) (G F B q p:Option OT),(1<=o.length/\o.length<=5)/\(∀k (I:k<o.length),MS k T o[k])/\g=[some<|.own v<|olP [.int a,.int b],some<|.fz<|.int (T:Int),some<|.fz<|.int u,some<|.ol<|o.map VZ,G,F,B,q,p]) (FW (YF rfl Q1 (by decide)<|by decide +kernel) ?_) ?_
   .rintro n _ ⟨n0,n1,a,b,rfl⟩
    walk_at"d"
    refine Yi (ds:=ZQ 0 (1+n).toNat) (fun i g=>∃(o:List Ln) (a b:Int) (G F B q p:Option OT),o.length=i/\(∀k (I:k<o.length),MS k T o[k])/\g=[some<|.own v<|olP [.int a,.int b],some<|.fz<|.int (T:Int),some<|.fz<|.int u,some<|.ol<|o.map VZ,G,F,B,q,p]) ?ei ⟨[],a,b,_,_,_,_,_,rfl,(fun k I=>Xm I<|Nat.not_lt_zero k),rfl⟩ ?st ?fin
    case ei=>exact YL (Qw (Z4 Q1 Q1) Q4) (by rw[z62];omega) (by rw[z62];omega)
    case fin =>
     rintro _ ⟨o,a,b,G,F,B,q,p,e,h,rfl⟩
     rw[Wo]at e;exact⟨o,a,b,G,F,B,q,p,by omega,h,rfl⟩
    case st =>
     rintro i d _ S ⟨o,a,b,G,F,B,q,p,e,h,rfl⟩
     obtain⟨hi,rfl⟩:=YJ S;have hi:i<(1+n).toNat:=hi;refine⟨_,Z8,?_⟩
     walk_at"d"
     rw[WO];refine QH (Z2 Gg ?_)
     walk_at"d"
     refine QH (Lp (fun g=>∃(y:Option Nat) (a b:Int),(y=none↔i=0)/\(∀x,y=some x->x<i)/\g=[some<|.own v<|olP [.int a,.int b],some<|.fz<|.int (T:Int),some<|.fz<|.int u,some<|.ol<|o.map VZ,some<|.fz<|.int (i:Int),some<|.fz<|upD y,B,q,p]) (ZB (b:=decide ((i:Int) > 0)) (Zk.cast (ZW<|Yn (Qt rfl) Q1) rfl) (fun c=>?_) fun c=>ZD ⟨none,a,b,⟨fun _=>by have:=UT c;omega,fun _=>rfl⟩,(by rintro x ⟨⟩),rfl⟩) ?_)
     .have c:=XJ c
      refine BH (YF rfl (Qt rfl) (by omega)<|Int.le_trans (show(i:Int)<=5 by omega)<|by decide +kernel) ?_
      rintro m _ ⟨R,m1,a,b,rfl⟩
      refine⟨some m.toNat,a,b,⟨fun z=>(nomatch z),fun z=>Xm z<|by omega⟩,(fun x z=>by injection z with z;omega),?_⟩;show _=([_,_,_,_,_,some<|OT.fz<|.int ((m.toNat:Nat):Int),_,_,_]:Q9);rw[Wy R];rfl
     rintro _ ⟨y,a,b,Y,X,rfl⟩
     refine QH (VT (Vf (ds:=[]) Zw<|by decide) ?_)
     walk_at"d"
     refine QH (Yi (ds:=ZQ 0 T) (fun j g=>∃(t:Ql) (a b:Int) (q p:Option OT),t.length=j/\(∀x∈t,0<=x/\x<10^30)/\g=[some<|.own v<|olP [.int a,.int b],some<|.fz<|.int (T:Int),some<|.fz<|.int u,some<|.ol<|o.map VZ,some<|.fz<|.int (i:Int),some<|.fz<|upD y,some<|.ol<|t.map PyData.int,q,p]) ?ei2 ⟨[],a,b,_,_,rfl,(by rintro x ⟨⟩),rfl⟩ ?st2 ?fin2)
     case ei2=>exact EvI.cast (YL (Qw (Qt rfl) Q4) (by rw[z62];omega)<|by rw[z62];omega) (Jh rfl (by omega))
     case st2 =>
      rintro j d _ S ⟨t,a,b,q,p,O,U,rfl⟩
      obtain⟨hj,rfl⟩:=YJ S;refine⟨_,Z8,?_⟩
      walk_at"d"
      refine QH (BH (YF rfl (Qt rfl) s0<|p60 Z) ?_)
      rintro m _ ⟨R,m1,a,b,rfl⟩
      walk_at"d"
      refine Cl rfl rfl (YF rfl Q1 (by decide)<|by decide +kernel) ?_
      rintro z _ ⟨z0,z1,a,b,rfl⟩
      walk_at"d"
      have mm:=Ly (c:=decide (z > 0)) R (Int.lt_of_lt_of_le m1 Z);refine UD rfl (Z5 (Qt rfl) (B2<|Yn Q1 Q1)<|.inr ⟨by split<;>decide,by split<;>decide⟩) (by rw[Xn];omega) ⟨t++[m*(if decide (z > 0) then 1 else 0)],a,b,some<|.fz<|.int<|0+(j:Int),some<|.fz<|.int m,by rw[Xo,O];rfl,fun x N=>?_,?_⟩
      .rcases XB.mp N with N|N
       .exact U x N
       .rw[Xi.mp N];exact mm
      .rw[Xy]
       rfl
     case fin2 =>
      rintro _ ⟨t,a,b,q,p,O,U,rfl⟩
      rw[Wo]at O;refine UD rfl (V5 (ds:=[upD y,.tuple<|t.map PyData.int]) (QF (Qt rfl)<|QF (DA rfl) Zw) W1) (by rw[Xn];omega) ⟨o++[⟨y,t⟩],a,b,some<|.fz<|.int (i:Int),some<|.fz<|upD y,some<|.ol<|t.map PyData.int,q,p,by rw[Xo,e];rfl,fun k I=>?_,?_⟩
      .by_cases z:k<o.length
       .rw[List.getElem_append_left z];exact h k z
       .have:k=o.length:=by rw[Xo]at I;have:[(⟨y,t⟩:Ln)].length=1:=rfl;omega
        subst this;rw[List.getElem_append_right<|Xq _];simp only[Nat.sub_self,List.getElem_cons_zero];rw[e];exact⟨Y,X,O,U⟩
      .rw[Xy]
       rfl
   rintro _ ⟨o,a,b,G,F,B,q,p,⟨l1,l5⟩,h,rfl⟩
   refine Bt (V5 (ds:=[.int (T:Int),.tuple<|o.map VZ]) (QF (Qt rfl)<|QF (DA rfl) Zw) W1) ⟨_,⟨⟨T,o⟩,L4 t1 t8 l1 l5 h,fun l hl=>?_,rfl⟩,rfl⟩;obtain⟨k,I,rfl⟩:=UJ.mp hl
   exact(h k I).2.2.2
theorem DG:∀{bs:Ql},bs≠[]->∃M∈bs,∀a∈bs,a<=M
 |[],h=>Xm rfl h
 |[x],_=>⟨x,Xb,fun a b=>by rw[Xi.mp b];exact Jt _⟩
 |x::y::bs,_=>by
   obtain⟨M,d,c⟩:=DG (bs:=y::bs) (List.cons_ne_nil _ _)
   by_cases h:x<=M
   .refine⟨M,Xe _ d,fun a b=>?_⟩
    rcases Xf.mp b with rfl|b
    .exact h
    .exact c a b
   .refine⟨x,Xb,fun a b=>?_⟩
    rcases Xf.mp b with rfl|b
    .exact Jt _
    .have:=c a b
     omega
noncomputable def mxB (bs:Ql):Int:=open Classical in if h:bs≠[] then Classical.choose (DG h) else 0
def Rc (h:bs≠[]):mxB bs∈bs/\∀a∈bs,a<=mxB bs:=by
 unfold mxB;rw[dif_pos h];exact Classical.choose_spec (DG h)
structure G30 (y:Yd)(g:Gs):Prop where
 ok:g.Ok y
 w:g.want<10^30
 m:g.most<10^30
inductive R_dguest:Qd->List OT->(OT->Qd->Prop)->Prop
 |mk {a b:Int} {y:Yd} (ok:y.Ok):R_dguest [.int a,.int b] [.fz<|Za y,.fz<|.int 0] (fun r ds'=>∃g:Gs,G30 y g/\r=.fz (QK g))
def Db {n:Nat}(h:n<=8):(n:Int)<=10^60:=Int.le_trans (show(n:Int)<=8 by omega) (by decide +kernel)
def Jm:Qp Zai Zal (Q2 Mv):=by walk_at"p"
def IT (T:Bl mg) (D:Df K mg "_law_guest" Mv Zal) (g:QD P w K mg base "_law_digit" Zar 1 (spP K olP R_digit)):QD P w K mg base "_law_guest" Zal 2 (spP K olP R_dguest):=by
 refine D.evP Jm (fun M ts Ψ h=>by cases h;rfl) (fun f cdv A J s H E v M ts Ψ o h=>?_)
 cases h with
 |@mk a b y u =>
   refine⟨_,(Qz (QR (i:=3) Jm.nd rfl Qa<|QG g o<|Qo (pv 0)<|Qo (QJ QI (pv 1) Qv) Qq)
 (Qz (Z0 (PW.pt<|Bg (CK Wg Wg (pv 3) (pv 2)<|QJ QI (pv 1) Qv)<|B4<|ZX W6 (QG g o<|Qo (pv 0)<|Qo Qv Qq) Qv<|ZH _) (Q5<|QR (i:=3) Jm.nd rfl Qa<|QN Vm (pv 2)<|QG g o<|Qo (pv 0)<|Qo (QN Yg (QJ QI (pv 1) Qv)<|pv 2) Qq) Z3)
 (Qz (QR (i:=4) Jm.nd rfl Qa<|QN Vm (pv 3)<|QG g o<|Qo (pv 0)<|Qo (QN Yg (QJ QI (pv 1) Qv)<|pv 3) Qq)
 (Qz (QR (i:=5) Jm.nd rfl Qa<|QG g o<|Qo (pv 0)<|Qo (Zj Yk (by rfl) T.len Yj<|Qo (QJ QI (pv 1) Qv) Qq) Qq)
 (Qz (QR (i:=6) Jm.nd rfl Qa<|QJ QI (ZC<|Qo Qv<|Qo Qv<|Qo Qv<|Qo (QN Yg (QN JJ Qv Qv) Qv) Qq)<|QG g o<|Qo (pv 0)<|Qo Qv Qq)
 (Qz (Z0 (ZX Wg (Zj FJ (by rfl) T.max D7<|Qo (W8 (NX:=Zai) (sc:=Q2 Mv) (N:=ZaD) (f:=[none,none]) rfl (by decide +kernel) rfl rfl (Le<|QJ QI (pv 1) Qv) (fun _=>(JK (n:=2) rfl (Yr (Zr (i:=0) (show(ZaD:Qh).Nodup by decide +kernel) rfl Qa)<|Yr (Zr (i:=1) (show(ZaD:Qh).Nodup by decide +kernel) rfl Qa) JL))) (fun _=>(R3 (n:=2)<|BN VM<|BN VM Sq)) (fun _=>WB) fun _=>(Zj FY (by rfl) T.max D7<|Qo (pv 1) Qq)) Qq) Qv<|ZH _) (Q5<|QR (i:=6) Jm.nd rfl Qa<|Zj (D3 rfl) (by rfl) T.min Bu<|Qo (pv 6)<|Qo Qv Qq) Z3)
 (Qz (QR (i:=7) Jm.nd rfl Qa<|QN Vm Qv<|QG g o<|Qo (pv 0)<|Qo (pv 6) Qq)
 (Q5<|QU<|Zu<|Qo (pv 5)<|Qo (pv 3)<|Qo (pv 4)<|Qo (pv 7)<|Qo (QN Vm Qv<|QG g o<|Qo (pv 0)<|Qo (pv 6) Qq) Qq)))))))),?_⟩
   show EvR K _ [some<|.own v<|olP [.int a,.int b],some<|.fz<|Za y,some<|.fz<|.int 0,none,none,none,none,none] _
   walk_at"x"
   have t1:=u.t1;have Y:=u.t8;have l1:=u.l1;have l5:=u.l5;have t:(0:Int)<10^(30:Int).toNat-1/\(10:Int)^(30:Int).toNat-1<10^30:=by decide +kernel
   have q31:(20:Int)<10^30:=by decide +kernel
   have U:∀{r:Q9},r[1]?=some (some<|.fz<|Za y)->Qs K (tOp (rIx K) (QB 1)<|tC<|.int 0) r (.int (y.T:Int)):=fun e=>V6 (ds:=[PyData.int (y.T:Int),.tuple<|y.ls.map VZ]) (Qt e) Q1 rfl;have Z:∀{r:Q9},r[1]?=some (some<|.fz<|Za y)->Qs K (tOp (rIx K) (QB 1)<|tC<|.int 1) r (.tuple<|y.ls.map VZ):=fun e=>V6 (ds:=[PyData.int (y.T:Int),.tuple<|y.ls.map VZ]) (Qt e) Q1 rfl;refine ZS (fun d=>∃(j:Nat) (a b:Int),j<y.T/\d=[some<|.own v<|olP [.int a,.int b],some<|.fz<|Za y,some<|.fz<|.int 0,some<|.fz<|.int (j:Int),none,none,none,none]) (BH (YF rfl (U rfl) (by omega)<|Db Y) ?_) ?_
   .rintro n _ ⟨p,x,a,b,rfl⟩
    refine⟨n.toNat,a,b,by omega,?_⟩;rw[Wy p];rfl
   rintro _ ⟨j,a,b,hfs,rfl⟩
   refine ZS (fun d=>d=[some<|.own v<|olP [.int a,.int b],some<|.fz<|Za y,some<|.fz<|.int 0,some<|.fz<|.int (j:Int),none,none,none,none]) (ZB (b:=false) (Gh (b:=false) (c:=false) (Zk.cast (ZW<|Hd (Qt rfl) (Qt rfl)<|U rfl) ?_)<|by rintro⟨⟩) (by rintro⟨⟩) fun _=>ZD rfl) ?_
   .rw[XT (show ¬(j:Int)<0 by omega)]
    rfl
   rintro _ rfl
   refine ZS (fun d=>∃(k:Nat) (a b:Int),j<=k/\k<y.T/\d=[some<|.own v<|olP [.int a,.int b],some<|.fz<|Za y,some<|.fz<|.int 0,some<|.fz<|.int (j:Int),some<|.fz<|.int (k:Int),none,none,none]) (Ae rfl (YF rfl (Z4 (U rfl)<|Qt rfl) (by omega)<|Int.le_trans (show(y.T:Int)-(j:Int)<=(y.T:Int) by omega)<|Db Y) ?_) ?_
   .rintro n _ ⟨p,x,a,b,rfl⟩
    refine Z2 (Z4 (Qt rfl) Q1) ⟨((j:Int)+n).toNat,a,b,by omega,by omega,?_⟩;rw[Wy<|by omega];rfl
   rintro _ ⟨k,a,b,F,B,rfl⟩
   refine ZS (fun d=>∃(m:Nat) (a b:Int),m<y.ls.length/\d=[some<|.own v<|olP [.int a,.int b],some<|.fz<|Za y,some<|.fz<|.int 0,some<|.fz<|.int (j:Int),some<|.fz<|.int (k:Int),some<|.fz<|.int (m:Int),none,none]) (BH (YF rfl (Qs.cast (B3<|Z rfl) (show _=PyData.int (y.ls.length:Int) by rw[Xn])) (by omega)<|Db<|by omega) ?_) ?_
   .rintro n _ ⟨p,x,a,b,rfl⟩
    refine⟨n.toNat,a,b,by omega,?_⟩;rw[Wy p];rfl
   rintro _ ⟨m,a,b,R,rfl⟩
   refine ZS (fun d=>∃sc a b:Int,0<sc/\sc<10^30/\d=[some<|.own v<|olP [.int a,.int b],some<|.fz<|Za y,some<|.fz<|.int 0,some<|.fz<|.int (j:Int),some<|.fz<|.int (k:Int),some<|.fz<|.int (m:Int),some<|.fz<|.int sc,none]) (PD (ds:=[.int 4,.int 9,.int 20,.int<|10^(30:Int).toNat-1]) (EvO.fz<|Vf (QF Q1<|QF Q1<|QF Q1<|QF (Z4 (Z5 Q1 Q1<|J6 (by decide)<|by decide) Q1) Zw)<|by show(4:Nat)<=1000;decide) (YF rfl Q1 (by decide)<|by decide +kernel) ?_) ?_
   .rintro n _ ⟨p,x,a,b,rfl⟩
    obtain rfl|rfl|rfl|rfl:n=0\/n=1\/n=2\/n=3:=by omega
    .exact⟨_,rfl,4,a,b,by decide,by omega,rfl⟩
    .exact⟨_,rfl,9,a,b,by decide,by omega,rfl⟩
    .exact⟨_,rfl,20,a,b,by decide,by omega,rfl⟩
    .exact⟨_,rfl,_,a,b,t.1,t.2,rfl⟩
   rintro _ ⟨sc,a,b,I,G,rfl⟩
   have ne:∀l∈y.ls,l.bs≠[]:=fun l S z=>by
    have:=u.bl l S
    rw[z]at this;have:(0:Nat)=y.T:=this;omega
   have L:(y.ls.map fun l=>mxB l.bs)≠[]:=fun z=>by
    have:=X8 List.length z
    rw[Xn]at this;have:y.ls.length=0:=this;omega
   obtain⟨Q,O⟩:=Rc L;refine ZS (fun d=>∃sc:Int,0<sc/\sc<10^30/\d=[some<|.own v<|olP [.int a,.int b],some<|.fz<|Za y,some<|.fz<|.int 0,some<|.fz<|.int (j:Int),some<|.fz<|.int (k:Int),some<|.fz<|.int (m:Int),some<|.fz<|.int sc,none]) (ZB (b:=decide (mxB (y.ls.map fun l=>mxB l.bs)<20)) (Zk.cast (ZW<|Yn (FR (ns:=y.ls.map fun l=>mxB l.bs) (Qs.cast (EvO.fz<|Ga (xs:=y.ls) (enc:=VZ) (h:=fun l=>.int<|mxB l.bs) ?ei (by omega) ?el)<|by rw[YM];rfl) rfl Q O) Q1) rfl) (fun _=>?_) fun _=>ZD ⟨sc,I,G,rfl⟩) ?_
   case ei=>exact NS (Z rfl)
   case el =>
    intro l S c;obtain⟨k1,k2⟩:=Rc (ne l S);refine⟨_,WW (ds:=[upD l.up,.tuple<|l.bs.map PyData.int]) (Y6 Z8<|Y6 Z8 JG) rfl,?_⟩
    walk_at"e"
    exact FE (ns:=l.bs) (Qt rfl) rfl k1 k2
   .refine Z2 (Rh (Qt rfl) Q1) ⟨min sc 20,by omega,by omega,rfl⟩
   rintro _ ⟨sc,I,G,rfl⟩
   refine ZS (fun d=>∃q a b:Int,1<=q/\q<10^30/\d=[some<|.own v<|olP [.int a,.int b],some<|.fz<|Za y,some<|.fz<|.int 0,some<|.fz<|.int (j:Int),some<|.fz<|.int (k:Int),some<|.fz<|.int (m:Int),some<|.fz<|.int sc,some<|.fz<|.int q]) (Sy (YF rfl (Qt rfl) I<|p60<|Int.le_of_lt G) ?_) ?_
   .rintro n _ ⟨p,x,a,b,rfl⟩
    refine Z2 (Z4 Q1 Q1) ⟨1+n,a,b,by omega,by omega,rfl⟩
   rintro _ ⟨q,a,b,w1,X,rfl⟩
   refine F8 rfl rfl rfl rfl (YF rfl (Qt rfl) I<|p60<|Int.le_of_lt G) ?_
   rintro n _ ⟨p,x,a,b,rfl⟩
   refine Bt (V5 (ds:=[.int (m:Int),.int (j:Int),.int (k:Int),.int q,.int<|1+n]) (QF (Qt rfl)<|QF (Qt rfl)<|QF (Qt rfl)<|QF (Qt rfl)<|QF (Z4 Q1 Q1) Zw)<|by show(5:Nat)<=1000;decide) ⟨_,⟨⟨m,j,k,q,1+n⟩,⟨⟨R,F,B,w1,Ha X,by show 1<=1+n;omega,Ha<|by show 1+n<_;omega⟩,X,by show 1+n<_;omega⟩,rfl⟩,rfl⟩
def RM:PyData->Bool
 |.int _=>true
 |.bool _=>true
 |_=>false
def Nh:PyData->Bool
 |.bool _=>true
 |_=>false
def QT:PyData->Bool
 |.tuple _=>true
 |_=>false
def RH:PyData->Bool
 |.int _=>true
 |_=>false
def Of (d:PyData):Yx (tyD d) "int"=some (RM d):=by cases d<;>rfl
def En (d:PyData):Yx (tyD d) "bool"=some (Nh d):=by cases d<;>rfl
def ES (d:PyData):(RM d && !Nh d)=RH d:=by cases d<;>rfl
def Zv (d:PyData)(lo a:Int):Bool:=match d with
 |.int i=>decide (lo<=i)&&decide (i<a)
 |_=>false
def Gf (d:PyData)(n:Int):Bool:=match d with
 |.tuple a=>decide ((a.length:Int)=n)
 |_=>false
inductive R_iswhole:List OT->OT->Prop
 |mk {d:PyData}:R_iswhole [.fz d] (.fz<|.bool<|RH d)
def OH:Qp ["thing"] ["thing"] (Q2 Kf):=by walk_at"p"
def IC (T:Bl mg) (D:Df K mg "is_whole" Kf ["thing"]):QD P w K mg base "is_whole" ["thing"] 1 (QS (K:=K) R_iswhole):=by
 refine D.ev OH (fun a r h=>by cases h;rfl) (fun _ _ _ _ s H E a r b h=>?_)
 cases h with
 |@mk d =>
   refine⟨_,(Q5<|QU<|Bz (Zj DN (by rfl) T.isi Vb<|Qo (pv 0)<|Qo (JO (v:=.ty "int") rfl T.int DL rfl) Qq)<|Bj<|LS<|Zj DN (by rfl) T.isi Vb<|Qo (pv 0)<|Qo (JO (v:=.ty "bool") rfl T.bool Cn rfl) Qq),?_⟩;show Q0 K _ [some _] _;refine Zq (VJ (Wl (Qt rfl)<|Of d) fun _=>NK<|Wl (Qt rfl)<|En d) ?_;show _=_;rw[ES]
inductive R_within:List OT->OT->Prop
 |mk {d:PyData} {lo hi:Int}:R_within [.fz d,.fz<|.int lo,.fz<|.int hi] (.fz<|.bool<|Zv d lo hi)
def ZeE:Qp Zaq Zaq (Q2 KS):=by walk_at"p"
def Iq (T:Bl mg) (D:Df K mg "is_whole_within" KS Zaq) (a:QD P w K mg base "is_whole" ["thing"] 1 (QS (K:=K) R_iswhole)):QD P w K mg base "is_whole_within" Zaq 2 (QS (K:=K) R_within):=by
 refine D.ev ZeE (fun e r h=>by cases h;rfl) (fun _ _ _ _ s H E e r f h=>?_)
 cases h with
 |@mk d g j =>
   refine⟨_,(Q5<|QU<|Bz (QG a f<|Qo (pv 0) Qq)<|Bj<|S9 Dq Wg (pv 1) (pv 0)<|pv 2),?_⟩;show Q0 K _ [some _,some _,some _] _
   cases d with
   |int i=>exact Zq (VJ (b:=true) (Zb (Qw (Qt rfl) Q4) R_iswhole.mk) fun _=>Hd (Qt rfl) (Qt rfl)<|Qt rfl) rfl
   |none=>exact Zq (VJ (b:=false) (c:=false) (Zb (Qw (Qt rfl) Q4) R_iswhole.mk)<|by rintro⟨⟩) rfl
   |bool _=>exact Zq (VJ (b:=false) (c:=false) (Zb (Qw (Qt rfl) Q4) R_iswhole.mk)<|by rintro⟨⟩) rfl
   |str _=>exact Zq (VJ (b:=false) (c:=false) (Zb (Qw (Qt rfl) Q4) R_iswhole.mk)<|by rintro⟨⟩) rfl
   |list _=>exact Zq (VJ (b:=false) (c:=false) (Zb (Qw (Qt rfl) Q4) R_iswhole.mk)<|by rintro⟨⟩) rfl
   |tuple _=>exact Zq (VJ (b:=false) (c:=false) (Zb (Qw (Qt rfl) Q4) R_iswhole.mk)<|by rintro⟨⟩) rfl
   |dict _=>exact Zq (VJ (b:=false) (c:=false) (Zb (Qw (Qt rfl) Q4) R_iswhole.mk)<|by rintro⟨⟩) rfl
inductive R_isamount:List OT->OT->Prop
 |mk {d:PyData} {lo:Int}:R_isamount [.fz d,.fz<|.int lo] (.fz<|.bool<|Zv d lo<|10^(30:Int).toNat)
def OZ:Qp ZaJ ZaJ (Q2 Kz):=by walk_at"p"
def OD (T:Bl mg) (D:Df K mg "is_amount" Kz ZaJ) (a:QD P w K mg base "is_whole_within" Zaq 2 (QS (K:=K) R_within)):QD P w K mg base "is_amount" ZaJ 3 (QS (K:=K) R_isamount):=by
 refine D.ev OZ (fun b r h=>by cases h;rfl) (fun _ _ _ _ s H E b r c h=>?_)
 cases h with
 |@mk d e =>
   refine⟨_,(Q5<|QU<|QG a c<|Qo (pv 0)<|Qo (pv 1)<|Qo (QN JJ Qv Qv) Qq),?_⟩;show Q0 K _ [some _,some _] _;exact Zq (Zb (Qw (Qt rfl)<|Qw (Qt rfl)<|Qw (Z5 Q1 Q1<|J6 (by decide)<|by decide) Q4) R_within.mk) rfl
inductive R_tupof:List OT->OT->Prop
 |mk {d:PyData} {n:Int}:R_tupof [.fz d,.fz<|.int n] (.fz<|.bool<|Gf d n)
def ZgC:Qp ZaE ZaE (Q2 KC):=by walk_at"p"
def A7 (T:Bl mg) (D:Df K mg "is_tuple_of" KC ZaE):QD P w K mg base "is_tuple_of" ZaE 1 (QS (K:=K) R_tupof):=by
 refine D.ev ZgC (fun a r h=>by cases h;rfl) (fun _ _ _ _ s H E a r e h=>?_)
 cases h with
 |@mk d n =>
   refine⟨_,(Q5<|QU<|Bz (Zj DN (by rfl) T.isi Vb<|Qo (pv 0)<|Qo (JO (v:=.ty "tuple") rfl T.tuple Hz rfl) Qq)<|Bj<|B9 Uf (Zj Yk (by rfl) T.len Yj<|Qo (pv 0) Qq) (pv 1)<|ZH _),?_⟩;show Q0 K _ [some _,some _] _
   walk_at"x"
   cases d with
   |tuple ds=>exact Zq (VJ (b:=true) (Wl (Qt rfl) rfl) fun _=>JE (B3 (ds:=ds)<|Qt rfl)<|Qt rfl) rfl
   |none=>exact Zq (VJ (b:=false) (c:=false) (Wl (Qt rfl) rfl)<|by rintro⟨⟩) rfl
   |bool _=>exact Zq (VJ (b:=false) (c:=false) (Wl (Qt rfl) rfl)<|by rintro⟨⟩) rfl
   |int _=>exact Zq (VJ (b:=false) (c:=false) (Wl (Qt rfl) rfl)<|by rintro⟨⟩) rfl
   |str _=>exact Zq (VJ (b:=false) (c:=false) (Wl (Qt rfl) rfl)<|by rintro⟨⟩) rfl
   |list _=>exact Zq (VJ (b:=false) (c:=false) (Wl (Qt rfl) rfl)<|by rintro⟨⟩) rfl
   |dict _=>exact Zq (VJ (b:=false) (c:=false) (Wl (Qt rfl) rfl)<|by rintro⟨⟩) rfl
def IW  (h:Zv d lo hi=true):∃i,d=.int i/\lo<=i/\i<hi:=by
 cases d with
 |int i =>
   simp[Zv]at h
   exact⟨i,rfl,h⟩
 |none=>cases h
 |bool _=>cases h
 |str _=>cases h
 |list _=>cases h
 |tuple _=>cases h
 |dict _=>cases h
def TF {ds:Qd}(h:ds.length=5):∃a b c d e,ds=[a,b,c,d,e]:=by
 match ds,h with
 |[a,b,c,d,e],_=>exact⟨a,b,c,d,e,rfl⟩
def J8 (b c:PyData)(T:Int):Bool:=match b with
 |.int i=>Zv c i T
 |_=>false
def YT (y:Yd)(a b c d e:PyData):Bool:=Zv a 0 y.ls.length&&(Zv b 0 y.T&&(J8 b c y.T&&(Zv d 1 (10^(30:Int).toNat)&&Zv e 1 (10^(30:Int).toNat))))
def VL (y:Yd)(d:PyData):Bool:=match d with
 |.tuple [a,b,c,d,e]=>YT y a b c d e
 |_=>false
def IG  (h:Gf d 5=false):VL y d=false:=by
 unfold VL;split
 .simp[Gf]at h
 .rfl
def Fa (h:Gf d 5=true):∃a b c e f,d=.tuple [a,b,c,e,f]:=by
 cases d with
 |tuple g =>
   have:g.length=5:=by
    have:=XJ h
    omega
   obtain⟨a,b,c,e,f,rfl⟩:=TF this
   exact⟨a,b,c,e,f,rfl⟩
 |none=>cases h
 |bool _=>cases h
 |int _=>cases h
 |str _=>cases h
 |list _=>cases h
 |dict _=>cases h
inductive R_isguest:List OT->OT->Prop
 |mk {y:Yd} {d:PyData}:R_isguest [.fz<|Za y,.fz d] (.fz<|.bool<|VL y d)
def O8:Qp Zax Zax (Q2 K7):=by walk_at"p"
def Ot (T:Bl mg) (D:Df K mg "is_guest" K7 Zax) (q:QD P w K mg base "is_tuple_of" ZaE 1 (QS (K:=K) R_tupof)) (k:QD P w K mg base "is_whole_within" Zaq 2 (QS (K:=K) R_within)) (n:QD P w K mg base "is_amount" ZaJ 3 (QS (K:=K) R_isamount))
 (o:QD P w K mg base "turns_of" Zaz 1 (QS (K:=K) R_turns)) (t:QD P w K mg base "line_count" Zaz 1 (QS (K:=K) R_count)):QD P w K mg base "is_guest" Zax 4 (QS (K:=K) R_isguest):=by
 refine D.ev O8 (fun u r h=>by cases h;rfl) (fun _ _ _ _ s H E u r g h=>?_)
 cases h with
 |@mk y d =>
   refine⟨_,(Qz (Z0 (Y3<|Va<|QG q g<|Qo (pv 1)<|Qo Qv Qq) (Q5<|QU Wc) Z3)
 (Qz (Z0 (Y3<|Va<|QG k g<|Qo (QJ QI (pv 1) Qv)<|Qo Qv<|Qo (QG t g<|Qo (pv 0) Qq) Qq) (Q5<|QU Wc) Z3)
 (Qz (Z0 (Y3<|Va<|QG k g<|Qo (QJ QI (pv 1) Qv)<|Qo Qv<|Qo (QG o g<|Qo (pv 0) Qq) Qq) (Q5<|QU Wc) Z3)
 (Qz (Z0 (Y3<|Va<|QG k g<|Qo (QJ QI (pv 1) Qv)<|Qo (QJ QI (pv 1) Qv)<|Qo (QG o g<|Qo (pv 0) Qq) Qq) (Q5<|QU Wc) Z3)
 (Q5<|QU<|Bz (QG n g<|Qo (QJ QI (pv 1) Qv)<|Qo Qv Qq)<|Bj<|QG n g<|Qo (QJ QI (pv 1) Qv)<|Qo Qv Qq))))),?_⟩
   show Q0 K _ [some _,some _] _
   walk_at"x"
   refine QH (ZB (b := !Gf d 5) (Y5<|ZN<|Zb (Qw (Qt rfl)<|Qw Q1 Q4) R_tupof.mk) (fun c=>?_) fun c=>ZD ?_)
   .refine Zq W4 ?_
    rw[IG<|by simpa using c]
   .obtain⟨a,b,j,e,f,rfl⟩:=Fa (d:=d) (by simpa using c)
    clear c;refine QH (ZB (b := !Zv a 0 (y.ls.length:Int)) (Y5<|ZN<|Zb (Qw (V6 (ds:=[a,b,j,e,f]) (Qt rfl) Q1 rfl)<|Qw Q1<|Qw (Zb (Qw (Qt rfl) Q4) R_count.mk) Q4) R_within.mk) (fun c=>?_) fun c=>ZD ?_)
    .refine Zq W4 ?_
     have m:Zv a 0 (y.ls.length:Int)=false:=by simpa using c
     simp[VL,YT,m]
    .have m:Zv a 0 (y.ls.length:Int)=true:=by simpa using c
     clear c;refine QH (ZB (b := !Zv b 0 (y.T:Int)) (Y5<|ZN<|Zb (Qw (V6 (ds:=[a,b,j,e,f]) (Qt rfl) Q1 rfl)<|Qw Q1<|Qw (Zb (Qw (Qt rfl) Q4) R_turns.mk) Q4) R_within.mk) (fun c=>?_) fun c=>ZD ?_)
     .refine Zq W4 ?_
      have l:Zv b 0 (y.T:Int)=false:=by simpa using c
      simp[VL,YT,m,l]
     .have l:Zv b 0 (y.T:Int)=true:=by simpa using c
      clear c;obtain⟨i,rfl,x,v⟩:=IW l;refine QH (ZB (b := !Zv j i (y.T:Int)) (Y5<|ZN<|Zb (Qw (V6 (ds:=[a,.int i,j,e,f]) (Qt rfl) Q1 rfl)<|Qw (V6 (ds:=[a,.int i,j,e,f]) (Qt rfl) Q1 rfl)<|Qw (Zb (Qw (Qt rfl) Q4) R_turns.mk) Q4) R_within.mk) (fun c=>?_) fun c=>ZD ?_)
      .refine Zq W4 ?_
       have p:Zv j i (y.T:Int)=false:=by simpa using c
       simp[VL,YT,J8,m,l,p]
      .have p:Zv j i (y.T:Int)=true:=by simpa using c
       refine Zq (VJ (Zb (Qw (V6 (ds:=[a,.int i,j,e,f]) (Qt rfl) Q1 rfl)<|Qw Q1 Q4) R_isamount.mk) fun _=>Zb (Qw (V6 (ds:=[a,.int i,j,e,f]) (Qt rfl) Q1 rfl)<|Qw Q1 Q4) R_isamount.mk) ?_
       simp[VL,YT,J8,m,l,p]
def TH:(10:Int)^(30:Int).toNat=10^30:=rfl
def Mm  (a:g.Ok y)(hw:g.want<10^30)(b:g.most<10^30):VL y (QK g)=true:=by
 have e:VL y (QK g)=YT y (.int (g.line:Int)) (.int (g.first:Int)) (.int (g.last:Int)) (.int g.want) (.int g.most):=rfl;rw[e];have i:=a.ln;have h:=a.fl;have f:=a.lt;have d:=a.w1;have c:=a.m1;unfold YT J8;dsimp only[Zv];rw[TH];generalize (10:Int)^30=M at hw b;simp only[YZ,decide_eq_true_eq];omega
def D5:NoH "now" := fun _ _ _ _ _ _=>rfl
def B5:NoH "come" := fun _ _ _ _ _ _=>rfl
def LR:NoH "got" := fun _ _ _ _ _ _=>rfl
def Hj:NoH "rest" := fun _ _ _ _ _ _=>rfl
def Ft:NoH "open_ones" := fun _ _ _ _ _ _=>rfl
def CF:NoH "gifts" := fun _ _ _ _ _ _=>rfl
def Cg:NoH "yard_now" := fun _ _ _ _ _ _=>rfl
def SO:NoH "still_there" := fun _ _ _ _ _ _=>rfl
def G0:NoH "refuse_past" := fun _ _ _ _ _ _=>rfl
def CB:NoH "turn" := fun _ _ _ _ _ _=>rfl
def Rv:NoH "refuse_number" := fun _ _ _ _ _ _=>rfl
def ZfA:Qp ZaI ZaI (Q2 UE):=by walk_at"p"
def Fu  (T:Bl mg) (a:HandC K CH) (F:Fun K "__init__" "Hand.__init__" UE f fd):FnOk P w K mg base CX0 1 f fd ZaI (GQ CH):=by
 refine F.ok ZfA (by rintro L H Q E ⟨x,o,y,e,_⟩;rw[e];rfl) ?_;rintro N A u s H L Q E X ⟨x,o,y,e,M,q⟩;subst e;refine⟨_,(Qz (Wj (pv 0) (pv 1) rfl)
 (Qz (Wj (pv 0) Qv rfl)
 (Qz (Wj (pv 0) (ZC Qq) rfl)
 (Qz (Wj (pv 0) (ZC Qq) rfl)
 (Qz (Wj (pv 0) Hx rfl)
 (Q5<|Wj (pv 0) (ZC Qq) rfl)))))),?_⟩
 refine⟨y,rfl,_,rfl,x,CH,o,[],rfl,M,a.cl,a.yd,by decide,?_⟩;refine⟨_,rfl,x,CH,o,[("yard",y)],rfl,by rw[QC];rfl,a.cl,a.pr,(by show(1:Nat)<1000;decide),?_⟩;refine⟨XM _,fun k t=>⟨_,rfl,x,CH,o,[("yard",y),("present",.int 0)],rfl,?_,a.cl,a.kn,(by show(2:Nat)<1000;decide),?_⟩⟩
 .have i:x≠k:=Zs QC t
  rw[Qu i,QC];rfl
 have i:x≠k:=Zs QC t;rw[Qu<|Ne.symm i,Qu<|Ne.symm i]at t;refine⟨XM _,fun g p=>⟨_,rfl,x,CH,o,[("yard",y),("present",.int 0),("known",.ref k)],rfl,?_,a.cl,a.gv,(by show(3:Nat)<1000;decide),?_⟩⟩
 .have j:x≠g:=Zs QC p
  rw[Qu j,QC];rfl
 have j:x≠g:=Zs QC p;rw[Qu<|Ne.symm j]at p;have z:k≠g:=Zs QC p;rw[Qu<|Ne.symm z,Qu<|Ne.symm j,Qu<|Ne.symm j]at p;refine fun d n=>⟨_,rfl,x,CH,o,[("yard",y),("present",.int 0),("known",.ref k),("given",.ref g)],rfl,?_,a.cl,a.go,(by show(4:Nat)<1000;decide),?_⟩
 .have l:x≠d:=Zs QC n
  rw[Qu l,QC];rfl
 have l:x≠d:=Zs QC n;rw[Qu<|Ne.symm l]at n;have G:g≠d:=Zs QC n;rw[Qu<|Ne.symm G,Qu<|Ne.symm l]at n;have B:k≠d:=Zs QC n;rw[Qu<|Ne.symm B,Qu<|Ne.symm l,Qu<|Ne.symm l]at n;refine⟨XM _,fun m c=>⟨_,rfl,x,CH,o,[("yard",y),("present",.int 0),("known",.ref k),("given",.ref g),("gone",.ref d)],rfl,?_,a.cl,a.md,(by show(5:Nat)<1000;decide),?_⟩⟩
 .have h:x≠m:=Zs QC c
  rw[Qu h,QC];rfl
 have h:x≠m:=Zs QC c;rw[Qu<|Ne.symm h]at c;have I:d≠m:=Zs QC c;rw[Qu<|Ne.symm I,Qu<|Ne.symm h]at c;have D:g≠m:=Zs QC c;rw[Qu<|Ne.symm D,Qu<|Ne.symm h]at c;have v:k≠m:=Zs QC c;rw[Qu<|Ne.symm v,Qu<|Ne.symm h,Qu<|Ne.symm h]at c;refine q k g d m _ t p n c ?_ ?_ ?_ ?_ ?_ ?_ (fun b J=>?_)
 .simp only[XD,Xf,XO,or_false,not_or,not_false_eq_true,Ju,and_true]
  exact⟨⟨i,j,l,h⟩,⟨z,B,v⟩,⟨G,D⟩,I⟩
 .rw[QC];rfl
 .rw[Qu<|Ne.symm i,Qu v,Qu<|Ne.symm i,Qu B,Qu<|Ne.symm i,Qu z,Qu<|Ne.symm i,QC]
 .rw[Qu<|Ne.symm j,Qu D,Qu<|Ne.symm j,Qu G,Qu<|Ne.symm j,QC]
 .rw[Qu<|Ne.symm l,Qu I,Qu<|Ne.symm l,QC]
 .rw[Qu<|Ne.symm h,QC]
 .simp only[Xf,XO,or_false,not_or]at J
  obtain⟨r,U,S,R,O⟩:=J;rw[Qu r,Qu O,Qu r,Qu R,Qu r,Qu S,Qu r,Qu U,Qu r,Qu r]
inductive R_hpast (CH:Addr):List OT->(OT->Prop)->Prop
 |mk {N:HandS} {t:Int} (h:N.now<=t):R_hpast CH [.zow<|QW CH N,.fz<|.int t] (fun r=>r=.fz .none)
inductive X_hpast (CH:Addr):List OT->(Unit->Prop)->Prop
 |mk {N:HandS} {t:Int} (h:t<N.now):X_hpast CH [.zow<|QW CH N,.fz<|.int t] (fun _=>True)
def Ze4:Qp Zaw Zaw (Q2 KU):=by walk_at"p"
def CV (T:Bl mg) (k:HandC K CH) (j:GN K mg "NoTime" ct) (D:Mf K CH "refuse_past" "Hand.refuse_past" KU Zaw):VI P w K mg base CH "refuse_past" Zaw 1 (VN K ct Yc (R_hpast CH)<|X_hpast CH):=by
 refine D.evZ Ze4 (fun g e h=>by cases h;rfl) (fun g e h=>by cases h;rfl) (by decide) (fun f i A a s H n g e l d h=>?_) (fun f i A a s F H n g e l d m h=>?_)
 .cases h with
  |@mk N t h =>
    refine⟨_,(Q5<|Z0 (ZX Wg (pv 1) (QX (pv 0) rfl)<|ZH _) (Q5<|K6 j d<|Qo Z1 Qq) Z3),?_⟩;show Q0 K _ [some _,some _] _
    walk_at"x"
    exact ZB (b:=false) (Zk.cast (ZW<|Yn (Qt rfl)<|G6 k rfl)<|XT<|by omega) (by rintro⟨⟩) (fun _=>ZD rfl)
 .cases h with
  |@mk N t h =>
    refine⟨_,(Q5<|Z0 (ZX Wg (pv 1) (QX (pv 0) rfl)<|ZH _) (Q5<|K6 j d<|Qo Z1 Qq) Z3),?_⟩;show EvZ K F H _ [some<|.zow<|QW CH N,some<|.fz<|.int t]
    walk_at"x"
    exact Du (b:=true) (Zk.cast (ZW<|Yn (Qt rfl)<|G6 k rfl)<|Wv h) (fun _=>Pn ZE trivial m) (by rintro⟨⟩)
inductive R_withw:List OT->OT->Prop
 |mk {g:Gs} {z:Int}:R_withw [.fz<|QK g,.fz<|.int z] (.fz<|QK { g with want:=z })
def OU:Qp ZaL ZaL (Q2 K1):=by walk_at"p"
def Ag (T:Bl mg) (D:Df K mg "with_want" K1 ZaL):QD P w K mg base "with_want" ZaL 1 (QS (K:=K) R_withw):=by
 refine D.ev OU (fun c r h=>by cases h;rfl) (fun _ _ _ _ s H E c r f h=>?_)
 cases h with
 |@mk g z =>
   refine⟨_,(Q5<|QU<|Zu<|Qo (QJ QI (pv 0) Qv)<|Qo (QJ QI (pv 0) Qv)<|Qo (QJ QI (pv 0) Qv)<|Qo (pv 1)<|Qo (QJ QI (pv 0) Qv) Qq),?_⟩;show Q0 K _ [some _,some _] _
   walk_at"x"
   have a:∀{b:Q9} {n:Int} {d:PyData},b[0]?=some (some<|.fz<|QK g)->atI [.int (g.line:Int),.int (g.first:Int),.int (g.last:Int),.int g.want,.int g.most] n=some d->Qs K (tOp (rIx K) (QB 0)<|tC<|.int n) b d:=fun e h=>V6 (Qt e) Q1 h;exact Zq (V5 (ds:=[.int (g.line:Int),.int (g.first:Int),.int (g.last:Int),.int z,.int g.most]) (QF (a rfl rfl)<|QF (a rfl rfl)<|QF (a rfl rfl)<|QF (Qt rfl)<|QF (a rfl rfl) Zw)<|by show(5:Nat)<=1000;decide) rfl
inductive R_stay:List OT->OT->Prop
 |mk {g:Gs} {n:Nat}:R_stay [.fz<|QK g,.fz<|.int (n:Int)] (.fz<|QK { g with first:=max g.first n })
def Zg4:Qp Zao Zao (Q2 KF):=by walk_at"p"
def FD (T:Bl mg) (D:Df K mg "staying_from" KF Zao):QD P w K mg base "staying_from" Zao 1 (QS (K:=K) R_stay):=by
 refine D.ev Zg4 (fun c r h=>by cases h;rfl) (fun _ _ _ _ s H E c r f h=>?_)
 cases h with
 |@mk g n =>
   refine⟨_,(Q5<|QU<|Zu<|Qo (QJ QI (pv 0) Qv)<|Qo (Zj (Ld rfl) (by rfl) T.max D7<|Qo (QJ QI (pv 0) Qv)<|Qo (pv 1) Qq)<|Qo (QJ QI (pv 0) Qv)<|Qo (QJ QI (pv 0) Qv)<|Qo (QJ QI (pv 0) Qv) Qq),?_⟩;show Q0 K _ [some _,some _] _
   walk_at"x"
   have a:∀{b:Q9} {n:Int} {d:PyData},b[0]?=some (some<|.fz<|QK g)->atI [.int (g.line:Int),.int (g.first:Int),.int (g.last:Int),.int g.want,.int g.most] n=some d->Qs K (tOp (rIx K) (QB 0)<|tC<|.int n) b d:=fun e h=>V6 (Qt e) Q1 h;refine Zq (Qs.cast (V5 (ds:=[.int (g.line:Int),.int<|max (g.first:Int) (n:Int),.int (g.last:Int),.int g.want,.int g.most]) (QF (a rfl rfl)<|QF (Rb (a rfl rfl)<|Qt rfl)<|QF (a rfl rfl)<|QF (a rfl rfl)<|QF (a rfl rfl) Zw)<|by show(5:Nat)<=1000;decide) ?_) rfl;have e:max (g.first:Int) (n:Int)=((max g.first n:Nat):Int):=by omega
   rw[e];rfl
def Ba (N:HandS)(k:Nat)(z:Int):Prop := ∃(g:Gs) (x:Int),N.known[k]?=some (QK g)/\N.given[k]?=some x/\z=if (Y1 N.gone<|.inl (k:Int)).isSome then 0 else g.want-x
inductive R_hnum (CH:Addr):List OT->(OT->Prop)->Prop
 |mk {N:HandS} {k:Nat} (h:k<N.known.length):R_hnum CH [.zow<|QW CH N,.fz<|.int (k:Int)] (fun r=>r=.fz .none)
def ZdC:Qp Zah Zah (Q2 Na):=by walk_at"p"
def C1 (T:Bl mg) (g:HandC K CH) (D:Mf K CH "refuse_number" "Hand.refuse_number" Na Zah) (a:QD P w K mg base "is_whole_within" Zaq 2 (QS (K:=K) R_within)):Zn P w K mg base CH "refuse_number" Zah 3 (QY K<|R_hnum CH):=by
 refine D.evD ZdC (fun e d h=>by cases h;rfl) (fun _ _ _ _ s H E e d f h=>?_)
 cases h with
 |@mk N k h =>
   refine⟨_,(Q5<|Z0 (Y3<|Va<|QG a f<|Qo (pv 1)<|Qo Qv<|Qo (Zj Yk (by rfl) T.len Yj<|Qo (QX (pv 0) rfl) Qq) Qq) (Q5 BO) Z3),?_⟩;show Q0 K _ [some _,some _] _
   walk_at"x"
   refine ZB (b:=false) (Y5 (b:=true)<|ZN<|Qs.cast (Zb (Qw (Qt rfl)<|Qw Q1<|Qw (Gy<|GA g rfl) Q4) R_within.mk) ?_) (by rintro⟨⟩) (fun _=>ZD rfl);show PyData.bool (decide ((0:Int)<=(k:Int))&&decide ((k:Int)<(N.known.length:Int)))=_;rw[Wv (show(0:Int)<=(k:Int) by omega),Wv (show(k:Int)<(N.known.length:Int) by omega)]
   rfl
inductive R_hgot (CH:Addr):List OT->(OT->Prop)->Prop
 |mk {N:HandS} {k:Nat} {x:Int} (h:k<N.known.length) (hx:N.given[k]?=some x):R_hgot CH [.zow<|QW CH N,.fz<|.int (k:Int)] (fun r=>r=.fz (.int x))
def SE {N:HandS}{k:Nat}{x:Int}(a:N.given[k]?=some x):atI (N.given.map PyData.int) (k:Int)=some (.int x):=YG (by rw[Xt,a];rfl)
def O3:Qp Zah Zah (Q2 Ko):=by walk_at"p"
def Fw (T:Bl mg) (b:HandC K CH) (D:Mf K CH "got" "Hand.got" Ko Zah) (a:Zn P w K mg base CH "refuse_number" Zah 3 (QY K<|R_hnum CH)):Zn P w K mg base CH "got" Zah 4 (QY K<|R_hgot CH):=by
 refine D.evD O3 (fun d c h=>by cases h;rfl) (fun _ _ _ _ s H E d c f h=>?_)
 cases h with
 |@mk N k x h e =>
   refine⟨_,(Qz (Zi<|Uy a b f (pv 0)<|Qo (pv 1) Qq)
 (Q5<|QU<|QJ QI (QX (pv 0) rfl)<|pv 1)),?_⟩
   show Q0 K _ [some _,some _] _
   walk_at"x"
   refine QH (U3 (JP Rv rfl (Qw (Qt rfl) Q4)<|R_hnum.mk h) ?_);exact Zq (Yf (Tl b rfl) (Qt rfl)<|SE e) rfl
inductive R_hrest (CH:Addr):List OT->(OT->Prop)->Prop
 |mk {N:HandS} {k:Nat} {z:Int} (h:Ba N k z):R_hrest CH [.zow<|QW CH N,.fz<|.int (k:Int)] (fun r=>r=.fz (.int z))
def Zi9:Qp Zah Zah (Q2 K9):=by walk_at"p"
def Al (T:Bl mg) (a:HandC K CH) (D:Mf K CH "rest" "Hand.rest" K9 Zah) (e:Zn P w K mg base CH "refuse_number" Zah 3 (QY K<|R_hnum CH)) (f:QD P w K mg base "want_of" Zat 1 (QS (K:=K) R_want)):Zn P w K mg base CH "rest" Zah 4 (QY K<|R_hrest CH):=by
 refine D.evD Zi9 (fun l j h=>by cases h;rfl) (fun _ _ _ _ s H E l j d h=>?_)
 cases h with
 |@mk N k z h =>
   refine⟨_,(Qz (Zi<|Uy e a d (pv 0)<|Qo (pv 1) Qq)
 (Qz (Z0 (Uu<|DM (YD d) (pv 1)<|QX (pv 0) rfl) (Q5<|QU Qv) Z3)
 (Q5<|QU<|QN Yg (QG f d<|Qo (QJ QI (QX (pv 0) rfl)<|pv 1) Qq)<|QJ QI (QX (pv 0) rfl)<|pv 1))),?_⟩
   show Q0 K _ [some _,some _] _
   walk_at"x"
   obtain⟨g,x,i,m,rfl⟩:=h;have n:=(Xh.mp i).1;refine QH (U3 (JP Rv rfl (Qw (Qt rfl) Q4)<|R_hnum.mk n) ?_);refine QH (ZB (b:=(Y1 N.gone<|.inl (k:Int)).isSome) (ZW<|Ic (k:=.inl (k:Int)) a (Qt rfl) rfl) (fun c=>?_) fun c=>ZD ?_)
   .rw[c]
    exact Zq Q1 rfl
   .rw[c]
    exact Zq (Z4 (Zb (Qw (Yf (GA a rfl) (Qt rfl)<|YG i) Q4) R_want.mk)<|Yf (Tl a rfl) (Qt rfl)<|SE m) rfl
inductive R_hopen (CH:Addr):List OT->(OT->Prop)->Prop
 |mk {N:HandS} (rs:Qn) (h:∀k,k<N.known.length->Ba N k (rs k)) (l:N.known.length<=1000):R_hopen CH [.zow<|QW CH N] (fun r=>r=.ol (Vi<|(List.range N.known.length).filter fun k => !decide (rs k=0)))
def ZeZ:Qp Zaj Zaj (Q2 M1):=by walk_at"p"
def AF (T:Bl mg) (d:HandC K CH) (D:Mf K CH "open_ones" "Hand.open_ones" M1 Zaj) (b:Zn P w K mg base CH "rest" Zah 4 (QY K<|R_hrest CH)):Zn P w K mg base CH "open_ones" Zaj 5 (QY K<|R_hopen CH):=by
 refine D.evD ZeZ (fun g e h=>by cases h;rfl) (fun _ _ _ _ s H E g e m h=>?_)
 cases h with
 |@mk N j h l =>
   refine⟨_,(Q5<|QU<|W8 (NX:=Zaj) (sc:=Q2 M1) (N:=["number","self"]) (f:=[none,some 0]) rfl (by decide +kernel) rfl rfl (Y9 rfl T.range<|Qo (Zj Yk (by rfl) T.len Yj<|Qo (QX (pv 0) rfl) Qq) Qq) (fun _=>(Zr (i:=0) (show(["number","self"]:Qh).Nodup by decide +kernel) rfl Qa)) (fun _=>VM) (fun _=>(Ux<|ZX TC (Uy b d m (pv 1)<|Qo (pv 0) Qq) Qv<|ZH _)) fun _=>(pv 0)),?_⟩;show Q0 K _ [some _] _
   walk_at"x"
   refine Ja (Ur (xs:=List.range N.known.length) (enc:=fun(k:Nat)=>PyData.int (k:Int)) (h:=fun(k:Nat)=>PyData.int (k:Int)) (p:=fun k => !decide (j k=0)) ?ei (by rw[M5];exact l) ?el) rfl
   case ei =>
    refine EvI.cast (YL (Qw (Gy<|GA d rfl) Q4) (by rw[z62];omega)<|by rw[z62];omega) ?_;rw[XI];unfold ZQ;exact UI fun i _=>by rw[WO]
   case el =>
    intro k a c;have a:=XU.mp a;refine⟨_,Z8,?_⟩
    walk_at"e"
    exact⟨ZW<|NT (Jj Hj rfl (Qw (Qt rfl) Q4)<|R_hrest.mk<|h k a) Q1,fun _=>Qt rfl⟩
def stl (a:List Gs)(n:Nat)(b:Qn)(k:Nat):Gs:={ a.getD k default with first:=max (a.getD k default).first n,want:=b k }
inductive R_hstill (CH:Addr):List OT->(OT->Prop)->Prop
 |mk {N:HandS} {gs:List Gs} {n:Nat} (rs:Qn) (hk:N.known=gs.map QK) (hn:N.now=(n:Int)) (h:∀k,k<gs.length->Ba N k (rs k)) (l:gs.length<=900):R_hstill CH [.zow<|QW CH N] (fun r=>r=.ol ((List.range gs.length).map fun k=>QK<|stl gs n rs k))
def M0:Qp ["self","guests","number","guest"] Zaj (Q2 KZ):=by walk_at"p"
def EU (T:Bl mg) (g:HandC K CH) (D:Mf K CH "still_there" "Hand.still_there" KZ Zaj) (f:QD P w K mg base "with_want" ZaL 1 (QS (K:=K) R_withw)) (e:QD P w K mg base "staying_from" Zao 1 (QS (K:=K) R_stay)) (c:Zn P w K mg base CH "rest" Zah 4 (QY K<|R_hrest CH)):Zn P w K mg base CH "still_there" Zaj 5 (QY K<|R_hstill CH):=by
 refine D.evD M0 (fun q p h=>by cases h;rfl) (fun _ _ _ _ s H E q p b h=>?_)
 cases h with
 |@mk N a n r u t h l =>
   refine⟨_,(Qz (QR (i:=1) M0.nd rfl Qa<|ZC Qq)
 (Qz (V7 PassesOwn.never rfl (by exact(GG rfl T.enumerate<|Qo (QX (pv 0) rfl) Qq)) (JK (n:=2) rfl (Yr (Zr (i:=2) M0.nd rfl Qa)<|Yr (Zr (i:=3) M0.nd rfl Qa) JL))<|by exact(Q5<|Zi<|Ve PySem.F.plainAttrs_list PySem.F.slot_list_append PySem.F.type_list_append V9 (pv 1)<|Qo (QG f b<|Qo (QG e b<|Qo (pv 3)<|Qo (QX (pv 0) rfl) Qq)<|Qo (Uy c g b (pv 0)<|Qo (pv 2) Qq) Qq) Qq))
 (Q5<|QU<|pv 1))),?_⟩
   show Q0 K _ [some _,none,none,none] _
   walk_at"x"
   refine QH (VT (Vf (ds:=[]) Zw<|by decide) ?_)
   walk_at"d"
   refine QH (Hm (fun i=>[some<|.zow<|QW CH N,some<|.ol<|(List.range i).map fun k=>QK<|stl a n r k,none,none]) (Gx<|Qw (Qs.cast (GA g rfl) (show _=PyData.list (a.map QK) by rw[u])) Q4) ⟨rfl,rfl,trivial⟩ ?st ?fin)
   case st =>
    intro i d x;obtain⟨y,m,rfl⟩:=Mb x
    have j:i<a.length:=by
     have:=(Xh.mp m).1
     simpa using this
    obtain rfl:y=QK (a.getD i default):=by simpa [j] using m.symm
    refine⟨_,WW (ds:=[.int (i:Int),QK<|a.getD i default]) (Y6 Z8<|Y6 Z8 JG) rfl,?_⟩
    walk_at"d"
    refine UD rfl (Zb (Qw (Zb (Qw (Qt rfl)<|Qw (Qs.cast (G6 g rfl)<|by rw[t]) Q4) R_stay.mk)<|Qw (Jj Hj rfl (Qw (Qt rfl) Q4)<|R_hrest.mk<|h i j) Q4) R_withw.mk) (by rw[Xn,M5];omega) ⟨rfl,?_,trivial⟩;rw[YX,Xy];rfl
   case fin =>
    intro o v;refine DE v ?_;rw[Md,Xn];exact D2 rfl rfl
def hT (y:Yd)(n:Nat)(b:List Gs)(a:Ql)(c:Qk)(ms:List Zf):HandS:=⟨Za y,(n:Int),b.map QK,a,c.map fun(k:Nat)=>(.inl (k:Int),.bool true),ms⟩
def rsT (b:List Gs)(a:Ql)(c:Qk)(k:Nat):Int:=if k∈c then 0 else (b.getD k default).want-a.getD k 0
theorem Si (k:Nat):∀a:Qk,(Y1 (a.map fun(k:Nat)=>((.inl (k:Int):Key),PyData.bool true))<|.inl (k:Int)).isSome=decide (k∈a)
 |[]=>rfl
 |x::a=>by
   have b:=Si k a;unfold Y1 at b ⊢;rw[Xu,Xx];by_cases z:x=k
   .subst z
    simp
   .have c:¬((.inl (x:Int):Key)=.inl (k:Int)):=fun q=>z (by injection q with q;omega)
    simp only[c,decide_false];rw[b];simp[Ne.symm z]
def BC    (gl:gv.length=gs.length)(h:k<gs.length):Ba (hT y n gs gv go ms) k (rsT gs gv go k):=by
 refine⟨gs.getD k default,gv.getD k 0,by simp[hT,h],by simp[hT,h,gl],?_⟩;show _=if (Y1 (go.map fun(k:Nat)=>((.inl (k:Int):Key),PyData.bool true))<|.inl (k:Int)).isSome=true then _ else _;rw[Si];unfold rsT;simp only[decide_eq_true_eq]
def mT (n:Nat)(a:List Gs)(b:Ql)(c:Qk):List Gs:=(List.range a.length).map (stl a n<|rsT a b c)
def Ut (n:Nat)(a:List Gs)(b:Ql)(c:Qk):(mT n a b c).length=a.length:=by simp[mT]
def R7 (n:Nat)(a:List Gs)(b:Ql)(c:Qk):((List.range a.length).map fun k=>QK<|stl a n (rsT a b c) k)=(mT n a b c).map QK:=by
 unfold mT;rw[YM];rfl
def T5   (h:k<gs.length):(mT n gs gv go).getD k default=stl gs n (rsT gs gv go) k:=by simp[mT,h]
def N6   (c:∀x∈gs,G30 y x)(h0:∀k,k<gs.length->0<=rsT gs gv go k):∀x∈mT n gs gv go,GOk y x:=fun x b=>by
 obtain⟨k,a,rfl⟩:=XL.mp b;have a:=XU.mp a;have g:=(c (gs.getD k default)<|by simp[a]).ok;have d:=g.m1
 exact⟨g.ln,h0 k a,by show 0<=(gs.getD k default).most;omega⟩
inductive R_hcome:HandS->List OT->(OT->HandS->Prop)->Prop
 |mk {y:Yd} {n:Nat} {gs:List Gs} {gv:Ql} {go:Qk} {ms:List Zf} {g:Gs} (ok:y.Ok) (hg:∀x∈gs,G30 y x) (gk:G30 y g) (gl:gv.length=gs.length) (gn:n<=g.first) (h0:∀k,k<gs.length->0<=rsT gs gv go k) (l:gs.length<=7) (h:∀S,VS y (QL<|mT n gs gv go++[g]) S<=0):R_hcome (hT y n gs gv go ms) [.fz<|QK g] (fun r N'=>r=.fz (.int (gs.length:Int))/\N'=hT y n (gs++[g]) (gv++[0]) go ms)
inductive X_hcome (CH:Addr):List OT->(Qd->Prop)->Prop
 |mk {y:Yd} {n:Nat} {gs:List Gs} {gv:Ql} {go:Qk} {ms:List Zf} {g:Gs} (ok:y.Ok) (hg:∀x∈gs,G30 y x) (gk:G30 y g) (gl:gv.length=gs.length) (gn:n<=g.first) (h0:∀k,k<gs.length->0<=rsT gs gv go k) (l:gs.length<=7) {S:Qm} (h:0<VS y (QL<|mT n gs gv go++[g]) S):X_hcome CH [.zow<|QW CH<|hT y n gs gv go ms,.fz<|QK g] (fun d=>∃S,0<VS y (QL<|mT n gs gv go++[g]) S/\d=Vi (Wd (mT n gs gv go++[g]) S))
def KJ:Qp Zap Zap (Q2 GI):=by walk_at"p"
def CZ (T:Bl mg) (u:HandC K CH) (XR:XC K mg "NoRoom" YR CR fR) (D:Mf K CH "come" "Hand.come" GI Zap) (U:QD P w K mg base "is_guest" Zax 4 (QS (K:=K) R_isguest)) (Y:VI P w K mg base CH "refuse_past" Zaw 1 (VN K ct Yc (R_hpast CH)<|X_hpast CH)) (R:Jx P w K mg base "refuse_lack" Zaa 7 (spX K CR "some" R_refuse X_refuse)) (X:Zn P w K mg base CH "still_there" Zaj 5 (QY K<|R_hstill CH)) :
 VI P w K mg base CH "come" Zap 8 (No K CH CR "some" R_hcome<|X_hcome CH):=by
 have O:∀{z:Q9} {y:Yd} {n:Nat} {a:List Gs} {i:Ql} {j:Qk} {o:List Zf} {g:Gs} {E:XK},i.length=a.length->z[0]?=some (some<|.zow<|QW CH<|hT y n a i j o)->z[1]?=some (some<|.fz<|QK g)->a.length<=7->Qs K (tOp MJ (Vr CH "still_there" (QY K<|R_hstill CH) [] E (QB 0) QQ)<|J4<|QE (QB 1) QQ) z (.list<|(mT n a i j++[g]).map QK):=fun{z y n a i j o g E} gl e0 e1 l =>
  Qs.cast (EvO.fz<|Be (as:=(mT n a i j).map QK) (bs:=[QK g]) (Qs.cast (EvO.fz<|Zm.o<|JP SO e0 Q4<|R_hstill.mk (n:=n) (rsT a i j) rfl rfl (fun k hk=>BC gl hk)<|by omega)<|by rw[R7]) (EvO.fz<|Vf (QF (Qt e1) Zw) Jw)<|by rw[Xn,Ut];show a.length+1<=1000;omega) (by rw[Xy];rfl)
 have G:∀{z:Q9} {g:Gs},z[1]?=some (some<|.fz<|QK g)->Qs K (tOp (rIx K) (QB 1)<|tC<|.int 1) z (.int (g.first:Int)):=fun{z g} e=>V6 (ds:=[.int (g.line:Int),.int (g.first:Int),.int (g.last:Int),.int g.want,.int g.most]) (Qt e) Q1 rfl
 have Q:∀{y:Yd} {n:Nat} {a:List Gs} {i:Ql} {j:Qk} {g:Gs},(∀x∈a,G30 y x)->G30 y g->(∀k,k<a.length->0<=rsT a i j k)->∀x∈mT n a i j++[g],GOk y x:=fun J t L x I=>by
  rcases XB.mp I with I|I
  .exact N6 J L x I
  .rw[Xi.mp I];exact Fi t.ok
 refine D.evHX KJ (fun M Z Ψ h=>by cases h;rfl) (fun Z Φ h=>by cases h;rfl) (by decide) (fun f cdv A B s H RR v M Z Ψ p q h=>?_) (fun f cdv A B s F H RR Z Φ p q hq h=>?_)
 .cases h with
  |@mk y n a i j o g ok J t gl gn L l h =>
    refine⟨_,(Qz (Z0 (Y3<|Va<|QG U p<|Qo (QX (pv 0) rfl)<|Qo (pv 1) Qq) (PSs.nox<|Q5 BO) Z3)
 (Qz (Zi<|Wp Y u p (JA (C:=ct)) (pv 0)<|Qo (QJ QI (pv 1) Qv) Qq)
 (Qz (Zi<|BD R p (Gc q)<|Qo (QX (pv 0) rfl)<|Qo (QN Uq (YI X u p<|pv 0)<|ZC<|Qo (pv 1) Qq) Qq)
 (PSs.nox (Qz (Zi<|Ve PySem.F.plainAttrs_list PySem.F.slot_list_append PySem.F.type_list_append V9 (QX (pv 0) rfl)<|Qo (pv 1) Qq)
 (Qz (Zi<|Ve PySem.F.plainAttrs_list PySem.F.slot_list_append PySem.F.type_list_append V9 (QX (pv 0) rfl)<|Qo Qv Qq)
 (Q5<|QU<|QN Yg (Zj Yk (by rfl) T.len Yj<|Qo (QX (pv 0) rfl) Qq) Qv))))))),?_⟩
    show EvR K _ [some<|.own v<|QZ CH<|hT y n a i j o,some<|.fz<|QK g] _
    walk_at"x"
    refine ZS (fun m=>m=[some<|.own v<|QZ CH<|hT y n a i j o,some<|.fz<|QK g]) (ZB (b:=false) (HB 0 rfl (Y5 (b:=true)<|ZN<|Qs.cast (Zb (Qw (Qs.cast (Wr (N:=hT y n a i j o) u rfl) rfl)<|Qw (Qt rfl) Q4) R_isguest.mk)<|by rw[Mm t.ok t.w t.m])) (by rintro⟨⟩) fun _=>ZD rfl) ?_
    rintro _ rfl
    refine ZS (fun m=>m=[some<|.own v<|QZ CH<|hT y n a i j o,some<|.fz<|QK g]) (U3 (G4 0 rfl (fun r p=>by rw[p];exact U7 rfl)<|Kw G0 rfl (Qw (G rfl) Q4) (R_hpast.mk<|by show(n:Int)<=(g.first:Int);omega) B7) rfl) ?_
    rintro _ rfl
    refine ZS (fun m=>m=[some<|.own v<|QZ CH<|hT y n a i j o,some<|.fz<|QK g]) (U3 (G4 0 rfl (fun r p=>by rw[p];exact U7 rfl)<|E5 (Qw (Qs.cast (Wr (N:=hT y n a i j o) u rfl) rfl)<|Qw (O gl rfl rfl l) Q4) (R_refuse.mk ok (Q J t L) (by rw[Xo,Ut];show a.length+1<=8;omega) h) q) rfl) ?_
    rintro _ rfl
    refine ZS (fun m=>m=[some<|.own v<|QZ CH { hT y n a i j o with known:=a.map QK++[QK g] },some<|.fz<|QK g]) (Eb u rfl (Qt rfl) (by show(a.map QK).length<1000;rw[Xn];omega) rfl) ?_
    rintro _ rfl
    refine ZS (fun m=>m=[some<|.own v<|QZ CH<|hT y n (a++[g]) (i++[0]) j o,some<|.fz<|QK g]) (Eg (n:=0) u rfl Q1 (by show i.length<1000;omega) ?_) ?_
    .simp[hT]
    rintro _ rfl
    refine Bt (Qs.cast (BK (d:=.int ((a.length:Int)+1-1)) 0 rfl rfl (Z4 (Qs.cast (Gy<|GA (N:=hT y n (a++[g]) (i++[0]) j o) u rfl) ?_) Q1)) ?_) ⟨_,⟨rfl,rfl⟩,rfl⟩
    .show PyData.int (((a++[g]).map QK).length:Int)=_
     rw[Xn,Xo];rfl
    .rw[Int.add_sub_cancel]
 .cases h with
  |@mk y n a i j o g ok J t gl gn L l S h =>
    refine⟨_,(Qz (Z0 (Y3<|Va<|QG U p<|Qo (QX (pv 0) rfl)<|Qo (pv 1) Qq) (PSs.nox<|Q5 BO) Z3)
 (Qz (Zi<|Wp Y u p (JA (C:=ct)) (pv 0)<|Qo (QJ QI (pv 1) Qv) Qq)
 (Qz (Zi<|BD R p (Gc q)<|Qo (QX (pv 0) rfl)<|Qo (QN Uq (YI X u p<|pv 0)<|ZC<|Qo (pv 1) Qq) Qq)
 (PSs.nox (Qz (Zi<|Ve PySem.F.plainAttrs_list PySem.F.slot_list_append PySem.F.type_list_append V9 (QX (pv 0) rfl)<|Qo (pv 1) Qq)
 (Qz (Zi<|Ve PySem.F.plainAttrs_list PySem.F.slot_list_append PySem.F.type_list_append V9 (QX (pv 0) rfl)<|Qo Qv Qq)
 (Q5<|QU<|QN Yg (Zj Yk (by rfl) T.len Yj<|Qo (QX (pv 0) rfl) Qq) Qv))))))),?_⟩
    show EvZ K F H _ [some<|.zow<|QW CH<|hT y n a i j o,some<|.fz<|QK g]
    walk_at"x"
    refine D8 (ZB (b:=false) (Y5 (b:=true)<|ZN<|Qs.cast (Zb (Qw (Qs.cast (Wr (N:=hT y n a i j o) u rfl) rfl)<|Qw (Qt rfl) Q4) R_isguest.mk)<|by rw[Mm t.ok t.w t.m]) (by rintro⟨⟩) fun _=>ZD rfl) ?_;refine D8 (U3 (Kw G0 rfl (Qw (G rfl) Q4) (R_hpast.mk<|by show(n:Int)<=(g.first:Int);omega) B7) rfl) ?_;exact Bh (C5 (Qw (Qs.cast (Wr (N:=hT y n a i j o) u rfl) rfl)<|Qw (O gl rfl rfl l) Q4) (X_refuse.mk ok (Q J t L) (by rw[Xo,Ut];show a.length+1<=8;omega) h) q hq)
def gfD (f:Qn)(m:Nat):Zf:=((List.range m).filter fun k=>decide (f k > 0)).map fun(k:Nat)=>(.inl (k:Int),.int<|f k)
def gvT (a:Ql)(f:Qn)(m i:Nat):Ql:=(List.range m).map fun k=>a.getD k 0+if k<i then f k else 0
def Lz  (h:gv.length=m)(f:Qn):gvT gv f m 0=gv:=by
 subst h;apply List.ext_getElem?;intro i;by_cases a:i<gv.length
 .simp[gvT,a]
 .simp[gvT,a]
def AO  (h:m<=i):((gfD f m).any fun c=>decide (c.1=(.inl (i:Int):Key)))=false:=by
 rw[List.any_eq_false];intro x a;unfold gfD at a;obtain⟨k,b,rfl⟩:=XL.mp a;have b:=XU.mp (List.mem_filter.mp b).1;simp only[decide_eq_true_eq];intro z;injection z with z;omega
def FG  (h:f i > 0):Ul (gfD f i) (.inl (i:Int)) (.int<|f i)=gfD f (i+1):=by
 unfold Ul;rw[AO<|Xq _,Xc<|by decide];unfold gfD;rw[YX,UU,Xy];simp[h]
def FF  (h:¬f i > 0):gfD f (i+1)=gfD f i:=by
 unfold gfD;rw[YX,UU,Xy];simp[h]
def Fl (f:Qn)(m:Nat):(gfD f m).length<=m:=by
 unfold gfD;rw[Xn];exact X7 (List.length_filter_le _ _) (by simp)
def Cw  (b:i<m):(gvT gv f m i).set i (gv.getD i 0+f i)=gvT gv f m (i+1):=by
 apply List.ext_getElem?
 intro j;by_cases a:j<m
 .by_cases e:j=i
  .subst e
   rw[Xl<|by simp[gvT,a]];simp[gvT,a]
  .rw[Xs<|Ne.symm e]
   simp only[gvT,Xt,List.getElem?_range a,YW];congr 2
   by_cases c:j<i
   .rw[Xd c,Xd<|by omega]
   .rw[Xc c,Xc<|by omega]
 .rw[MA<|by simp[gvT];omega,MA<|by simp[gvT];omega]
def FA  (h:f i=0):gvT gv f m (i+1)=gvT gv f m i:=by
 unfold gvT;refine UI fun k _=>?_
 congr 1
 by_cases c:k<i
 .rw[Xd c,Xd<|by omega]
 .by_cases a:k=i
  .subst a
   rw[Xd<|by omega,Xc c,h]
  .rw[Xc c,Xc<|by omega]
def Rp  (a:k<m):(gvT gv f m i)[k]?=some (gv.getD k 0+if k<i then f k else 0):=by simp[gvT,a]
def Eo   (b:i<G.m):((Wh y G φ).map fun a=>PyData.list<|a.map PyData.int)[i]?=some (.list<|(List.range y.T).map fun t=>PyData.int<|Ze G φ t i):=by
 unfold Wh;simp[b]
inductive R_hturn:HandS->List OT->(OT->HandS->Prop)->Prop
 |mk {y:Yd} {n:Nat} {gs:List Gs} {gv:Ql} {go:Qk} {ms:List Zf} (ok:y.Ok) (hg:∀x∈gs,G30 y x) (gl:gv.length=gs.length) (hn:n<y.T) (h0:∀k,k<gs.length->0<=rsT gs gv go k) (l:gs.length<=8) (ml:ms.length<=8) :
  R_hturn (hT y n gs gv go ms) [] (fun r N'=>∃φ v,Ud y (QL<|mT n gs gv go) φ/\r=.own v (dkP<|gfD (Ze (QL<|mT n gs gv go) φ n) gs.length)/\N'=hT y (n+1) gs (gvT gv (Ze (QL<|mT n gs gv go) φ n) gs.length gs.length) go (ms++[gfD (Ze (QL<|mT n gs gv go) φ n) gs.length]))
inductive X_hturn (CH:Addr):List OT->(Unit->Prop)->Prop
 |mk {y:Yd} {gs:List Gs} {gv:Ql} {go:Qk} {ms:List Zf}:X_hturn CH [.zow<|QW CH<|hT y y.T gs gv go ms] (fun _=>True)
def WI:Qp ["self","filling","gifts","number","takes"] Zaj (Q2 K3):=by walk_at"p"
def CN (T:Bl mg) (J:HandC K CH) (D:Mf K CH "turn" "Hand.turn" K3 Zaj) (Xa4:VI P w K mg base CH "refuse_past" Zaw 1 (VN K ct Yc (R_hpast CH)<|X_hpast CH)) (Xa2:QD P w K mg base "turns_of" Zaz 1 (QS (K:=K) R_turns)) (Y:QD P w K mg base "best_filling" Zaa 6 (QY K R_great)) (Z:Zn P w K mg base CH "still_there" Zaj 5 (QY K<|R_hstill CH)) :
 VI P w K mg base CH "turn" Zaj 7 (Jy K CH ct Yc R_hturn<|X_hturn CH):=by
 refine D.evHX WI (fun M I Ψ h=>by cases h;rfl) (fun I Φ h=>by cases h;rfl) (by decide) (fun f cdv A R s H RR v M I Ψ E G h=>?_) (fun f cdv A R s F H RR I Φ E G hq h=>?_)
 .cases h with
  |@mk y n a e g q ok hg gl hn h0 l ml =>
    refine⟨_,(Qz (Zi<|Wp Xa4 J E (Gc G) (pv 0)<|Qo (QN Yg (QG Xa2 E<|Qo (QX (pv 0) rfl) Qq) Qv) Qq)
 (PSs.nox (Qz (QR (i:=1) WI.nd rfl Qa<|QG Y E<|Qo (QX (pv 0) rfl)<|Qo (YI Z J E<|pv 0) Qq)
 (Qz (QR (i:=2) WI.nd rfl Qa Hx)
 (Qz (V7 PassesOwn.never rfl (by exact(GG rfl T.enumerate<|Qo (pv 1) Qq)) (JK (n:=2) rfl (Yr (Zr (i:=3) WI.nd rfl Qa)<|Yr (Zr (i:=4) WI.nd rfl Qa) JL)) (by exact(Q5 (Z0 (ZX W6 (QJ QI (pv 4)<|QX (pv 0) rfl) Qv<|ZH _) (Qz (Hi (YD E) (pv 2) (pv 3) (QJ QI (pv 4)<|QX (pv 0) rfl) rfl)
 (Q5<|U0 (QX (pv 0) rfl) (pv 3) U4 (QJ QI (pv 4)<|QX (pv 0) rfl) Gp WF)) Z3))))
 (Qz (Zi<|Ve PySem.F.plainAttrs_list PySem.F.slot_list_append PySem.F.type_list_append V9 (QX (pv 0) rfl)<|Qo (pv 2) Qq)
 (Qz (Py (pv 0) Qv Rl)
 (Q5<|QU<|WJ HE (by rfl) T.dict Ho<|Qo (pv 2) Qq)))))))),?_⟩
    show EvR K _ [some<|.own v<|QZ CH<|hT y n a e g q,none,none,none,none] _
    walk_at"x"
    refine ZS (fun o=>o=[some<|.own v<|QZ CH<|hT y n a e g q,none,none,none,none]) (U3 (G4 0 rfl (fun r E=>by rw[E];exact U7 rfl)<|Kw G0 rfl (Qw (Z4 (Zb (Qw (Qs.cast (Wr (N:=hT y n a e g q) J rfl) rfl) Q4) R_turns.mk) Q1) Q4) (R_hpast.mk<|by show(n:Int)<=(y.T:Int)-1;omega) G) rfl) ?_
    rintro _ rfl
    refine ZS (fun o=>∃B,Ud y (QL<|mT n a e g) B/\o=[some<|.own v<|QZ CH<|hT y n a e g q,some<|.oll<|(Wh y (QL<|mT n a e g) B).map fun p=>p.map PyData.int,none,none,none]) (Wq (G4 0 rfl ?th<|Yq (Qw (Qs.cast (Wr (N:=hT y n a e g q) J rfl) rfl)<|Qw (Qs.cast (EvO.fz<|Zm.o<|JP SO rfl Q4<|R_hstill.mk (n:=n) (rsT a e g) rfl rfl (fun k hk=>BC gl hk)<|by omega)<|by rw[R7]) Q4)<|R_great.mk ok (N6 hg h0)<|by rw[Ut];exact l) ?_) ?_
    case th =>
     rintro r ⟨B,_,rfl⟩
     refine AL fun ds hd=>?_;obtain⟨p,_,rfl⟩:=XL.mp hd;intro d hd';obtain⟨x,_,rfl⟩:=XL.mp hd'
     exact⟨_,rfl⟩
    .rintro r ⟨B,z,rfl⟩
     exact⟨B,z,rfl⟩
    rintro _ ⟨B,z,rfl⟩
    refine LN 1 rfl rfl ?_
    walk_at"d"
    rw[YM];have Gm:(QL<|mT n a e g).m=a.length:=Ut n a e g;have fn:∀k,k<a.length->0<=Ze (QL<|mT n a e g) B n k:=fun k hk=>(z.1.tak (by rw[Gm];exact hk) hn).1;have O:∀i,i<a.length->((Wh y (QL<|mT n a e g) B).map (PyData.list ∘ fun p=>p.map PyData.int))[i]?=some (.list<|(List.range y.T).map fun t=>PyData.int<|Ze (QL<|mT n a e g) B t i):=fun i L=>Eo (by rw[Gm];exact L)
    have Q:((Wh y (QL<|mT n a e g) B).map (PyData.list ∘ fun p=>p.map PyData.int)).length=a.length:=by
     rw[Xn];unfold Wh;rw[Xn,M5,Gm]
    generalize ((Wh y (QL<|mT n a e g) B).map (PyData.list ∘ fun p=>p.map PyData.int))=u at O Q;refine ZS (fun o=>∃w,o=[some<|.own v<|QZ CH<|hT y n a e g q,some<|.fz<|.list u,some<|.own w<|dkP [],none,none]) (BG Ey fun w=>⟨w,rfl⟩) ?_
    rintro _ ⟨w,rfl⟩
    generalize hf:Ze (QL<|mT n a e g) B n=f at fn;have S:∀i,i<a.length->∃I,u[i]?=some (.list I)/\atI I (n:Int)=some (.int<|f i):=fun i L=>⟨_,O i L,by rw[Ra (by omega)<|by omega,XI,<- hf]⟩;refine ZS (fun o=>∃X U:Option OT,o=[some<|.own v<|QZ CH<|hT y n a (gvT e f a.length a.length) g q,some<|.fz<|.list u,some<|.own w<|dkP<|gfD f a.length,X,U]) (Yi (fun i o=>∃X U:Option OT,o=[some<|.own v<|QZ CH<|hT y n a (gvT e f a.length i) g q,some<|.fz<|.list u,some<|.own w<|dkP<|gfD f i,X,U]) (Gx<|Qw (Qt rfl) Q4) ⟨_,_,by rw[Lz gl];rfl⟩ ?st ?fin) ?_
    case fin =>
     intro o h;rw[Md,Q]at h;exact h
    case st =>
     rintro i d _ hd ⟨X,U,rfl⟩
     obtain⟨d1,e1,rfl⟩:=Mb hd
     have L:i<a.length:=by
      have:=(Xh.mp e1).1
      omega
     obtain⟨I,t1,t2⟩:=S i L;obtain rfl:d1=.list I:=by rw[e1]at t1;exact Option.some.inj t1
     refine⟨_,WW (ds:=[.int (i:Int),.list I]) (Y6 Z8<|Y6 Z8 JG) rfl,?_⟩
     walk_at"d"
     have tk:∀{ρ:Q9} {N:HandS},N.now=(n:Int)->ρ[0]?=some (some<|.zow<|QW CH N)->ρ[4]?=some (some<|.fz<|.list I)->Qs K (tOp (rIx K) (QB 4)<|ZT K (QB 0) "present") ρ (.int<|f i):=fun{ρ N} hn e0 e4=>Yf (Qt e4) (Qs.cast (G6 J e0)<|by rw[hn]) t2;refine ZB (b:=decide (f i > 0)) (Zk.cast (HB 0 rfl (ZW<|Yn (tk (N:=hT y n a (gvT e f a.length i) g q) rfl rfl rfl) Q1)) rfl) (fun c=>?_) (fun c=>ZD ?_)
     .have c:=XJ c
      refine QH (Ap (k:=.inl (i:Int)) (d:=.int (f i)) rfl (BK 0 rfl rfl (tk (N:=hT y n a (gvT e f a.length i) g q) rfl rfl rfl)) (Qt rfl) (M8 (Fl f i)<|Vc<|by omega) ?_)
      walk_at"d"
      rw[FG c];refine F7 (k:=(i:Int)) (m:=e.getD i 0+0) (n:=f i) J rfl (Qt rfl) (by omega) (by show(gvT e f a.length i)[(i:Int).toNat]?=_;rw[XI,Rp L,Xc<|Yt i]) (BK 0 rfl rfl (tk (N:=hT y n a (gvT e f a.length i) g q) rfl rfl rfl)) ?_;dsimp only[List.set,hT];rw[XI,UN,Cw L];exact⟨_,_,rfl⟩
     .have c:=UT c
      have fi:=fn i L;rw[FF c,FA (show f i=0 by omega)]
      exact⟨_,_,rfl⟩
    rintro _ ⟨X,U,rfl⟩
    refine CI (j:=2) (by decide) J rfl rfl (by show q.length<1000;omega) fun w'=>⟨_,⟨B,w',z,?_,?_⟩,rfl⟩
    .rw[hf]
    .rw[hf]
     rfl
 .cases h with
  |@mk y a e g q =>
    refine⟨_,(Qz (Zi<|Wp Xa4 J E (Gc G) (pv 0)<|Qo (QN Yg (QG Xa2 E<|Qo (QX (pv 0) rfl) Qq) Qv) Qq)
 (PSs.nox (Qz (QR (i:=1) WI.nd rfl Qa<|QG Y E<|Qo (QX (pv 0) rfl)<|Qo (YI Z J E<|pv 0) Qq)
 (Qz (QR (i:=2) WI.nd rfl Qa Hx)
 (Qz (V7 PassesOwn.never rfl (by exact(GG rfl T.enumerate<|Qo (pv 1) Qq)) (JK (n:=2) rfl (Yr (Zr (i:=3) WI.nd rfl Qa)<|Yr (Zr (i:=4) WI.nd rfl Qa) JL)) (by exact(Q5 (Z0 (ZX W6 (QJ QI (pv 4)<|QX (pv 0) rfl) Qv<|ZH _) (Qz (Hi (YD E) (pv 2) (pv 3) (QJ QI (pv 4)<|QX (pv 0) rfl) rfl)
 (Q5<|U0 (QX (pv 0) rfl) (pv 3) U4 (QJ QI (pv 4)<|QX (pv 0) rfl) Gp WF)) Z3))))
 (Qz (Zi<|Ve PySem.F.plainAttrs_list PySem.F.slot_list_append PySem.F.type_list_append V9 (QX (pv 0) rfl)<|Qo (pv 2) Qq)
 (Qz (Py (pv 0) Qv Rl)
 (Q5<|QU<|WJ HE (by rfl) T.dict Ho<|Qo (pv 2) Qq)))))))),?_⟩
    show EvZ K F H _ [some<|.zow<|QW CH<|hT y y.T a e g q,none,none,none,none]
    walk_at"x"
    exact Bh (P1 bkN G0 rfl (Qw (Z4 (Zb (Qw (Qs.cast (Wr (N:=hT y y.T a e g q) J rfl) rfl) Q4) R_turns.mk) Q1) Q4) (X_hpast.mk<|by show(y.T:Int)-1<(y.T:Int);omega) G hq)
theorem PF {f:Qn}{t:Nat}:∀{n:Nat},(∀k,k<n->0<=f k)->t<n->f t<=Q6 f n
 |0,_,h=>by omega
 |n+1,a,h=>by
   rw[Q6];have c:=So (f:=f) (n:=n) fun k b=>a k (by omega);have d:=a n (by omega)
   by_cases e:t=n
   .subst e;omega
   .have:=PF (f:=f) (n:=n) (fun k b=>a k<|by omega) (show t<n by omega)
    omega
def AS (f:Qn)(m:Nat):W7 (gfD f m):=fun x a=>by
 unfold gfD at a;obtain⟨k,_,rfl⟩:=XL.mp a
 exact⟨_,_,rfl,rfl⟩
def Co (a:Ql)(f:Qn)(m i:Nat):(gvT a f m i).length=m:=by simp[gvT]
def Fq  (a:k<m):(gvT gv f m m).getD k 0=gv.getD k 0+f k:=by
 rw[List.getD,Rp a,Xd a];rfl
def FU    (g:Ud y (QL<|mT n gs gv go) φ)(hn:n<y.T)(h:k<gs.length):Ze (QL<|mT n gs gv go) φ n k<=rsT gs gv go k:=by
 have F:=g.1;have d:k<(QL<|mT n gs gv go).m:=by show k<(mT n gs gv go).length;rw[Ut];exact h
 have a:=PF (f:=fun t=>Ze (QL<|mT n gs gv go) φ t k) (fun t i=>(F.tak d i).1) hn;have b:=F.total d;have c:=(F.want d).2
 have e:(QL<|mT n gs gv go).wa k=rsT gs gv go k:=by
  show((mT n gs gv go).getD k default).want=_
  rw[T5 h];rfl
 omega
def EJ    (b:Ud y (QL<|mT n gs gv go) φ)(hn:n<y.T):∀k,k<gs.length->0<=rsT gs (gvT gv (Ze (QL<|mT n gs gv go) φ n) gs.length gs.length) go k:=fun k d=>by
 have a:=FU b hn d;unfold rsT at a ⊢;by_cases c:k∈go
 .rw[Xd c];exact Jt _
 .rw[Xc c]at a ⊢
  rw[Fq d];omega
inductive R_hnow (CH:Addr):List OT->(OT->Prop)->Prop
 |mk {N:HandS}:R_hnow CH [.zow<|QW CH N] (fun r=>r=.fz (.int N.now))
def Oz:Qp Zaj Zaj (Q2 K8):=by walk_at"p"
def FN (T:Bl mg) (c:HandC K CH) (D:Mf K CH "now" "Hand.now" K8 Zaj):Zn P w K mg base CH "now" Zaj 1 (QY K<|R_hnow CH):=by
 refine D.evD Oz (fun b a h=>by cases h;rfl) (fun _ _ _ _ s H E b a d h=>?_)
 cases h with
 |@mk N =>
   refine⟨_,(Q5<|QU<|QX (pv 0) rfl),?_⟩;show Q0 K _ [some _] _
   walk_at"x"
   exact Zq (G6 c rfl) rfl
inductive R_hyard (CH:Addr):List OT->(OT->Prop)->Prop
 |mk {N:HandS}:R_hyard CH [.zow<|QW CH N] (fun r=>r=.fz N.yard)
def Zf9:Qp Zaj Zaj (Q2 KY):=by walk_at"p"
def CP (T:Bl mg) (c:HandC K CH) (D:Mf K CH "yard_now" "Hand.yard_now" KY Zaj):Zn P w K mg base CH "yard_now" Zaj 1 (QY K<|R_hyard CH):=by
 refine D.evD Zf9 (fun b a h=>by cases h;rfl) (fun _ _ _ _ s H E b a d h=>?_)
 cases h with
 |@mk N =>
   refine⟨_,(Q5<|QU<|QX (pv 0) rfl),?_⟩;show Q0 K _ [some _] _
   walk_at"x"
   exact Zq (Wr c rfl) rfl
inductive R_hgifts (CH:Addr):List OT->(OT->Prop)->Prop
 |mk {N:HandS} (h:N.made.length<=1000):R_hgifts CH [.zow<|QW CH N] (fun r=>∃v,r=.own v (dlP N.made))
def Zh5:Qp Zaj Zaj (Q2 Mr):=by walk_at"p"
def IH (T:Bl mg) (d:HandC K CH) (D:Mf K CH "gifts" "Hand.gifts" Mr Zaj):Zn P w K mg base CH "gifts" Zaj 1 (QY K<|R_hgifts CH):=by
 refine D.evD Zh5 (fun c b h=>by cases h;rfl) (fun _ _ _ _ s H E c b e h=>?_)
 cases h with
 |@mk N h =>
   refine⟨_,(Q5<|QU<|W8 (NX:=Zaj) (sc:=Q2 Mr) (N:=["gifts"]) (f:=[none]) rfl (by decide +kernel) rfl rfl (JM<|QX (pv 0) rfl) (fun _=>(Zr (i:=0) (show(["gifts"]:Qh).Nodup by decide +kernel) rfl Qa)) (fun _=>VM) (fun _=>WB) fun _=>(WJ HE (by rfl) T.dict Ho<|Qo (pv 0) Qq)),?_⟩;show Q0 K _ [some _] _
   walk_at"x"
   exact DV (Ez d rfl h (fun _=>rfl) (fun _=>rfl) fun _=>rfl) (fun r a=>a)
inductive X_hcomeG (CH:Addr):List OT->(Unit->Prop)->Prop
 |mk {y:Yd} {n:Nat} {gs:List Gs} {gv:Ql} {go:Qk} {ms:List Zf} {d:PyData} (h:VL y d=false):X_hcomeG CH [.zow<|QW CH<|hT y n gs gv go ms,.fz d] (fun _=>True)
def Om (T:Bl mg) (q:HandC K CH) (z:GN K mg "NoGuest" cg) (D:Mf K CH "come" "Hand.come" GI Zap) (m:QD P w K mg base "is_guest" Zax 4 (QS (K:=K) R_isguest)) (p:VI P w K mg base CH "refuse_past" Zaw 1 (VN K ct Yc (R_hpast CH)<|X_hpast CH)) (l:Jx P w K mg base "refuse_lack" Zaa 7 (spX K CR "some" R_refuse X_refuse)) (o:Zn P w K mg base CH "still_there" Zaj 5 (QY K<|R_hstill CH)) :
 VI P w K mg base CH "come" Zap 8 (VN K cg Yc (fun _ _=>False)<|X_hcomeG CH):=by
 refine D.evZ KJ (fun j i h=>h.elim) (fun j i h=>by cases h;rfl) (by decide) (fun f k A a s H B j i g e h=>h.elim) (fun f k A a s F H B j i g e x h=>?_)
 cases h with
 |@mk y n u t v r d h =>
   refine⟨_,(Qz (Z0 (Y3<|Va<|QG m g<|Qo (QX (pv 0) rfl)<|Qo (pv 1) Qq) (Q5<|K6 z e<|Qo Z1 Qq) Z3)
 (Qz (Zi<|Wp p q g (JA (C:=ct)) (pv 0)<|Qo (QJ QI (pv 1) Qv) Qq)
 (Qz (Zi<|BD l g (JA (C:=CR))<|Qo (QX (pv 0) rfl)<|Qo (QN Uq (YI o q g<|pv 0)<|ZC<|Qo (pv 1) Qq) Qq)
 (PSs.nox (Qz (Zi<|Ve PySem.F.plainAttrs_list PySem.F.slot_list_append PySem.F.type_list_append V9 (QX (pv 0) rfl)<|Qo (pv 1) Qq)
 (Qz (Zi<|Ve PySem.F.plainAttrs_list PySem.F.slot_list_append PySem.F.type_list_append V9 (QX (pv 0) rfl)<|Qo Qv Qq)
 (Q5<|QU<|QN Yg (Zj Yk (by rfl) T.len Yj<|Qo (QX (pv 0) rfl) Qq) Qv))))))),?_⟩
   show EvZ K F H _ [some<|.zow<|QW CH<|hT y n u t v r,some<|.fz d]
   walk_at"x"
   exact Bh (Du (b:=true) (Y5 (b:=false)<|ZN<|Qs.cast (Zb (Qw (Qs.cast (Wr (N:=hT y n u t v r) q rfl) rfl)<|Qw (Qt rfl) Q4) R_isguest.mk)<|by rw[h]) (fun _=>Pn ZE trivial x)<|by rintro⟨⟩)
inductive X_hcomeT (CH:Addr):List OT->(Unit->Prop)->Prop
 |mk {y:Yd} {n:Nat} {gs:List Gs} {gv:Ql} {go:Qk} {ms:List Zf} {g:Gs} (h:VL y (QK g)=true) (hp:g.first<n):X_hcomeT CH [.zow<|QW CH<|hT y n gs gv go ms,.fz<|QK g] (fun _=>True)
def Iv (T:Bl mg) (q:HandC K CH) (D:Mf K CH "come" "Hand.come" GI Zap) (m:QD P w K mg base "is_guest" Zax 4 (QS (K:=K) R_isguest)) (p:VI P w K mg base CH "refuse_past" Zaw 1 (VN K ct Yc (R_hpast CH)<|X_hpast CH)) (l:Jx P w K mg base "refuse_lack" Zaa 7 (spX K CR "some" R_refuse X_refuse)) (o:Zn P w K mg base CH "still_there" Zaj 5 (QY K<|R_hstill CH)) :
 VI P w K mg base CH "come" Zap 8 (VN K ct Yc (fun _ _=>False)<|X_hcomeT CH):=by
 refine D.evZ KJ (fun j i h=>h.elim) (fun j i h=>by cases h;rfl) (by decide) (fun f k A a s H z j i e d h=>h.elim) (fun f k A a s F H z j i e d x h=>?_)
 cases h with
 |@mk y n u t v r g h B =>
   refine⟨_,(Qz (Z0 (Y3<|Va<|QG m e<|Qo (QX (pv 0) rfl)<|Qo (pv 1) Qq) (PSs.nox<|Q5 BO) Z3)
 (Qz (Zi<|Wp p q e (Gc d) (pv 0)<|Qo (QJ QI (pv 1) Qv) Qq)
 (Qz (Zi<|BD l e (JA (C:=CR))<|Qo (QX (pv 0) rfl)<|Qo (QN Uq (YI o q e<|pv 0)<|ZC<|Qo (pv 1) Qq) Qq)
 (PSs.nox (Qz (Zi<|Ve PySem.F.plainAttrs_list PySem.F.slot_list_append PySem.F.type_list_append V9 (QX (pv 0) rfl)<|Qo (pv 1) Qq)
 (Qz (Zi<|Ve PySem.F.plainAttrs_list PySem.F.slot_list_append PySem.F.type_list_append V9 (QX (pv 0) rfl)<|Qo Qv Qq)
 (Q5<|QU<|QN Yg (Zj Yk (by rfl) T.len Yj<|Qo (QX (pv 0) rfl) Qq) Qv))))))),?_⟩
   show EvZ K F H _ [some<|.zow<|QW CH<|hT y n u t v r,some<|.fz<|QK g]
   walk_at"x"
   refine D8 (ZB (b:=false) (Y5 (b:=true)<|ZN<|Qs.cast (Zb (Qw (Qs.cast (Wr (N:=hT y n u t v r) q rfl) rfl)<|Qw (Qt rfl) Q4) R_isguest.mk)<|by rw[h]) (by rintro⟨⟩) fun _=>ZD rfl) ?_;exact Bh (P1 bkN G0 rfl (Qw (V6 (ds:=[.int (g.line:Int),.int (g.first:Int),.int (g.last:Int),.int g.want,.int g.most]) (Qt rfl) Q1 rfl) Q4) (X_hpast.mk<|by show(g.first:Int)<(n:Int);omega) d x)
def mk3 {a b1 b2:Bool}{k:Nat}(b:k<3):atI [PyData.bool a,.bool b1,.bool b2] (k:Int)=some (PyData.bool<|([a,b1,b2]:List Bool).getD k false):=by
 obtain rfl|rfl|rfl:k=0\/k=1\/k=2:=by omega
 all_goals rfl
def mkG (a:k<3):([true,false,false]:List Bool).getD k false=decide (k=0):=by
 obtain rfl|rfl|rfl:k=0\/k=1\/k=2:=by omega
 all_goals rfl
def mkT (a:k<3):([false,true,false]:List Bool).getD k false=decide (k=1):=by
 obtain rfl|rfl|rfl:k=0\/k=1\/k=2:=by omega
 all_goals rfl
inductive R_lcomeG (CH:Addr):List OT->(OT->Prop)->Prop
 | mk {y:Yd} {n:Nat} {gs:List Gs} {gv:Ql} {go:Qk} {ms:List Zf} {d:PyData} (h:VL y d=false):R_lcomeG CH [.zow<|QW CH<|hT y n gs gv go ms,.fz d] (fun r=>r=.fz (.str "guest"))
def ZJ:Qp Zab Zae (Q2 WG):=by walk_at"p"
def Iz (T:Bl mg) (Y:HandC K CH) (X:XC K mg "NoRoom" YR CR fR) (u:MG K mg YR CR cg ct) (a:MF K mg YR cg) (g:MD K mg CR cg ct q3 q4 q5 q6) (D:Df K mg "_law_come" WG Zae) (q:VI P w K mg base CH "come" Zap 8 (VN K cg Yc (fun _ _=>False)<|X_hcomeG CH)) :
 QD P w K mg base "_law_come" Zae 9 (QY K<|R_lcomeG CH):=by
 refine D.evD ZJ (fun G A h=>by cases h;rfl) (fun _ _ _ _ s H E G A t h=>?_);have hu:=t.units
 cases h with
 |@mk y n R Q S J d h =>
   refine⟨_,(Qz (QR (i:=2) ZJ.nd rfl Qa Z1)
 (Qz (Mh (j:=3) a.em rfl rfl rfl a.my ZJ.nd rfl (.inl rfl) (fun D I=>(Q5<|Zi<|Wp q Y t Ml (pv 0)<|Qo (pv 1) Qq)) (fun e I=>(Qz (QR (i:=4) ZJ.nd rfl (Or.inr rfl)<|ZC<|Qo (Zj (show Zl _ (.builtin "isinstance") (Vu K cg) from VU a.is) (by rfl) T.isi Vb<|Qo (pv 3)<|Qo (Z9 (v:=.ref _) rfl u.m1 rfl) Qq)<|Qo (Zj (show Zl _ (.builtin "isinstance") (Vu K cg) from VU a.is) (by rfl) T.isi Vb<|Qo (pv 3)<|Qo (Z9 (v:=.ref _) rfl u.m2 rfl) Qq)<|Qo (Zj (show Zl _ (.builtin "isinstance") (Vu K cg) from VU a.is) (by rfl) T.isi Vb<|Qo (pv 3)<|Qo (Z9 (v:=.ref _) rfl X.m rfl) Qq) Qq)
 (Qz (QR (i:=5) ZJ.nd rfl Qa<|Zj (show Zl _ (.builtin "isinstance") (Bc K cg) from RW a.is) (by rfl) T.isi Vb<|Qo (pv 3)<|Qo (Zu<|Qo (Z9 (v:=.ref _) rfl g.m3 rfl)<|Qo (Z9 (v:=.ref _) rfl g.m4 rfl)<|Qo (Z9 (v:=.ref _) rfl g.m5 rfl)<|Qo (Z9 (v:=.ref _) rfl g.m6 rfl) Qq) Qq)
 (Qz (QR (i:=2) ZJ.nd rfl Qa (show PE _ _ (tBM K "str" Uk _ _) from Ve PySem.F.plainAttrs_str PySem.F.slot_str_join PySem.F.type_str_join BB Z1<|Qo (Gi (NX:=Zab) (sc:=Q2 WG) (N:=Zan) (f:=[none,some 4]) (by decide +kernel) rfl rfl (Me (C:=cg) (e:=e) (by rfl) (by rfl) T.range<|Qo Qv Qq) (fun _=>(Zr (i:=0) (show(Zan:Qh).Nodup by decide +kernel) rfl Qa)) (fun _=>VM) (fun _=>(Ux<|Va<|QJ (show IxR _ (rIx K) from QI) (pv 1)<|pv 0)) fun _=>(QJ (show IxR _ (rIx K) from QI) (ZC<|Qo Z1<|Qo Z1<|Qo Z1 Qq)<|pv 0)) Qq))
 (Q5<|Z0 (PW.pt<|Gd (Va<|pv 5)<|Gj<|Y3<|Va<|Zj (show Zl _ (.builtin "isinstance") (Vu K cg) from VU a.is) (by rfl) T.isi Vb<|Qo (pv 3)<|Qo (JO (v:=.ty "ValueError") rfl T.ValueError Mw rfl) Qq) (Q5<|QR (i:=2) ZJ.nd rfl Qa Z1) Z3))))))
 (Q5<|QU<|pv 2))),?_⟩
   show Q0 K _ [some<|.zow<|QW CH<|hT y n R Q S J,some<|.fz d,none,none,none,none] _
   walk_at"x"
   refine QH (Z2 (d:=.str "in") ZE ?_)
   walk_at"d"
   apply QH
   apply Pq (C:=cg) (n:=6) (j:=3) (fun _=>True) (by decide)
   case hz =>
    intro E' F0 H0 F σ Z x St L;exact Hu bkN (i:=0) (F0:=F) (H0:=Z) B5 rfl (Qw (Qt rfl) Q4) (X_hcomeG.mk h) Mi (fun F' r e o d O B M U=>L F' r e o d O B M U) (Qy.refl St.sub) St
   case hth =>
    intro e;dsimp only[List.set,List.replicate];refine QH (VT (Vf (ds:=[.bool true,.bool false,.bool false]) (QF (Jb (c:=.ref cg) rfl rfl a.k1)<|QF (Jb (c:=.ref ct) rfl rfl g.gt)<|QF (Jb (c:=.ref CR) rfl rfl g.gr) Zw)<|by show(3:Nat)<=1000;decide) ?_)
    walk_at"d"
    refine We 4 rfl ?_
    walk_at"d"
    refine QH (Z2 (d:=.bool false) (RJ (cs:=[q3,q4,q5,q6]) rfl (by show(4:Nat)<=1000;decide) g.ga) ?_)
    walk_at"d"
    refine QH (Z2 (d:=.str "guest") (P9 3 rfl (Qs.cast (DY (z := "") (ys:=Zat) ZE (EvO.fz<|EvO.cast (Ur (xs:=List.range 3) (enc:=fun(k:Nat)=>PyData.int (k:Int)) (h:=fun(k:Nat)=>([.str "guest",.str "time",.str "room"]:Qd).getD k .none) (p:=fun k=>decide (k=0)) ?ei (by decide) ?el) rfl)<|by decide) rfl)) ?_)
    case ei=>exact EvI.cast (Pi (i:=3) rfl (Qw Q1 Q4) (by rw[z62];decide)<|by rw[z62];decide) rfl
    case el =>
     intro k l c;have l:=XU.mp l;refine⟨_,Z8,?_⟩
     walk_at"e"
     refine⟨Zk.cast (ZN<|Yf (Qt rfl) (Qt rfl)<|mk3 l)<|mkG l,fun m=>?_⟩;have m:=XJ m;subst m;exact Yf (EvO.fz<|Vf (ds:=[.str "guest",.str "time",.str "room"]) (QF ZE<|QF ZE<|QF ZE Zw)<|by show(3:Nat)<=1000;decide) (Qt rfl) rfl
    walk_at"d"
    refine ZB (b:=false) ?c (by rintro⟨⟩) (fun _=>?_)
    case c=>exact Zk.cast (UX (b:=false) (c:=false) (ZN<|Qt rfl) fun _=>Y5 (b:=true)<|ZN<|Jb rfl rfl a.k2) rfl
    refine ZD ?_
    walk_at"d"
    exact Zq (Qt rfl) rfl
inductive R_lcomeT (CH:Addr):List OT->(OT->Prop)->Prop
 | mk {y:Yd} {n:Nat} {gs:List Gs} {gv:Ql} {go:Qk} {ms:List Zf} {g:Gs} (h:VL y (QK g)=true) (hp:g.first<n):R_lcomeT CH [.zow<|QW CH<|hT y n gs gv go ms,.fz<|QK g] (fun r=>r=.fz (.str "time"))
def IY (T:Bl mg) (UH:HandC K CH) (Z:XC K mg "NoRoom" YR CR fR) (A:MG K mg YR CR cg ct) (a:MF K mg YR ct) (l:MD K mg CR cg ct q3 q4 q5 q6) (D:Df K mg "_law_come" WG Zae) (r:VI P w K mg base CH "come" Zap 8 (VN K ct Yc (fun _ _=>False)<|X_hcomeT CH)) :
 QD P w K mg base "_law_come" Zae 9 (QY K<|R_lcomeT CH):=by
 refine D.evD ZJ (fun I B h=>by cases h;rfl) (fun _ _ _ _ s H E I B u h=>?_);have hu:=u.units
 cases h with
 |@mk y n U S X L g h O =>
   refine⟨_,(Qz (QR (i:=2) ZJ.nd rfl Qa Z1)
 (Qz (Mh (j:=3) a.em rfl rfl rfl a.my ZJ.nd rfl (.inl rfl) (fun D J=>(Q5<|Zi<|Wp r UH u Ml (pv 0)<|Qo (pv 1) Qq)) (fun e J=>(Qz (QR (i:=4) ZJ.nd rfl (Or.inr rfl)<|ZC<|Qo (Zj (show Zl _ (.builtin "isinstance") (Vu K ct) from VU a.is) (by rfl) T.isi Vb<|Qo (pv 3)<|Qo (Z9 (v:=.ref _) rfl A.m1 rfl) Qq)<|Qo (Zj (show Zl _ (.builtin "isinstance") (Vu K ct) from VU a.is) (by rfl) T.isi Vb<|Qo (pv 3)<|Qo (Z9 (v:=.ref _) rfl A.m2 rfl) Qq)<|Qo (Zj (show Zl _ (.builtin "isinstance") (Vu K ct) from VU a.is) (by rfl) T.isi Vb<|Qo (pv 3)<|Qo (Z9 (v:=.ref _) rfl Z.m rfl) Qq) Qq)
 (Qz (QR (i:=5) ZJ.nd rfl Qa<|Zj (show Zl _ (.builtin "isinstance") (Bc K ct) from RW a.is) (by rfl) T.isi Vb<|Qo (pv 3)<|Qo (Zu<|Qo (Z9 (v:=.ref _) rfl l.m3 rfl)<|Qo (Z9 (v:=.ref _) rfl l.m4 rfl)<|Qo (Z9 (v:=.ref _) rfl l.m5 rfl)<|Qo (Z9 (v:=.ref _) rfl l.m6 rfl) Qq) Qq)
 (Qz (QR (i:=2) ZJ.nd rfl Qa (show PE _ _ (tBM K "str" Uk _ _) from Ve PySem.F.plainAttrs_str PySem.F.slot_str_join PySem.F.type_str_join BB Z1<|Qo (Gi (NX:=Zab) (sc:=Q2 WG) (N:=Zan) (f:=[none,some 4]) (by decide +kernel) rfl rfl (Me (C:=ct) (e:=e) (by rfl) (by rfl) T.range<|Qo Qv Qq) (fun _=>(Zr (i:=0) (show(Zan:Qh).Nodup by decide +kernel) rfl Qa)) (fun _=>VM) (fun _=>(Ux<|Va<|QJ (show IxR _ (rIx K) from QI) (pv 1)<|pv 0)) fun _=>(QJ (show IxR _ (rIx K) from QI) (ZC<|Qo Z1<|Qo Z1<|Qo Z1 Qq)<|pv 0)) Qq))
 (Q5<|Z0 (PW.pt<|Gd (Va<|pv 5)<|Gj<|Y3<|Va<|Zj (show Zl _ (.builtin "isinstance") (Vu K ct) from VU a.is) (by rfl) T.isi Vb<|Qo (pv 3)<|Qo (JO (v:=.ty "ValueError") rfl T.ValueError Mw rfl) Qq) (Q5<|QR (i:=2) ZJ.nd rfl Qa Z1) Z3))))))
 (Q5<|QU<|pv 2))),?_⟩
   show Q0 K _ [some<|.zow<|QW CH<|hT y n U S X L,some<|.fz<|QK g,none,none,none,none] _
   walk_at"x"
   refine QH (Z2 (d:=.str "in") ZE ?_)
   walk_at"d"
   apply QH
   apply Pq (C:=ct) (n:=6) (j:=3) (fun _=>True) (by decide)
   case hz =>
    intro E' F0 H0 F σ H' x St M;exact Hu bkN (i:=0) (F0:=F) (H0:=H') B5 rfl (Qw (Qt rfl) Q4) (X_hcomeT.mk h O) Mi (fun F' t e q d R G Q Y=>M F' t e q d R G Q Y) (Qy.refl St.sub) St
   case hth =>
    intro e;dsimp only[List.set,List.replicate];refine QH (VT (Vf (ds:=[.bool false,.bool true,.bool false]) (QF (Jb (c:=.ref cg) rfl rfl l.tg)<|QF (Jb (c:=.ref ct) rfl rfl a.k1)<|QF (Jb (c:=.ref CR) rfl rfl l.tr) Zw)<|by show(3:Nat)<=1000;decide) ?_)
    walk_at"d"
    refine We 4 rfl ?_
    walk_at"d"
    refine QH (Z2 (d:=.bool false) (RJ (cs:=[q3,q4,q5,q6]) rfl (by show(4:Nat)<=1000;decide) l.ta) ?_)
    walk_at"d"
    refine QH (Z2 (d:=.str "time") (P9 3 rfl (Qs.cast (DY (z := "") (ys:=["time"]) ZE (EvO.fz<|EvO.cast (Ur (xs:=List.range 3) (enc:=fun(k:Nat)=>PyData.int (k:Int)) (h:=fun(k:Nat)=>([.str "guest",.str "time",.str "room"]:Qd).getD k .none) (p:=fun k=>decide (k=1)) ?ei (by decide) ?el) rfl)<|by decide) rfl)) ?_)
    case ei=>exact EvI.cast (Pi (i:=3) rfl (Qw Q1 Q4) (by rw[z62];decide)<|by rw[z62];decide) rfl
    case el =>
     intro k m c;have m:=XU.mp m;refine⟨_,Z8,?_⟩
     walk_at"e"
     refine⟨Zk.cast (ZN<|Yf (Qt rfl) (Qt rfl)<|mk3 m)<|mkT m,fun o=>?_⟩;have o:=XJ o;subst o;exact Yf (EvO.fz<|Vf (ds:=[.str "guest",.str "time",.str "room"]) (QF ZE<|QF ZE<|QF ZE Zw)<|by show(3:Nat)<=1000;decide) (Qt rfl) rfl
    walk_at"d"
    refine ZB (b:=false) ?c (by rintro⟨⟩) (fun _=>?_)
    case c=>exact Zk.cast (UX (b:=false) (c:=false) (ZN<|Qt rfl) fun _=>Y5 (b:=true)<|ZN<|Jb rfl rfl a.k2) rfl
    refine ZD ?_
    walk_at"d"
    exact Zq (Qt rfl) rfl
inductive R_lcomeI:HandS->List OT->(OT->HandS->Prop)->Prop
 | mk {y:Yd} {n:Nat} {gs:List Gs} {gv:Ql} {go:Qk} {ms:List Zf} {g:Gs} (ok:y.Ok) (hg:∀x∈gs,G30 y x) (gk:G30 y g) (gl:gv.length=gs.length) (gn:n<=g.first) (h0:∀k,k<gs.length->0<=rsT gs gv go k) (l:gs.length<=7) (h:∀S,VS y (QL<|mT n gs gv go++[g]) S<=0):R_lcomeI (hT y n gs gv go ms) [.fz<|QK g] (fun r N'=>r=.fz (.str "in")/\N'=hT y n (gs++[g]) (gv++[0]) go ms)
inductive X_lcomeR (CH:Addr):List OT->(OT->Prop)->Prop
 | mk {y:Yd} {n:Nat} {gs:List Gs} {gv:Ql} {go:Qk} {ms:List Zf} {g:Gs} (ok:y.Ok) (hg:∀x∈gs,G30 y x) (gk:G30 y g) (gl:gv.length=gs.length) (gn:n<=g.first) (h0:∀k,k<gs.length->0<=rsT gs gv go k) (l:gs.length<=7) {S:Qm} (h:0<VS y (QL<|mT n gs gv go++[g]) S):X_lcomeR CH [.zow<|QW CH<|hT y n gs gv go ms,.fz<|QK g] (fun r=>r=.fz (.str "room"))
def mkR (a:k<3):([false,false,true]:List Bool).getD k false=decide (k=2):=by
 obtain rfl|rfl|rfl:k=0\/k=1\/k=2:=by omega
 all_goals rfl
def CL (T:Bl mg) (UH:HandC K CH) (XR:XC K mg "NoRoom" YR CR fR) (a:MG K mg YR CR cg ct) (m:MD K mg CR cg ct q3 q4 q5 q6) (D:Df K mg "_law_come" WG Zae) (J:VI P w K mg base CH "come" Zap 8 (No K CH CR "some" R_hcome<|X_hcome CH)) :
 QD P w K mg base "_law_come" Zae 9 (GT K CH R_lcomeI<|X_lcomeR CH):=by
 refine D.evH2 ZJ (fun M O Ψ h=>by cases h;rfl) (fun O Φ h=>by cases h;rfl) (by decide) (fun f cdv A R s H E v M O Ψ u h=>?_) (fun _ _ _ _ s H E O Φ u h=>?_)
 .have hu:=u.units
  cases h with
  |@mk y n G B I t g U X gk gl gn Z l h =>
    refine⟨_,(Qz (QR (i:=2) ZJ.nd rfl Qa Z1)
 (Qz (Mh (j:=3) a.em rfl rfl rfl a.my ZJ.nd rfl (.inl rfl) (fun D Q=>(Q5<|Zi<|Wp J UH u Ml (pv 0)<|Qo (pv 1) Qq)) (fun e Q=>(Qz (QR (i:=4) ZJ.nd rfl (Or.inr rfl)<|ZC<|Qo (Zj (show Zl _ (.builtin "isinstance") (Vu K CR) from VU a.is) (by rfl) T.isi Vb<|Qo (pv 3)<|Qo (Z9 (v:=.ref _) rfl a.m1 rfl) Qq)<|Qo (Zj (show Zl _ (.builtin "isinstance") (Vu K CR) from VU a.is) (by rfl) T.isi Vb<|Qo (pv 3)<|Qo (Z9 (v:=.ref _) rfl a.m2 rfl) Qq)<|Qo (Zj (show Zl _ (.builtin "isinstance") (Vu K CR) from VU a.is) (by rfl) T.isi Vb<|Qo (pv 3)<|Qo (Z9 (v:=.ref _) rfl XR.m rfl) Qq) Qq)
 (Qz (QR (i:=5) ZJ.nd rfl Qa<|Zj (show Zl _ (.builtin "isinstance") (GS K CR) from RF a.is) (by rfl) T.isi Vb<|Qo (pv 3)<|Qo (Zu<|Qo (Z9 (v:=.ref _) rfl m.m3 rfl)<|Qo (Z9 (v:=.ref _) rfl m.m4 rfl)<|Qo (Z9 (v:=.ref _) rfl m.m5 rfl)<|Qo (Z9 (v:=.ref _) rfl m.m6 rfl) Qq) Qq)
 (Qz (QR (i:=2) ZJ.nd rfl Qa (show PE _ _ (tBM K "str" Uk _ _) from Ve PySem.F.plainAttrs_str PySem.F.slot_str_join PySem.F.type_str_join BB Z1<|Qo (Gi (NX:=Zab) (sc:=Q2 WG) (N:=Zan) (f:=[none,some 4]) (by decide +kernel) rfl rfl (Me (C:=CR) (e:=e) rfl rfl T.range<|Qo Qv Qq) (fun _=>(Zr (i:=0) (show(Zan:Qh).Nodup by decide +kernel) rfl Qa)) (fun _=>VM) (fun _=>(Ux<|Va<|QJ (show IxR _ (rIx K) from QI) (pv 1)<|pv 0)) fun _=>(QJ (show IxR _ (rIx K) from QI) (ZC<|Qo Z1<|Qo Z1<|Qo Z1 Qq)<|pv 0)) Qq))
 (Q5<|Z0 (PW.pt<|Gd (Va<|pv 5)<|Gj<|Y3<|Va<|Zj (show Zl _ (.builtin "isinstance") (Vu K CR) from VU a.is) (by rfl) T.isi Vb<|Qo (pv 3)<|Qo (JO (v:=.ty "ValueError") rfl T.ValueError Mw rfl) Qq) (Q5<|QR (i:=2) ZJ.nd rfl Qa Z1) Z3))))))
 (Q5<|QU<|pv 2))),?_⟩
    show EvR K _ [some<|.own v<|QZ CH<|hT y n G B I t,some<|.fz<|QK g,none,none,none,none] _
    walk_at"x"
    refine ZS (fun o=>o=[some<|.own v<|QZ CH<|hT y n G B I t,some<|.fz<|QK g,some<|.fz<|.str "in",none,none,none]) (Z2 ZE rfl) ?_
    rintro _ rfl
    refine ZS (fun o=>o=[some<|.own v<|QZ CH<|hT y n (G++[g]) (B++[0]) I t,some<|.fz<|QK g,some<|.fz<|.str "in",none,none,none]) (Cv fun E'=>Pw B5 rfl (Qw (Qt rfl) Q4) (R_hcome.mk U X gk gl gn Z l h) Mi ?_) ?_
    .rintro r N' ⟨rfl,rfl⟩
     rfl
    rintro _ rfl
    exact Ci (j:=2) (by decide) rfl ⟨_,⟨rfl,rfl⟩,rfl⟩
 .have hu:=u.units
  cases h with
  |@mk y n G B I t g U X gk gl gn Z l S h =>
    refine⟨_,(Qz (QR (i:=2) ZJ.nd rfl Qa Z1)
 (Qz (Mh (j:=3) a.em rfl rfl rfl a.my ZJ.nd rfl (.inl rfl) (fun D Q=>(Q5<|Zi<|Wp J UH u Ml (pv 0)<|Qo (pv 1) Qq)) (fun e Q=>(Qz (QR (i:=4) ZJ.nd rfl (Or.inr rfl)<|ZC<|Qo (Zj (show Zl _ (.builtin "isinstance") (Vu K CR) from VU a.is) (by rfl) T.isi Vb<|Qo (pv 3)<|Qo (Z9 (v:=.ref _) rfl a.m1 rfl) Qq)<|Qo (Zj (show Zl _ (.builtin "isinstance") (Vu K CR) from VU a.is) (by rfl) T.isi Vb<|Qo (pv 3)<|Qo (Z9 (v:=.ref _) rfl a.m2 rfl) Qq)<|Qo (Zj (show Zl _ (.builtin "isinstance") (Vu K CR) from VU a.is) (by rfl) T.isi Vb<|Qo (pv 3)<|Qo (Z9 (v:=.ref _) rfl XR.m rfl) Qq) Qq)
 (Qz (QR (i:=5) ZJ.nd rfl Qa<|Zj (show Zl _ (.builtin "isinstance") (GS K CR) from RF a.is) (by rfl) T.isi Vb<|Qo (pv 3)<|Qo (Zu<|Qo (Z9 (v:=.ref _) rfl m.m3 rfl)<|Qo (Z9 (v:=.ref _) rfl m.m4 rfl)<|Qo (Z9 (v:=.ref _) rfl m.m5 rfl)<|Qo (Z9 (v:=.ref _) rfl m.m6 rfl) Qq) Qq)
 (Qz (QR (i:=2) ZJ.nd rfl Qa (show PE _ _ (tBM K "str" Uk _ _) from Ve PySem.F.plainAttrs_str PySem.F.slot_str_join PySem.F.type_str_join BB Z1<|Qo (Gi (NX:=Zab) (sc:=Q2 WG) (N:=Zan) (f:=[none,some 4]) (by decide +kernel) rfl rfl (Me (C:=CR) (e:=e) rfl rfl T.range<|Qo Qv Qq) (fun _=>(Zr (i:=0) (show(Zan:Qh).Nodup by decide +kernel) rfl Qa)) (fun _=>VM) (fun _=>(Ux<|Va<|QJ (show IxR _ (rIx K) from QI) (pv 1)<|pv 0)) fun _=>(QJ (show IxR _ (rIx K) from QI) (ZC<|Qo Z1<|Qo Z1<|Qo Z1 Qq)<|pv 0)) Qq))
 (Q5<|Z0 (PW.pt<|Gd (Va<|pv 5)<|Gj<|Y3<|Va<|Zj (show Zl _ (.builtin "isinstance") (Vu K CR) from VU a.is) (by rfl) T.isi Vb<|Qo (pv 3)<|Qo (JO (v:=.ty "ValueError") rfl T.ValueError Mw rfl) Qq) (Q5<|QR (i:=2) ZJ.nd rfl Qa Z1) Z3))))))
 (Q5<|QU<|pv 2))),?_⟩
    show Q0 K _ [some<|.zow<|QW CH<|hT y n G B I t,some<|.fz<|QK g,none,none,none,none] _
    walk_at"x"
    refine QH (Z2 (d:=.str "in") ZE ?_)
    walk_at"d"
    apply QH
    apply Ib (C:=CR) (f := "some") (n:=6) (j:=3) (fun d=>True) (by decide)
    case hz =>
     intro E' F0 H0 F σ H' x St kk;exact Ei bkL (i:=0) (F0:=F) (H0:=H') B5 rfl (Qw (Qt rfl) Q4) (X_hcome.mk U X gk gl gn Z l h) Mi (fun F' H'' e dct d hd x' he fl=>kk F' H'' e dct d trivial x' he fl) (Qy.refl St.sub) St
    case hth =>
     rintro dd e dx q _
     dsimp only[List.set,List.replicate];refine QH (VT (Vf (ds:=[.bool false,.bool false,.bool true]) (QF (Bs (c:=.ref cg) rfl rfl a.kg)<|QF (Bs (c:=.ref ct) rfl rfl a.kt)<|QF (Bs (c:=.ref CR) rfl rfl a.k1) Zw)<|by show(3:Nat)<=1000;decide) ?_)
     walk_at"d"
     refine We 4 rfl ?_
     walk_at"d"
     refine QH (Z2 (d:=.bool false) (L9 (cs:=[q3,q4,q5,q6]) rfl (by show(4:Nat)<=1000;decide) m.ra) ?_)
     walk_at"d"
     refine QH (Z2 (d:=.str "room") (Ih 3 rfl (Qs.cast (DY (z := "") (ys:=["room"]) ZE (EvO.fz<|EvO.cast (Ur (xs:=List.range 3) (enc:=fun(k:Nat)=>PyData.int (k:Int)) (h:=fun(k:Nat)=>([.str "guest",.str "time",.str "room"]:Qd).getD k .none) (p:=fun k=>decide (k=2)) ?ei (by decide) ?el) rfl)<|by decide) rfl)) ?_)
     case ei=>exact EvI.cast (Ij (i:=3) rfl (Qw Q1 Q4) (by rw[z62];decide)<|by rw[z62];decide) rfl
     case el =>
      intro k L c;have L:=XU.mp L;refine⟨_,Z8,?_⟩
      walk_at"e"
      refine⟨Zk.cast (ZN<|Yf (Qt rfl) (Qt rfl)<|mk3 L)<|mkR L,fun Y=>?_⟩;have Y:=XJ Y;subst Y;exact Yf (EvO.fz<|Vf (ds:=[.str "guest",.str "time",.str "room"]) (QF ZE<|QF ZE<|QF ZE Zw)<|by show(3:Nat)<=1000;decide) (Qt rfl) rfl
     walk_at"d"
     refine ZB (b:=false) ?c (by rintro⟨⟩) (fun _=>?_)
     case c=>exact Zk.cast (UX (b:=false) (c:=false) (ZN<|Qt rfl) fun _=>Y5 (b:=true)<|ZN<|Bs rfl rfl a.k2) rfl
     refine ZD ?_
     walk_at"d"
     exact Zq (Qt rfl) rfl
def VF (y:Yd) (a:Int):List (PyData×Nat):=[(.int (y.ls.length:Int),0),(.int<|(y.ls.length:Int)+a,0),(.int (-1),0),(.int (-1),1),(.int (y.T:Int),1),(.int (y.T:Int),2),(.int (-a),2),(.int 0,3),(.int 0,4),(.int<|10^(30:Int).toNat,3),(.int<|10^(30:Int).toNat+a,4),(.int (-a),3),(.bool true,0),(.bool true,3),(.str "1",4),(.none,1),(.bool false,1),(.tuple [.int 1],4)]
def gsL (g:Gs):Qd:=[.int (g.line:Int),.int (g.first:Int),.int (g.last:Int),.int g.want,.int g.most]
def prD (x:PyData×Nat):PyData:=.tuple [x.1,.int (x.2:Int)]
def LM  {a:Int}(H:1<=a){k:Nat}{p:Nat}(h:(VF y a)[k]?=some (d,p)):VL y (.tuple<|(gsL g).set p d)=false:=by
 have B:Zv (.int (y.ls.length:Int)) 0 y.ls.length=false:=by simp[Zv]
 have A:Zv (.int<|(y.ls.length:Int)+a) 0 y.ls.length=false:=by simp[Zv];omega
 have v:∀n:Int,Zv (.int (-1)) 0 n=false:=fun n=>by simp[Zv]
 have m:∀c:Int,Zv (.int (y.T:Int)) c y.T=false:=fun c=>by simp[Zv]
 have l:∀c e:Int,0<=c->Zv (.int (-a)) c e=false:=fun c e z=>by simp[Zv];omega
 have u:∀e:Int,Zv (.int 0) 1 e=false:=fun e=>by simp[Zv]
 have t:Zv (.int<|10^(30:Int).toNat) 1 (10^(30:Int).toNat)=false:=by simp[Zv]
 have s:Zv (.int<|10^(30:Int).toNat+a) 1 (10^(30:Int).toNat)=false:=by simp[Zv];omega
 have G:∀(b:Bool) (c e:Int),Zv (.bool b) c e=false:=fun _ _ _=>rfl;have F:∀(b:Str) (c e:Int),Zv (.str b) c e=false:=fun _ _ _=>rfl;have E:∀(c e:Int),Zv .none c e=false:=fun _ _=>rfl;have D:∀(b:Qd) (c e:Int),Zv (.tuple b) c e=false:=fun _ _ _=>rfl;have r:∀b:Nat,J8 (.int (b:Int)) (.int (y.T:Int)) y.T=false:=fun b=>m _;have i:∀b:Nat,J8 (.int (b:Int)) (.int (-a)) y.T=false:=fun b=>l _ _ (by omega)
 have o:k<18:=by
  have:=(Xh.mp h).1
  exact this
 have q:=Option.some.inj ((X9 (show k<(VF y a).length from o)).symm.trans h)
 have f:∀x:PyData×Nat,x∈VF y a->VL y (.tuple<|(gsL g).set x.2 x.1)=false:=by
  intro x j;simp only[VF,Xf,XO,or_false]at j;rcases j with rfl|rfl|rfl|rfl|rfl|rfl|rfl|rfl|rfl|rfl|rfl|rfl|rfl|rfl|rfl|rfl|rfl|rfl
  all_goals (show YT y _ _ _ _ _=false;unfold YT;simp only[B,A,v,m,l 1 _<|by decide,u,t,s,r,i,G,F,E,D,Bool.false_and,Bool.and_false])
 have:=f _ (List.mem_of_getElem? h)
 exact this
def EH {a:Int}{k:Nat}{p:Nat}(h:(VF y a)[k]?=some (d,p)):p<5:=by
 have b:∀x:PyData×Nat,x∈VF y a->x.2<5:=by
  intro x c;simp only[VF,Xf,XO,or_false]at c;rcases c with rfl|rfl|rfl|rfl|rfl|rfl|rfl|rfl|rfl|rfl|rfl|rfl|rfl|rfl|rfl|rfl|rfl|rfl
  all_goals (dsimp only;decide)
 exact b _ (List.mem_of_getElem? h)
def Ca {L:Qd}  (h:p<L.length):L.take p++[d]++L.drop (p+1)=L.set p d:=by
 rw[List.set_eq_take_append_cons_drop,Xd h,UQ];rfl
inductive R_lbad:List OT->(OT->Prop)->Prop
 |mk {y:Yd} {g:Gs} {c:Int} (ok:y.Ok) (gk:G30 y g) (hc:0<=c):R_lbad [.fz<|QK g,.fz<|Za y,.fz<|.int c] (fun r=>∃d,VL y d=false/\r=.fz d)
def Jo:Qp ["_law_guest_here","_law_yard_here","_law_cell","_law_far","_law_some","_law_way","_law_thing","_law_place"] Zak (Q2 Km):=by walk_at"p"
def Fv (T:Bl mg) (D:Df K mg "_law_bad" Km Zak):QD P w K mg base "_law_bad" Zak 1 (QY K R_lbad):=by
 refine D.evD Jo (fun O N h=>by cases h;rfl) (fun _ _ _ _ s H E O N R h=>?_);have hu:=R.units
 cases h with
 |@mk y g c Q gk hc =>
   refine⟨_,(Qz (QR (i:=3) Jo.nd rfl Qa<|QN Vm Qv<|QN Y2 (QN WE (pv 2) Qv)<|QN JJ Qv Qv)
 (Qz (QR (i:=4) Jo.nd rfl Qa<|B8<|ZM (Zu<|Qo (Zj Yk (by rfl) T.len Yj<|Qo (QJ QI (pv 1) Qv) Qq)<|Qo Qv Qq) (ZM (Zu<|Qo (QN Vm (Zj Yk (by rfl) T.len Yj<|Qo (QJ QI (pv 1) Qv) Qq)<|pv 3)<|Qo Qv Qq) (ZM (Zu<|Qo (UZ Gk Qv)<|Qo Qv Qq) (ZM (Zu<|Qo (UZ Gk Qv)<|Qo Qv Qq) (ZM (Zu<|Qo (QJ QI (pv 1) Qv)<|Qo Qv Qq) (ZM (Zu<|Qo (QJ QI (pv 1) Qv)<|Qo Qv Qq) (ZM (Zu<|Qo (UZ Gk<|pv 3)<|Qo Qv Qq) Bv VW) VW) VW) VW) VW) VW) VW)
 (Qz (QR (i:=4) Jo.nd rfl Qa<|QN Uq (pv 4)<|B8<|ZM (Zu<|Qo Qv<|Qo Qv Qq) (ZM (Zu<|Qo Qv<|Qo Qv Qq) (ZM (Zu<|Qo (QN JJ Qv Qv)<|Qo Qv Qq) (ZM (Zu<|Qo (QN Vm (QN JJ Qv Qv)<|pv 3)<|Qo Qv Qq) (ZM (Zu<|Qo (UZ Gk<|pv 3)<|Qo Qv Qq) (ZM (Zu<|Qo Wc<|Qo Qv Qq) (ZM (Zu<|Qo Wc<|Qo Qv Qq) (ZM (Zu<|Qo Z1<|Qo Qv Qq) Bv VW) VW) VW) VW) VW) VW) VW) VW)
 (Qz (QR (i:=4) Jo.nd rfl Qa<|QN Uq (pv 4)<|ZC<|Qo (Zu<|Qo Bq<|Qo Qv Qq)<|Qo (Zu<|Qo Wc<|Qo Qv Qq)<|Qo (Zu<|Qo (Zu<|Qo Qv Qq)<|Qo Qv Qq) Qq)
 (Qz (QR (i:=5) Jo.nd rfl Qa<|QN Y2 (pv 2) Qv)
 (Qz (Z0 (ZX Wg (pv 5) Qv<|ZH _) (Qz (Bp (QJ QI (pv 4)<|pv 5)<|JK (n:=2) rfl (Yr (Zr (i:=6) Jo.nd rfl Qa)<|Yr (Zr (i:=7) Jo.nd rfl Qa) JL))
 (Q5<|QU<|QN Hf (QN Hf (HC Hq (pv 0) Hh<|DT<|pv 7)<|Zu<|Qo (pv 6) Qq)<|HC Hq (pv 0) (DT<|QN Vm (pv 7) Qv) Hh)) Z3)
 (Qz (Z0 (ZX Uf (pv 5) Qv<|ZH _) (Q5<|QU<|QN Hf (pv 0)<|Zu<|Qo Qv Qq) Z3)
 (Qz (Z0 (ZX Uf (pv 5) Qv<|ZH _) (Q5<|QU<|HC Hq (pv 0) Hh<|DT Qv) Z3)
 (Qz (Z0 (PW.pt<|Bg (ZX Uf (pv 5) Qv<|ZH _)<|B4<|ZX W6 (QJ QI (pv 1) Qv) Qv<|ZH _) (Q5<|QU<|Zu<|Qo (QJ QI (pv 0) Qv)<|Qo (QN Yg (QJ QI (pv 1) Qv) Qv)<|Qo (QN Y2 (QN WE (pv 2) Qv)<|QN Yg (QJ QI (pv 1) Qv) Qv)<|Qo (QJ QI (pv 0) Qv)<|Qo (QJ QI (pv 0) Qv) Qq) Z3)
 (Q5<|QU<|QJ QI (B8<|ZM (WJ Sn (by rfl) T.list RS<|Qo (pv 0) Qq) (ZM Bq (ZM Z1 (ZM Qv (ZM (Zu Qq) (ZM Wc Bv Mn) VW) Mn) Mn) Mn) Gz)<|QN Y2 (QN WE (pv 2) Qv) Qv)))))))))),?_⟩
   show Q0 K _ [some<|.fz<|QK g,some<|.fz<|Za y,some<|.fz<|.int c,none,none,none,none,none] _
   walk_at"x"
   have t1:=Q.t1;have v:∀{f:Q9},f[1]?=some (some<|.fz<|Za y)->Qs K (tOp (rIx K) (QB 1)<|tC<|.int 0) f (.int (y.T:Int)):=fun e=>V6 (ds:=[PyData.int (y.T:Int),.tuple<|y.ls.map VZ]) (Qt e) Q1 rfl;have z:∀{f:Q9},f[1]?=some (some<|.fz<|Za y)->Qs K (tCB (JY K)<|QE (tOp (rIx K) (QB 1)<|tC<|.int 1) QQ) f (.int (y.ls.length:Int)):=fun e=>Qs.cast (B3 (ds:=y.ls.map VZ)<|V6 (ds:=[PyData.int (y.T:Int),.tuple<|y.ls.map VZ]) (Qt e) Q1 rfl) (by rw[Xn]);have o:∀{f:Q9},f[0]?=some (some<|.fz<|QK g)->Qs K (QB 0) f (.tuple<|gsL g):=fun e=>Qt e;have t:∀{f:Q9},Qs K (tOp (rI ML fun i j=>V.int<|i^j.toNat) (tC<|.int 10)<|tC<|.int 30) f (.int<|10^(30:Int).toNat):=Z5 Q1 Q1 (J6 (by decide)<|by decide);have l:∀{f:Q9} {J:TE} {d:PyData} {k:Nat},Qs K J f d->Qs K (Wa<|QE J<|QE (tC<|.int (k:Int)) QQ) f (prD (d,k)):=fun h=>V5 (QF h<|QF Q1 Zw) W1;have mm:=Jp c (b:=24) (by decide);have mn:=JS c (b:=24) (by decide)
   generalize X:1+c/40%10^(28:Int).toNat=a;have Z:1<=a:=by
    have:=Jp (c/40) (b:=10^(28:Int).toNat) (by decide +kernel)
    omega
   refine QH (Z2 (d:=.int a) (Qs.cast (Z4 Q1<|Z5 (Z5 (Qt rfl) Q1<|WT (by decide)<|by decide) (Z5 Q1 Q1<|J6 (by decide)<|by decide) (show(0:Int)<10^(28:Int).toNat by decide +kernel))<|by rw[X]) ?_)
   walk_at"d"
   have L:∀{f:Q9},f[3]?=some (some<|.fz<|.int a)->Qs K (tUn (rU fun i=>.int (-i))<|QB 3) f (.int (-a)):=fun e=>GY (g:=fun i => -i) (x:=a) (Qt e);refine QH (VT (r:=.ol (((VF y a).take 7).map prD)) (Vf (QF (l (k:=0)<|z rfl)<|QF (l (k:=0)<|Z4 (z rfl)<|Qt rfl)<|QF (l (k:=0)<|GY (g:=fun i => -i) (x:=1) Q1)<|QF (l (k:=1)<|GY (g:=fun i => -i) (x:=1) Q1)<|QF (l (k:=1)<|v rfl)<|QF (l (k:=2)<|v rfl)<|QF (l (k:=2)<|L rfl) Zw)<|by show(7:Nat)<=1000;decide) ?_)
   walk_at"d"
   refine We 4 rfl ?_
   walk_at"d"
   refine QH (VT (r:=.ol (((VF y a).take 15).map prD)) (EvO.cast (Be (as:=((VF y a).take 7).map prD) (bs:=(((VF y a).take 15).drop 7).map prD) (Qt rfl) (EvO.fz<|Vf (QF (l (k:=3) Q1)<|QF (l (k:=4) Q1)<|QF (l (k:=3) t)<|QF (l (k:=4)<|Z4 t<|Qt rfl)<|QF (l (k:=3)<|L rfl)<|QF (l (k:=0) W4)<|QF (l (k:=3) W4)<|QF (l (k:=4) ZE) Zw)<|by show(8:Nat)<=1000;decide)<|by show(15:Nat)<=1000;decide) rfl) ?_)
   walk_at"d"
   refine We 4 rfl ?_
   walk_at"d"
   refine QH (VT (r:=.ol ((VF y a).map prD)) (EvO.cast (Be (as:=((VF y a).take 15).map prD) (bs:=((VF y a).drop 15).map prD) (Qt rfl) (EvO.fz<|Vf (QF (l (k:=1) Gg)<|QF (l (k:=1) W4)<|QF (l (k:=4)<|V5 (ds:=[.int 1]) (QF Q1 Zw) Jw) Zw)<|by show(3:Nat)<=1000;decide)<|by show(18:Nat)<=1000;decide) rfl) ?_)
   walk_at"d"
   refine We 4 rfl ?_
   walk_at"d"
   refine QH (Z2 (d:=.int (c%24)) (Z5 (Qt rfl) Q1 (show(0:Int)<24 by decide)) ?_)
   walk_at"d"
   refine QH (ZB (b:=decide (c%24<18)) (ZW<|Yn (Qt rfl) Q1) (fun q=>?_) fun q=>ZD ?_)
   .have q:=XJ q
    have U:(c%24).toNat<(VF y a).length:=by show _<18;omega
    obtain⟨⟨d,p⟩,G⟩:∃x,(VF y a)[(c%24).toNat]?=some x:=⟨_,X9 U⟩;have pl:=EH G;have no:=LM (g:=g) Z G;have gl:(gsL g).length=5:=rfl
    have u:atI ((VF y a).map prD) (c%24)=some (.tuple [d,.int (p:Int)]):=by
     have:c%24=(((c%24).toNat:Nat):Int):=by omega
     rw[this];exact YG (by rw[Xt,G];rfl)
    refine QH (NR (Yf (Qt rfl) (Qt rfl) u) (WW (Y6 Z8<|Y6 Z8 JG) rfl) ?_)
    walk_at"d"
    have I:=R9 (gsL g) p (by omega);have M:=Lm (gsL g) (p+1) (by omega);refine Zq (Bn (Bn (DC (o rfl) Bo<|Bm<|Qt rfl) (V5 (ds:=[d]) (QF (Qt rfl) Zw) Jw) ?l1) (DC (o rfl) (Bm<|Z4 (Qt rfl) Q1) Bo) ?l2) ⟨_,?no,rfl⟩
    case l1=>rw[I];simp;omega
    case l2 =>
     have:((p:Int)+1)=((p+1:Nat):Int):=by omega
     rw[this,I,M];simp;omega
    case no =>
     have:((p:Int)+1)=((p+1:Nat):Int):=by omega
     rw[this,I,M,Ca<|by omega];exact no
   refine QH (ZB (b:=decide (c%24=18)) (ZW<|JE (Qt rfl) Q1) (fun _=>Zq (Bn (o rfl) (V5 (ds:=[.int 1]) (QF Q1 Zw) Jw)<|by show(6:Nat)<=1000;decide) ⟨_,rfl,rfl⟩) fun _=>ZD ?_);refine QH (ZB (b:=decide (c%24=19)) (ZW<|JE (Qt rfl) Q1) (fun _=>Zq (Qs.cast (DC (o rfl) Bo<|Bm Q1)<|by rw[show(4:Int)=((4:Nat):Int) from rfl,R9 (gsL g) 4<|by show(4:Nat)<=5;decide]) ⟨_,rfl,rfl⟩) fun _=>ZD ?_);refine QH (ZB (b:=decide (c%24=20)&&decide ((y.T:Int) > 1)) (Gh (ZW<|JE (Qt rfl) Q1) fun _=>ZW<|Yn (v rfl) Q1) (fun q=>?_) fun _=>ZD ?_)
   .have hT:(y.T:Int) > 1:=by
     rw[YZ]at q;exact XJ q.2
    have u:∀{f:Q9} {n:Int} {d:PyData},f[0]?=some (some<|.fz<|QK g)->atI (gsL g) n=some d->Qs K (tOp (rIx K) (QB 0)<|tC<|.int n) f d:=fun e h=>V6 (o e) Q1 h;refine Zq (V5 (QF (u rfl rfl)<|QF (Z4 (v rfl) Q1)<|QF (Z5 (Z5 (Qt rfl) Q1<|WT (by decide)<|by decide) (Z4 (v rfl) Q1) (show(0:Int)<(y.T:Int)-1 by omega))<|QF (u rfl rfl)<|QF (u rfl rfl) Zw)<|by show(5:Nat)<=1000;decide) ⟨_,?no2,rfl⟩
    case no2 =>
     have h2:=JS (c/24) (show(0:Int)<(y.T:Int)-1 by omega);show YT y _ (.int<|(y.T:Int)-1) (.int<|c/24%((y.T:Int)-1)) _ _=false
     have:J8 (.int<|(y.T:Int)-1) (.int<|c/24%((y.T:Int)-1)) y.T=false:=by
      show(decide _&&decide _)=false
      rw[XT<|by omega];rfl
     unfold YT;rw[this];simp
   have F:=Jp (c/24) (b:=6) (by decide);have B:=JS (c/24) (b:=6) (by decide)
   have A:∃d,atI [.list<|gsL g,.none,.str "guest",.int 7,.tuple [],.bool true] (c/24%6)=some d/\VL y d=false:=by
    generalize c/24%6=m at F B;obtain rfl|rfl|rfl|rfl|rfl|rfl:m=0\/m=1\/m=2\/m=3\/m=4\/m=5:=by omega
    all_goals exact⟨_,rfl,rfl⟩
   obtain⟨d,Y,S⟩:=A;exact Zq (Yf (EvO.fz<|Vf (QF (EvO.fz<|RO<|o rfl)<|QF Gg<|QF ZE<|QF Q1<|QF (V5 (ds:=[]) Zw<|by decide)<|QF W4 Zw)<|by show(6:Nat)<=1000;decide) (Z5 (Z5 (Qt rfl) Q1<|WT (by decide)<|by decide) Q1 (show(0:Int)<6 by decide)) Y) ⟨d,S,rfl⟩
def stD (n:Nat)(a:List Gs)(b:Ql)(c:Qk):Qd:=[.int (n:Int),.list<|Vi<|(List.range a.length).filter fun k => !decide (rsT a b c k=0),.list<|(List.range a.length).map fun k=>PyData.tuple [.int<|b.getD k 0,.int<|rsT a b c k]]
inductive R_lstate (CH:Addr):List OT->(OT->Prop)->Prop
 |mk {y:Yd} {n:Nat} {gs:List Gs} {gv:Ql} {go:Qk} {ms:List Zf} (vl:gv.length=gs.length) (g8:gs.length<=8) (ml:ms.length<=8):R_lstate CH [.zow<|QW CH<|hT y n gs gv go ms,.fz<|.int (gs.length:Int)] (fun r=>r=.zow (StY (stD n gs gv go) ms<|Za y))
def Av    (a:k<gs.length)(gl:gv.length=gs.length):(hT y n gs gv go ms).given[k]?=some (gv.getD k 0):=by
 show gv[k]?=_
 simp[gl,a]
def AM {n:Nat}:ZQ 0 ((n:Int)).toNat=(List.range n).map fun(k:Nat)=>PyData.int (k:Int):=by
 rw[XI];unfold ZQ;exact UI fun i _=>by rw[WO]
def Tu:Qp ["_law_hand","_law_many","_law_some"] Zay (Q2 Mt):=by walk_at"p"
def AZ (T:Bl mg) (g:HandC K CH) (D:Df K mg "_law_state" Mt Zay) (v:Zn P w K mg base CH "got" Zah 4 (QY K<|R_hgot CH)) (q:Zn P w K mg base CH "rest" Zah 4 (QY K<|R_hrest CH)) (p:Zn P w K mg base CH "now" Zaj 1 (QY K<|R_hnow CH)) (u:Zn P w K mg base CH "open_ones" Zaj 5 (QY K<|R_hopen CH)) (t:Zn P w K mg base CH "gifts" Zaj 1 (QY K<|R_hgifts CH)) (r:Zn P w K mg base CH "yard_now" Zaj 1 (QY K<|R_hyard CH)) :
 QD P w K mg base "_law_state" Zay 6 (QY K<|R_lstate CH):=by
 refine D.evD Tu (fun z x h=>by cases h;rfl) (fun _ _ _ _ s H E z x d h=>?_)
 cases h with
 |@mk y n a e l o m B A =>
   refine⟨_,(Qz (S6 (i:=2) Tu.nd rfl rfl (NX:=["_law_hand","_law_many","_law_some"]) (sc:=Q2 Mt) (N:=["_law_number","_law_hand"]) (f:=[none,some 0]) rfl (by decide +kernel) rfl rfl (Y9 rfl T.range<|Qo (pv 1) Qq) (fun _=>(Zr (i:=0) (show(["_law_number","_law_hand"]:Qh).Nodup by decide +kernel) rfl Qa)) (fun _=>VM) (fun _=>WB) (fun _=>(Zu<|Qo (Uy v g d (pv 1)<|Qo (pv 0) Qq)<|Qo (Uy q g d (pv 1)<|Qo (pv 0) Qq) Qq)) rfl)
 (Q5<|QU<|B8<|ZM (YI p g d<|pv 0) (ZM (YI u g d<|pv 0) (ZM (pv 2) (ZM (YI t g d<|pv 0) (ZM (YI r g d<|pv 0) Bv Gz) Gz) C8) Gz) Gz)),?_⟩
   show Q0 K _ [some _,some _,none] _
   walk_at"x"
   refine QH (VT (Ga (xs:=List.range a.length) (enc:=fun(k:Nat)=>PyData.int (k:Int)) (h:=fun(k:Nat)=>PyData.tuple [.int<|e.getD k 0,.int<|rsT a e l k]) ?ei (by rw[M5];omega) ?el) ?_)
   case ei=>exact EvI.cast (YL (Qw (Qt rfl) Q4) (by rw[z62];omega)<|by rw[z62];omega) AM
   case el =>
    intro k b c;have b:=XU.mp b;refine⟨_,Z8,?_⟩
    walk_at"e"
    exact V5 (QF (Jj LR rfl (Qw (Qt rfl) Q4)<|R_hgot.mk (by simp[hT,b])<|Av b m)<|QF (Jj Hj rfl (Qw (Qt rfl) Q4)<|R_hrest.mk<|BC m b) Zw) W1
   walk_at"d"
   refine We 2 rfl ?_
   walk_at"d"
   refine IN (Jj D5 rfl Q4 R_hnow.mk) (Qs.cast (EvO.fz<|Zm.o<|JP Ft rfl Q4<|R_hopen.mk (N:=hT y n a e l o) (rsT a e l) (fun k b=>BC m<|by simpa [hT] using b)<|by show(a.map QK).length<=1000;rw[Xn];omega) ?op) (Qt rfl) (JP CF rfl Q4<|R_hgifts.mk (N:=hT y n a e l o)<|by show o.length<=1000;omega) (Jj Cg rfl Q4 R_hyard.mk) rfl
   case op =>
    show PyData.list (Vi<|(List.range (a.map QK).length).filter fun j => !decide (rsT a e l j=0))=_;rw[Xn]
def Mj (h:s∈(["in","room","guest","time"]:Qh)):VA (.str s):=by
 simp only[Xf,XO,or_false]at h;rcases h with rfl|rfl|rfl|rfl<;>exact⟨by decide +kernel,XM _⟩
def Hw  : rsT gs (List.replicate gs.length 0) [] k=(gs.getD k default).want:=by
 unfold rsT;rw[Xc<|by simp];have:(List.replicate gs.length (0:Int)).getD k 0=0:=by
  rw[List.getD,MC];split<;>rfl
 rw[this,Int.sub_zero]
def Fx (a:List Gs):mT 0 a (List.replicate a.length 0) []=a:=by
 apply List.ext_getElem?
 intro i;unfold mT;by_cases h:i<a.length
 .rw[Xt,List.getElem?_range h,X9 h]
  show some (stl a 0 (rsT a (List.replicate a.length 0) []) i)=_;unfold stl;rw[Hw];simp[h]
 .rw[MA<|by simp;omega,MA<|by omega]
def C2   : ∀d∈stD n gs gv go,VA d:=by
 intro d a;simp only[stD,Xf,XO,or_false]at a;rcases a with rfl|rfl|rfl
 .exact(Uo _ 0).fine (by decide)
 .exact RP _
 .refine(Sd (m:=1)<|Bk fun k=>?_).fine (by decide)
  exact G5 (m:=0) (Uw (Uo _ 0)<|Uw (Uo _ 0) DS)
def YE:Qp ["_law_script","_law_yard_here","_law_hand","_law_many","_law_k","_law_told","_law_state_here","_law_cell","_law_guest_here"] ["_law_script"] (Q2 W5):=by walk_at"p"
def LP  (T:Bl mg) (UH:HandC K CH) (F:Fun K "law" "law" W5 f fd) (Y:QD P w K mg base "_law_cell_at" Zav 1 (QS (K:=K) R_cell)) (Xbp:QD P w K mg base "_law_feed" ["_law_cell"] 1 (QY K R_feed)) (XbY:QD P w K mg base "_law_yard" ZaM 2 (spP K olP R_dyard)) (Xbx:QD P w K mg base "_law_guest" Zal 2 (spP K olP R_dguest)) (XbZ:Dd P w K mg base "Hand" CH ZaI 1)
 (Xb0:QD P w K mg base "_law_come" Zae 9 (GT K CH R_lcomeI<|X_lcomeR CH)) (Xb1:QD P w K mg base "_law_come" Zae 9 (QY K<|R_lcomeG CH)) (Xby:QD P w K mg base "_law_come" Zae 9 (QY K<|R_lcomeT CH)) (Xb2:QD P w K mg base "_law_bad" Zak 1 (QY K R_lbad)) (Xbz:QD P w K mg base "_law_state" Zay 6 (QY K<|R_lstate CH)) (XbA:VI P w K mg base CH "turn" Zaj 7 (Jy K CH ct Yc R_hturn<|X_hturn CH)) (Xbi:Zn P w K mg base CH "now" Zaj 1 (QY K<|R_hnow CH)) :
 FnOk P w K mg base CX0 10 f fd ["_law_script"] (B0 K):=by
 refine F.evLaw YE (fun cdv A outer s H E L p hl hb=>?_);have hu:=p.units;refine⟨_,(Qz (QR (i:=1) YE.nd rfl Qa<|QG XbY p<|Qo (QG Xbp p<|Qo (QG Y p<|Qo (pv 0)<|Qo Qv Qq) Qq) Qq)
 (Qz (QR (i:=2) YE.nd rfl Qa<|Ak XbZ p<|Qo (pv 1) Qq)
 (Qz (QR (i:=3) YE.nd rfl Qa Qv)
 (Qz (V7 PassesOwn.never rfl (by exact(Y9 rfl T.range<|Qo (QN Y2 (QG Y p<|Qo (pv 0)<|Qo Qv Qq) Qv) Qq)) (Zr (i:=4) YE.nd rfl Qa) (by exact(Qz (QR (i:=5) YE.nd rfl Qa<|QG Xb0 p<|Qo (pv 2)<|Qo (QG Xbx p<|Qo (QG Xbp p<|Qo (QG Y p<|Qo (pv 0)<|Qo (QN Vm Qv<|pv 4) Qq) Qq)<|Qo (pv 1)<|Qo Qv Qq) Qq)
 (Q5<|QR (i:=3) YE.nd rfl Qa<|QN Vm (pv 3)<|WJ Rz (by rfl) T.int DL<|Qo (B9 (Ru hu) (pv 5) Z1<|ZH _) Qq))))
 (Qz (V7 PassesOwn.never rfl (by exact(Y9 rfl T.range<|Qo (QN Y2 (QN WE (QG Y p<|Qo (pv 0)<|Qo Qv Qq) Qv)<|QN Vm (QJ QI (pv 1) Qv) Qv) Qq)) (Zr (i:=4) YE.nd rfl Qa)<|by exact(Q5<|Zi<|Ps XbA UH p (JA (C:=ct))<|pv 2))
 (Qz (QR (i:=6) YE.nd rfl Qa<|QG Xbz p<|Qo (pv 2)<|Qo (pv 3) Qq)
 (Qz (V7 PassesOwn.never rfl (by exact(PN rfl T.range<|Qo Qv<|Qo Qv Qq)) (Zr (i:=4) YE.nd rfl Qa) (by exact(Qz (QR (i:=7) YE.nd rfl Qa<|QG Y p<|Qo (pv 0)<|Qo (pv 4) Qq)
 (Qz (QR (i:=8) YE.nd rfl Qa<|QG Xbx p<|Qo (QG Xbp p<|Qo (pv 7) Qq)<|Qo (pv 1)<|Qo Qv Qq)
 (Qz (Z0 (ZX (Ry hu) (QG Xb1 p<|Qo (pv 2)<|Qo (QG Xb2 p<|Qo (pv 8)<|Qo (pv 1)<|Qo (QN Y2 (QN WE (QN Vm (pv 7)<|pv 4) Qv)<|QN JJ Qv Qv) Qq) Qq) Z1<|ZH _) (Q5<|QU Wc) Z3)
 (Q5<|Z0 (PW.pt<|Gd (PW.pt<|Bg (ZX Wg (QJ QI (pv 8) Qv) (YI Xbi UH p<|pv 2)<|ZH _)<|B4<|ZX (Ry hu) (QG Xby p<|Qo (pv 2)<|Qo (pv 8) Qq) Z1<|ZH _)<|Gj<|ZX (Cf hu) (QG Xbz p<|Qo (pv 2)<|Qo (pv 3) Qq) (pv 6)<|ZH _) (Q5<|QU Wc) Z3))))))
 (Qz (BP PassesOwn.never (ZX Wg (YI Xbi UH p<|pv 2) (QJ QI (pv 1) Qv)<|ZH _)<|Q5<|Zi<|Ps XbA UH p (JA (C:=ct))<|pv 2)
 (Q5<|QU<|B9 (Ru hu) (QG Xby p<|Qo (pv 2)<|Qo (Zu<|Qo Qv<|Qo Qv<|Qo (QN Yg (QJ QI (pv 1) Qv) Qv)<|Qo Qv<|Qo Qv Qq) Qq) Z1<|ZH _))))))))),?_⟩
 show Q0 K _ [some _,none,none,none,none,none,none,none,none] _
 walk_at"x"
 refine QH (Wq (K0 (Φ:=fun r=>∃y:Yd,y.Ok/\r=.fz (Za y)) (Yq (Qw (Zb (Um rfl (Qw Q1 Q4))<|R_cell.mk<|by decide) Q4) R_feed.mk) Q4 fun r q=>?_) fun r q=>?_)
 .obtain⟨a,b,rfl⟩:=q
  refine⟨_,_,rfl,R_dyard.mk,?_⟩;rintro r ds' ⟨y,U,_,e⟩;exact⟨y,U,e⟩
 obtain⟨y,U,rfl⟩:=q
 walk_at"d"
 have t1:=U.t1;have t8:=U.t8;have l1:=U.l1;have fin:=Mj (s := "in") (by decide);have frm:=Mj (s := "room") (by decide);have fgu:=Mj (s := "guest") (by decide);have Q:=Mj (s := "time") (by decide);have eT:∀{R:Q9},R[1]?=some (some<|.fz<|Za y)->Qs K (tOp (rIx K) (QB 1)<|tC<|.int 0) R (.int (y.T:Int)):=fun e=>V6 (ds:=[PyData.int (y.T:Int),.tuple<|y.ls.map VZ]) (Qt e) Q1 rfl;refine QH (BG (A1<|Qt rfl) fun v=>?_)
 walk_at"d"
 refine QH (Z2 (d:=.int 0) Q1 ?_)
 walk_at"d"
 have n0:0<=V4 L 1%5/\V4 L 1%5<5:=by omega
 refine QH (Yi (ds:=ZQ 0 (V4 L 1%5).toNat) (fun i u=>∃(l:List Gs) (I G:Option OT),l.length<=i/\(∀g∈l,G30 y g)/\u=[some<|.scr L,some<|.fz<|Za y,some<|.own v<|QZ CH<|hT y 0 l (List.replicate l.length 0) [] [],some<|.fz<|.int (l.length:Int),I,G,none,none,none]) ?ei ⟨[],_,_,Xq _,(by rintro g ⟨⟩),rfl⟩ ?st ?fin)
 case ei=>exact YL (Qw (Z5 (Zb (Um rfl (Qw Q1 Q4))<|R_cell.mk<|by decide) Q1<|by decide) Q4) (by rw[z62];omega) (by rw[z62];omega)
 case st =>
  rintro i d _ hd ⟨l,I,G,gl,hg,rfl⟩
  obtain⟨hi,rfl⟩:=YJ hd;have hi:i<(V4 L 1%5).toNat:=hi;have l7:l.length<=7:=by omega
  refine⟨_,Z8,?_⟩
  walk_at"d"
  rw[WO];have zl:(List.replicate l.length (0:Int)).length=l.length:=List.length_replicate
  have h0:∀k,k<l.length->0<=rsT l (List.replicate l.length 0) [] k:=fun k X=>by
   rw[Hw];have:=(hg (l.getD k default)<|by simp[X]).ok.w1;omega
  have mz:=Fx l;refine QH (CC (i:=2) (s:=fun te=>Vp te<|Vd 5) (Θ:=fun d o=>(d=.str "in" /\ ∃g,G30 y g/\o=.own v (QZ CH<|hT y 0 (l++[g]) (List.replicate l.length 0++[0]) [] []))\/(d=.str "room" /\ o=.own v (QZ CH<|hT y 0 l (List.replicate l.length 0) [] []))) (Ig rfl (K0 (Φ:=fun r=>∃g:Gs,G30 y g/\r=.fz (QK g)) (Yq (Qw (Zb (Um rfl (Qw (Z4 Q1<|Qt rfl) Q4))<|R_cell.mk<|by omega) Q4) R_feed.mk) (Qw (Qt rfl)<|Qw Q1 Q4) fun r q=>?a1) fun r q=>?a2) (fun _ _ _ _ _ _ h=>h _ fun _ _ z=>z) ?a3)
  case a1 =>
   obtain⟨a,b,rfl⟩:=q
   exact⟨_,_,rfl,R_dguest.mk U,fun r ds' z=>z⟩
  case a2 =>
   obtain⟨g,J,rfl⟩:=q;refine⟨_,rfl,?_⟩
   by_cases hS:∀S,VS y (QL<|l++[g]) S<=0
   .have lc:=R_lcomeI.mk (ms:=[]) U hg J zl (XM _) h0 l7 (by rw[mz];exact hS)
    refine .inl ⟨_,lc,?_⟩
    rintro r N' ⟨rfl,rfl⟩
    exact⟨_,_,rfl,rfl,.inl ⟨rfl,g,J,rfl⟩⟩
   .obtain⟨S0,hS0⟩:∃S,0<VS y (QL<|l++[g]) S:=Classical.byContradiction fun c=>hS fun S=>Int.not_lt.mp fun z=>c ⟨S,z⟩
    have lc:=X_lcomeR.mk (CH:=CH) (ms:=[]) U hg J zl (XM _) h0 l7 (S:=S0) (by rw[mz];exact hS0);refine .inr ⟨_,lc,?_⟩
    rintro r rfl
    exact⟨_,_,rfl,rfl,.inr ⟨rfl,rfl⟩⟩
  case a3 =>
   rintro d w o (⟨rfl,g,J,rfl⟩|⟨rfl,rfl⟩) hf
   .cases hf
    refine Z2 (d:=.str "in") ZE ?_
    walk_at"d"
    refine Z2 (d:=.int ((l++[g]).length:Int)) (Qs.cast (Z4 (Qt rfl)<|B2<|Qs.cast (Bf (a:=.str "in") (b:=.str "in") (Qt rfl) ZE fin fin)<|by rw[G9 fin]) ?e1) ?_
    case e1=>rw[Xo];rfl
    walk_at"d"
    have e1:List.replicate l.length (0:Int)++[0]=List.replicate (l++[g]).length 0:=by
     rw[Xo,List.length_singleton,List.replicate_succ']
    rw[e1];refine⟨l++[g],_,_,by rw[Xo];show l.length+1<=_;omega,fun x hx=>?_,rfl⟩
    rcases XB.mp hx with hx|hx
    .exact hg x hx
    .rw[Xi.mp hx];exact J
   .cases hf
    refine Z2 (d:=.str "room") ZE ?_
    walk_at"d"
    refine Z2 (d:=.int (l.length:Int)) (Qs.cast (Z4 (Qt rfl)<|B2 (b:=false)<|Qs.cast (Bf (a:=.str "room") (b:=.str "in") (Qt rfl) ZE frm fin)<|X8 PyData.bool<|by decide +kernel) ?e2) ?_
    case e2=>show PyData.int ((l.length:Int)+0)=_;rw[UN]
    walk_at"d"
    exact⟨l,_,_,by omega,hg,rfl⟩
 case fin =>
  rintro _ ⟨l,I,G,gl,hg,rfl⟩
  rw[Wo]at gl;have g8:l.length<=8:=by omega
  clear gl n0;have h00:∀k,k<l.length->0<=rsT l (List.replicate l.length 0) [] k:=fun k X=>by
   rw[Hw];have:=(hg (l.getD k default)<|by simp[X]).ok.w1;omega
  have m0:=Jp (V4 L 1/5) (b:=(y.T:Int)+1) (by omega);have m1:=JS (V4 L 1/5) (show(0:Int)<(y.T:Int)+1 by omega)
  have stp:∀{D:PEnds} {u0 I G u6 u7 Z:Option OT} {n:Nat} {t:Ql} {ms:List Zf} {RR:Addr->Qj->Hp->Prop},t.length=l.length->n<y.T->(∀k,k<l.length->0<=rsT l t [] k)->ms.length=n->(∀k∈ms,W7 k)->ZV ct RR ->
   (∀O N,O.length=l.length->(∀k,k<l.length->0<=rsT l O [] k)->N.length=n+1->(∀k∈N,W7 k)->D.nx [u0,some<|.fz<|Za y,some<|.own v<|QZ CH<|hT y (n+1) l O [] N,some<|.fz<|.int (l.length:Int),I,G,u6,u7,Z]) ->
   Q0 K (Vq<|Vr CH "turn" (Jy K CH ct Yc R_hturn<|X_hturn CH) [] (XE ct RR) (QB 2) QQ) [u0,some<|.fz<|Za y,some<|.own v<|QZ CH<|hT y n l t [] ms,some<|.fz<|.int (l.length:Int),I,G,u6,u7,Z] D:=by
   intro D u0 I G u6 u7 Z n t ms RR vl hn h0 ml mf st hD;refine Pw CB rfl Q4 (R_hturn.mk U hg vl hn h0 g8<|by omega) st ?_
   rintro r N' ⟨φ,v3,full,rfl,rfl⟩
   walk_at"d"
   refine hD _ _ (Co _ _ _ _) (EJ full hn) (by rw[Xo,ml];rfl) fun k X=>?_
   rcases XB.mp X with X|X
   .exact mf k X
   .rw[Xi.mp X];exact AS _ _
  refine QH (Yi (ds:=ZQ 0 (V4 L 1/5%((y.T:Int)+1)).toNat) (fun n u=>∃(t:Ql) (ms:List Zf) (I G:Option OT),t.length=l.length/\(∀k,k<l.length->0<=rsT l t [] k)/\ms.length=n/\(∀k∈ms,W7 k)/\u=[some<|.scr L,some<|.fz<|Za y,some<|.own v<|QZ CH<|hT y n l t [] ms,some<|.fz<|.int (l.length:Int),I,G,none,none,none]) ?ei2 ⟨_,[],_,_,List.length_replicate,h00,rfl,(by rintro k ⟨⟩),rfl⟩ ?st2 ?fin2)
  case ei2=>exact YL (Qw (Z5 (Z5 (Zb (Um rfl (Qw Q1 Q4))<|R_cell.mk<|by decide) Q1<|WT (by decide)<|by decide) (Z4 (eT rfl) Q1) (show(0:Int)<(y.T:Int)+1 by omega)) Q4) (by rw[z62];omega) (by rw[z62];omega)
  case st2 =>
   rintro n d _ hd ⟨t,ms,I,G,vl,h0,ml,mf,rfl⟩
   obtain⟨hn,rfl⟩:=YJ hd;refine⟨_,Z8,?_⟩
   walk_at"d"
   exact stp vl (by omega) h0 ml mf B7 fun O N a1 a2 a3 a4=>⟨O,N,_,_,a1,a2,a3,a4,rfl⟩
  case fin2 =>
   rintro _ ⟨t,ms,I,G,vl,h0,ml,mf,rfl⟩
   rw[Wo]at ml ⊢;have nT:(V4 L 1/5%((y.T:Int)+1)).toNat<=y.T:=by omega
   generalize (V4 L 1/5%((y.T:Int)+1)).toNat=n at ml nT;clear m0 m1;have sta:∀{R:Q9} {E':XK},R[2]?=some (some<|.zow<|QW CH<|hT y n l t [] ms)->R[3]?=some (some<|.fz<|.int (l.length:Int))->Zm K (VH (QY K<|R_lstate CH) [] E'<|QE (QB 2)<|QE (QB 3) QQ) R (fun r=>r=.zow (StY (stD n l t []) ms<|Za y)):=fun e2 e3=>Yq (Gr e2<|Qw (Qt e3) Q4) (R_lstate.mk vl g8<|by omega);refine CD 1 rfl fun wy=>?_
   walk_at"d"
   apply CQ
   refine QH (Ab 2 rfl (M:=fun u=>∃(u0 I G u6 u7 Z:Option OT),u=[u0,some<|.zow<|VC wy<|dZ<|Za y,some<|.zow<|VC v<|QW CH<|hT y n l t [] ms,some<|.fz<|.int (l.length:Int),I,G,u6,u7,Z]) ?blk ?bhn)
   case bhn =>
    rintro _ ⟨u0,I,G,u6,u7,Z,rfl⟩
    refine⟨rfl,[none,some<|.zow<|VC wy<|dZ<|Za y,some<|.own v<|QZ CH<|hT y n l t [] ms,some<|.fz<|.int (l.length:Int),none,none,none,none,none],rfl,rfl,?_,?_⟩
    .intro j o hj B
     match j,hj,B with
     |0,_,B=>cases B
     |1,_,B=>cases B;exact⟨rfl,.inr ⟨⟨_,_,rfl⟩,rfl⟩⟩
     |2,hj,_=>exact Xm rfl hj
     |3,_,B=>cases B;exact⟨rfl,.inl<|U7 rfl⟩
     |4,_,B=>cases B
     |5,_,B=>cases B
     |6,_,B=>cases B
     |7,_,B=>cases B
     |8,_,B=>cases B
     |j+9,_,B=>simp at B
    .refine Ay 1 rfl ?_
     walk_at"d"
     refine QH (BW (fun m u=>∃(n':Nat) (t:Ql) (ms:List Zf),m=y.T-n'/\n'<=y.T/\t.length=l.length/\(∀k,k<l.length->0<=rsT l t [] k)/\ms.length=n'/\(∀k∈ms,W7 k)/\u=[none,some<|.fz<|Za y,some<|.own v<|QZ CH<|hT y n' l t [] ms,some<|.fz<|.int (l.length:Int),none,none,none,none,none]) (y.T-n) ⟨n,t,ms,rfl,nT,vl,h0,ml,mf,rfl⟩ ?wh)
     rintro m _ ⟨n',O,N,rfl,hn',vl',h0',ml',mf',rfl⟩
     refine⟨decide ((n':Int)<(y.T:Int)),HB 2 rfl (ZW<|Yn (Jj D5 rfl Q4 R_hnow.mk)<|eT rfl),fun hb=>?_,fun hb=>?_⟩
     .have hb:=XJ hb
      exact stp vl' (by omega) h0' ml' mf' B7 fun gv2 ms2 a1 a2 a3 a4=>⟨y.T-(n'+1),by omega,n'+1,gv2,ms2,rfl,by omega,a1,a2,a3,a4,rfl⟩
     .have hb:=UT hb
      obtain rfl:n'=y.T:=by omega
      have J:G30 y ⟨0,0,y.T-1,1,1⟩:=⟨⟨by show 0<y.ls.length;omega,by show 0<=y.T-1;omega,by show y.T-1<y.T;omega,by show(1:Int)<=1;decide,by show(1:Int)<10^300;decide +kernel,by show(1:Int)<=1;decide,by show(1:Int)<10^300;decide +kernel⟩,by show(1:Int)<10^30;decide +kernel,by show(1:Int)<10^30;decide +kernel⟩;have eG:∀{R:Q9},R[1]?=some (some<|.fz<|Za y)->Qs K (Wa<|QE (tC<|.int 0)<|QE (tC<|.int 0)<|QE (tOp (rI0 fun i j=>V.int<|i-j) (tOp (rIx K) (QB 1)<|tC<|.int 0)<|tC<|.int 1)<|QE (tC<|.int 1)<|QE (tC<|.int 1) QQ) R (QK ⟨0,0,y.T-1,1,1⟩):=fun e=>V5 (ds:=[.int 0,.int 0,.int ((y.T-1:Nat):Int),.int 1,.int 1]) (QF Q1<|QF Q1<|QF (Qs.cast (Z4 (eT e) Q1)<|X8 PyData.int<|by show(y.T:Int)-1=_;omega)<|QF Q1<|QF Q1 Zw) (by show(5:Nat)<=1000;decide);exact Zq (Qs.cast (BK (d:=.bool true) 2 rfl rfl (Qs.cast (Bf (a:=.str "time") (b:=.str "time") (EvO.e<|Zm.o<|Yq (Gr rfl (Qw (eG rfl) Q4))<|R_lcomeT.mk (Mm J.ok J.w J.m)<|by show 0<y.T;omega) ZE Q Q)<|by rw[G9 Q])) rfl) rfl
   case blk =>
    walk_at"d"
    refine QH (Wq (Eu 2 rfl (sta rfl rfl)) ?_)
    rintro r rfl
    walk_at"d"
    refine Yi (ds:=ZQ 3 10) (fun i u=>∃(I G u7 Z:Option OT),u=[some<|.scr L,some<|.zow<|VC wy<|dZ<|Za y,some<|.zow<|VC v<|QW CH<|hT y n l t [] ms,some<|.fz<|.int (l.length:Int),I,G,some<|.zow<|StY (stD n l t []) ms<|Za y,u7,Z]) ?ei3 ⟨_,_,_,_,rfl⟩ ?st3 ?fin3
    case ei3=>exact EvI.cast (Hg (Qw Q1<|Qw Q1 Q4)<|by rw[z62];decide) (Jh rfl (by decide))
    case fin3 =>
     rintro _ ⟨I,G,u7,Z,rfl⟩
     exact⟨_,_,_,_,_,_,rfl⟩
    case st3 =>
     rintro i d _ hd ⟨I,G,u7,Z,rfl⟩
     obtain⟨hi,rfl⟩:=YJ hd;refine⟨_,Z8,?_⟩
     walk_at"d"
     refine QH (Z2 (Zb (Um rfl (Qw (Qt rfl) Q4))<|R_cell.mk<|by omega) ?_)
     walk_at"d"
     generalize V4 L (3+(i:Int))=cl;refine QH (Wq (Et 1 rfl (K0 (Φ:=fun r=>∃g:Gs,G30 y g/\r=.fz (QK g)) (Yq (Qw (Qt rfl) Q4) R_feed.mk) (Qw (Qt rfl)<|Qw Q1 Q4) fun r q=>?b1)) fun r q=>?_)
     case b1 =>
      obtain⟨a,b,rfl⟩:=q
      exact⟨_,_,rfl,R_dguest.mk U,fun r ds' z=>z⟩
     obtain⟨g,J,rfl⟩:=q
     walk_at"d"
     have gtr:=Mm J.ok J.w J.m;refine QH (ZB (b:=false) (SV 2 rfl (ST 1 rfl (Zk.cast (ZW<|Dz (a:=.str "guest") (b:=.str "guest") (EvO.e<|Zm.o<|Ee rfl (Yq (Qw (Qt rfl)<|Qw (Qt rfl)<|Qw (Z5 (Z5 (Z4 (Qt rfl)<|Qt rfl) Q1<|WT (by decide)<|by decide) (Z5 Q1 Q1<|J6 (by decide)<|by decide) (show(0:Int)<10^(30:Int).toNat by decide +kernel)) Q4)<|R_lbad.mk U J<|Jp _<|by decide +kernel) ?b2) ZE fgu fgu)<|by rw[G9 fgu];rfl))) (by rintro⟨⟩) fun _=>ZD ?_)
     case b2 =>
      rintro r ⟨d,hd',rfl⟩
      exact⟨d,_,rfl,R_lcomeG.mk hd',fun _ z=>z⟩
     refine ZB (b:=false) (SV 2 rfl (ST 1 rfl ?tst)) (by rintro⟨⟩) (fun _=>ZD ⟨_,_,_,_,rfl⟩)
     case tst =>
      have it:∀{R:Q9},R[8]?=some (some<|.fz<|QK g)->Qs K (tOp (rIx K) (QB 8)<|tC<|.int 1) R (.int (g.first:Int)):=fun e=>V6 (ds:=[.int (g.line:Int),.int (g.first:Int),.int (g.last:Int),.int g.want,.int g.most]) (Qt e) Q1 rfl;refine Zk.cast (UX (b:=false) (c:=false) (Zk.cast (Gh (b:=decide ((g.first:Int)<(n:Int))) (c:=false) (ZW<|Yn (it rfl)<|Jj D5 rfl Q4 R_hnow.mk) fun hb=>?_)<|Bool.and_false _) fun _=>ZW<|CY C2 (NZ y) mf (sta rfl rfl) rfl) rfl;have hb:=XJ hb;exact Zk.cast (ZW<|Dz (a:=.str "time") (b:=.str "time") (EvO.e<|Zm.o<|Yq (Gr rfl (Qw (Qt rfl) Q4))<|R_lcomeT.mk gtr<|by omega) ZE Q Q) (by rw[G9 Q];rfl)
end
inductive DH (K:W.Frag)(x:Str)(st:Stmt):Prop
 |mk {f:Addr} {oc kV dc pm cd ct:Value} {od an:Qj} {sl:Array (Qf)} (a:W.nsIn K mainGlobals x=some (some<|.ref f)) (l:K.lookup f=some ⟨oc,od,.func<|W.fnOf x x (Y7 st) (Z7 st) (Q2 st) .none kV dc pm an cd ct,sl⟩) (c:W.codeIn K cd x=true) (k:W.keepIn K (.ref f)=true):DH K x st
def DH.df    (X:K.In h)(G:h.Ns mainGlobals mg)(H:DH K x st)(e:∀(z:Value×Value×Value×Qj×Value×Value) (us:Qe),us.length=ps.length->bindArgs (W.fnOf x x (Y7 st) (Z7 st) (Q2 st) .none z.1 z.2.1 z.2.2.1 z.2.2.2.1 z.2.2.2.2.1 z.2.2.2.2.2) ⟨us,[]⟩=pure (ps.zip us)):Df K mg x st ps:=by
 cases H with
 |mk a l c k=>exact⟨_,_,Jc l c k,W.mg_of X G a,(Jc l c k).binds fun kV f b j i g us d=>e (kV,f,b,j,i,g) us d⟩
inductive MH (K:W.Frag)(C:Addr)(m q:Str)(st:Stmt):Prop
 |mk {f:Addr} {oc kV dc pm cd ct:Value} {od an:Qj} {sl:Array (Qf)} (a:W.findIn K (.ref C) m=some (some<|.ref f)) (i:W.isFn K (.ref f)=true) (l:K.lookup f=some ⟨oc,od,.func<|W.fnOf m q (Y7 st) (Z7 st) (Q2 st) .none kV dc pm an cd ct,sl⟩) (c:W.codeIn K cd q=true) (k:W.keepIn K (.ref f)=true):MH K C m q st
def MH.mf   (H:MH K C m q st)(e:∀(z:Value×Value×Value×Qj×Value×Value) (us:Qe),us.length=ps.length->bindArgs (W.fnOf m q (Y7 st) (Z7 st) (Q2 st) .none z.1 z.2.1 z.2.2.1 z.2.2.2.1 z.2.2.2.2.1 z.2.2.2.2.2) ⟨us,[]⟩=pure (ps.zip us)):Mf K C m q st ps:=by
 cases H with
 |mk a i l c k=>exact⟨_,_,Jc l c k,⟨a,i,k⟩,(Jc l c k).binds fun kV f b j h g us d=>e (kV,f,b,j,h,g) us d⟩
@[elab_as_elim] theorem ln1 {α:Type}{p:List α->Prop}{us:List α}(h:us.length=1)(k:∀a0,p [a0]):p us:=by
 match us,h with
 |[a0],_=>exact k a0
@[elab_as_elim] theorem ln2 {α:Type}{p:List α->Prop}{us:List α}(h:us.length=2)(k:∀a0 a1,p [a0,a1]):p us:=by
 match us,h with
 |[a0,a1],_=>exact k a0 a1
@[elab_as_elim] theorem ln3 {α:Type}{p:List α->Prop}{us:List α}(h:us.length=3)(k:∀a0 a1 a2,p [a0,a1,a2]):p us:=by
 match us,h with
 |[a0,a1,a2],_=>exact k a0 a1 a2
@[elab_as_elim] theorem ln4 {α:Type}{p:List α->Prop}{us:List α}(h:us.length=4)(k:∀a0 a1 a2 a3,p [a0,a1,a2,a3]):p us:=by
 match us,h with
 |[a0,a1,a2,a3],_=>exact k a0 a1 a2 a3
def Zut {P:Program} {w:World} {K:W.Frag} {h:Heap} {g:Str->Qf} {fa C E F:Addr} (X:K.In h) (G:h.Ns mainGlobals g) (hfa:g "law"=some (.ref fa))
 {d c:Addr}
 {CH:Addr}
 {l CR fR:Addr} {odR anR:Qj} {slR:Array (Qf)} {kVR dcR pmR cdR ctR:Value}
 {q3 q4 q5 q6:Addr}
 {H n m:Addr} {od38 A od57 an57 od58 an58 dS dE:Qj} {sl38 sl57 sl58 slS slE:Array (Qf)} {oc38 t u r k x oc57 kV57 dc57 pm57 z ct57 oc58 kV58 dc58 pm58 y ct58:Value} {tS tE nS nE:Nat}
 (aC:W.nsIn K mainGlobals "Net"=some (some<|.ref C))
 (aH:W.nsIn K mainGlobals "Hand"=some (some<|.ref CH))
 (h0:DH K "is_whole" Kf)
 (h1:DH K "is_whole_within" KS)
 (h2:DH K "is_amount" Kz)
 (h3:DH K "is_tuple_of" KC)
 (h4:DH K "is_guest" K7)
 (h5:DH K "turns_of" Kr)
 (h6:DH K "line_count" KN)
 (h7:DH K "above_of" Kl)
 (h8:DH K "bound_at" Kj)
 (h9:DH K "line_of" HW)
 (h10:DH K "is_there" Kg)
 (h11:DH K "want_of" HS)
 (h12:DH K "most_of" HU)
 (h13:DH K "with_want" K1)
 (h14:DH K "staying_from" KF)
 (h15:DH K "guest_node" KO)
 (h16:DH K "line_node" Ky)
 (h17:DH K "lay_guest" KB)
 (h18:DH K "lay_turn" Ke)
 (h19:DH K "filled_net" KL)
 (h20:DH K "takes_by" Mq)
 (h21:DH K "greatest_filling" M4)
 (h22:DH K "guests_reached" M3)
 (h23:DH K "reaching_at" Mx)
 (h24:DH K "given_at" Ki)
 (h25:DH K "given_most" Ms)
 (h26:DH K "short_of" BX)
 (h27:DH K "best_filling" KG)
 (h28:DH K "lacking_set" KR)
 (h29:DH K "refuse_lack" KP)
 (h30:DH K "_law_cell_at" KH)
 (h31:DH K "_law_feed" Kx)
 (h32:DH K "_law_digit" KI)
 (h33:DH K "_law_yard" KA)
 (h34:DH K "_law_guest" Mv)
 (h35:DH K "_law_bad" Km)
 (D:DH K "_law_come" WG)
 (h37:DH K "_law_state" Mt)
 (a38:W.nsIn K mainGlobals "law"=some (some<|.ref H))
 (l38:K.lookup H=some ⟨oc38,od38,.func<|W.fnOf "law" "law" (Y7 W5) (Z7 W5) (Q2 W5) .none t u r A k x,sl38⟩)
 (c38:W.codeIn K k "law"=true)
 (k38:W.keepIn K (.ref H)=true)
 (m39:MH K C "lay" "Net.lay" HZ)
 (m40:MH K C "lay_one" "Net.lay_one" KD)
 (m41:MH K C "flow" "Net.flow" Kn)
 (m42:MH K C "reached" "Net.reached" KQ)
 (m43:MH K C "push" "Net.push" Mo)
 (m44:MH K C "fill" "Net.fill" Ks)
 (m45:MH K C "way_to" "Net.way_to" KM)
 (m46:MH K CH "now" "Hand.now" K8)
 (B:MH K CH "come" "Hand.come" GI)
 (m48:MH K CH "turn" "Hand.turn" K3)
 (m49:MH K CH "got" "Hand.got" Ko)
 (m50:MH K CH "rest" "Hand.rest" K9)
 (m51:MH K CH "open_ones" "Hand.open_ones" M1)
 (m52:MH K CH "gifts" "Hand.gifts" Mr)
 (m53:MH K CH "yard_now" "Hand.yard_now" KY)
 (m54:MH K CH "still_there" "Hand.still_there" KZ)
 (m55:MH K CH "refuse_past" "Hand.refuse_past" KU)
 (m56:MH K CH "refuse_number" "Hand.refuse_number" Na)
 (a57:W.findIn K (.ref C) "__init__"=some (some<|.ref n))
 (i57:W.isFn K (.ref n)=true)
 (l57:K.lookup n=some ⟨oc57,od57,.func<|W.fnOf "__init__" "Net.__init__" (Y7 UF) (Z7 UF) (Q2 UF) .none kV57 dc57 pm57 an57 z ct57,sl57⟩)
 (c57:W.codeIn K z "Net.__init__"=true)
 (k57:W.keepIn K (.ref n)=true)
 (a58:W.findIn K (.ref CH) "__init__"=some (some<|.ref m))
 (i58:W.isFn K (.ref m)=true)
 (l58:K.lookup m=some ⟨oc58,od58,.func<|W.fnOf "__init__" "Hand.__init__" (Y7 UE) (Z7 UE) (Q2 UE) .none kV58 dc58 pm58 an58 y ct58,sl58⟩)
 (c58:W.codeIn K y "Hand.__init__"=true)
 (k58:W.keepIn K (.ref m)=true)
 (pg:W.plainGet K C Str.empty=true)
 (hd:W.hasDictIn K C=true)
 (po:W.plainOver K C=true)
 (sa:W.findIn K (.ref C) "__setattr__"=some (some<|.builtin "object.__setattr__"))
 (mk:W.makesIn K C=true)
 (kc:W.keepIn K (.ref C)=true)
 (Hpg:W.plainGet K CH Str.empty=true)
 (Hhd:W.hasDictIn K CH=true)
 (Hpo:W.plainOver K CH=true)
 (Hsa:W.findIn K (.ref CH) "__setattr__"=some (some<|.builtin "object.__setattr__"))
 (Hmk:W.makesIn K CH=true)
 (Hkc:W.keepIn K (.ref CH)=true)
 (Hn0:W.findIn K (.ref CH) "yard"=some none)
 (Hn1:W.findIn K (.ref CH) "present"=some none)
 (Hn2:W.findIn K (.ref CH) "known"=some none)
 (Hn3:W.findIn K (.ref CH) "given"=some none)
 (Hn4:W.findIn K (.ref CH) "gone"=some none)
 (Hn5:W.findIn K (.ref CH) "made"=some none)
 (n0:W.findIn K (.ref C) "ends"=some none)
 (n1:W.findIn K (.ref C) "rooms"=some none)
 (n2:W.findIn K (.ref C) "leaving"=some none)
 (n3:W.findIn K (.ref C) "laid"=some none)
 (aS:W.nsIn K mainGlobals "START"=some (some<|.ref E))
 (lS:K.lookup E=some ⟨.type "tuple",dS,.seq #[.str "start" tS] nS,slS⟩)
 (aE:W.nsIn K mainGlobals "END"=some (some<|.ref F))
 (lE:K.lookup F=some ⟨.type "tuple",dE,.seq #[.str "end" tE] nE,slE⟩)
 (rC:W.nsIn K mainGlobals "NoRoom"=some (some<|.ref CR))
 (rY:W.nsIn K mainGlobals "YardError"=some (some<|.ref l))
 (rf:W.findIn K (.ref CR) "__init__"=some (some<|.ref fR))
 (rl:K.lookup fR=some ⟨.type "function",odR,.func<|W.fnOf "__init__" "NoRoom.__init__" (Y7 UG) (Z7 UG) (Q2 UG) .none kVR dcR pmR anR cdR ctR,slR⟩)
 (rc:W.codeIn K cdR "NoRoom.__init__"=true)
 (rk:W.keepIn K (.ref fR)=true)
 (rx:DF K CR fR=true)
 (rg:W.specialIn K (.ref l) "__getattribute__"=some (some<|.builtin "type.__getattribute__"))
 (rr:W.readsIn K l (.type "type")=true)
 (ri:W.findCls K (.ref l) (.type "type") "__init__"=some (.val<|.builtin "ValueError.__init__"))
 (rs:W.findIn K (.ref CR) "__setattr__"=some (some<|.builtin "object.__setattr__"))
 (ro:((W.clsIn K CR).any fun cd=>WA cd.mro)=true)
 (xa0:W.nsIn K mainGlobals "NoGuest"=some (some<|.ref d))
 (xa1:W.nsIn K mainGlobals "NoTime"=some (some<|.ref c))
 (xe:W.exmOne K (.ref CR) (.ref l)=some true)
 (xp:W.findIn K (.ref CR) "__getattribute__"=some (some<|.builtin "BaseException.__getattribute__"))
 (xn:W.findIn K (.ref CR) "some"=some none)
 (xq:W.findIn K (.ref CR) "__getattr__"=some none)
 (xb:W.mroIn K CR (.type "BaseException")=some true)
 (xc:W.findIn K (.ref CR) "__class__"=some (some<|.builtin "object.__class__"))
 (xs:W.specialIn K (.builtin "object.__class__") "__get__"=some (some<|.builtin "getset_descriptor.__get__"))
 (xt:W.takesIn K (.builtin "object.__class__")=some true)
 (xm:W.mroIn K CR (.type "object")=some true)
 (xk1:W.kitOne K (.ref CR) (.ref CR)=some true)
 (xk2:W.kitOne K (.ref CR) (.type "ValueError")=some true)
 (xk3:W.kitOne K (.ref CR) (.ref d)=some false)
 (xk4:W.kitOne K (.ref CR) (.ref c)=some false)
 (rd:W.hasDictIn K CR=true)
 (rt:W.takerIn K CR "some"=some none)
 (rK:W.keepIn K (.ref CR)=true)
 (tx:Bi K c=true)
 (tK:W.keepIn K (.ref c)=true)
 (gx:Bi K d=true)
 (gK:W.keepIn K (.ref d)=true)
 (sn0:W.nsIn K mainGlobals "NoNumber"=some (some<|.ref q3))
 (sn1:W.nsIn K mainGlobals "NoRow"=some (some<|.ref q4))
 (sn2:W.nsIn K mainGlobals "NoText"=some (some<|.ref q5))
 (sn3:W.nsIn K mainGlobals "NoYard"=some (some<|.ref q6))
 (sgt:W.kitOne K (.ref d) (.ref c)=some false)
 (sgr:W.kitOne K (.ref d) (.ref CR)=some false)
 (stg:W.kitOne K (.ref c) (.ref d)=some false)
 (str:W.kitOne K (.ref c) (.ref CR)=some false)
 (sra:W.kitAny K (.ref CR) [.ref q3,.ref q4,.ref q5,.ref q6]=some false)
 (sga:W.kitAny K (.ref d) [.ref q3,.ref q4,.ref q5,.ref q6]=some false)
 (sta:W.kitAny K (.ref c) [.ref q3,.ref q4,.ref q5,.ref q6]=some false)
 (ge:W.exmOne K (.ref d) (.ref l)=some true)
 (gp:W.findIn K (.ref d) "__getattribute__"=some (some<|.builtin "BaseException.__getattribute__"))
 (gq:W.findIn K (.ref d) "__getattr__"=some none)
 (gb:W.mroIn K d (.type "BaseException")=some true)
 (gd:W.hasDictIn K d=true)
 (gcl:W.findIn K (.ref d) "__class__"=some (some<|.builtin "object.__class__"))
 (gm:W.mroIn K d (.type "object")=some true)
 (gk1:W.kitOne K (.ref d) (.ref d)=some true)
 (gk2:W.kitOne K (.ref d) (.type "ValueError")=some true)
 (te:W.exmOne K (.ref c) (.ref l)=some true)
 (tp:W.findIn K (.ref c) "__getattribute__"=some (some<|.builtin "BaseException.__getattribute__"))
 (tq:W.findIn K (.ref c) "__getattr__"=some none)
 (tb:W.mroIn K c (.type "BaseException")=some true)
 (td:W.hasDictIn K c=true)
 (tcl:W.findIn K (.ref c) "__class__"=some (some<|.builtin "object.__class__"))
 (tm:W.mroIn K c (.type "object")=some true)
 (tk1:W.kitOne K (.ref c) (.ref c)=some true)
 (tk2:W.kitOne K (.ref c) (.type "ValueError")=some true)
 (z0:W.nsIn K mainGlobals "abs"=some none)
 (z1:W.nsIn K mainGlobals "len"=some none)
 (z2:W.nsIn K mainGlobals "max"=some none)
 (z3:W.nsIn K mainGlobals "min"=some none)
 (z4:W.nsIn K mainGlobals "sum"=some none)
 (z5:W.nsIn K mainGlobals "any"=some none)
 (z6:W.nsIn K mainGlobals "all"=some none)
 (z7:W.nsIn K mainGlobals "isinstance"=some none)
 (z8:W.nsIn K mainGlobals "int"=some none)
 (z9:W.nsIn K mainGlobals "bool"=some none)
 (z10:W.nsIn K mainGlobals "list"=some none)
 (z11:W.nsIn K mainGlobals "tuple"=some none)
 (z12:W.nsIn K mainGlobals "range"=some none)
 (z13:W.nsIn K mainGlobals "zip"=some none)
 (z14:W.nsIn K mainGlobals "enumerate"=some none)
 (z15:W.nsIn K mainGlobals "dict"=some none)
 (z16:W.nsIn K mainGlobals "ValueError"=some none)
 : (∃E F,W.nsIn K mainGlobals "START"=some (some<|.ref E)/\W.nsIn K mainGlobals "END"=some (some<|.ref F)/\KTup K E "start" /\ KTup K F "end")/\∃fd:FuncData,(∀(s:Shared) (v:Value),BindsTo s fd ⟨[v],[]⟩ [("_law_script",v)])/\∀base:Heap,K.In base->base.Ns mainGlobals g->FnOk P w K g base CX0 10 fa fd ["_law_script"] (B0 K):=by
 have e:=hfa.symm.trans (W.mg_of X G a38)
 cases e
 have T:Bl g:=⟨W.mg_none_of X G z0,W.mg_none_of X G z1,W.mg_none_of X G z2,W.mg_none_of X G z3,W.mg_none_of X G z4,W.mg_none_of X G z5,W.mg_none_of X G z6,W.mg_none_of X G z7,W.mg_none_of X G z8,W.mg_none_of X G z9,W.mg_none_of X G z10,W.mg_none_of X G z11,W.mg_none_of X G z12,W.mg_none_of X G z13,W.mg_none_of X G z14,W.mg_none_of X G z15,W.mg_none_of X G z16⟩;have U:Tx K g C E F:=⟨⟨⟨pg,hd,po,sa⟩,n0,n1,n2,n3⟩,W.mg_of X G aS,W.mg_of X G aE,aS,aE⟩;have f:HandC K CH:=⟨⟨Hpg,Hhd,Hpo,Hsa⟩,Hn0,Hn1,Hn2,Hn3,Hn4,Hn5⟩;have XR:XC K g "NoRoom" l CR fR:=⟨Fh rx rl rfl rg rr ri,rK,W.mg_of X G rC⟩;have XA:MG K g l CR d c:=⟨xe,W.mg_of X G rY,⟨⟨xp,xq,xb⟩,rd⟩,xn,⟨⟨xp,xq,xb⟩,rd,xc,xs,xt,xm⟩,xk1,xk2,xk3,xk4,W.mg_of X G xa0,W.mg_of X G xa1⟩;have Xb3:=Jc (st:=UG) rl rc rk;have j:=Xb3.binds (ps:=ZaH) fun _ _ _ _ _ _ b a=>ln2 a fun _ _=>rfl;have XZ:GN K g "NoTime" c:=⟨Rq tx,tK,W.mg_of X G xa1⟩;have XW:GN K g "NoGuest" d:=⟨Rq gx,gK,W.mg_of X G xa0⟩;have XS:MD K g CR d c q3 q4 q5 q6:=⟨W.mg_of X G sn0,W.mg_of X G sn1,W.mg_of X G sn2,W.mg_of X G sn3,sgt,sgr,stg,str,sra,sga,sta⟩;have XV:MF K g l d:=⟨ge,W.mg_of X G rY,⟨⟨gp,gq,gb⟩,gd,gcl,xs,xt,gm⟩,gk1,gk2⟩;have XY:MF K g l c:=⟨te,W.mg_of X G rY,⟨⟨tp,tq,tb⟩,td,tcl,xs,xt,tm⟩,tk1,tk2⟩;have Xb6:=Jc (st:=W5) l38 c38 k38;have Xb4:=Jc (st:=UF) l57 c57 k57;have Z:=Xb4.binds (ps:=Zaj) fun _ _ _ _ _ _ b a=>ln1 a fun _=>rfl;have Xb5:=Jc (st:=UE) l58 c58 k58;have q:=Xb5.binds (ps:=ZaI) fun _ _ _ _ _ _ b a=>ln2 a fun _ _=>rfl;refine⟨⟨E,F,aS,aE,⟨_,_,_,_,lS⟩,⟨_,_,_,_,lE⟩⟩,W.fnOf "law" "law" (Y7 W5) (Z7 W5) (Q2 W5) .none t u r A k x,fun s v=>.of_eq rfl,fun base _ _=>?_⟩;have Xbj:=Fn (P:=P) (w:=w) (base:=base) T (h30.df X G fun _ b a=>ln2 a fun _ _=>rfl);have Xbp:=FK (P:=P) (w:=w) (base:=base) T (h31.df X G fun _ b a=>ln1 a fun _=>rfl);have Xa3:=Aw (P:=P) (w:=w) (base:=base) T (h32.df X G fun _ b a=>ln2 a fun _ _=>rfl);have XbY:=Ar T (h33.df X G fun _ b a=>ln1 a fun _=>rfl) Xa3;have Xbx:=IT T (h34.df X G fun _ b a=>ln3 a fun _ _ _=>rfl) Xa3;have XbZ:Dd P w K g base "Hand" CH ZaI 1:=⟨_,_,⟨Hmk,a58,i58,Hkc⟩,W.mg_of X G aH,q,Fu (P:=P) (w:=w) (base:=base) T f Xb5⟩;have XbP:=A7 (P:=P) (w:=w) (base:=base) T (h3.df X G fun _ b a=>ln2 a fun _ _=>rfl);have XbO:=IC (P:=P) (w:=w) (base:=base) T (h0.df X G fun _ b a=>ln1 a fun _=>rfl);have S:=Iq T (h1.df X G fun _ b a=>ln3 a fun _ _ _=>rfl) XbO;have Xbu:=OD T (h2.df X G fun _ b a=>ln2 a fun _ _=>rfl) S;have i:=CO (P:=P) (w:=w) (base:=base) T (h5.df X G fun _ b a=>ln1 a fun _=>rfl);have R:=As (P:=P) (w:=w) (base:=base) T (h6.df X G fun _ b a=>ln1 a fun _=>rfl);have N:=Ot T (h4.df X G fun _ b a=>ln2 a fun _ _=>rfl) XbP S Xbu i R;have p:=CV (P:=P) (w:=w) (base:=base) T f XZ (m55.mf fun _ b a=>ln2 a fun _ _=>rfl);have XbF:MN P w K g base "Net" C 1:=⟨_,_,⟨mk,a57,i57,kc⟩,W.mg_of X G aC,Z,LH (P:=P) (w:=w) (base:=base) T U Xb4⟩;have Xbq:=FH (P:=P) (w:=w) (base:=base) T U (m40.mf fun _ b a=>ln4 a fun _ _ _ _=>rfl);have Xbg:=LC T U (m39.mf fun _ b a=>ln4 a fun _ _ _ _=>rfl) Xbq;have J:=Fy (P:=P) (w:=w) (base:=base) T (h11.df X G fun _ b a=>ln1 a fun _=>rfl);have O:=A5 (P:=P) (w:=w) (base:=base) T (h15.df X G fun _ b a=>ln1 a fun _=>rfl);have Xbk:=CU (P:=P) (w:=w) (base:=base) T (h10.df X G fun _ b a=>ln2 a fun _ _=>rfl);have Xbl:=Ch (P:=P) (w:=w) (base:=base) T (h12.df X G fun _ b a=>ln1 a fun _=>rfl);have Y:=Ep (P:=P) (w:=w) (base:=base) T (h16.df X G fun _ b a=>ln2 a fun _ _=>rfl);have L:=IS (P:=P) (w:=w) (base:=base) T (h9.df X G fun _ b a=>ln1 a fun _=>rfl);have XbG:=Ec T U (h17.df X G fun _ b a=>ln4 a fun _ _ _ _=>rfl) Xbg J O i Xbk Xbl Y L;have Q:=Ew (P:=P) (w:=w) (base:=base) T (h8.df X G fun _ b a=>ln3 a fun _ _ _=>rfl);have Xbm:=AG (P:=P) (w:=w) (base:=base) T (h7.df X G fun _ b a=>ln2 a fun _ _=>rfl);have XbH:=AU T U (h18.df X G fun _ b a=>ln3 a fun _ _ _=>rfl) Xbg Q Y R Xbm;have Xbh:=IZ (P:=P) (w:=w) (base:=base) T U (m42.mf fun _ b a=>ln2 a fun _ _=>rfl);have XbD:=FS (P:=P) (w:=w) (base:=base) T U (m43.mf fun _ b a=>ln2 a fun _ _=>rfl);have XbE:=Lk (P:=P) (w:=w) (base:=base) T U (m45.mf fun _ b a=>ln3 a fun _ _ _=>rfl);have XbI:=C0 T U (m44.mf fun _ b a=>ln3 a fun _ _ _=>rfl) Xbh XbD XbE;have Xbn:=IP T U (h19.df X G fun _ b a=>ln2 a fun _ _=>rfl) XbF XbG i XbH XbI;have XbM:=OS T U (h22.df X G fun _ b a=>ln2 a fun _ _=>rfl) Xbn Xbh O;have Xbr:=C9 T (h28.df X G fun _ b a=>ln2 a fun _ _=>rfl) XbM;have XbB:=OA T (h23.df X G fun _ b a=>ln4 a fun _ _ _ _=>rfl) R Xbk L Xbl Xbm Q;have XbC:=Er T (h24.df X G fun _ b a=>ln4 a fun _ _ _ _=>rfl) XbB Q;have XbN:=Ek T (h25.df X G fun _ b a=>ln3 a fun _ _ _=>rfl) i XbC;have Xbs:=CS T (h26.df X G fun _ b a=>ln3 a fun _ _ _=>rfl) J XbN;have Xbt:Dt P w K g base fR ZaH 1 (G3 K CR "some"):=⟨_,j,EO (P:=P) (w:=w) (base:=base) T Xb3 XR.cl ⟨rs,ro,rd⟩ rt<|W.mg_of X G rY⟩;have M:=E8 T XR (h29.df X G fun _ b a=>ln2 a fun _ _=>rfl) Xbr Xbs Xbt;have XbQ:=Ag (P:=P) (w:=w) (base:=base) T (h13.df X G fun _ b a=>ln2 a fun _ _=>rfl);have XbR:=FD (P:=P) (w:=w) (base:=base) T (h14.df X G fun _ b a=>ln2 a fun _ _=>rfl);have Xbo:=C1 T f (m56.mf fun _ b a=>ln2 a fun _ _=>rfl) S;have I:=Al T f (m50.mf fun _ b a=>ln2 a fun _ _=>rfl) Xbo J;have o:=EU T f (m54.mf fun _ b a=>ln1 a fun _=>rfl) XbQ XbR I;have Xbw:=CZ T f XR (B.mf fun _ b a=>ln2 a fun _ _=>rfl) N p M o;have Xb0:=CL T f XR XA XS (D.df X G fun _ b a=>ln2 a fun _ _=>rfl) Xbw;have XbS:=Om T f XW (B.mf fun _ b a=>ln2 a fun _ _=>rfl) N p M o;have Xb1:=Iz T f XR XA XV XS (D.df X G fun _ b a=>ln2 a fun _ _=>rfl) XbS;have XbT:=Iv T f (B.mf fun _ b a=>ln2 a fun _ _=>rfl) N p M o;have Xby:=IY T f XR XA XY XS (D.df X G fun _ b a=>ln2 a fun _ _=>rfl) XbT;have Xb2:=Fv (P:=P) (w:=w) (base:=base) T (h35.df X G fun _ b a=>ln3 a fun _ _ _=>rfl);have XbU:=Fw T f (m49.mf fun _ b a=>ln2 a fun _ _=>rfl) Xbo;have Xbi:=FN (P:=P) (w:=w) (base:=base) T f (m46.mf fun _ b a=>ln1 a fun _=>rfl);have XbV:=AF T f (m51.mf fun _ b a=>ln1 a fun _=>rfl) I;have XbW:=IH (P:=P) (w:=w) (base:=base) T f (m52.mf fun _ b a=>ln1 a fun _=>rfl);have XbX:=CP (P:=P) (w:=w) (base:=base) T f (m53.mf fun _ b a=>ln1 a fun _=>rfl);have Xbz:=AZ T f (h37.df X G fun _ b a=>ln2 a fun _ _=>rfl) XbU I Xbi XbV XbW XbX;have XbJ:=C7 (P:=P) (w:=w) (base:=base) T U (m41.mf fun _ b a=>ln3 a fun _ _ _=>rfl);have XbK:=Az T U (h20.df X G fun _ b a=>ln4 a fun _ _ _ _=>rfl) i XbJ Y L O;have XbL:=AI T U (h21.df X G fun _ b a=>ln2 a fun _ _=>rfl) Xbn XbK;have Xbv:=FO T (h27.df X G fun _ b a=>ln2 a fun _ _=>rfl) XbL;have XbA:=CN T f (m48.mf fun _ b a=>ln1 a fun _=>rfl) p i Xbv o;exact LP T f Xb6 Xbj Xbp XbY Xbx XbZ Xb0 Xb1 Xby Xb2 Xbz XbA Xbi
end My
namespace PySem.W.Fast
def tw17870912407806360533:=0
def tw11011087245203778564:=0
def tw10774586656666659614:=0
def tw4073525903534706986:=0
def tw727809594068261010:=0
def tw3217723900254886373:=0
def tw14743626050435036528:=0
def tw998787604672038975:=0
def tw12087227938137415529:=0
def tw11325591525053808047:=0
def tw4026669274478877782:=0
def tw1452943819208753009:=0
def tw14808049320533205384:=0
def tw277752046740959552:=0
def tw1457276672707968231:=0
def tw14912438405772727506:=0
def tw9278006220509407559:=0
def tw11116196572932091724:=0
def tw4189590207401757002:=0
def tw8813855520106819592:=0
def tw16206630718768310274:=0
def tw2027931514917921459:=0
def tw3570111700151819713:=0
def tw3635403200391986375:=0
def tw14644433685930630800:=0
def tw1467835349926352373:=0
def tw16628272848967934144:=0
def tw10032263236222792098:=0
def tw14045685595473728402:=0
def tw267603057207813592:=0
def tw12997058509987778126:=0
def tw11359926725981418182:=0
def tw3052464357252321800:=0
def tw14828863489151447099:=0
def tw4363908511337763065:=0
def tw17248310703694968490:=0
def tw365370060084745555:=0
def tw16304790710723870227:=0
def tw5805352718586443403:=0
def tw12062023315610991070:=0
def tw12043894201416597908:=0
def tw13100714264171196603:=0
def tw11944990560819645240:=0
def tw17092961798439082807:=0
def tw7351364344002753201:=0
def tw14099182374918362677:=0
def tw6408289788572784782:=0
def tw1573023839770714501:=0
def tw6842756645734354991:=0
def tw6763372395209960403:=0
def tw12710592120243845840:=0
def tw12222998397982885744:=0
def tw17851076312841194537:=0
def tw16611175600855305783:=0
def tw61082655832953021:=0
def tw5631209012315652053:=0
def tw17900992945605365495:=0
def tw7068910110300440001:=0
def tw1967793299130562623:=0
def tw9223118650540475437:=0
def tw17096233113774681983:=0
def tw14531774082223746290:=0
def tw3837491825224779472:=0
def tw13874875381872562723:=0
def tw1916459644128266776:=0
def tw2355513409693131037:=0
def tw9020781854462207000:=0
def tw1151271483744543518:=0
def tw15771452233430562924:=0
def tw15214175004650376019:=0
def tw15824269229729087159:=0
def tw10797780602497217737:=0
def tw5635484741987243945:=0
def tw4901919741157109982:=0
def tw1015128465969675581:=0
def tw5088165914940222090:=0
def tw6964372497880122258:=0
def tw8045041364370865212:=0
def tw1037601612592410932:=0
def tw17886952105959985053:=0
def tw12783643895334453705:=0
def tw2331302788368131415:=0
def tw16393033059906698780:=0
def tw2060019090883579598:=0
def tw14562134762081128766:=0
def tw2963466218639870179:=0
def tw326146123689777594:=0
def tw1089015410482188901:=0
def tw7452328113928042414:=0
def tw10590934767527584692:=0
def tw13690438876250086657:=0
def tw8315296474857112232:=0
def tw6401136783299656639:=0
def tw14791451705640738111:=0
def tw9087129797816773260:=0
def tw820613612662050468:=0
def tw10733664097462374840:=0
def tw3648504100803414505:=0
def tw1305609154486217806:=0
def tw14499922674282169535:=0
def tw11472347108753084214:=0
def tw11249429352669158441:=0
def tw345277614003079779:=0
def tw4062382305246926185:=0
def tw2586243898681595121:=0
def tw1961575359703464380:=0
def tw5302342364450992365:=0
def tw11620003326856455394:=0
def tw15470878016264507121:=0
def tw1592872728985218920:=0
def tw12887228923604382842:=0
def tw18189582467759962895:=0
def tw16427442994541416540:=0
def tw8881510895879256574:=0
def tw16016823604504448611:=0
def tw8200645187442370526:=0
def tw9210265584754629719:=0
def tw18278738893422158043:=0
def tw13511466857336042394:=0
def tw11828261344094962999:=0
def tw14684946408128970640:=0
def tw13570264825153672391:=0
def tw280402644537865960:=0
def tw4024898467340458939:=0
def tw13685857051439190691:=0
def tw10875153750611841863:=0
def tw15342417139623430422:=0
def tw16409650820314687180:=0
def tw545132237997373557:=0
def tw5840849402656802113:=0
def tw4173321082004583428:=0
def tw920219480616915617:=0
def tw18092907993569314533:=0
def tw11689486193838286419:=0
def tw15210073507984578981:=0
def tw10545370129861348073:=0
def tw4970375320063982850:=0
def tw7696567093263378776:=0
def tw8546696904442439665:=0
def tw329225943815699938:=0
def tw867579486348035255:=0
def tw15821710915561528068:=0
def tw10147608025295229803:=0
def tw14300514703959375839:=0
def tw12031467993812822584:=0
def tw12379709299036569295:=0
def tw17755450455347873937:=0
def tw16036397724113602633:=0
def tw1228859874766572741:=0
def tw13591366130145426107:=0
def tw6685992870032761297:=0
def tw11401686150283366182:=0
def tw4765523708877747806:=0
def tw12495192154572857882:=0
def tw10638163897382478282:=0
def tw2476181502030720315:=0
def tw6473402976556867080:=0
def tw3649488909555368944:=0
def tw17502253393227257338:=0
def tw16776612178475853313:=0
def tw15000682208111012677:=0
def tw3886405262134403352:=0
def tw11870091204120045255:=0
def tw5187134151005257304:=0
def tw6098952075182371508:=0
def tw9274467814284897459:=0
def tw7479827427136028646:=0
def tw12624849666273351370:=0
def tw13336349928115788257:=0
def tw9984244579526345080:=0
def tw1798118538566824234:=0
def tw10673170103466088050:=0
def tw2869848675201978690:=0
def tw8223013755602104271:=0
def tw6897927026408724819:=0
def tw3948107042868230913:=0
def tw8296695932580946502:=0
def tw8217008039870366600:=0
def tw7580560551447124823:=0
def tw6383142763861623559:=0
def tw2916425438912573926:=0
def tw1388096510346168873:=0
def tw5572516093376803831:=0
def tw11524467970034072588:=0
def tw2281357429702164835:=0
def tw846190654556767841:=0
def tw16380589462989710351:=0
def tw16884629666446614238:=0
def tw6220039363559232258:=0
def tw1982270992654020099:=0
def tw7581036044204200955:=0
def tw6042725382347503572:=0
def tw191535775968299539:=0
def tw16568557862370375121:=0
def tw16060440614321906095:=0
def tw5843625001001556735:=0
def tw1916951313736318111:=0
def tw15829602255714137778:=0
def tw2301107675066021452:=0
def tw8490205187933202375:=0
def tw2234703155521370515:=0
def tw18047809196651904905:=0
def tw1696810711621618920:=0
def tw13717730369549224258:=0
def tw9828022564662409946:=0
def tw8652760192661325446:=0
def tw8931220183273742924:=0
def tw16645333598452562723:=0
def tw4836485466966264823:=0
def tw2952990134529259239:=0
def tw13002373356012274569:=0
def tw17390118607351086386:=0
def tw15031528342209239518:=0
def tw12409303147258094663:=0
def tw5635710516869834157:=0
def tw11415372632317519286:=0
def tw5666530303675076563:=0
def tw901720418032190753:=0
def tw1306971329467322903:=0
def tw9304987710396531302:=0
def tw14408577764587579321:=0
def tw6959796013881788487:=0
def tw4589333786415571863:=0
def tw9669463120053680080:=0
def tw18061617454390092696:=0
def tw165227849092388746:=0
def tw8299906743045518137:=0
def tw16998924001338263736:=0
def tw14533800377633123667:=0
def tw13989467710099563291:=0
def tw3000416362727152797:=0
def tw15084904512056188589:=0
def tw17529228587319641429:=0
def tw8373613247270544084:=0
def tw12750612527854749815:=0
def tw14541291720121035436:=0
def tw3425155610510053247:=0
def tw5551440474202801762:=0
def tw9228641335350409873:=0
def tw15604931555965030292:=0
def tw4486659680186886995:=0
def tw5704506846014769514:=0
def tw7313595203856761558:=0
def tw1232767813180918069:=0
def tw734671446157574042:=0
def tw13846170743548816031:=0
def tw882123118286115021:=0
def tw7969940313860650702:=0
def tw7930336611660107860:=0
def tw7770201192621991702:=0
def tw6563658591198519860:=0
def tw636768760561354451:=0
def tw5777799366943740192:=0
def tw4617346227527032036:=0
def tw3545663713202583502:=0
def tw1954539833101288999:=0
def tw1709781380587890579:=0
def tw16818732089387559375:=0
def tw15099443858027087365:=0
def tw14137980192564947870:=0
def tw12999604074735406829:=0
def tw12655475548273999001:=0
def tw12153528533514140426:=0
def tw1136748790844668312:=0
def tw16628236518410067418:=0
def tw16842565048039357159:=0
def tw2618244424065445555:=0
def tw3399479577866446862:=0
def tw2480715095002176443:=0
def tw15851781220778311573:=0
def tw10170231433471935629:=0
def tw8718373837003092826:=0
def tw6838498252782426044:=0
def tw2002679880196475199:=0
def tw10286828921741781398:=0
def tw3525383312042718117:=0
def tw8182239147968437345:=0
def tw6275506364678245242:=0
def tw4565750482615276348:=0
def tw9639550687151644781:=0
def tw13422437914382736161:=0
def tw7160009209187500563:=0
def tw14828825396906436006:=0
def tw1321600325858877318:=0
def tw11620480106099429149:=0
def tw1111414845204284530:=0
def tw934745518866528948:=0
def tw9121885175629317868:=0
def tw9074807102813096272:=0
def tw8107885855374268688:=0
def tw6970599884653330766:=0
def tw5795014304186183737:=0
def tw5491278543267615458:=0
def tw5374302781822043668:=0
def tw4813669412979033453:=0
def tw4532262489169544346:=0
def tw3870074203037281310:=0
def tw2280021249275980877:=0
def tw221488672498473783:=0
def tw16797785212246772491:=0
def tw16261139155932585749:=0
def tw15698009242498650943:=0
def tw15634257557482765819:=0
def tw15197699398775576512:=0
def tw14728667377836362413:=0
def tw14378312205643789829:=0
def tw13788151250240582526:=0
def tw13771315111368848911:=0
def tw13682757538100026022:=0
def tw13563009659191806585:=0
def tw11998278574671800200:=0
def tw11748001457176800914:=0
def tw11686563839895680371:=0
def tw11677160164847731514:=0
def tw11335014781397369082:=0
def tw1084492676729435524:=0
def tw10161961943827899129:=0
def tw1153978764664184619:=0
def tw14404695865200163936:=0
def tw13889991050281508882:=0
def tw6578798684680811469:=0
def tw4425334803714742750:=0
def tw9493636985309722077:=0
def tw424025393871755426:=0
def tw17316630849053404769:=0
def tw2245260559638286382:=0
def tw8855406087175889600:=0
def tw5973064669853455946:=0
def tw17225793731897093788:=0
def tw8611388784812347544:=0
def tw8397075571525060132:=0
def tw8368690755889546226:=0
def tw6340308493988725776:=0
def tw4903470522117424801:=0
def tw4449894988343974380:=0
def tw3501690180434255620:=0
def tw2364342709763818655:=0
def tw2102228186760978814:=0
def tw16961274236145793736:=0
def tw12892644468939831804:=0
def tw12195948376543233419:=0
def tw1154539994616513518:=0
def tw14586142110301031828:=0
def tw431593020739866661:=0
def tw2101922547082944380:=0
def tw12547808181563687849:=0
def tw11577714760252983051:=0
def tw897469446641254996:=0
def tw1045241806995050655:=0
def tw14879247932491976434:=0
def tw10527296419610444036:=0
def tw1526619989045052255:=0
def tw8792781754429760793:=0
def tw6371050876585483920:=0
def tw17211332068602550921:=0
def tw10314196670655718204:=0
def tw11409347655257471554:=0
def tw7943832835568337130:=0
def tw7650834752381262634:=0
def tw7196372884547705131:=0
def tw635847806773108454:=0
def tw5262687559150674460:=0
def tw2245279649160093202:=0
def tw17734999143449913956:=0
def tw17192060296203346937:=0
def tw16880466287176004541:=0
def tw16244301633119695989:=0
def tw16026139626492894164:=0
def tw15939188285266290074:=0
def tw14090906355452414390:=0
def tw13167054672155047423:=0
def tw11241377284223587506:=0
def tw10740056485548830974:=0
def tw15778089640812973226:=0
def tw9385339818502268003:=0
def tw8113369376419175447:=0
def tw7330881073686538867:=0
def tw17874117261627591256:=0
def tw1749717024431184919:=0
def tw17198435549502683984:=0
def tw11234142113054366966:=0
end PySem.W.Fast
open PySem PySem.W PyProof.Rows
set_option maxRecDepth 100000 in
set_option maxHeartbeats 0 in
theorem PySem.Challenge.cw_chargeyard_k61_no_guests_holds : PySem.Challenge.rw_chargeyard_k61_no_guests.Holds := by
 w_on; o_law; k_head; (case hw=>w_witness2)
 k_fill
 refine L2.ZmC (l:=PySem.Challenge.rw_chargeyard_k61_no_guests) (k:=10) (x := "_law_script") rfl rfl ⟨rfl,by decide,by decide⟩ (fun w h Y=>W.kIn_of Y) ?F
 case F =>
  intro w mg fa h KX G hmg
  refine' My.Zut KX G hmg ?aC ?aH ?h0 ?h1 ?h2 ?h3 ?h4 ?h5 ?h6 ?h7 ?h8 ?h9 ?h10 ?h11 ?h12 ?h13 ?h14 ?h15 ?h16 ?h17 ?h18 ?h19 ?h20 ?h21 ?h22 ?h23 ?h24 ?h25 ?h26 ?h27 ?h28 ?h29 ?h30 ?h31 ?h32 ?h33 ?h34 ?h35 ?h36 ?h37 ?a38 ?l38 ?c38 ?k38 ?m39 ?m40 ?m41 ?m42 ?m43 ?m44 ?m45 ?m46 ?m47 ?m48 ?m49 ?m50 ?m51 ?m52 ?m53 ?m54 ?m55 ?m56 ?a57 ?i57 ?l57 ?c57 ?k57 ?a58 ?i58 ?l58 ?c58 ?k58 ?pg ?hd ?po ?sa ?mk ?kc ?Hpg ?Hhd ?Hpo ?Hsa ?Hmk ?Hkc ?Hn0 ?Hn1 ?Hn2 ?Hn3 ?Hn4 ?Hn5 ?n0 ?n1 ?n2 ?n3 ?aS ?lS ?aE ?lE ?rC ?rY ?rf ?rl ?rc ?rk ?rx ?rg ?rr ?ri ?rs ?ro ?xa0 ?xa1 ?xe ?xp ?xn ?xq ?xb ?xc ?xs ?xt ?xm ?xk1 ?xk2 ?xk3 ?xk4 ?rd ?rt ?rK ?tx ?tK ?gx ?gK ?sn0 ?sn1 ?sn2 ?sn3 ?sgt ?sgr ?stg ?str ?sra ?sga ?sta ?ge ?gp ?gq ?gb ?gd ?gcl ?gm ?gk1 ?gk2 ?te ?tp ?tq ?tb ?td ?tcl ?tm ?tk1 ?tk2 ?z0 ?z1 ?z2 ?z3 ?z4 ?z5 ?z6 ?z7 ?z8 ?z9 ?z10 ?z11 ?z12 ?z13 ?z14 ?z15 ?z16
  case aC | aH | a38 | l38 | c38 | k38 | a57 | i57 | l57 | c57 | k57 | a58 | i58 | l58 | c58 | k58 | pg | hd | po | sa | mk | kc | Hpg | Hhd | Hpo | Hsa | Hmk | Hkc | Hn0 | Hn1 | Hn2 | Hn3 | Hn4 | Hn5 | n0 | n1 | n2 | n3 | aS | lS | aE | lE | rC | rY | rf | rl | rc | rk | rg | rr | ri | rs | xa0 | xa1 | xp | xn | xq | xb | xc | xs | xt | xm | rd | rt | rK | tK | gK | sn0 | sn1 | sn2 | sn3 | gp | gq | gb | gd | gcl | gm | tp | tq | tb | td | tcl | tm | z0 | z1 | z2 | z3 | z4 | z5 | z6 | z7 | z8 | z9 | z10 | z11 | z12 | z13 | z14 | z15 | z16=>k_is
  case xk1 | xk2 | xk3 | xk4 | sgt | sgr | stg | str | sra | sga | sta | gk1 | gk2 | tk1 | tk2=>kit_is
  case xe | ge | te=>kts_exm
  case h0 | h1 | h2 | h3 | h4 | h5 | h6 | h7 | h8 | h9 | h10 | h11 | h12 | h13 | h14 | h15 | h16 | h17 | h18 | h19 | h20 | h21 | h22 | h23 | h24 | h25 | h26 | h27 | h28 | h29 | h30 | h31 | h32 | h33 | h34 | h35 | h36 | h37 =>
   refine' My.DH.mk ?a ?l ?c ?k
   case a | l | c | k=>k_is
  case m39 | m40 | m41 | m42 | m43 | m44 | m45 | m46 | m47 | m48 | m49 | m50 | m51 | m52 | m53 | m54 | m55 | m56 =>
   refine' My.MH.mk ?a ?i ?l ?c ?k
   case a | i | l | c | k=>k_is
  case rx | ro | tx | gx=>with_unfolding_all exact Eq.refl true
end
