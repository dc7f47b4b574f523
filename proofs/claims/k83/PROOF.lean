import PyProof.Rows.All
import Wide.All
import OpenK.AllK
import Lean
import PySem.Challenge.RW_chargeyard_k83_desks_refused
noncomputable section
local macro_rules|`(#[])=>`(by lia)|`(#[$x])=>`(⟨$x⟩)|`(#[$x,$y,*])=>`(⟨$x,$y,*⟩)
set_option Elab.async false
set_option linter.all false
set_option maxRecDepth 100000
set_option maxHeartbeats 4000000
set_option compiler.extract_closed false
set_option genSizeOf false
section
open PySem PySem.Spec PyProof.Rows
section
variable{α β γ δ ε ζ η θ ι κ μ ν ξ ο π ρ σ:Sort _}{g:Prop}{A0 B0 C0 D0 E0 F0:Prop}{A1 B1 C1 D1 E1:α->Prop}{A2 B2 C2 D2 E2 F2:α->β->Prop}{A3 B3 C3 D3 E3:α->β->γ->Prop}{A4 B4 C4 D4 E4:α->β->γ->δ->Prop}{A5 B5 C5 D5 E5:α->β->γ->δ->ε->Prop}{A8:α->β->γ->δ->ε->ζ->η->θ->Prop}{A9 B9 C9 D9:α->β->γ->δ->ε->ζ->η->θ->ι->Prop}{A11:α->β->γ->δ->ε->ζ->η->θ->ι->κ->μ->Prop}{A17:α->β->γ->δ->ε->ζ->η->θ->ι->κ->μ->ν->ξ->ο->π->ρ->σ->Prop}
def At(h:A0/\∃u v,A2 u v/\B2 u v)(f:A0->∀u v,A2 u v->B2 u v->g):g:=by obtain⟨H,u,v,h1,h2⟩:=h;exact f H u v h1 h2
def By(h:A0/\∃u,A1 u/\B1 u)(f:A0->∀u,A1 u->B1 u->g):g:=by obtain⟨H,u,h1,h2⟩:=h;exact f H u h1 h2
def Do(h:A0/\B0/\∃u,A1 u/\∃v w x,A4 u v w x/\B4 u v w x)(f:A0->B0->∀u,A1 u->∀v w x,A4 u v w x->B4 u v w x->g):g:=by obtain⟨H,h1,u,h2,v,w,x,h3,h4⟩:=h;exact f H h1 u h2 v w x h3 h4
def FB(h:∃u v w,A3 u v w)(f:∀u v w,A3 u v w->g):g:=by obtain⟨u,v,w,H⟩:=h;exact f u v w H
def Hs(h:A0/\B0/\C0/\D0/\E0)(f:A0->B0->C0->D0->E0->g):g:=by obtain⟨H,h1,h2,h3,h4⟩:=h;exact f H h1 h2 h3 h4
def I0(h:∃u,A1 u/\B1 u)(f:∀u,A1 u->B1 u->g):g:=by obtain⟨u,H,h1⟩:=h;exact f u H h1
def KE(h:A0/\B0/\C0)(f:A0->B0->C0->g):g:=by obtain⟨H,h1,h2⟩:=h;exact f H h1 h2
def L0(h:∃u v,A2 u v/\B2 u v)(f:∀u v,A2 u v->B2 u v->g):g:=by obtain⟨u,v,H,h1⟩:=h;exact f u v H h1
def L1(h:∃u v w,A3 u v w/\B3 u v w)(f:∀u v w,A3 u v w->B3 u v w->g):g:=by obtain⟨u,v,w,H,h1⟩:=h;exact f u v w H h1
def L3(h:∃u,A1 u/\B1 u/\C1 u)(f:∀u,A1 u->B1 u->C1 u->g):g:=by obtain⟨u,H,h1,h2⟩:=h;exact f u H h1 h2
def Ps(h:∃u v w,A3 u v w/\B3 u v w/\C3 u v w)(f:∀u v w,A3 u v w->B3 u v w->C3 u v w->g):g:=by obtain⟨u,v,w,H,h1,h2⟩:=h;exact f u v w H h1 h2
def RC(h:∃u v,A2 u v/\B2 u v/\C2 u v/\D2 u v)(f:∀u v,A2 u v->B2 u v->C2 u v->D2 u v->g):g:=by obtain⟨u,v,H,h1,h2,h3⟩:=h;exact f u v H h1 h2 h3
def SF(h:∃u v,A2 u v/\B2 u v/\C2 u v)(f:∀u v,A2 u v->B2 u v->C2 u v->g):g:=by obtain⟨u,v,H,h1,h2⟩:=h;exact f u v H h1 h2
def aA(h:A0/\B0/\C0/\D0/\E0/\F0)(f:A0->B0->C0->D0->E0->F0->g):g:=by obtain⟨H,h1,h2,h3,h4,h5⟩:=h;exact f H h1 h2 h3 h4 h5
def aB(h:∃u,A1 u/\B1 u/\C1 u/\D1 u)(f:∀u,A1 u->B1 u->C1 u->D1 u->g):g:=by obtain⟨u,H,h1,h2,h3⟩:=h;exact f u H h1 h2 h3
def aF(h:A0/\B0/\C0/\D0)(f:A0->B0->C0->D0->g):g:=by obtain⟨H,h1,h2,h3⟩:=h;exact f H h1 h2 h3
def aG(h:∃u v w x y,A5 u v w x y/\B5 u v w x y/\C5 u v w x y/\D5 u v w x y/\E5 u v w x y)(f:∀u v w x y,A5 u v w x y->B5 u v w x y->C5 u v w x y->D5 u v w x y->E5 u v w x y->g):g:=by obtain⟨u,v,w,x,y,H,h1,h2,h3,h4⟩:=h;exact f u v w x y H h1 h2 h3 h4
def aI(h:A0/\B0/\∃u,A1 u/\B1 u)(f:A0->B0->∀u,A1 u->B1 u->g):g:=by obtain⟨H,h1,u,h2,h3⟩:=h;exact f H h1 u h2 h3
def aJ(h:∃u,A1 u/\∃v,A2 u v)(f:∀u,A1 u->∀v,A2 u v->g):g:=by obtain⟨u,H,v,h1⟩:=h;exact f u H v h1
def aK(h:∃u v w,A3 u v w/\B3 u v w/\C3 u v w/\D3 u v w/\E3 u v w)(f:∀u v w,A3 u v w->B3 u v w->C3 u v w->D3 u v w->E3 u v w->g):g:=by obtain⟨u,v,w,H,h1,h2,h3,h4⟩:=h;exact f u v w H h1 h2 h3 h4
def aL(h:∃u v,A2 u v)(f:∀u v,A2 u v->g):g:=by obtain⟨u,v,H⟩:=h;exact f u v H
def aM(h:∃u,A1 u/\B1 u/\C1 u/\D1 u/\E1 u)(f:∀u,A1 u->B1 u->C1 u->D1 u->E1 u->g):g:=by obtain⟨u,H,h1,h2,h3,h4⟩:=h;exact f u H h1 h2 h3 h4
def aN(h:∃u v,A2 u v/\B2 u v/\C2 u v/\D2 u v/\E2 u v/\F2 u v)(f:∀u v,A2 u v->B2 u v->C2 u v->D2 u v->E2 u v->F2 u v->g):g:=by obtain⟨u,v,H,h1,h2,h3,h4,h5⟩:=h;exact f u v H h1 h2 h3 h4 h5
def aO(h:∃u v w x,A4 u v w x/\B4 u v w x/\C4 u v w x/\D4 u v w x/\E4 u v w x)(f:∀u v w x,A4 u v w x->B4 u v w x->C4 u v w x->D4 u v w x->E4 u v w x->g):g:=by obtain⟨u,v,w,x,H,h1,h2,h3,h4⟩:=h;exact f u v w x H h1 h2 h3 h4
def aP(h:∃u,A1 u/\B1 u/\∃v,A2 u v)(f:∀u,A1 u->B1 u->∀v,A2 u v->g):g:=by obtain⟨u,H,h1,v,h2⟩:=h;exact f u H h1 v h2
def aQ(h:∃u v w x,A4 u v w x/\B4 u v w x/\C4 u v w x)(f:∀u v w x,A4 u v w x->B4 u v w x->C4 u v w x->g):g:=by obtain⟨u,v,w,x,H,h1,h2⟩:=h;exact f u v w x H h1 h2
def aR(h:∃u v w x y z i j k,A9 u v w x y z i j k/\B9 u v w x y z i j k/\C9 u v w x y z i j k)(f:∀u v w x y z i j k,A9 u v w x y z i j k->B9 u v w x y z i j k->C9 u v w x y z i j k->g):g:=by obtain⟨u,v,w,x,y,z,i,j,k,H,h1,h2⟩:=h;exact f u v w x y z i j k H h1 h2
def aT(h:A0/\∃u,A1 u/\∃v,A2 u v/\B2 u v/\∃w,A3 u v w)(f:A0->∀u,A1 u->∀v,A2 u v->B2 u v->∀w,A3 u v w->g):g:=by obtain⟨H,u,h1,v,h2,h3,w,h4⟩:=h;exact f H u h1 v h2 h3 w h4
def aU(h:∃u v,A2 u v/\B2 u v/\C2 u v/\D2 u v/\E2 u v)(f:∀u v,A2 u v->B2 u v->C2 u v->D2 u v->E2 u v->g):g:=by obtain⟨u,v,H,h1,h2,h3,h4⟩:=h;exact f u v H h1 h2 h3 h4
def aV(h:A0/\∃u,A1 u/\B1 u/\C1 u)(f:A0->∀u,A1 u->B1 u->C1 u->g):g:=by obtain⟨H,u,h1,h2,h3⟩:=h;exact f H u h1 h2 h3
def aW(h:∃u,A1 u/\B1 u/\C1 u/\∃v,A2 u v/\B2 u v)(f:∀u,A1 u->B1 u->C1 u->∀v,A2 u v->B2 u v->g):g:=by obtain⟨u,H,h1,h2,v,h3,h4⟩:=h;exact f u H h1 h2 v h3 h4
def aX(h:∃u,A1 u/\∃v,A2 u v/\B2 u v/\C2 u v/\∃w,A3 u v w/\B3 u v w)(f:∀u,A1 u->∀v,A2 u v->B2 u v->C2 u v->∀w,A3 u v w->B3 u v w->g):g:=by obtain⟨u,H,v,h1,h2,h3,w,h4,h5⟩:=h;exact f u H v h1 h2 h3 w h4 h5
def aY(h:∃u v w x y z i j k,A9 u v w x y z i j k/\B9 u v w x y z i j k/\C9 u v w x y z i j k/\D9 u v w x y z i j k)(f:∀u v w x y z i j k,A9 u v w x y z i j k->B9 u v w x y z i j k->C9 u v w x y z i j k->D9 u v w x y z i j k->g):g:=by obtain⟨u,v,w,x,y,z,i,j,k,H,h1,h2,h3⟩:=h;exact f u v w x y z i j k H h1 h2 h3
def aZ(h:∃u v w x y z i j,A8 u v w x y z i j)(f:∀u v w x y z i j,A8 u v w x y z i j->g):g:=by obtain⟨u,v,w,x,y,z,i,j,H⟩:=h;exact f u v w x y z i j H
def aa(h:∃u v w x y z i j k l m n o p q r s,A17 u v w x y z i j k l m n o p q r s)(f:∀u v w x y z i j k l m n o p q r s,A17 u v w x y z i j k l m n o p q r s->g):g:=by obtain⟨u,v,w,x,y,z,i,j,k,l,m,n,o,p,q,r,s,H⟩:=h;exact f u v w x y z i j k l m n o p q r s H
def ac(h:∃u v w x y z i j k l m,A11 u v w x y z i j k l m)(f:∀u v w x y z i j k l m,A11 u v w x y z i j k l m->g):g:=by obtain⟨u,v,w,x,y,z,i,j,k,l,m,H⟩:=h;exact f u v w x y z i j k l m H
def ae(h:A0/\∃u v w,A3 u v w/\B3 u v w/\C3 u v w/\D3 u v w/\E3 u v w)(f:A0->∀u v w,A3 u v w->B3 u v w->C3 u v w->D3 u v w->E3 u v w->g):g:=by obtain⟨H,u,v,w,h1,h2,h3,h4,h5⟩:=h;exact f H u v w h1 h2 h3 h4 h5
end
def Qa{b:Sort _}{a:b}{q:Prop}:a=a\/q:=Or.inl rfl
def zP:=@PySem.F.plainAttrs_list
def zS:=@PySem.F.slot_list_append
def zT:=@PySem.F.type_list_append
def zN:=@PassesOwn.never
abbrev Qb:=Value->Shared->Prop
abbrev Qc:=List (Addr×Obj)
abbrev Qd:=List PyData
abbrev Qe:=List Value
abbrev Qf:=Option Value
abbrev Qg:=List Addr
abbrev Qh:=List Str
abbrev Zaa:Qh:=["yard","guests"]
abbrev Zab:Qh:=["hand","word","numbers"]
abbrev Zac:Qh:=["_law_desk","_law_row","_law_told","e","_law_marks","_law_words"]
abbrev Zad:Qh:=["self","number"]
abbrev Zae:Qh:=["self","start","end","room"]
abbrev Zaf:Qh:=["yard","guests","some","turn"]
abbrev Zag:Qh:=["net","yard","number","guest"]
abbrev Zah:Qh:=["words"]
abbrev Zai:Qh:=["yard","guests","some"]
abbrev Zaj:Qh:=["self","row"]
abbrev Zak:Qh:=["thing","least","end"]
abbrev Zal:Qh:=["_law_feed_here","_law_yard_here","_law_now"]
abbrev Zam:Qh:=["self","start","end"]
abbrev Zan:Qh:=["_law_text_here","_law_desks","_law_told","e","_law_marks"]
abbrev Zao:Qh:=["self","text"]
abbrev Zap:Qh:=["guest","turn"]
abbrev Zaq:Qh:=["self","guest"]
abbrev Zar:Qh:=["thing","turns"]
abbrev Zas:Qh:=["_law_feed_here","_law_many"]
abbrev Zat:Qh:=["yard","line","turn"]
abbrev Zau:Qh:=["_law_k","_law_words","_law_marks"]
abbrev Zav:Qh:=["self"]
abbrev Zaw:Qh:=["guest"]
abbrev Zax:Qh:=["thing","length"]
abbrev Zay:Qh:=["_law_yard_here","_law_guests"]
abbrev Zaz:Qh:=["_law_text_here","_law_desks"]
abbrev ZaA:Qh:=["self","line","turn","bound"]
abbrev ZaB:Qh:=["hand","line","turn","bound"]
abbrev ZaC:Qh:=["_law_text_here","_law_cell"]
abbrev ZaD:Qh:=["_law_script","_law_k"]
abbrev ZaE:Qh:=["thing","line","turns"]
abbrev ZaF:Qh:=["yard","thing"]
abbrev ZaG:Qh:=["self","turn"]
abbrev ZaH:Qh:=["yard"]
abbrev ZaI:Qh:=["text"]
abbrev ZaJ:Qh:=["line","turn"]
abbrev ZaK:Qh:=["thing","least"]
abbrev ZaL:Qh:=["_law_desk","_law_row"]
abbrev ZaM:Qh:=["self","edges","end"]
abbrev ZaN:Qh:=["yard","line"]
abbrev ZaO:Qh:=["net","yard","turn"]
abbrev ZaP:Qh:=["self","some"]
abbrev ZaQ:Qh:=["self","yard"]
abbrev ZaR:Qh:=["self","start"]
abbrev ZaS:Qh:=["thing","line"]
abbrev ZaT:Qh:=["guest","want"]
abbrev ZaU:Qh:=["rows","place"]
abbrev ZaV:Qh:=["hand","guest"]
abbrev ZaW:Qh:=["_law_feed_here"]
abbrev ZaX:Qh:=["thing"]
abbrev ZaY:Qh:=["rows","yard"]
abbrev ZaZ:Qh:=["number"]
abbrev Zba:Qh:=["word"]
abbrev Qi:=List Expr
abbrev Qj:=Option Addr
abbrev Qk:=List Nat
abbrev Ql:=List Int
abbrev Qm:=Nat->Bool
abbrev Qn:=Nat->Int
def Xa:=@wpAny_bind
def Xb:=@List.mem_cons_self
def Xc:=@List.mem_cons
def Xd:=@Heap.get?_push_of_some
def Xe:=@List.length_map
def Xf:=@List.mem_cons_of_mem
def Xg:=@if_neg
def Xh:=@List.getElem?_eq_some_iff
def Xi:=@if_pos
def Xj:=@List.mem_singleton
def Xk:=@Heap.lt_size
def Xl:=@wpAny_pure
def Xm:=@Nat.le_refl
def Xn:=@Heap.get?_push_size
def Xo:=@absurd
def Xp:=@List.append_nil
def Xq:=@Nat.ne_of_lt
def Xr:=@List.length_append
def Xs:=@List.mem_map
def Xt:=@Nat.le_trans
def Xu:=@List.mem_append
def Xv:=@List.map_append
def Xw:=@List.size_toArray
def Xx:=@List.map_map
def Xy:=@List.map_cons
def Xz:=@congrArg
def XA:=@Nat.zero_le
def XF:=@Bool.false_ne_true
def XG:=@List.getElem?_map
def XH:=@List.not_mem_nil
def XI:=@Nat.lt_of_lt_of_le
def XJ:=@List.getElem?_eq_getElem
def XN:=@List.nodup_cons
def XS:=@Bool.and_eq_true
def XT:=@Heap.get?_update_other
def XU:=@decide_eq_false
def XV:=@List.mem_append_right
def XX:=@List.getElem_mem
def XY:=@List.length_cons
def X4:=@List.lookup_cons
def X5:=@List.all_eq_true
def X6:=@List.getElem?_set_self
def X7:=@List.getElem?_set_ne
def X8:=@Int.toNat_natCast
def X9:=@Heap.get?_update_self
def Wr:=@Int.toNat_of_nonneg
def Yy:=@Heap.size_push
def Yx:=@decide_eq_true
def Ym:=@Nat.lt_irrefl
def VZ:=@Nat.ne_of_gt
def YB:=@List.mem_range
def Wq:=@of_decide_eq_true
def VY:=@wpAny_field
def WF:=@List.range_succ
def WE:=@Option.map_some
def Wd:=@Nat.le_of_lt
def JG:=@Nat.lt_succ_of_lt
def Ux:=@List.map_congr_left
def Bq:=@List.getElem?_append_left
def JF:=@Nat.lt_succ_self
def JE:=@List.take_length
def JD:=@List.cons_append
def Gj:=@List.mem_append_left
def Gi:=@List.mem_iff_getElem
def Uw:=@Option.isSome_map
def Uv:=@List.append_assoc
def Gh:=@List.length_pos_iff
def M9:=@List.getElem?_append_right
def Bp:=@List.mem_of_mem_drop
def Uu:=@List.take_succ
def Ut:=@Nat.add_le_add
def Bt:=@List.filter_append
def MJ:=@List.length_filter_le
def Bs:=@List.length_drop
def MI:=@List.flatMap_append
def HC:=@List.getElem?_replicate
def HB:=@Int.eq_ofNat_of_zero_le
def Gp:=@List.sum_cons
def Br:=@Bool.eq_iff_iff
def MG:=@of_decide_eq_false
def MF:=@wpAny_setField_rec
def ME:=@Int.lt_of_le_of_lt
def HA:=@Option.map_eq_some_iff
def MD:=@List.nodup_append
def Hz:=@List.pairwise_flatMap
def Go:=@Int.zero_add
def MC:=@List.length_take
def Hy:=@List.mem_of_mem_take
def JH:=@List.getD_eq_getElem?_getD
def Gn:=@Nat.le_succ
def Gk:=@Int.le_refl
def MB:=@List.mem_filter
def Hx:=@Nat.lt_of_le_of_lt
def Hw:=@Bool.false_eq_true
def Hv:=@Int.emod_lt_of_pos
def MA:=@List.nodup_nil
def Hu:=@Heap.get?_push_at
def HF:=@Bool.not_eq_true'
def Bu:=@Int.mul_sub
def ML:=@List.map_drop
def MK:=@Int.ofNat_inj
def HE:=@List.filter_cons
def HD:=@List.mem_flatMap
end
namespace L2
open PySem PySem.Spec PyProof.Rows
abbrev Key:=Sum Int Str
def GC:Key->Value->Bool
 |.inl k,v=>Value.isInt k v
 |.inr x,v=>Value.isStrOf x v
def Z0n(w:World):Key->Int
 |.inl k=>hashInt k
 |.inr x=>hashStr w x
theorem WB:∀{k:Key} {v:Value},GC k v=true->(∃i t,k=Sum.inl i/\v=Value.int i t)\/(∃x t,k=Sum.inr x/\v=Value.str x t)
 |.inl i,v,h=>by
  obtain⟨t,e⟩:=Value.isInt_shape h;exact .inl #[i,t,rfl,e]
 |.inr x,v,h=>by
  obtain⟨t,e⟩:=Value.isStrOf_shape h;exact .inr #[x,t,rfl,e]
def Zqf(i:Int)(t:Tok):GC (.inl i) (.int i t)=true:=by simp[GC,Value.isInt]
def ZrK(x:Str)(t:Tok):GC (.inr x) (.str x t)=true:=by simp[GC,Value.isStrOf]
def E2(a b:Int):decide ((Sum.inl a:Key)=Sum.inl b)=(a==b):=by
 grind
def EH(a b:Str):decide ((Sum.inr a:Key)=Sum.inr b)=decide (a=b):=by
 simp_all
def Er(a:Int)(b:Str):decide ((Sum.inl a:Key)=Sum.inr b)=false:=XU (by rintro⟨⟩)
def Ed(a:Str)(b:Int):decide ((Sum.inr a:Key)=Sum.inl b)=false:=XU (by rintro⟨⟩)
noncomputable def VH(prog:Program)(w:World):PySem.KeyKind prog w Key where
 is:=GC
 hash:=Z0n w
 inj:=λv a b m g=>by
  rcases WB m with ⟨i,t,rfl,rfl⟩|⟨x,t,rfl,rfl⟩
  .rcases WB g with ⟨j,c,rfl,e⟩|⟨y,c,rfl,e⟩
   .injection e with d _;rw[d]
   .exact nomatch e
  .rcases WB g with ⟨j,c,rfl,e⟩|⟨y,c,rfl,e⟩
   .exact nomatch e
   .injection e with d _;rw[d]
 byValue:=λk v h=>by
  rcases WB h with ⟨i,t,rfl,rfl⟩|⟨x,t,rfl,rfl⟩<;>rfl
 pyHash:=λf h=>by
  rcases WB f with ⟨i,t,rfl,rfl⟩|⟨x,t,rfl,rfl⟩
  .exact wpAny_pyHash_int h
  .exact wpAny_pyHash_str h
 eqBool:=λl f h=>by
  rcases WB l with ⟨i,t,rfl,rfl⟩|⟨x,t,rfl,rfl⟩
  .rcases WB f with ⟨j,c,rfl,rfl⟩|⟨y,c,rfl,rfl⟩
   .rw[E2]at h;exact wpAny_eqBool_int h
   .rw[Er]at h;exact SeqAt.EqAt.int_str i t y c _ _ _ _ h
  .rcases WB f with ⟨j,c,rfl,rfl⟩|⟨y,c,rfl,rfl⟩
   .rw[Ed]at h;exact SeqAt.EqAt.str_int x t j c _ _ _ _ h
   .rw[EH]at h;exact wpAny_eqBool_str h
 «strs» := λk x t v h=>by
  rcases WB h with ⟨i,c,rfl,e⟩|⟨y,c,rfl,e⟩
  .exact nomatch e
  .injection e with d _;subst d;cases v<;>rfl
def ZlX(prog:Program)(w:World)(i:Int)(t:Tok):(VH prog w).is (.inl i) (.int i t)=true:=Zqf i t
def Zmb(prog:Program)(w:World)(x:Str)(t:Tok):(VH prog w).is (.inr x) (.str x t)=true:=ZrK x t
end L2
open PySem PySem.Spec PyProof.Rows
variable {P prog:Program}{h h':Heap}{Y:Qc}{s s0:Shared}{X3 XM hpos np pos pos':Pos}{tg:Expr}{A:Around}{K:W.Frag}{C CH Xa6 f0:Addr}{f m nm q qual:Str}{es:Qi}{fd:FuncData}{ps sn:Qh}{mg:Str->Qf}{env:Env}{bm UH:Qe}{ab XD:Bool}{col:Option Bool}{dd:Qj}{k0 k1 k2 k3 k5:Qf}{B initId newId:String}{M:Model}{scope:Scope}{cd:Value}{outer:List Env}{ds:Qd}{body suite:List Stmt}{b0:Stmt}{j:Nat}{rest:List ExceptHandler}
namespace L2
inductive V where
 |non|bl (b:Bool)|int (i:Int)|str (x:Str)|byt (b:Array UInt8)|flt (b:UInt64)|ref (a:Addr)|ty (n:String)
 deriving DecidableEq
def QO:V->Value->Prop
 |.non,f=>f=Value.none
 |.bl b,f=>f=Value.bool b
 |.int i,f=>∃t,f=Value.int i t
 |.str x,f=>∃t,f=Value.str x t
 |.byt b,f=>∃t,f=Value.bytes b t
 |.flt b,f=>∃t,f=Value.float b t
 |.ref a,f=>f=Value.ref a
 |.ty n,f=>f=Value.type n
abbrev QW:List V->Qe->Prop:=Paired QO
def QW.length(r:QW xs us):xs.length=us.length:=Paired.length r
def _root_.PySem.Paired.getV{f j:Type}{F:f->j->Prop}{l:List f}{m:List j}(h:Paired F l m):∀{i:Nat} {a:f},l[i]?=some a->∃b,m[i]?=some b/\F a b:=by
 induction h with
 |nil=>intro i a e;simp at e
 |cons r t q=>
  intro i a e;cases i with
  |zero=>cases Option.some.inj e;exact#[_,rfl,r]
  |succ i=>exact q e
def _root_.PySem.Paired.swap{j f:Type}{F:j->f->Prop}{l:List j}{m:List f}(h:Paired F l m):Paired (λb a=>F a b) m l:=by
 induction h with
 |nil=>exact .nil
 |cons r t q=>exact .cons r q
def _root_.PySem.Paired.get{j f:Type}{F:j->f->Prop}{l:List j}{m:List f}(h:Paired F l m){i:Nat}{b:f}(e:m[i]?=some b):∃a,l[i]?=some a/\F a b:=PySem.Paired.getV (PySem.Paired.swap h) e
def _root_.PySem.Paired.append{j f:Type}{F:j->f->Prop}{l s:List j}{m q:List f}(h:Paired F l m)(k:Paired F s q):Paired F (l++s) (m++q):=by
 induction h with
 |nil=>exact k
 |cons r t A=>exact .cons r A
def _root_.PySem.Paired.set{j f:Type}{F:j->f->Prop}{a:j}{b:f}(r:F a b)(i:Nat){l:List j}{m:List f}(h:Paired F l m):Paired F (l.set i a) (m.set i b):=by
 induction h generalizing i with
 |nil=>exact .nil
 |cons q t s=>
  cases i with
  |zero=>exact .cons r t
  |succ i=>exact .cons q (s i)
def _root_.PySem.Paired.take{j f:Type}{F:j->f->Prop}(n:Nat){l:List j}{m:List f}(h:Paired F l m):Paired F (l.take n) (m.take n):=by
 induction h generalizing n with
 |nil=>rw[List.take_nil,List.take_nil];exact .nil
 |cons q t s=>
  cases n with
  |zero=>exact .nil
  |succ n=>exact .cons q (s n)
def _root_.PySem.Paired.drop{j f:Type}{F:j->f->Prop}(n:Nat){l:List j}{m:List f}(h:Paired F l m):Paired F (l.drop n) (m.drop n):=by
 induction h generalizing n with
 |nil=>rw[List.drop_nil,List.drop_nil];exact .nil
 |cons q t s=>
  cases n with
  |zero=>exact .cons q t
  |succ n=>exact s n
def QW.get{xs:List V}{us:Qe}{i:Nat}(h:QW xs us)(e:xs[i]?=some x):∃f,us[i]?=some f/\QO x f:=PySem.Paired.getV h e
def QW.set(r:QO x dx)(i:Nat)(h:QW xs us):QW (xs.set i x) (us.set i dx):=PySem.Paired.set r i h
def QW.append(h:QW xs us)(k:QW ys ws):QW (xs++ys) (us++ws):=PySem.Paired.append h k
def QW.take(n:Nat)(h:QW xs us):QW (xs.take n) (us.take n):=PySem.Paired.take n h
def QW.drop(n:Nat)(h:QW xs us):QW (xs.drop n) (us.drop n):=PySem.Paired.drop n h
def Vj:Option V->Qf->Prop
 |some v,some f=>QO v f
 |none,none=>True
 |_,_=>False
def KV{f:Type}:List (f×V)->List (f×Value)->Prop:=Paired λ(p:f×V) (q:f×Value)=>p.1=q.1/\QO p.2 q.2
def kV:Key->V
 |.inl i=>.int i
 |.inr x=>.str x
inductive HO where
 |lst (xs:List V)
 |tup (xs:List V)
 |dK (kvs:List (Key×V))|dT (kvs:List (List Key×V))
 |set (gs:Int->Bool)(n:Nat)
 |ins (C u:Addr)(fs:List (Str×V))
 |own (x:Addr)
 |xd (fs:List (Str×V))
 |met (f x:Addr)
 |rng (lo hi:Int)
 |frz (o:Obj)(dx:HO)
 |tbl (ps:Array Value)
 |ext (φ:Heap->Prop)
abbrev Hp:=Addr->Option HO
noncomputable def upd(H:Hp)(a:Addr)(o:HO):Hp:=λb=>if b=a then some o else H b
def QF : upd H a o a=some o:=by unfold upd;rw[Xi rfl]
def Qv{b:Addr}(h:b≠a):upd H a o b=H b:=by unfold upd;rw[Xg h]
def A9{H:Hp}{a b:Addr}{o f:HO}(h:H a=some o)(h':H b=some f)(d:o≠f):a≠b:=by
 intro e;subst e;exact d (Option.some.inj (h▸h'))
def Z5{H:Hp}{a b:Addr}{o:HO}(h:H a=some o)(h':H b=none):a≠b:=by
 grind
def JN:1<=1000:=by decide
def HY:2<=1000:=by decide
section
variable (P:Program)(w:World)
def ZV(H:Hp)(h:Heap)(a:Addr):HO->Prop
 |.lst s=>s.length<=sizeLine/\∃(m:Qe) (n:Nat),QW s m/\h.get? a=some { cls:=.type "list",data:=.seq m.toArray n }
 |.tup s=>s.length<=sizeLine/\∃m:Qe,QW s m/\IsTup h a m.toArray
 |.dK j=>j.length<=sizeLine/\(a==sysModules)=false/\∃Y,KV j Y/\h.DictOf (VH P w) a Y
 |.dT j=>j.length<=sizeLine/\(a==sysModules)=false/\∃s:List (List Key×Addr×Value),
  Paired (λ(p:List Key×V) (q:List Key×Addr×Value)=>p.1=q.1/\H q.2.1=some (.tup<|p.1.map kV)/\QO p.2 q.2.2) j s/\
  ∃o es g,h.get? a=some o/\o.ExactDict/\o.data=.dict es g/\es.toList=s.map (entryOfKey<|tupleKind<|VH P w)/\(s.map (·.1)).Nodup
 |.set e n=>h.SetOf (intKind P w) a e n
 |.ins C u B=>H u=some (.own a)/\B.length<=1000/\u≠a/\h.get? a=some (W.instObj C u)/\
  ∃A,h.Ns1 u A/\(∀f,Vj (B.lookup f)<|A f)/\PySem.Within A (B.map (·.1))
 |.own _=>∃o,h.get? a=some o
 |.xd B=>∃A,h.Ns1 a A/\∀f,Vj (B.lookup f) (A f)
 |.rng c d=>∃t M v,h.get? a=some { cls:=.type "range",data:=.fields (List.toArray [.int c t,.int d M,.int 1 v]) }
 |.frz o M=>h.get? a=some o/\ZV H h a M
 |.tbl ps=>h.get? a=some { cls:=.none,data:=.fields ps }
 |.met f x=>h.get? a=some (W.methodObj (.ref f)<|.ref x)
 |.ext K=>K h/\(∃o,h.get? a=some o)/\∀U b:Heap,K U->(∀o,U.get? a=some o->b.get? a=some o)->K b
def HOk(H:Hp)(h:Heap):Prop := ∀a o,H a=some o->ZV P w H h a o
end
section
variable {w:World}{H J:Hp}{a:Addr}{o:HO}
def ZV.lt(x:ZV P w H h a o):a<h.objs.size:=by
 cases o with
 |lst m=>obtain⟨_,_,_,_,e⟩:=x;exact Xk e
 |tup m=>obtain⟨_,_,_,p⟩:=x;exact p.lt
 |dK j=>obtain⟨_,_,_,_,o,_,_,e,_⟩:=x;exact Xk e
 |dT j=>obtain⟨_,_,_,_,o,_,_,e,_⟩:=x;exact Xk e
 |set K n=>obtain⟨o,_,_,_,e,_⟩:=x;exact Xk e
 |ins C u q=>obtain⟨_,_,_,e,_⟩:=x;exact Xk e
 |own y=>obtain⟨_,e⟩:=x;exact Xk e
 |xd q=>obtain⟨_,⟨_,_,_,e,_⟩,_⟩:=x;exact Xk e
 |rng B J=>obtain⟨_,_,_,e⟩:=x;exact Xk e
 |frz A M=>obtain⟨e,_⟩:=x;exact Xk e
 |tbl ps=>exact Xk (x)
 |met f y=>exact Xk (x)
 |ext s=>obtain⟨_,⟨_,e⟩,_⟩:=x;exact Xk e
def Paired.mapP{m j:Type}{F G:m->j->Prop}{q:List m}{o:List j}(h:Paired F q o)(f:∀a b,F a b->G a b):Paired G q o:=h.mono f
def ZV.stay(x:ZV P w H h a o)(k:∀b A,(b=a\/H b=some (.own a))->h.get? b=some A->h'.get? b=some A)
(D:∀b,H b=some (.own a)->J b=some (.own a))(l:∀b xs,H b=some (.tup xs)->J b=some (.tup xs)):ZV P w J h' a o:=by
 induction o with
 |lst xs=>exact At x λz s n r e=>#[z,s,n,r,k _ _ (.inl rfl) e]
 |tup xs=>apply By x;rintro z s r⟨j,e,c⟩;exact#[z,s,r,j,k _ _ (.inl rfl) e,c]
 |dK M=>exact Do x λz y Y r j es m e c=>#[z,y,Y,r,j,es,m,k _ _ (.inl rfl) e,c]
 |dT M=>
  exact Do x λz y xs r j es m e c=>#[z,y,xs,Paired.mapP r λp q z=>#[z.1,l _ _ z.2.1,z.2.2],j,es,m,k _ _ (.inl rfl) e,c]
 |set N n=>apply FB x;rintro j es m⟨t,e,c⟩;exact#[j,es,m,t,k _ _ (.inl rfl) e,c]
 |ins C u E=>
  apply Hs x;rintro d z g e⟨K,⟨B,es,m,F,c⟩,r⟩;exact#[D _ d,z,g,k _ _ (.inl rfl) e,K,#[B,es,m,k _ _ (.inr d) F,c],r]
 |own y=>obtain⟨j,e⟩:=x;exact#[j,k _ _ (.inl rfl) e]
 |xd E=>apply I0 x;rintro K⟨B,es,m,e,c⟩r;exact#[K,#[B,es,m,k _ _ (.inl rfl) e,c],r]
 |rng I L=>exact FB x λt A v e=>#[t,A,v,k _ _ (.inl rfl) e]
 |frz j A i=>obtain⟨e,q⟩:=x;exact#[k _ _ (.inl rfl) e,i q]
 |tbl ps=>
  exact k a _ (.inl rfl) x
 |met f y=>
  have e:=x;exact k a _ (.inl rfl) x
 |ext G=>apply KE x;rintro p⟨o,x⟩W;exact#[W _ _ p λo q=>k _ _ (.inl rfl) q,#[o,k _ _ (.inl rfl) x],W]
def HOk.lt(x:HOk P w H h)(e:H a=some o):a<h.objs.size:=(x a o e).lt
def HOk.fresh(x:HOk P w H h)(e:h.objs.size<=a):H a=none:=by
 cases q:H a with
 |none=>rfl
 |some f=>exact Xo (XI (x.lt q) e) (Ym _)
def HOk.kept(x:HOk P w H h)(k:∀b f,h.get? b=some f->h'.get? b=some f):HOk P w H h':=λa o e=>
 (x a o e).stay (λb f _ q=>k b f q) (λ_ q=>q) λ_ _ q=>q
def HOk.laid(x:HOk P w H h)(k:∀b f,h.get? b=some f->h'.get? b=some f)(A:h.objs.size<=a)(j:ZV P w (upd H a o) h' a o):HOk P w (upd H a o) h':=λb f e=>by
 have m:=x.fresh A
 by_cases s:b=a
 .subst s;rw[QF]at e;cases e;exact j
 .rw[Qv s]at e;exact(x b f e).stay (λc v _ q=>k c v q) (λc q=>by rw[Qv<|Z5 q m];exact q) λc B q=>by rw[Qv<|Z5 q m];exact q
end
def Rd(H:Hp)(a:Addr)(f:HO):Prop:=H a=some f\/∃o,H a=some (.frz o f)
def Rd.of(h:H a=some dx):Rd H a dx:=.inl h
def Rd.ok(r:Rd H a dx)(x:HOk P w H h):ZV P w H h a dx:=by
 rcases r with r|⟨o,r⟩
 .exact x a dx r
 .obtain⟨_,q⟩:=x a _ r;exact q
def Mut:Option HO->Prop
 |some (.lst _)=>True
 |some (.dK _)=>True
 |some (.dT _)=>True
 |some (.set _ _)=>True
 |some (.ins _ _ _)=>True
 |some (.ext _)=>True
 |_=>False
section
variable {w:World}{H:Hp}{x e:Addr}{o':HO}
def HOk.write(Y:HOk P w H h)(B:Mut (H x))(he:e=x\/H e=some (.own x))(k:∀b j,b≠e->h.get? b=some j->h'.get? b=some j)(K:∃j,h'.get? e=some j)
(C:ZV P w (upd H x o') h' x o'):HOk P w (upd H x o') h':=λb j q=>by
 have s:∀c y,H c=some (.own y)->c≠x:=λc y r z=>by subst z;rwa[r]at B
 have m:∀c A,H c=some (.tup A)->c≠x:=λc A r z=>by subst z;rwa[r]at B
 by_cases M:b=x
 .subst M;rw[QF]at q;cases q;exact C
 .rw[Qv M]at q
  by_cases f:b=e
  .have W:H b=some (.own x):=by
    rcases he with z|z
    .exact Xo (f.trans z) M
    .exact f▸z
   rw[q]at W;cases W;obtain⟨v,a⟩:=K;exact#[v,by exact f▸a]
  .refine(Y b j q).stay (λc v d r=>k c v ?_ r) (λc r=>by rw[Qv<|s c b r];exact r) λc A r=>by rw[Qv<|m c A r];exact r
   grind
end
structure Un(fs ex:Qg)(H J:Hp)(h h':Heap):Prop where
 keep:∀b o,h.get? b=some o->H b=none->b∉fs->b∉ex->h'.get? b=some o
 slot:∀b o,h.get? b=some o->H b=none->b∈fs->b∉ex->∃sl,h'.get? b=some { o with slots:=sl }
 free:∀b o,h.get? b=some o->H b=none->b∉ex->J b=none
 there:∀b o,h.get? b=some o->b∉ex->∃o',h'.get? b=some o'
 tups:∀b xs,H b=some (.tup xs)->J b=some (.tup xs)
 frzs:∀b o dx,H b=some (.frz o dx)->J b=some (.frz o dx)
 tupo:∀b xs o,H b=some (.tup xs)->h.get? b=some o->b∉ex->h'.get? b=some o
 tbls:∀b ps,H b=some (.tbl ps)->∃more,J b=some (.tbl<|ps++more)
section
variable {fs ex:Qg}{H E:Hp}{U:Heap}{a x e:Addr}{o:HO}
def Un.any(f:Un fs ex H E h U){b:Addr}(q:h.get? b=some ob)(n:H b=none)(a:b∉ex):∃j,U.get? b=some { ob with slots:=j }:=by
 by_cases e:b∈fs
 .exact f.slot b ob q n e a
 .exact#[ob.slots,f.keep b ob q n e a]
def Un.kept(k:∀b f,h.get? b=some f->h'.get? b=some f):Un fs ex H H h h':=
 #[λb a q _ _ _=>k b a q,λb a q _ _ _=>#[a.slots,k b a q],λ_ _ _ n _=>n,λb a q _=>#[a,k b a q],λ_ _ q=>q,λ_ _ _ q=>q,λb _ a _ e _=>k b a e,λ_ ps q=>#[(List.toArray []),by rw[q];simp]]
def Un.refl:Un fs ex H H h h:=Un.kept λ_ _ q=>q
theorem Un.laid(k:∀b f,h.get? b=some f->h'.get? b=some f)(s:h.objs.size<=a)(hn:H a=none):Un fs ex H (upd H a o) h h' where
 keep:=λb f q _ _ _=>k b f q
 slot:=λb f q _ _ _=>#[f.slots,k b f q]
 free:=λb f q n _=>by rw[Qv<|Xq<|XI (Xk q) s];exact n
 there:=λb f q _=>#[f,k b f q]
 tups:=λb j q=>by rw[Qv<|Z5 q hn];exact q
 frzs:=λb f j q=>by rw[Qv<|Z5 q hn];exact q
 tupo:=λb _ m _ e _=>k b m e
 tbls:=λb ps q=>#[(List.toArray []),by rw[Qv<|Z5 q hn,q];simp]
def Un.write(f:Mut (H x))(he:e=x\/H e=some (.own x))(k:∀b a,b≠e->h.get? b=some a->h'.get? b=some a)(C:∃a,h'.get? e=some a):Un fs ex H (upd H x o) h h':=by
 have B:∀b,H b=none->b≠x:=λb n z=>by subst z;rwa[n]at f
 have A:∀b,H b=none->b≠e:=λb n z=>by
  grind
 have j:∀b a,H b=some a->¬Mut (some a)->b≠x:=λb a q nm z=>by subst z;exact nm (q▸f)
 refine#[λb a q n _ _=>k b a (A b n) q,λb a q n _ _=>#[a.slots,k b a (A b n) q],λb a q n _=>by rw[Qv<|B b n];exact n,λb a q _=>?_,
  λb s q=>by rw[Qv<|j b _ q λz=>z];exact q,λb a s q=>by rw[Qv<|j b _ q λz=>z];exact q,λb s a q E _=>k b a (λz=>by
   rcases he with r|r
   .exact j b _ q (λy=>y) (z.trans r)
   .rw[<- z,q]at r;cases r) E,λb ps q=>#[(List.toArray []),by rw[Qv<|j b _ q λz=>z,q];simp]]
 by_cases m:b=e
 .simp_all
 .exact#[a,k b a m q]
end
noncomputable def trk(h:Heap)(H:Hp):Qg:=(List.range h.objs.size).filter λa=>(H a).isSome
def JS(h:Heap)(H:Hp):Heap:=W.hideAll h (trk h H)
def Zpm(h:Heap)(H:Hp):(JS h H).objs.size=h.objs.size:=W.hideAll_size _ _
def Zs6{b:Addr}(e:h.get? b=some o)(n:H b=none):(JS h H).get? b=some o:=
 W.hideAll_get _ e λf=>by
  have q:=(MB.mp f).2;rw[n]at q;simp at q
def O0{b:Addr}(e:(JS h H).get? b=some o):h.get? b=some o/\H b=none:=by
 have f:=W.of_hideAll _ e;refine#[f,?_];cases q:H b with
 |none=>rfl
 |some x=>
  have z:(JS h H).get? b=none:=W.hideAll_none _ (MB.mpr #[YB.mpr<|Xk f,by simp[q]])
  grind
end L2
variable {xs ys:List L2.V}{F0 D:L2.Hp}{RR:Addr->Qj->L2.Hp->Prop}{δ:Type}{FL:Addr->L2.Hp->L2.Hp->L2.Hp->Qj->δ->Prop}
namespace L2
structure Mod(K:W.Frag)(mg:Str->Qf)(base:Heap):Prop where
 kin:K.In base
 glob:base.Ns mainGlobals mg
 blt:∃mb,base.Ns builtinsNs mb/\∀x:Str,x ≠ "__name__" -> mb x=bootBuiltins x
 nolimit:base.NoLimit
structure Cx where
 prog:Program
 w:World
 K:W.Frag
 mg:Str->Qf
 base:Heap
 A:Around
 N:Qh
 s₀:Shared
 H₀:Hp
 env:Env
 outer:List Env
 stack:List Env
 ex:Qg
 fn:Str->Bool
 calm:Bool
 pn:Qc
 xe:Qb
def frs(l:List Env):Qg:=l.filterMap (·.frame)
abbrev Cx.fs(X:Cx):Qg:=frs X.outer
def Vis(sc:Scope)(x:Str):Prop:=sc.names.lookup x=some .local\/sc.names.lookup x=some .cell\/sc.names.lookup x=some .free
def Loc(sc:Scope)(x:Str):Prop:=sc.names.lookup x=some .local\/sc.names.lookup x=some .cell
def Bv(env:Env)(h:Heap)(m:Str->Qf)(x:Str)(f:Value):Prop:=
 (env.kindOf x=some .local/\m x=some f)\/((env.kindOf x=some .cell\/env.kindOf x=some .free)/\∃c,env.cells.lookup x=some c/\h.IsCell c (some f))
structure Cx.Ok(X:Cx):Prop where
 mod:Mod X.K X.mg X.base
 kind:X.env.scope.kind=.function
 glob:X.env.globals=mainGlobals
 blt:X.env.builtins=builtinsNs
 above:X.s₀.heap.objs.size<=X.env.locals
 inj:∀x y c,X.env.cells.lookup x=some c->X.env.cells.lookup y=some c->x=y
 has:∀x,(X.env.kindOf x=some .cell\/X.env.kindOf x=some .free)->∃c,X.env.cells.lookup x=some c
 cab:∀x c,X.fn x=true->X.env.cells.lookup x=some c->X.s₀.heap.objs.size<=c
 hd:X.calm=true->X.A.handled=none
 frames:X.A.frames=some X.stack
 stk:X.stack=X.outer\/(X.stack=X.env::X.outer/\X.env.frame=some X.env.locals)
 exf:∀b∈X.ex,b≠X.env.locals/\∀x c,X.env.cells.lookup x=some c->c≠b
 bs:∀b o,X.base.get? b=some o->X.s₀.heap.get? b=some o/\(X.H₀ b=none\/∃xs,X.H₀ b=some (.tup xs))
 bsz:X.base.objs.size<=X.s₀.heap.objs.size
 noex:∀b o,X.base.get? b=some o->b∉X.ex
 exfs:∀b∈X.ex,b∉X.fs
 funs:X.s₀.heap.FunFrames X.base X.outer
 frf:∀b∈X.fs,X.H₀ b=none
structure Qt(X:Cx)(Y:Qc)(O:List (Option V))(H:Hp)(s:Shared):Prop where
 ok:X.Ok
 os:s.os=X.s₀.os
 bare:AllBare s.gens
 base:Un X.fs X.ex X.H₀ H X.s₀.heap s.heap
 loc:∃m,s.heap.Ns X.env.locals m/\∀(i:Nat) (x:Str) (v:V),X.N[i]?=some x->O[i]?=some (some v)->Vis X.env.scope x->∃dx,QO v dx/\Bv X.env s.heap m x dx
 cell:∀x c,X.env.cells.lookup x=some c->∃v,s.heap.IsCell c v
 free:H X.env.locals=none
 freeC:∀x c,X.env.cells.lookup x=some c->H c=none
 pin:∀p∈X.pn++Y,s.heap.get? p.1=some p.2/\H p.1=none/\p.1≠X.env.locals/\p.1∉X.fs/\∀v,p.2.data≠.cell v
 hok:HOk X.prog X.w H s.heap
 len:O.length=X.N.length
section
variable {X:Cx}{O:List (Option V)}{H J:Hp}
def Cx.Ok.nofr(f:X.Ok){b:Addr}(e:X.base.get? b=some o):b∉X.fs:=λh=>by
 have:=(f.funs.mem h).1
 grind
def Qt.bs(I:Qt X Y O H s):∀b o,X.base.get? b=some o->s.heap.get? b=some o/\(H b=none\/∃xs,H b=some (.tup xs)):=λb o e=>by
 obtain⟨h,f⟩:=I.ok.bs b o e;rcases f with f|⟨xs,f⟩
 .exact#[I.base.keep b o h f (I.ok.nofr e)<|I.ok.noex b o e,.inl<|I.base.free b o h f<|I.ok.noex b o e]
 .exact#[I.base.tupo b xs o f h<|I.ok.noex b o e,.inr #[xs,I.base.tups b xs f]]
def Qt.bk(I:Qt X Y O H s):∀b o,X.base.get? b=some o->s.heap.get? b=some o:=λb o e=>(I.bs b o e).1
def Qt.mod(I:Qt X Y O H s):Mod X.K X.mg X.base:=I.ok.mod
def Qt.kIn(I:Qt X Y O H s):X.K.In s.heap:=I.ok.mod.kin.keeps I.bk
def Qt.lt(I:Qt X Y O H s):X.env.locals<s.heap.objs.size:=let ⟨_,hn,_⟩:=I.loc;hn.lt
def Qt.sz(I:Qt X Y O H s):X.s₀.heap.objs.size<=s.heap.objs.size:=Xt I.ok.above (Wd I.lt)
def Qt.nofs(I:Qt X Y O H s){a:Addr}(h:s.heap.objs.size<=a):a∉X.fs:=λj=>by
 exact By (I.ok.funs.mem j) λ_ o f _=>Xo (XI (Xk f)<|Xt I.sz h) (Ym _)
def Qt.cne(I:Qt X Y O H s):∀x c,X.env.cells.lookup x=some c->c≠X.env.locals:=λx c e z=>by
 apply L0 (I.cell x c e);intro v o q A;obtain⟨m,⟨j,es,B,f,h,_⟩,_⟩:=I.loc
 grind
def Qt.funs(I:Qt X Y O H s):s.heap.FunFrames X.base X.outer:=by
 have m:∀l,(∀b∈frs l,b∈X.fs)->X.s₀.heap.FunFrames X.base l->s.heap.FunFrames X.base l:=by
  intro l;induction l with
  |nil=>intro _ _;trivial
  |cons env r A=>
   intro q J;obtain⟨K,⟨L,o,f,D,C,M⟩,B⟩:=J;have j:=q L (by unfold frs;rw[List.filterMap_cons,f];exact Xb);obtain⟨P,e⟩:=I.base.slot L o C (I.ok.frf L j) j λz=>I.ok.exfs L z j
   exact#[K,#[L,_,f,D,e,M],A (λb h=>q b<|by unfold frs;rw[List.filterMap_cons,f];exact Xf _ h) B]
 exact m X.outer (λ_ h=>h) I.ok.funs
def Qt.stack(I:Qt X Y O H s):s.heap.FunFrames X.base X.stack:=by
 rcases I.ok.stk with e|⟨e,h⟩
 .rw[e];exact I.funs
 .rw[e];obtain⟨m,f,_⟩:=I.loc;refine .cons (by rw[I.ok.kind];decide) h f ?_ I.funs;exact Heap.get?_none_of_le (Xt I.ok.bsz I.ok.above)
def Qt.stkSub(I:Qt X Y O H s):∀b∈frs X.stack,b∈X.env.locals::X.fs:=λb f=>by
 rcases I.ok.stk with e|⟨e,h⟩
 .rw[e]at f;exact Xf _ f
 .rw[e]at f;unfold frs at f;rwa[List.filterMap_cons,h]at f
def Qt.stkFree(I:Qt X Y O H s):∀b∈frs X.stack,H b=none:=λb f=>by
 rcases Xc.mp (I.stkSub b f) with e|f
 .exact e▸I.free
 .exact By (I.ok.funs.mem f) λ_ o h _=>I.base.free b o h (I.ok.frf b f) λz=>I.ok.exfs b z f
def Qt.step{t':Nat}{ch:Qg}(I:Qt X Y O H s)
(C:∀b∈ch,(b∈X.ex\/X.s₀.heap.objs.size<=b)/\b≠X.env.locals/\(∀x c,X.env.cells.lookup x=some c->c≠b)/\∀p∈X.pn++Y,p.1≠b)
(B:∀b o,b≠X.env.locals->b∉X.fs->b∉ch->s.heap.get? b=some o->H b=none->h'.get? b=some o)
(M:∀b o,b≠X.env.locals->b∈X.fs->b∉ch->s.heap.get? b=some o->H b=none->∃Q,h'.get? b=some { o with slots:=Q })(h:∀b o,b∉ch->s.heap.get? b=some o->H b=none->J b=none)
(P:∀b o,b∉ch->s.heap.get? b=some o->∃w,h'.get? b=some w)
(g:∀b xs,H b=some (.tup xs)->J b=some (.tup xs))(F:∀b o L,H b=some (.frz o L)->J b=some (.frz o L))(u:∀b ps,H b=some (.tbl ps)->∃E,J b=some (.tbl<|ps++E))
(ns:∀m,s.heap.Ns X.env.locals m->h'.Ns X.env.locals m)(R:HOk X.prog X.w J h')(hg:AllBare g')(t:∀b xs o,b∉ch->H b=some (.tup xs)->s.heap.get? b=some o->h'.get? b=some o):
 Qt X Y O J { s with heap:=h',gens:=g',drawn:=d',toks:=t' }:=by
 have y:∀b o,X.s₀.heap.get? b=some o->b≠X.env.locals:=λb o e=>Xq (XI (Xk e) I.ok.above)
 have j:∀b o,X.s₀.heap.get? b=some o->b∉X.ex->b∉ch:=λb o e f W=>by
  rcases(C b W).1 with z|z
  .exact f z
  .exact Xo (XI (Xk e) z) (Ym _)
 have D:∀x c,X.env.cells.lookup x=some c->∀v,s.heap.IsCell c v->h'.IsCell c v:=λx c e v ⟨o,a,S⟩=>by
  have A:=λz=>(C c z).2.2.1 x c e rfl
  by_cases Z:c∈X.fs
  .obtain⟨Q,q⟩:=M c o (I.cne x c e) Z A a (I.freeC x c e);exact#[_,q,S]
  .exact#[o,B c o (I.cne x c e) Z A a<|I.freeC x c e,S]
 refine#[I.ok,I.os,hg,#[λb o e n W f=>?_,λb o e n W f=>?_,λb o e n f=>?_,λb o e f=>?_,λb xs e=>g b xs<|I.base.tups b xs e,λb o xs e=>F b o xs<|I.base.frzs b o xs e,λb xs o q e f=>t b xs o (j b o e f) (I.base.tups b xs q)<|I.base.tupo b xs o q e f,λb ps e=>?_],?_,λx c e=>?_,?_,λx c e=>?_,λp U=>?_,R,I.len]
 .exact B b o (y b o e) W (j b o e f) (I.base.keep b o e n W f) (I.base.free b o e n f)
 .obtain⟨Q,K⟩:=I.base.slot b o e n W f;obtain⟨N,G⟩:=M b _ (y b o e) W (j b o e f) K (I.base.free b o e n f);exact#[N,G]
 .obtain⟨w,K⟩:=I.base.there b o e f;exact h b w (j b o e f) K (I.base.free b o e n f)
 .obtain⟨w,K⟩:=I.base.there b o e f;exact P b w (j b o e f) K
 .obtain⟨m1,K⟩:=I.base.tbls b ps e;obtain⟨m2,G⟩:=u b _ K;exact#[m1++m2,by rw[G,Array.append_assoc]]
 .refine I0 I.loc λm hn hl=>#[m,ns m hn,λi x v K G e3=>I0 (hl i x v K G e3) λL r l=>#[L,r,?_]];rcases l with l|⟨k,c,e,z⟩
  .exact .inl l
  .exact .inr #[k,c,e,D x c e _ z]
 .obtain⟨v,z⟩:=I.cell x c e;exact#[v,D x c e v z]
 .apply I0 I.loc;rintro m⟨o,_,_,a,_⟩_;exact h _ o (λz=>(C _ z).2.1 rfl) a I.free
 .exact L0 (I.cell x c e) λv o a S=>h c o (λz=>(C c z).2.2.1 x c e rfl) a (I.freeC x c e)
 .apply Hs (I.pin p U);intro e n T nf d;have A:=λz=>(C p.1 z).2.2.2 p U rfl
  exact#[B p.1 p.2 T nf A e n,h p.1 p.2 A e n,T,nf,d]
def Qt.un(I:Qt X Y O H s)(f:Un X.fs [] H J s.heap h')(j:HOk X.prog X.w J h'):Qt X Y O J { s with heap:=h',toks:=t' }:=by
 apply I0 (id I.loc);rintro m⟨o,es,d,D,r⟩_;obtain⟨W,P⟩:=f.any D I.free (by simp);exact I.step (ch:=[]) (by rintro _ ⟨⟩) (λb o _ A _ e n=>f.keep b o e n A<|by simp) (λb o _ A _ e n=>f.slot b o e n A<|by simp) (λb o _ e n=>f.free b o e n<|by simp) (λb o _ e=>f.there b o e<|by simp) f.tups f.frzs f.tbls (λc M=>by
  apply L1 M;intro a B C h K;rw[D]at h;cases h;exact#[_,B,C,P,K]) j I.bare (λb xs o _ q e=>f.tupo b xs o q e<|by simp)
def Qt.call(I:Qt X Y O H s)(h:Un (frs X.stack) ch H J s.heap h')(B:HOk X.prog X.w J h')(hg:AllBare g')
(A:∀b∈ch,(b∈X.ex\/X.s₀.heap.objs.size<=b)/\b≠X.env.locals/\(∀x c,X.env.cells.lookup x=some c->c≠b)/\∀p∈X.pn++Y,p.1≠b):
 Qt X Y O J { s with heap:=h',gens:=g',drawn:=d',toks:=t' }:=by
 apply I0 (id I.loc);rintro m⟨o,es,k,M,r⟩_;obtain⟨d,C⟩:=h.any M I.free λz=>(A _ z).2.1 rfl
 exact I.step A (λb o C a f e n=>h.keep b o e n (λz=>(Xc.mp<|I.stkSub b z).elim C a) f) (λb o _ _ f e n=>h.any e n f) (λb o f e n=>h.free b o e n f) (λb o f e=>h.there b o e f) h.tups h.frzs h.tbls (λi W=>by
  apply L1 W;intro g D K j P;rw[M]at j;cases j;exact#[_,D,K,C,P]) B hg (λb xs o f q e=>h.tupo b xs o q e f)
def Qt.turned(I:Qt X Y O H s)(k:∀b o,b≠it->s.heap.get? b=some o->h'.get? b=some o)(hn:H it=none)(A:it≠X.env.locals)
(U:it∈X.ex\/X.s₀.heap.objs.size<=it)(K:∀x c,X.env.cells.lookup x=some c->c≠it)(J:∀p∈X.pn++Y,p.1≠it):Qt X Y O H { s with heap:=h',toks:=t' }:=by
 have h:∀b j,H b=some j->b≠it:=λb j e z=>by rw[z,hn]at e;cases e
 refine I.step (ch:=[it]) (λb D=>?_) (λb o _ _ f e _=>k b o (λz=>f<|by simp[z]) e) (λb o _ _ f e _=>#[o.slots,k b o (λz=>f<|by simp[z]) e]) (λ_ _ _ _ n=>n)
  (λb o f e=>#[o,k b o (λz=>f<|by simp[z]) e]) (λ_ _ e=>e) (λ_ _ _ e=>e) (λb ps e=>#[(List.toArray []),by rw[e];simp]) (λm C=>?_) (λb j e=>?_) I.bare (λb _ o f _ e=>k b o (λz=>f<|by simp[z]) e)
 .have e:=by simpa using D
  subst e;exact#[U,A,K,J]
 .exact L1 C λo es M B r=>#[o,es,M,k _ o (Ne.symm A) B,r]
 .refine(I.hok b j e).stay (λc v f q=>k c v ?_ q) (λ_ q=>q) λ_ _ q=>q
  rcases f with z|z
  .rw[z];exact h b j e
  .exact h c _ z
def Qt.tok(I:Qt X Y O H s)(t:Nat):Qt X Y O H { s with toks:=t }:=I.un Un.refl I.hok
def Qt.kept(I:Qt X Y O H s)(k:∀b f,s.heap.get? b=some f->h'.get? b=some f):Qt X Y O H { s with heap:=h',toks:=t' }:=I.un (Un.kept k) (I.hok.kept k)
def Qt.laid{a:Addr}{o:HO}{t':Nat}(I:Qt X Y O H s)(k:∀b j,s.heap.get? b=some j->h'.get? b=some j)(h:s.heap.objs.size<=a)(f:ZV X.prog X.w (upd H a o) h' a o):
 Qt X Y O (upd H a o) { s with heap:=h',toks:=t' }:=I.un (Un.laid k h<|I.hok.fresh h) (I.hok.laid k h f)
def Qt.write(I:Qt X Y O H s)(m:Mut (H x))(he:e=x\/H e=some (.own x))(k:∀b h,b≠e->s.heap.get? b=some h->h'.get? b=some h)(f:∃h,h'.get? e=some h)
(j:ZV X.prog X.w (upd H x o) h' x o):Qt X Y O (upd H x o) { s with heap:=h',toks:=t' }:=I.un (Un.write m he k f) (I.hok.write m he k f j)
def Qt.weak(I:Qt X Y O H s)(f:σ'.length=O.length)(w:∀(i:Nat) v,σ'[i]?=some (some v)->O[i]?=some (some v)):Qt X Y σ' H s:=
 #[I.ok,I.os,I.bare,I.base,let ⟨m,hn,hl'⟩:=I.loc;#[m,hn,λi x v q j h=>hl' i x v q (w i v j) h],I.cell,I.free,I.freeC,I.pin,I.hok,f.trans I.len]
def Qt.pins_of(I:Qt X Y O H s)(h:∀p∈pins',s.heap.get? p.1=some p.2/\H p.1=none/\p.1≠X.env.locals/\p.1∉X.fs/\∀v,p.2.data≠.cell v):Qt X pins' O H s:=
 #[I.ok,I.os,I.bare,I.base,I.loc,I.cell,I.free,I.freeC,λp f=>(Xu.mp f).elim (λz=>I.pin p<|Gj _ z) (h p),I.hok,I.len]
def Zsq{N:Qh}(f:N.Nodup)(a:N[i]?=some x)(b:N[j]?=some x):i=j:=by
 obtain⟨U,m⟩:=Xh.mp a;obtain⟨q,h⟩:=Xh.mp b;exact(List.getElem_inj f).mp (m.trans h.symm)
def Qt.poke{m:Str->Qf}(I:Qt X Y O H s)(E:X.N.Nodup)(K:X.N[i]?=some x)(A:Heap.SameBut a s.heap h')(ab:X.s₀.heap.objs.size<=a)(R:H a=none)
(M:a=X.env.locals\/(∃v,s.heap.IsCell a v)/\∃w,h'.IsCell a w)(hn:h'.Ns X.env.locals m')(u:∀(i:Nat) (x:Str) (v:V),X.N[i]?=some x->O[i]?=some (some v)->Vis X.env.scope x->∃f,QO v f/\Bv X.env s.heap m x f)
(g:∀v,ov=some v->∃f,QO v f/\Bv X.env h' m' x f)(t:∀y f,y≠x->Bv X.env s.heap m y f->Bv X.env h' m' y f):Qt X Y (O.set i ov) H { s with heap:=h',toks:=tk }:=by
 have k:∀{b o o'},X.s₀.heap.get? b=some o->s.heap.get? b=some o'->h'.get? b=some o':=λe q=>(A.2 _<|Xq<|XI (Xk e) ab).trans q;refine#[I.ok,I.os,I.bare,#[λb o e n D h=>k e<|I.base.keep b o e n D h,λb o e n D h=>(I.base.slot b o e n D h).imp λ_=>k e,I.base.free,λb o e h=>(I.base.there b o e h).imp λ_=>k e,I.base.tups,I.base.frzs,λb xs o q e h=>k e<|I.base.tupo b xs o q e h,I.base.tbls],#[m',hn,λj y v B P F=>?_],λy c e=>?_,I.free,I.freeC,λp l=>?_,λb W e=>(I.hok b W e).stay (λc N Q q=>(A.2 c<|by rintro rfl;grind).trans q) (λ_ q=>q) λ_ _ q=>q,by simpa using I.len]
 .by_cases C:j=i
  .subst C;rw[K]at B;cases B;exact g _ (by grind)
  .exact I0 (u j y v B ((X7<|Ne.symm C)▸P) F) λf r q=>#[f,r,t y f (λe=>C<|Zsq E B<|e▸K) q]
 .by_cases z:c=a
  .subst z;exact M.elim (λz=>Xo z<|I.cne y c e) And.right
  .exact(I.cell y c e).imp λ_ q=>q.sameBut A z
 .refine Hs (I.pin p l) λe n J nf d=>#[(A.2 p.1 λq=>?_).trans e,n,J,nf,d];rcases M with z|⟨⟨v,o,G,L⟩,_⟩
  .exact J (q.trans z)
  .rw[q,G]at e;cases e;exact d _ L
noncomputable def Cs(I:Qt X Y O H s)(l:X.N.Nodup)(g:X.N[i]?=some x)(o:Loc X.env.scope x)(r:QO v b)
(h:∀D,Qt X Y (O.set i<|some v) H D->(∃a,Heap.SameBut a s.heap D.heap/\(a=X.env.locals\/X.env.cells.lookup x=some a))->Q () D)(p:X.fn x=true\/X.env.scope.names.lookup x=some .local:=by first|exact .inl rfl|exact .inr rfl|assumption):wpAny M A (storeName X.env x b) Q H1 s:=by
 apply I0 (id I.loc);intro m W d;rcases o with j|j
 .refine wpAny_storeName_local j W (λh' K f=>h _ (I.poke (ov:=some v) l g f I.ok.above I.free (.inl rfl) K d (λ_ e=>by cases e;exact#[b,r,.inl #[j,by simp]]) λy b J q=>q.imp ?_<|by rintro⟨k,c,e,z⟩;exact#[k,c,e,z.sameBut f<|I.cne y c e]) #[_,f,.inl rfl]) (by rw[I.ok.kind];rfl);rintro⟨k,e⟩;exact#[k,by simp[J,e]]
 .have P:X.fn x=true:=p.elim id λz=>by rw[z]at j;cases j
  obtain⟨c,B⟩:=I.ok.has x (.inl j);obtain⟨u,z⟩:=I.cell x c B;refine wpAny_storeName_cell I.ok.kind j B z λh' C f=>h { s with heap:=h' } (I.poke (ov:=some v) l g f (I.ok.cab x c P B) (I.freeC x c B) (.inr #[#[_,z],_,C]) (W.sameBut f<|Ne.symm<|I.cne x c B) d (λ_ e=>by cases e;exact#[b,r,.inr #[.inl j,c,B,C]]) λy b J q=>q.imp id ?_) #[c,f,.inr B];rintro⟨k,t,e,n⟩;exact#[k,t,e,n.sameBut f λq=>J<|I.ok.inj _ _ _ (q▸e) B]
def DQ(I:Qt X Y O H s)(B:X.N.Nodup)(m:X.N[i]?=some x)(j:Loc X.env.scope x)(r:QO v dx)
(h:∀f,Qt X Y (O.set i<|some v) H f->Q () f)(q:X.fn x=true\/X.env.scope.names.lookup x=some .local:=by first|exact .inl rfl|exact .inr rfl|assumption):wpAny M A (storeName X.env x dx) Q H1 s:=
 Cs I B m j r (λf C _=>h f C) q
def Qt.call'(I:Qt X Y O H s)(j:s'.os=s.os)(m:Un (frs X.stack) ch H J s.heap s'.heap)(f:HOk X.prog X.w J s'.heap)(hg:AllBare s'.gens)
(h:∀b∈ch,(b∈X.ex\/X.s₀.heap.objs.size<=b)/\b≠X.env.locals/\(∀x c,X.env.cells.lookup x=some c->c≠b)/\∀p∈X.pn++Y,p.1≠b):Qt X Y O J s':=by
 obtain⟨h',B,C,q,A⟩:=s';subst j;exact I.call m f hg h
end
abbrev XK:=Value->Qj->Hp->Prop
abbrev St:=List (Option V)
abbrev VK:=V->Hp->Prop
abbrev TE:=St->Hp->VK->Prop
abbrev TT:=St->Hp->(Bool->Hp->Prop)->Prop
abbrev TA:=St->Hp->(List V->Hp->Prop)->Prop
structure Ends where
 nx:St->Hp->Prop
 rt:VK
 bk:St->Hp->Prop:=λ_ _=>False
 ct:St->Hp->Prop:=λ_ _=>False
abbrev TS:=Ends->St->Hp->Prop
def EP(X:Cx)(Y:Qc)(O:St)(Q:VK)(h:Value)(f:Shared):Prop := ∃v J,Qt X Y O J f/\QO v h/\Q v J
def TP(X:Cx)(Y:Qc)(O:St)(Q:Bool->Hp->Prop)(b:Bool)(f:Shared):Prop := ∃J,Qt X Y O J f/\Q b J
def AP(X:Cx)(Y:Qc)(O:St)(Q:List V->Hp->Prop)(us:Qe)(h:Shared):Prop := ∃f J,Qt X Y O J h/\QW f us/\Q f J
def SP(X:Cx)(Y:Qc)(m:Ends)(f:Flow)(j:Shared):Prop:=
 match f with
 |.next=>∃h J,Qt X Y h J j/\m.nx h J
 |.brk=>∃h J,Qt X Y h J j/\m.bk h J
 |.cont=>∃h J,Qt X Y h J j/\m.ct h J
 |.ret q=>∃v h J,Qt X Y h J j/\QO v q/\m.rt v J
def PE(X:Cx)(e:Expr)(t:TE):Prop:=
 ∀(Y:Qc) (s:Shared) (O:St) (H:Hp) (Q:VK),Qt X Y O H s->t O H Q->wpAny (model X.prog X.w) X.A (eval e X.env) (EP X Y O Q) X.xe s
def PT(X:Cx)(e:Expr)(t:TT):Prop:=
 ∀(Y:Qc) (s:Shared) (O:St) (H:Hp) (Q:Bool->Hp->Prop),Qt X Y O H s->t O H Q->wpAny (model X.prog X.w) X.A (isTrue e X.env<|eval e X.env) (TP X Y O Q) X.xe s
def PW(X:Cx)(e:Expr)(t:TT):Prop:=
 ∀(f:Sem Value) (Y:Qc) (s:Shared) (O:St) (H:Hp) (Q:Bool->Hp->Prop),Qt X Y O H s->t O H Q->wpAny (model X.prog X.w) X.A (isTrue e X.env f) (TP X Y O Q) X.xe s
def PW.pt(h:PW X e t):PT X e t:=h _
def PA(X:Cx)(es:Qi)(t:TA):Prop:=
 ∀(pos:Pos) (Y:Qc) (s:Shared) (O:St) (H:Hp) (Q:List V->Hp->Prop),Qt X Y O H s->t O H Q->wpAny (model X.prog X.w) X.A (spliced<|backTo pos<|starEach es X.env) (AP X Y O Q) X.xe s
def PS(X:Cx)(st:Stmt)(t:TS):Prop:=
 ∀(Y:Qc) (s:Shared) (O:St) (H:Hp) (f:Ends),Qt X Y O H s->t f O H->wpAny (model X.prog X.w) X.A (exec st X.env) (SP X Y f) X.xe s
def PSs(X:Cx)(st:List Stmt)(t:TS):Prop:=
 ∀(Y:Qc) (s:Shared) (O:St) (H:Hp) (f:Ends),Qt X Y O H s->t f O H->wpAny (model X.prog X.w) X.A (execs st X.env) (SP X Y f) X.xe s
def Q7{f:Type}{t:Sem f}{Q j:f->Shared->Prop}{m:Qb}(h:wpAny M A t Q m s)(q:∀a s,Q a s->j a s):wpAny M A t j m s:=wpAny_mono h q λ_ _ x=>x
end L2
variable {X:L2.Cx}{ta tc td te tv tx:L2.TE}{tA tB':L2.TT}{th:Addr->L2.TS}
namespace L2
section
def Q5(i:Nat):TE:=λO H Q=>∃v,O[i]?=some (some v)/\Q v H
def tC(v:V):TE:=λ_ H Q=>Q v H
def Tz  (W:X.N[i]?=some x)(D:Vis X.env.scope x)(A:(x==("__debug__" : Str))=false:=by decide)(B:(x==("__classdict__" : Str))=false:=by decide):PE X (.Name x pos) (Q5 i):=by
 refine λY s O H Q I h=>I0 h λv e h=>I0 I.loc λm K P=>I0 (P i x v W e D) λa r l=>?_;have q:EP X Y O Q a s:=#[v,H,I,r,h]
 rcases l with ⟨j,M⟩|⟨j,c,C,f⟩
 .exact wpAny_Name (wpAny_loadName_local I.ok.kind j K M q) A
 .rcases j with j|j
  .exact wpAny_Name (wpAny_loadName_cell I.ok.kind j C f q) A
  .exact wpAny_Name (wpAny_loadName_free I.ok.kind j C f q B) A
def Qw{i j pos}:PE X (.Constant (.int i) j pos) (tC<|.int i):=λ_ _ _ H _ I h=>wpAny_Constant_int #[.int i,H,I.tok _,#[_,rfl],h]
def Yi{b j pos}:PE X (.Constant (.bool b) j pos) (tC<|.bl b):=λ_ _ _ H _ I h=>Constant_bool #[.bl b,H,I,rfl,h]
def UP{j pos}:PE X (.Constant .none j pos) (tC .non):=λ_ _ _ H _ I h=>Constant_none #[.non,H,I,rfl,h]
def QG{x j pos}:PE X (.Constant (.str x) j pos) (tC<|.str x):=λ_ _ _ H _ I h=>Calls.Constant_str #[.str x,H,I.tok _,#[_,rfl],h]
def Gl(X:Cx)(x:Str):Prop:=X.env.kindOf x=some .globalImplicit
noncomputable def WZ{q:Qb}{O:St}{H:Hp}{x:Str}{f:Value}{Q:Qb}(I:Qt X Y O H s)(hg:Gl X x)(j:X.mg x=some f)(h:Q f s)
(m:(x==("__debug__" : Str))=false:=by decide):wpAny (model X.prog X.w) X.A (eval (.Name x pos) X.env) Q q s:=
 Calls.Name_function_global I.ok.kind hg (Calls.loadGlobal_global (by rw[I.ok.glob];exact I.mod.glob.keeps I.bk) j h) m
def WW{B:Qb}{O:St}{H:Hp}{x:Str}{f:Value}{Q:Qb}(I:Qt X Y O H s)(hg:Gl X x)(m:X.mg x=none)(j:bootBuiltins x=some f)(h:Q f s)
(hn:x ≠ "__name__" := by decide)(q:(x==("__debug__" : Str))=false:=by decide):wpAny (model X.prog X.w) X.A (eval (.Name x pos) X.env) Q B s:=by
 exact I0 I.mod.blt λC U A=>Calls.Name_function_global I.ok.kind hg (Calls.loadGlobal_builtin (by rw[I.ok.glob];exact I.mod.glob.keeps I.bk) m (by rw[I.ok.blt];exact U.keeps I.bk) ((A x hn).trans j) h) q
def ZK   (hg:Gl X x)(f:X.mg x=some dx)(r:QO v dx)(j:(x==("__debug__" : Str))=false:=by decide):PE X (.Name x pos) (tC v):=
 λ_ _ _ H _ I h=>WZ I hg f #[v,H,I,r,h] j
def Ui   (hg:Gl X x)(j:X.mg x=none)(f:bootBuiltins x=some dx)(r:QO v dx)(hn:x ≠ "__name__" := by decide)(m:(x==("__debug__" : Str))=false:=by decide):PE X (.Name x pos) (tC v):=
 λ_ _ _ H _ I h=>WW I hg j f #[v,H,I,r,h] hn m
variable {a b:Expr}{tb:TE}
def PC(X:Cx)(f:CmpOp)(a b:Expr)(t:TE):Prop:=
 ∀(Y:Qc) (s:Shared) (O:St) (H:Hp) (Q:VK),Qt X Y O H s->t O H Q->
  wpAny (model X.prog X.w) X.A (eval a X.env) (λv m=>wpAny (model X.prog X.w) X.A (eval b X.env) (λh j=>wpAny (model X.prog X.w) X.A (compareOp f v h) (EP X Y O Q) X.xe j) X.xe m) X.xe s
def Fe(b:Expr)(h:op≠.In)(a:op≠.NotIn):behindInMarks op b=false:=by
 have j:(op==CmpOp.In)=false:=by cases op<;>first|rfl|exact Xo rfl h
 have f:(op==CmpOp.NotIn)=false:=by cases op<;>first|rfl|exact Xo rfl a
 cases b<;>simp[behindInMarks,j,f]
def Ay(ta:TE):TE:=λO H Q=>ta O H λx E=>Q (.bl<|decide (x=.non)) E
def Kt(ta:TE):TE:=λO H Q=>ta O H λx E=>Q (.bl<|!decide (x=.non)) E
def QO.none_iff{v:Value}(r:QO x v):(v==Value.none)=decide (x=.non):=by
 cases x with
 |non=>cases r;rfl
 |bl _=>cases r;rfl
 |int _=>obtain⟨t,rfl⟩:=r;rfl
 |str _=>obtain⟨t,rfl⟩:=r;rfl
 |byt _=>obtain⟨t,rfl⟩:=r;rfl
 |flt _=>obtain⟨t,rfl⟩:=r;rfl
 |ref _=>cases r;rfl
 |ty _=>cases r;rfl
def Eh{j pos'}(m:PE X a ta):PC X .Is a (.Constant .none j pos') (Ay ta):=by
 refine λY s O H Q I h=>Q7 (m Y s O H _ I h) ?_;rintro v A ⟨x,E,q,b,f⟩;exact Constant_none (is_none_gen #[.bl _,E,q,by rw[b.none_iff];rfl,f])
def Li{j pos'}(m:PE X a ta):PC X .IsNot a (.Constant .none j pos') (Kt ta):=by
 refine λY s O H Q I h=>Q7 (m Y s O H _ I h) ?_;rintro v A ⟨x,E,q,b,f⟩;exact Constant_none (isnot_none_gen #[.bl _,E,q,by rw[b.none_iff];rfl,f])
def tB(t:TE):TT:=λO H Q=>t O H λx E=>∃c,x=.bl c/\Q c E
def Eo(h:PC X op a b t)(U:behindInMarks op b=false:=by first|exact Fe _ (by decide) (by decide)|rfl):PE X (.Compare a [op] [b] pos) t:=λY s O H Q I f=>wpAny_Compare1 (h Y s O H Q I f) U
def UT(h:PC X op a b t)(U:behindInMarks op b=false:=by first|exact Fe _ (by decide) (by decide)|rfl):PT X (.Compare a [op] [b] pos) (tB t):=by
 refine λY s O H Q I m=>wpAny_isTrue_Compare1 (Q7 (h Y s O H _ I m) λv K U=>Q7 U λM D A=>Q7 A ?_) U;rintro c C ⟨x,E,B,f,j⟩;apply I0 j;rintro d rfl q;cases f;exact wpAny_truthy_bool #[E,B,q]
def ZL(h:PE X e t)(he:∀a,isTrue e X.env a=(do let v <- a;standAt e.pos;holding [v] (truthy v)):=by intro _;rfl):PT X e (tB t):=by
 refine λY s O H Q I j=>isTrue_plain (Q7 (h Y s O H _ I j) ?_) (he _);rintro v A ⟨x,E,m,b,f⟩;apply I0 f;rintro d rfl q;cases b;exact wpAny_truthy_bool #[E,m,q]
variable {rest:Qi}
def HR(t a:TT):TT:=λO H Q=>t O H λc E=>if c=true then a O E Q else Q false E
def tOr(t a:TT):TT:=λO H Q=>t O H λc E=>if c=true then Q true E else a O E Q
def A1(t:TT):TT:=λO H Q=>t O H λc E=>Q (!c) E
def Lz(b:PT X a tA):PW X (.BoolOp .And [a] pos) tA:=by
 refine λf Y s O H Q I h=>isTrue_and (Q7 (b Y s O H Q I h) λc j e=>?_);cases c with
 |true=>exact isTrue_and_nil e
 |false=>exact e
def GO(b:PT X a tA):PW X (.BoolOp .Or [a] pos) tA:=by
 refine λf Y s O H Q I h=>isTrue_or (Q7 (b Y s O H Q I h) λc j e=>?_);cases c with
 |false=>exact isTrue_or_nil e
 |true=>exact e
def TQ(B:PT X a tA)(A:PW X (.BoolOp .And (b::rest) pos) tB'):PW X (.BoolOp .And (a::b::rest) pos) (HR tA tB'):=by
 refine λm Y s O H Q I h=>isTrue_and (Q7 (B Y s O H _ I h) ?_);rintro c q ⟨E,j,f⟩;cases c with
 |true=>exact A m Y q O E Q j f
 |false=>exact#[E,j,f]
def GG(B:PT X a tA)(A:PW X (.BoolOp .Or (b::rest) pos) tB'):PW X (.BoolOp .Or (a::b::rest) pos) (tOr tA tB'):=by
 refine λm Y s O H Q I h=>isTrue_or (Q7 (B Y s O H _ I h) ?_);rintro c q ⟨E,j,f⟩;cases c with
 |true=>exact#[E,j,f]
 |false=>exact A m Y q O E Q j f
def V3(b:PT X a tA):PT X (.UnaryOp .Not a pos) (A1 tA):=by
 exact λY s O H Q I h=>isTrue_not (b Y s O H _ I h)
def Pz(ta tb:TE):TE:=λO H Q=>ta O H λx E=>∃c,x=.bl c/\if c=true then tb O E Q else Q (.bl false) E
def SW(ta tb:TE):TE:=λO H Q=>ta O H λx E=>∃c,x=.bl c/\if c=true then Q (.bl true) E else tb O E Q
def PP(ta:TE):TE:=λO H Q=>ta O H λx E=>∃c,x=.bl c/\Q (.bl<|!c) E
def YJ{op}(h:PE X a t):PE X (.BoolOp op [a] pos) t:=λY s O H Q I b=>BoolOp_one (h Y s O H Q I b)
def Yq(B:PE X a ta)(A:PE X (.BoolOp .And (b::rest) pos) tb):PE X (.BoolOp .And (a::b::rest) pos) (Pz ta tb):=by
 refine λY s O H Q I h=>BoolOp_and (Q7 (B Y s O H _ I h) ?_);rintro v m ⟨x,E,j,q,f⟩;obtain⟨c,rfl,f⟩:=f;cases q;refine wpAny_truthy_bool ?_;cases c with
 |true=>exact A Y m O E Q j f
 |false=>exact#[.bl false,E,j,rfl,f]
def P6(B:PE X a ta)(A:PE X (.BoolOp .Or (b::rest) pos) tb):PE X (.BoolOp .Or (a::b::rest) pos) (SW ta tb):=by
 refine λY s O H Q I h=>BoolOp_or (Q7 (B Y s O H _ I h) ?_);rintro v m ⟨x,E,j,q,f⟩;obtain⟨c,rfl,f⟩:=f;cases q;refine wpAny_truthy_bool ?_;cases c with
 |false=>exact A Y m O E Q j f
 |true=>exact#[.bl true,E,j,rfl,f]
def T9(j:PE X a ta):PE X (.UnaryOp .Not a pos) (PP ta):=by
 refine λY s O H Q I h=>UnaryOp_ (Q7 (j Y s O H _ I h) ?_);rintro v q ⟨x,E,m,f,b⟩;apply I0 b;rintro c rfl b;cases f;exact not_of (wpAny_truthy_bool #[.bl<|!c,E,m,rfl,b])
def tIf(t:TT)(ta tb:TE):TE:=λO H Q=>t O H λc E=>if c=true then ta O E Q else tb O E Q
def F8(q:PT X c tA)(B:PE X a ta)(A:PE X b tb):PE X (.IfExp c a b pos) (tIf tA ta tb):=by
 refine λY s O H Q I h=>wpAny_IfExp (Q7 (q Y s O H _ I h) ?_);rintro d f ⟨E,m,j⟩;cases d with
 |true=>exact B Y f O E Q m j
 |false=>exact A Y f O E Q m j
end
end L2
namespace L2
def SqL(K:W.Frag)(H:Hp)(a:Addr)(xs:List V):Prop:=
 Rd H a (.lst xs) \/
  ∃(o:Obj) (f:Array Value) (n:Nat),K.lookup a=some o/\o.cls=.type "list" /\ o.dict=none/\o.data=.seq f n/\f.size<=sizeLine/\QW xs f.toList
def SqT(K:W.Frag)(H:Hp)(a:Addr)(xs:List V):Prop:=
 Rd H a (.tup xs) \/
  ∃(o:Obj) (f:Array Value) (n:Nat),K.lookup a=some o/\o.cls=.type "tuple" /\ o.data=.seq f n/\f.size<=sizeLine/\QW xs f.toList
noncomputable def Z0m:Value->Option V
 |.none=>some .non
 |.bool b=>some (.bl b)
 |.int i _=>some (.int i)
 |.str x _=>some (.str x)
 |.bytes b _=>some (.byt b)
 |.float b _=>some (.flt b)
 |.ref a=>some (.ref a)
 |.type n=>some (.ty n)
 |_=>none
def QO.abs(r:QO x dx):Z0m dx=some x:=by
 cases x with
 |non=>cases r;rfl
 |bl _=>cases r;rfl
 |int _=>obtain⟨t,rfl⟩:=r;rfl
 |str _=>obtain⟨t,rfl⟩:=r;rfl
 |byt _=>obtain⟨t,rfl⟩:=r;rfl
 |flt _=>obtain⟨t,rfl⟩:=r;rfl
 |ref _=>cases r;rfl
 |ty _=>cases r;rfl
def QO.inj(r:QO x dx)(q:QO y dx):x=y:=Option.some.inj (r.abs.symm.trans q.abs)
def QW.inj(h:QW xs us)(k:QW ys us):xs=ys:=by
 induction h generalizing ys with
 |nil=>cases k;rfl
 |cons r t m=>
  cases k with
  |cons j f=>rw[r.inj j,m f]
section
variable {O:St}{H:Hp}{a:Addr}
def SqL.of(h:H a=some (.lst xs)):SqL K H a xs:=.inl (.inl h)
def SqT.of(h:H a=some (.tup xs)):SqT K H a xs:=.inl (.inl h)
def Qt.list(I:Qt X Y O H s)(h:SqL X.K H a xs):∃f:Qe,QW xs f/\PlainL s.heap a f.toArray/\xs.length<=sizeLine:=by
 rcases h with h|⟨o,f,n,m,A,q,j,B,r⟩
 .exact At (h.ok I.hok) λz f n r e=>#[f,r,#[_,n,e,rfl,rfl,rfl],z]
 .refine#[f.toList,r,#[o,n,I.kIn a o m,A,q,by simpa using j],?_];have e:=r.length;simp_all
def Qt.tuple(I:Qt X Y O H s)(h:SqT X.K H a xs):∃f:Qe,QW xs f/\IsTup s.heap a f.toArray/\xs.length<=sizeLine:=by
 rcases h with h|⟨o,f,n,m,q,j,A,r⟩
 .exact By (h.ok I.hok) λz f r p=>#[f,r,p,z]
 .refine#[f.toList,r,#[o,I.kIn a o m,q,n,by simpa using j],?_];have e:=r.length;simp only[Array.length_toList]at e;lia
def Qt.list_inj(I:Qt X Y O H s)(h:SqL X.K H a xs)(h':SqL X.K H a ys):xs=ys:=by
 apply L3 (I.list h);rintro A r⟨o,n,e,_,_,d⟩_;apply L3 (I.list h');rintro f q⟨C,D,j,_,_,m⟩_;rw[e]at j;cases j;rw[d]at m;injection m with B _;have:=by simpa using Xz Array.toList B
 subst this;exact r.inj q
def Qt.tuple_inj(I:Qt X Y O H s)(h:SqT X.K H a xs)(h':SqT X.K H a ys):xs=ys:=by
 apply L3 (I.tuple h);rintro A r⟨o,e,_,n,d⟩_;apply L3 (I.tuple h');rintro f q⟨C,j,_,D,m⟩_;rw[e]at j;cases j;rw[d]at m;injection m with B _;have:=by simpa using Xz Array.toList B
 subst this;exact r.inj q
end
noncomputable abbrev Cx.wish(X:Cx)(H1:Qb):Cx:={ X with xe:=H1 }
noncomputable abbrev Cx.nox(X:Cx):Cx:=X.wish λ_ _=>False
def Cx.Ok.wish(f:X.Ok)(h:Qb):(X.wish h).Ok:=
 #[f.mod,f.kind,f.glob,f.blt,f.above,f.inj,f.has,f.cab,f.hd,f.frames,f.stk,f.exf,f.bs,f.bsz,f.noex,f.exfs,f.funs,f.frf]
def Cx.Ok.unwish(f:(X.wish H1).Ok):X.Ok:=
 #[f.mod,f.kind,f.glob,f.blt,f.above,f.inj,f.has,f.cab,f.hd,f.frames,f.stk,f.exf,f.bs,f.bsz,f.noex,f.exfs,f.funs,f.frf]
section
variable {O:St}{H:Hp}{H1:Qb}
def Qt.wish(I:Qt X Y O H s)(H1:Qb):Qt (X.wish H1) Y O H s:=#[I.ok.wish H1,I.os,I.bare,I.base,I.loc,I.cell,I.free,I.freeC,I.pin,I.hok,I.len]
def Qt.unwish(I:Qt (X.wish H1) Y O H s):Qt X Y O H s:=#[I.ok.unwish,I.os,I.bare,I.base,I.loc,I.cell,I.free,I.freeC,I.pin,I.hok,I.len]
def SP.unwish{f:Flow}(h:SP (X.wish H1) Y H0 f s'):SP X Y H0 f s':=by
 cases f with
 |next=>obtain⟨j,J,I,q⟩:=h;exact#[j,J,I.unwish,q]
 |brk=>obtain⟨j,J,I,q⟩:=h;exact#[j,J,I.unwish,q]
 |cont=>obtain⟨j,J,I,q⟩:=h;exact#[j,J,I.unwish,q]
 |ret m=>obtain⟨v,j,J,I,r,q⟩:=h;exact#[v,j,J,I.unwish,r,q]
def PSs.nox{st:List Stmt}(h:PSs X.nox st t):PSs X st t:=λY s O H j I f=>
 wpAny_mono (h Y s O H j (I.wish _) f) (λ_ _ q=>q.unwish) λ_ _ z=>False.elim z
end
section
variable {st:Stmt}{rest:List Stmt}{t dx:TS}{e:Expr}
def UA:TS:=λe O H=>e.nx O H
def Vh(t dx:TS):TS:=λe O H=>t { e with nx:=dx e } O H
def QS:PSs X [] UA:=λ_ _ O H _ I h=>wpAny_execs_nil #[O,H,I,h]
def Qx(U:PS X st t)(A:PSs X rest dx):PSs X (st::rest) (Vh t dx):=by
 refine λY s O H j I h=>wpAny_execs_cons (Q7 (U Y s O H { j with nx:=dx j } I h) λf m q=>?_);cases f with
 |next=>
  exact L0 q λe J B q=>A Y m e J j B q
 |ret v=>exact q
 |brk=>exact q
 |cont=>exact q
def Qy(U:PS X st t):PSs X [st] t:=by
 refine λY s O H e I h=>wpAny_execs_cons (Q7 (U Y s O H e I h) λf j q=>?_);cases f with
 |next=>exact wpAny_execs_nil q
 |ret v=>exact q
 |brk=>exact q
 |cont=>exact q
def Ia:PS X (.Pass pos) UA:=λ_ _ O H _ I h=>wpAny_Pass #[O,H,I,h]
def Qt.quiet{O:St}{H:Hp}(I:Qt X Y O H s):interactive X.env=false:=by simp[interactive,I.ok.kind]
def Vq(te:TE):TS:=λe O H=>te O H λ_ E=>e.nx O E
def Zj(he:PE X e te)(j:swapsWith e none pos.line X.env=pure false:=by rfl):PS X (.Expr e pos) (Vq te):=by
 refine λY s O H A I h=>wpAny_Expr_any (Q7 (he Y s O H _ I h) ?_) I.quiet j;rintro v q ⟨x,E,m,t,f⟩;exact#[O,E,m,f]
def VJ(te:TE):TS:=λe O H=>te O H e.rt
def QK(he:PE X e te):PS X (.Return (some e) pos) (VJ te):=by
 refine λY s O H t I h=>wpAny_Return_some (Q7 (he Y s O H _ I h) ?_);rintro v q ⟨x,E,m,f,j⟩;exact#[x,O,E,m,f,j]
def Ws(c:TT)(t dx:TS):TS:=λe O H=>c O H λb E=>if b=true then t e O E else dx e O E
def QQ{c:Expr}{b:List Stmt}{tc:TT}(q:PT X c tc)(B:PSs X a t)(A:PSs X b dx):PS X (.If c a b pos) (Ws tc t dx):=by
 refine λY s O H m I h=>wpAny_If (Q7 (q Y s O H _ I h) ?_);rintro d e ⟨E,j,f⟩;cases d with
 |true=>exact B Y e O E m j f
 |false=>exact A Y e O E m j f
def EU:TS:=λ_ _ _=>False
def Z9:PSs X sts EU:=λ_ _ _ _ _ _ h=>h.elim
end
abbrev TG:=V->St->Hp->(St->Hp->Prop)->Prop
abbrev TGs:=List V->St->Hp->(St->Hp->Prop)->Prop
def PG(X:Cx)(f:Expr)(t:TG):Prop:=
 ∀(Y:Qc) (s:Shared) (O:St) (H:Hp) (v:V) (j:Value) (Q:St->Hp->Prop),Qt X Y O H s->QO v j->t v O H Q->
  wpAny (model X.prog X.w) X.A (assign f X.env j) (λ_ m=>∃h J,Qt X Y h J m/\Q h J) X.xe s
def PGs(X:Cx)(ts:Qi)(t:TGs):Prop:=
 ∀(Y:Qc) (s:Shared) (O:St) (H:Hp) (h:List V) (j:Qe) (Q:St->Hp->Prop),Qt X Y O H s->QW h j->t h O H Q->
  wpAny (model X.prog X.w) X.A (assignInOrder ((assignEach ts X.env).map (·.2)) j) (λ_ m=>∃f J,Qt X Y f J m/\Q f J) X.xe s
abbrev Ke:=V->V->V->Hp->(Hp->Prop)->Prop
def HV(X:Cx)(t:Ke):Prop:=
 ∀(Y:Qc) (s:Shared) (O:St) (H:Hp) (o i v:V) (f h j:Value) (Q:Hp->Prop),Qt X Y O H s->QO o f->QO i h->QO v j->t o i v H Q->
  wpAny (model X.prog X.w) X.A (setItem f h j) (λ_ m=>∃J,Qt X Y O J m/\Q J) X.xe s
abbrev TIp:=V->V->Hp->VK->Prop
def PIp(X:Cx)(h:Operator)(t:TIp):Prop:=
 ∀(Y:Qc) (s:Shared) (O:St) (H:Hp) (x y:V) (v f:Value) (Q:VK),Qt X Y O H s->QO x v->QO y f->t x y H Q->
  wpAny (model X.prog X.w) X.A (inplaceOp h v f) (EP X Y O Q) X.xe s
def Vk(i:Nat):TG:=λv O H Q=>Q (O.set i<|some v) H
def ZF(i:Nat)(q:X.N.Nodup)(j:X.N[i]?=some x:=by rfl)(f:Loc X.env.scope x:=by first|exact Or.inl rfl|exact Or.inr rfl)(m:X.fn x=true\/X.env.scope.names.lookup x=some .local:=by first|exact .inl rfl|exact .inr rfl|assumption):PG X (.Name x pos) (Vk i):=by
 exact λY s O H v C Q I r h=>wpAny_assign_Name (DQ I q j f r (λB A=>#[_,H,A,h]) m)
def HW:TGs:=λf O H Q=>f=[]/\Q O H
def Ks(t:TG)(j:TGs):TGs:=λh O H Q=>∃v r,h=v::r/\t v O H λf J=>j r f J Q
def GX:PGs X [] HW:=by
 exact λY s O H f j Q I r h=>assignInOrder_nil #[O,H,I,h.2]
def Wo(U:PG X e t)(B:PGs X es dx)
(A:(assignEach (e::es) X.env).map (·.2)=assign e X.env::(assignEach es X.env).map (·.2):=by rfl):PGs X (e::es) (Ks t dx):=by
 intro Y s O H K P Q I r h;obtain⟨v,M,rfl,h⟩:=h;cases r with
 |cons r m=>
  rw[A];refine assignInOrder_cons (Q7 (U Y s O H _ _ _ I r h) ?_);rintro _ j ⟨f,E,D,q⟩;exact B Y j f E _ _ Q D m q
def HL(K:W.Frag)(n:Nat)(t:TGs):TG:=λv O H Q=>∃a xs,v=.ref a/\SqT K H a xs/\xs.length=n/\t xs O H Q
def GP{k:Nat}{n:Nat}(K:X.calm=true)(h:PGs X es t)
(hn:(assignEach es X.env).length=n:=by rfl)(j:(assignEach es X.env).findIdx? (·.1)=none:=by rfl):PG X (.Tuple es k pos) (HL X.K n t):=by
 intro Y s O H v c Q I r f;obtain⟨a,xs,rfl,C,D,f⟩:=f;cases r;exact L3 (I.tuple C) λq m B W=>assign_Tuple_tuple (I.ok.hd K) B (by simp[hn,<- D,m.length]) j λh' A=>h Y _ O H xs _ Q (I.kept (t':=s.toks) λb o e=>A b o (Xq<|Xk e) e) (by simpa using m) f
def MW(f h:TE)(t:Ke):TG:=λv O H Q=>f O H λo E=>h O E λi m=>t o i v m λj=>Q O j
def BL{i:Expr}(M:PE X o to)(P:PE X i ti)(K:HV X t)
(W:∀v,assign (.Subscript o i pos) X.env v=(do
  let ov <- holding [v] (eval o X.env)
  let f <- holding [v,ov] (eval i X.env)
  standAt pos
  holding [v,ov,f] (setItem ov f v)
  release [v,ov,f] []):=by intro _;rfl):PG X (.Subscript o i pos) (MW to ti t):=by
 intro Y s O H v a Q I r h;rw[W];refine Xa (wpAny_holding<|Q7 (M Y s O H _ I h) ?_);rintro ov m ⟨x,E,d,A,D⟩;refine Xa (wpAny_holding<|Q7 (P Y m O E _ d D) ?_);rintro f j ⟨y,g,c,q,C⟩;refine Xa (wpAny_standAt<|Xa<|wpAny_holding<|Q7 (K Y j O g x y v ov f a _ c A q r C) ?_);rintro _ k ⟨e,b,B⟩;exact wpAny_release #[O,e,b,B]
def ZM(te:TE)(g:TG):TS:=λf O H=>te O H λx E=>g x O E f.nx
def BJ{g:TG}(he:PE X e te)(hg:PG X tg g)(A:swapsWithSole [tg] e pos.line X.env=pure false:=by rfl)(hw:swappedStores [tg] e X.env=pure none:=by rfl)
(U:(assignEach [tg] X.env).map (·.2)=[assign tg X.env]:=by rfl):PS X (.Assign [tg] e pos) (ZM te g):=by
 refine λY s O H D I h=>wpAny_Assign_stores (Q7 (he Y s O H _ I h) ?_) A hw;rintro v f ⟨x,E,B,j,m⟩;rw[U];exact Q7 (hg Y f O E x v _ B j m) λ_ C q=>q
def QP(i:Nat)(C:X.N.Nodup)(he:PE X e te)(A:X.N[i]?=some x:=by rfl)(m:Loc X.env.scope x:=by first|exact Or.inl rfl|exact Or.inr rfl)(q:swapsWith e (some<|.Name x pos') pos.line X.env=pure false:=by rfl)(B:X.fn x=true\/X.env.scope.names.lookup x=some .local:=by first|exact .inl rfl|exact .inr rfl|assumption):
 PS X (.Assign [.Name x pos'] e pos) (ZM te<|Vk i):=by
 refine λY s O H W I h=>wpAny_Assign_Name (Q7 (he Y s O H _ I h) ?_) q;rintro v P ⟨y,E,K,f,j⟩;exact DQ K C A m f (λM D=>#[_,E,D,j]) B
def Dm(m q te:TE)(h:V->V->Hp->VK->Prop)(j:TIp)(f:Ke):TS:=λK O H=>m O H λo E=>q O E λi D=>h o i D λx C=>te O C λy B=>j x y B λz A=>f o i z A λs=>K.nx O s
def Pk(X:Cx)(t:V->V->Hp->VK->Prop):Prop:=
 ∀(Y:Qc) (s:Shared) (O:St) (H:Hp) (o i:V) (f h:Value) (Q:VK),Qt X Y O H s->QO o f->QO i h->t o i H Q->
  wpAny (model X.prog X.w) X.A (getItem f h) (EP X Y O Q) X.xe s
noncomputable def BT{i:Expr}(y:PE X o to)(z:PE X i ti)(hg:Pk X tget)(he:PE X e te)(x:PIp X op tip)(w:HV X tset)
(F:∀ov j f,augStore i ov j f=(do holding [f,ov,j] (setItem ov j f);release [f,ov,j] [];pure .next):=by intros;rfl):PS X (.AugAssign (.Subscript o i tpos) op e pos) (Dm to ti te tget tip tset):=by
 refine λY s O H H0 I h=>wpAny_AugAssign_SubscriptAny (Q7 (y Y s O H _ I h) ?_) F;rintro ov c ⟨A,E,R,C,u⟩;refine Q7 (z Y c O E _ R u) ?_;rintro j b ⟨q,H2,Q,B,t⟩;refine Q7 (hg Y b O H2 A q ov j _ Q C B t) ?_;rintro m a ⟨M,Z,N,k,r⟩;refine Q7 (he Y a O Z _ N r) ?_;rintro v W ⟨K,U,L,g,p⟩;refine Q7 (x Y W O U M K m v _ L k g p) ?_;rintro f P ⟨D,T,J,d,n⟩;refine Q7 (w Y P O T A q D ov j f _ J C B d n) ?_;rintro _ s6 ⟨S,G,l⟩;exact#[O,S,G,l]
def ipI(f:Int->Int->Int):TIp:=λx y H Q=>∃i j,x=.int i/\y=.int j/\Q (.int<|f i j) H
def D3:PIp X .Add (ipI λi j=>i+j):=by
 intro Y s O H x y v D Q I m f h;apply SF h;intro i j B A q;subst B;subst A;obtain⟨t,rfl⟩:=m;obtain⟨C,rfl⟩:=f;exact iadd_int #[.int _,H,I.tok _,#[_,rfl],q]
def E1:PIp X .Sub (ipI λi j=>i-j):=by
 intro Y s O H x y v D Q I m f h;apply SF h;intro i j B A q;subst B;subst A;obtain⟨t,rfl⟩:=m;obtain⟨C,rfl⟩:=f;exact isub_int #[.int _,H,I.tok _,#[_,rfl],q]
def Tm(c:TT)(q:TS):TS:=λh O H=>∃W:Nat->St->Hp->Prop,(∃m,W m O H)/\∀m O H,W m O H->
 c O H λb E=>if b=true then ∃N:St->Hp->Prop,(∀f J,N f J->∃j,j<m/\W j f J)/\q { h with nx:=N,ct:=N,bk:=h.nx } O E else h.nx O E
def NA{c:Expr}{tc:TT}(e:PassesOwn (model X.prog X.w) X.A X.env X.xe)(w:PT X c tc)(x:PSs X body tb):PS X (.While c body [] pos) (Tm tc tb):=by
 intro Y s O H F I h;apply I0 h;rintro W⟨u,o⟩A;refine wpAny_While (codeAny_whileLoop (λn t=>∃q J,Qt X Y q J t/\W n q J) ?_ u #[O,H,I,o]);rintro n r ⟨m,E,y,l⟩;refine wpAny_passesOwn e (Q7 (w Y r m E _ y<|A n m E l) ?_);rintro b p ⟨k,i,D⟩;cases b with
 |true=>
  refine I0 D λN g D=>wpAny_passesOwn e (Q7 (x Y p m k _ i D) λf z C=>?_);cases f with
  |next=>
   exact L0 C λj B d M=>I0 (g j B M) λP a K=>#[P,a,j,B,d,K]
  |cont=>
   exact L0 C λj B d M=>I0 (g j B M) λP a K=>#[P,a,j,B,d,K]
  |brk=>exact C
  |ret v=>exact C
 |false=>
  exact wpAny_execs_nil #[m,k,i,D]
structure It where
 go:Nat->Hp->Prop
 yld:Nat->Hp->V->Hp->Prop
 stop:Nat->Hp->Prop
def Wh(X:Cx)(Y:Qc)(H:Hp)(b:Addr):Prop:=
 H b=none/\b≠X.env.locals/\b∉X.fs/\(b∈X.ex\/X.s₀.heap.objs.size<=b)/\(∀x c,X.env.cells.lookup x=some c->c≠b)/\∀p∈X.pn++Y,p.1≠b
def Qt.fpOk{O:St}{H J:Hp}{b:Addr}(I:Qt X Y O H s)(f:s.heap.objs.size<=b)(hn:J b=none):Wh X Y J b:=by
 refine#[hn,VZ<|XI I.lt f,I.nofs f,.inr<|Xt I.sz f,λx c e z=>?_,λp h z=>?_]
 .obtain⟨v,q⟩:=I.cell x c e;exact Xo (XI q.lt<|by exact z▸f) (Ym _)
 .exact Xo (XI (Xk (I.pin p h).1)<|by exact z▸f) (Ym _)
structure Turn(P:Program)(w:World)(K:W.Frag)(tg:Expr)(H':It)(fp:Qg)(it:Addr)(tn:Nat->Heap->Prop):Prop where
 mem:it∈fp
 obj:∀i h,tn i h->∀b∈fp,∃o,h.get? b=some o/\∀v,o.data≠.cell v
 keep:∀i h h',tn i h->(∀b∈fp,∀o,h.get? b=some o->h'.get? b=some o)->tn i h'
 item:∀(X:Cx),X.prog=P->X.w=w->X.K=K->X.calm=true->∀(i:Nat) (Y:Qc) (s:Shared) (O:St) (H:Hp) (H1:Qb),Qt X Y O H s->(∀b∈fp,Wh X Y H b)->tn i s.heap->H'.go i H->
  wpAny (model P w) X.A (pyNext<|.ref it) (λr s1=>∃dx,r=some dx/\
   wpAny (model P w) X.A (letOwnedTupleGo tg (.ref it) dx) (λ_ s2=>∃x J,Qt X Y O J s2/\QO x dx/\H'.yld i H x J/\tn (i+1) s2.heap/\∀b∈fp,J b=none) H1 s1) H1 s
 done:∀(X:Cx),X.prog=P->X.w=w->X.K=K->X.calm=true->∀(i:Nat) (Y:Qc) (s:Shared) (O:St) (H:Hp) (H1:Qb),Qt X Y O H s->(∀b∈fp,Wh X Y H b)->tn i s.heap->H'.stop i H->
  wpAny (model P w) X.A (pyNext<|.ref it) (λr s1=>r=none/\Qt X Y O H s1) H1 s
 self:∀(A:Around) (i:Nat) (s:Shared) (Q:Qb) (H1:Qb),tn i s.heap->Q (.ref it) s->wpAny (model P w) A (pyIter<|.ref it) Q H1 s
abbrev TI:=St->Hp->(It->Hp->Prop)->Prop
def PIE(X:Cx)(Y:Qc)(O:St)(tg:Expr)(R:It->Hp->Prop)(f:Value)(j:Shared):Prop:=
 ∃(m:Addr) (q:Qg) (h:Nat->Heap->Prop) (s:It) (J:Hp),f=.ref m/\Qt X Y O J j/\Turn X.prog X.w X.K tg s q m h/\h 0 j.heap/\(∀b∈q,Wh X Y J b)/\R s J
def PI(X:Cx)(tg iter:Expr)(f:TI):Prop:=
 ∀(Y:Qc) (s:Shared) (O:St) (H:Hp) (R:It->Hp->Prop),Qt X Y O H s->f O H R->
  wpAny (model X.prog X.w) X.A (eval iter X.env) (λv h=>wpAny (model X.prog X.w) X.A (pyIter v) (PIE X Y O tg R) X.xe h) X.xe s
def GD(h:s.heap.get? it=some o)(m:o.cls=.type n)(j:o.data=.fields vs)
(hn:["enumerate","zip","dict_itemiterator","dict_reverseitemiterator","odict_iterator","itertools.zip_longest","itertools.pairwise"].contains n=false)(f:Q () s):wpAny M A (letOwnedTupleGo tg (.ref it) dx) Q H1 s:=by
 cases tg<;>first
  |exact Xl f
  | (cases dx<;>first
   |exact Xl f
   | (refine Xa (wpAny_load h ?_)
      rw[m,j];show wpAny M A (if _=true then _ else _) Q H1 s;rw[Xg<|#[]];exact Xl f))
def Itl(K:W.Frag)(a:Addr):It:=
 #[λi H=>∃xs x,SqL K H a xs/\xs[i]?=some x,λi H x J=>J=H/\∀xs,SqL K H a xs->xs[i]?=some x,λi H=>∃xs,SqL K H a xs/\xs.length<=i]
def Itt(K:W.Frag)(a:Addr):It:=
 #[λi H=>∃xs x,SqT K H a xs/\xs[i]?=some x,λi H x J=>J=H/\∀xs,SqT K H a xs->xs[i]?=some x,λi H=>∃xs,SqT K H a xs/\xs.length<=i]
def Itr(lo:Int)(n:Nat):It:=#[λi _=>i<n,λi H x J=>J=H/\x=.int (lo+i),λi _=>n<=i]
theorem Zpi(a it:Addr):Turn P w K tg (Itl K a) [it] it (λi h=>h.IsListIter it a i) where
 mem:=by simp
 obj:=λi h f b j=>by
  have e:=by simpa using j
  subst e;apply L3 f;intro o e c d;simp_all
 keep:=λi h h' f k=>f.at λo e=>k it (by simp) o e
 item:=by
  intro X W D g u i Y s O H N I q f M;subst W D g;refine L0 M λxs x hq C=>L3 (I.list hq) λB A p hz=>I0 (A.get C) λJ E y=>aA (q it (by simp)) λf0 t F r n l=>wpAny_pyNext_list_item f p.isList (by simpa using E) λh' m v=>?_;apply L3 (id m);intro o e c d
  exact#[J,rfl,GD e c d (by decide) #[x,H,I.turned (t':=s.toks) (λb o j e=>(v.2 b j).trans e) f0 t r n l,y,#[rfl,λys z=>by rw[I.list_inj z hq];exact C],m,λb j=>(q b j).1]]
 done:=by
  intro X W D g u i Y s O H N I q f M;subst W D g;refine I0 M λxs hq C=>L3 (I.list hq) λB A p hz=>aA (q it (by simp)) λf0 t F r n l=>?_;have Q:=A.length;exact wpAny_pyNext_list_end (I.ok.hd u) f p.isList (by simp;lia) λh' G=>#[rfl,I.turned (λb o j e=>G b o j e) f0 t r n l]
 self:=λ_ _ _ _ _ f h=>wpAny_pyIter_listiter f h
theorem Zot(a it:Addr):Turn P w K tg (Itt K a) [it] it (λi h=>h.IsTupleIter it a i) where
 mem:=by simp
 obj:=λi h f b j=>by
  have e:=by simpa using j
  subst e;apply L3 f;intro o e c d;simp_all
 keep:=λi h h' f k=>f.at λo e=>k it (by simp) o e
 item:=by
  intro X W D g u i Y s O H N I q f M;subst W D g;refine L0 M λxs x hq C=>L3 (I.tuple hq) λB A p hz=>I0 (A.get C) λJ E y=>aA (q it (by simp)) λf0 t F r n l=>wpAny_pyNext_tuple_item f (p) (by simpa using E) λh' m v=>?_;apply L3 (id m);intro o e c d
  exact#[J,rfl,GD e c d (by decide) #[x,H,I.turned (t':=s.toks) (λb o j e=>(v.2 b j).trans e) f0 t r n l,y,#[rfl,λys z=>by rw[I.tuple_inj z hq];exact C],m,λb j=>(q b j).1]]
 done:=by
  intro X W D g u i Y s O H N I q f M;subst W D g;refine I0 M λxs hq C=>L3 (I.tuple hq) λB A p hz=>aA (q it (by simp)) λf0 t F r n l=>?_;have Q:=A.length;exact wpAny_pyNext_tuple_end (I.ok.hd u) f (p) (by simp;lia) λh' G=>#[rfl,I.turned (λb o j e=>G b o j e) f0 t r n l]
 self:=λ_ _ _ _ _ f h=>wpAny_pyIter_tupleiter f h
theorem ZoC(it:Addr)(lo:Int)(n:Nat):Turn P w K tg (Itr lo n) [it] it (λi h=>IsRangeIter h it (lo+(i:Nat)*1) ((n:Int)-(i:Nat)) 1) where
 mem:=by simp
 obj:=λi h f b j=>by
  simp_all
 keep:=λi h h' f k=>k it (by simp) _ f
 item:=by
  intro X d c g B i Y s O H y I q f A;subst d c g;apply aA (q it (by simp));refine λf0 a r M D C=>(Walks.range (prog:=X.prog) (w:=X.w) (I.ok.hd B) it lo 1 n).item i s _ _ A f λv h' tk p m l=>?_;obtain⟨t,rfl⟩:=p;refine#[_,rfl,GD m rfl rfl (by decide) #[.int _,H,I.turned (λb o j e=>l b o (by simpa using j) e) f0 a M D C,#[t,?_],#[rfl,rfl],m,λb j=>(q b j).1]];rw[Int.mul_one]
 done:=by
  exact λX d c g B i Y s O H y I q f A=>aA (q it (by simp)) λf0 a r M D C=>wpAny_pyNext_range_end (I.ok.hd B) f (by have:n<=i:=A;lia) λh' u=>#[rfl,I.turned (λb o j e=>u b o j e) f0 a M D C]
 self:=λ_ _ _ _ _ f h=>wpAny_pyIter_rangeiter f h
end L2
namespace L2
def Pn(K:W.Frag)(f:TE):TI:=λO H R=>f O H λx E=>∃a,x=.ref a/\(∃xs,SqL K E a xs)/\R (Itl K a) E
def Pj(K:W.Frag)(f:TE):TI:=λO H R=>f O H λx E=>∃a,x=.ref a/\(∃xs,SqT K E a xs)/\R (Itt K a) E
def Yv(D:PE X l tl):PI X tg l (Pn X.K tl):=by
 refine λY s O H R I h=>Q7 (D Y s O H _ I h) ?_;rintro v j ⟨x,E,f,m,A⟩;apply L3 A;rintro a e⟨xs,C⟩q;subst e;cases m;refine L3 (f.list C) λB M p P=>wpAny_pyIter_list p.isList<|#[j.heap.objs.size,[j.heap.objs.size],_,_,E,rfl,f.kept λb o e=>Xd _ e,Zpi a _,#[_,Xn _ rfl,rfl,rfl],λb K=>?_,q];have e:=by simpa using K
 subst e;exact f.fpOk (Xm _) (f.hok.fresh<|Xm _)
def BB(D:PE X l tl):PI X tg l (Pj X.K tl):=by
 refine λY s O H R I h=>Q7 (D Y s O H _ I h) ?_;rintro v j ⟨x,E,f,m,A⟩;apply L3 A;rintro a e⟨xs,C⟩q;subst e;cases m;refine L3 (f.tuple C) λB M p P=>wpAny_pyIter_tuple (p)<|#[j.heap.objs.size,[j.heap.objs.size],_,_,E,rfl,f.kept λb o e=>Xd _ e,Zot a _,#[_,Xn _ rfl,rfl,rfl],λb K=>?_,q];have e:=by simpa using K
 subst e;exact f.fpOk (Xm _) (f.hok.fresh<|Xm _)
def Ft{O:St}{H:Hp}{R:It->Hp->Prop}{M:Qb}{lo f:Int}{t h v:Tok}{m:Nat}(I:Qt X Y O H s)(U : -(2^62)<=lo)(C:lo<2^62)(h3 : -(2^62)<=f)(B:f<2^62)
(q:R (Itr lo (f-lo).toNat) H):wpAny (model X.prog X.w) X.A (pyIter<|.ref s.heap.objs.size) (PIE X Y O tg R) M { s with heap:=s.heap.push { cls:=.type "range",data:=.fields (List.toArray [.int lo t,.int f h,.int 1 v]) },toks:=m }:=by
 refine wpAny_pyIter_range (IsRange.new ..) (small_one U C h3 B) ?_;have j:Qt X Y O H { s with heap:=s.heap.push { cls:=.type "range",data:=.fields (List.toArray [.int lo t,.int f h,.int 1 v]) },toks:=m }:=I.kept λb o e=>Xd _ e
 refine#[(s.heap.push { cls:=.type "range",data:=.fields (List.toArray [.int lo t,.int f h,.int 1 v]) }).objs.size,[(s.heap.push { cls:=.type "range",data:=.fields (List.toArray [.int lo t,.int f h,.int 1 v]) }).objs.size],_,_,H,rfl,
  j.kept λb o e=>Xd _ e,ZoC _ lo (f-lo).toNat,?_,λb A=>?_,q]
 .have K:lo+((0:Nat))*1=lo:=by simp
  have D:(((f-lo).toNat))-((0:Nat))=Builtin.Range.rangeSize lo f 1:=by rw[rangeSize_one];split<;>lia
  rw[K,D];exact Xn _ rfl
 .have e:b=(s.heap.push { cls:=.type "range",data:=.fields (List.toArray [.int lo t,.int f h,.int 1 v]) }).objs.size:=by simpa using A
  subst e;exact j.fpOk (Xm _) (j.hok.fresh<|Xm _)
def B6(ta:TA):TI:=λO H R=>ta O H λf E=>∃j:Int,f=[.int j] /\ -(2^62)<=j/\j<2^62/\R (Itr 0 j.toNat) E
def P5(ta:TA):TI:=λO H R=>ta O H λf E=>∃i j:Int,f=[.int i,.int j]/\(-(2^62)<=i/\i<2^62 /\ -(2^62)<=j/\j<2^62)/\R (Itr i (j-i).toNat) E
def Wp{ta:TA}(hg:Gl X "range")(D:X.mg "range"=none)(K:PA X [a] ta)(C:starEach [a] X.env=[(false,eval a X.env)]:=by rfl):PI X tg (.Call (.Name "range" p) [a] [] pos) (B6 ta):=by
 refine λY s O H R I h=>Call_ (WW I hg D boot_range<|PyProof.Rows.callWith_type1 (Q7 (K pos Y s O H _ I h) ?_) C rfl);rintro W b ⟨P,E,M,A,f⟩;obtain⟨j,rfl,f,B,q⟩:=f;cases A with
 |cons r m=>
  cases m;obtain⟨t,rfl⟩:=r;exact call_range_1 (Ft M #[] #[] f B<|by simpa using q)
def Zqm{a b:Expr}{ta:TA}{p:Pos}(hg:Gl X "range")(W:X.mg "range"=none)(c:PA X [a,b] ta)(P:starEach [a,b] X.env=[(false,eval a X.env),(false,eval b X.env)]:=by rfl)(f:starEach [b] X.env=[(false,eval b X.env)]:=by rfl):
 PI X tg (.Call (.Name "range" p) [a,b] [] pos) (P5 ta):=by
 refine λY s O H R I h=>Call_ (WW I hg W boot_range<|PyProof.Rows.callWith_type1 (Q7 (c pos Y s O H _ I h) ?_) (by rw[P,f])<|by rw[f];rfl);rintro k n ⟨g,E,d,B,A⟩;obtain⟨i,j,rfl,⟨A,M,K,D⟩,q⟩:=A;cases B with
 |cons r m=>
  cases m with
  |cons C m=>
   cases m;obtain⟨t,rfl⟩:=r;obtain⟨l,rfl⟩:=C;exact call_range_2 (Ft d A M K D q)
def U1(A:TI)(g:TG)(B:TS):TS:=λj O H=>A O H λq E=>∃W:Nat->Nat->St->Hp->Prop,(∃m,W 0 m O E)/\∀i m O H,W i m O H->
 (q.stop i H/\j.nx O H)\/(q.go i H/\∃N:St->Hp->Prop,(∀f J,N f J->∃s,s<m/\W (i+1) s f J)/\∀x J,q.yld i H x J->g x O J λh C=>B { j with nx:=N,ct:=N,bk:=j.nx } h C)
def Ds(f:Qg)(h:Heap):Qc:=f.filterMap λb=>(h.get? b).map λo=>(b,o)
def Hh{b:Addr}(f:b∈fp)(e:h.get? b=some o):(b,o)∈Ds fp h:=List.mem_filterMap.mpr #[b,f,by rw[e];rfl]
def Zqk{p:Addr×Obj}(f:p∈Ds fp h):p.1∈fp/\h.get? p.1=some p.2:=by
 apply I0 (List.mem_filterMap.mp f);intro b j e;cases q:h.get? b with
 |none=>rw[q]at e;cases e
 |some o=>
  rw[q]at e;have m:=Option.some.inj e;subst m;exact#[j,q]
def Qt.pinned{O:St}{H:Hp}{f:Qg}(I:Qt X Y O H s)(q:∀b∈f,Wh X Y H b)(m:∀b∈f,∃o,s.heap.get? b=some o/\∀v,o.data≠.cell v):Qt X (Y++Ds f s.heap) O H s:=
 I.pins_of λp j=>(Xu.mp j).elim (λz=>I.pin p<|XV _ z) λz=>by
  obtain⟨h,e⟩:=Zqk z;apply aF (q p.1 h);intro f0 B A _;obtain _:=m p.1 h;simp_all
def Qt.unpinned{f:Qc}{O:St}{H:Hp}(I:Qt X (Y++f) O H s):Qt X Y O H s:=I.pins_of λp h=>I.pin p (XV _<|Gj _ h)
def Vx{g:TG}(t:PassesOwn (model X.prog X.w) X.A X.env X.xe)(hc:X.calm=true)(hi:PI X tg iter wi)(hg:PG X tg g)(C:PSs X body tb)
(hs:∀x,foldedSetIterable iter X.env x=pure x:=by intro _;rfl):PS X (.For tg iter body [] pos) (U1 wi g tb):=by
 refine λY s O H H0 I h=>wpAny_For (Q7 (hi Y s O H _ I h) λv s1 U=>Q7 U λitv s2 h2=>?_) hs;apply aG h2;rintro it w R H' H2 e I2 T E⟨f2,W,⟨m0,w0⟩,c⟩;subst e;have B:∀{J:Hp},(∀b∈w,J b=none)->∀b∈w,Wh X Y J b:=λhn b C=>#[hn b C,(f2 b C).2];refine codeAny_forLoop_any (λn Z=>∃i A J,Qt X Y A J Z/\R i Z.heap/\(∀b∈w,J b=none)/\W i n A J) ?_ m0 #[0,O,H2,I2,E,λb C=>(f2 b C).1,w0]
 rintro n S ⟨i,q,y,I3,l,u,w3⟩;rcases c i n q y w3 with ⟨k,qn⟩|⟨go,N,hN,step⟩
 .refine wpAny_passesOwn t (Q7 (T.done X rfl rfl rfl hc i Y S q y X.xe I3 (B u) l k) ?_);rintro r s4 ⟨rfl,I4⟩;exact wpAny_execs_nil #[q,y,I4,qn]
 .refine wpAny_passesOwn t (Q7 (T.item X rfl rfl rfl hc i Y S q y X.xe I3 (B u) l go) ?_);rintro r s4 ⟨dx,rfl,h4⟩;refine wpAny_passesOwn t (Q7 h4 ?_);rintro _ s5 ⟨x,H5,I5,r5,y5,a,L⟩;refine wpAny_passesOwn t (Q7 (hg _ s5 q H5 x dx _ (I5.pinned (B L) (T.obj _ _ a)) r5<|step x H5 y5) ?_);rintro _ s6 ⟨z,H6,I6,q6⟩;refine wpAny_passesOwn t (Q7 (C _ s6 z H6 _ I6 q6) λf F P=>?_);have D:∀{j:St} {M:Hp},Qt X _ j M F->N j M->∃m,m<n/\∃i A J,Qt X Y A J F/\R i F.heap/\(∀b∈w,J b=none)/\W i m A J:=λ{j M} K p=>by
   exact I0 (hN j M p) λm' hm w7=>#[m',hm,i+1,j,M,K.unpinned,T.keep _ _ _ a λb C o e=>(K.pin (b,o)<|XV _<|XV _<|Hh C e).1,λb C=>I0 (T.obj _ _ a b C) λo e d=>(K.pin _<|XV _<|XV _<|Hh C e).2.1,w7]
  cases f with
  |next=>exact L0 P λj M K p=>D K p
  |cont=>exact L0 P λj M K p=>D K p
  |brk=>exact L0 P λj M K P=>#[j,M,K.unpinned,P]
  |ret v=>exact Ps P λx7 j M K r7 P=>#[x7,j,M,K.unpinned,r7,P]
end L2
namespace L2
abbrev R2:=V->V->Hp->VK->Prop
def OpR(X:Cx)(f:Value->Value->Sem Value)(r:R2):Prop:=
 ∀(Y:Qc) (s:Shared) (O:St) (H:Hp) (x y:V) (v h:Value) (Q:VK),Qt X Y O H s->QO x v->QO y h->r x y H Q->
  wpAny (model X.prog X.w) X.A (f v h) (EP X Y O Q) X.xe s
def UnR(X:Cx)(f:Value->Sem Value)(r:V->Hp->VK->Prop):Prop:=
 ∀(Y:Qc) (s:Shared) (O:St) (H:Hp) (x:V) (v:Value) (Q:VK),Qt X Y O H s->QO x v->r x H Q->
  wpAny (model X.prog X.w) X.A (f v) (EP X Y O Q) X.xe s
def ZC(X:Cx)(f:Value)(r:List V->Hp->VK->Prop):Prop:=
 ∀(Y:Qc) (s:Shared) (O:St) (H:Hp) (xs:List V) (h:Qe) (Q:VK),Qt X Y O H s->QW xs h->r xs H Q->
  wpAny (model X.prog X.w) X.A (call f h) (EP X Y O Q) X.xe s
def Z0r(X:Cx)(r:V->Hp->(Bool->Hp->Prop)->Prop):Prop:=
 ∀(Y:Qc) (s:Shared) (O:St) (H:Hp) (x:V) (v:Value) (Q:Bool->Hp->Prop),Qt X Y O H s->QO x v->r x H Q->
  wpAny (model X.prog X.w) X.A (truthy v) (TP X Y O Q) X.xe s
def tOp(r:R2)(ta f:TE):TE:=λO H Q=>ta O H λx E=>f O E λy h=>r x y h Q
def tUn(r:V->Hp->VK->Prop)(ta:TE):TE:=λO H Q=>ta O H λx E=>r x E Q
def rI(C:Int->Int->Prop)(g:Int->Int->V):R2:=λx y H Q=>∃i j,x=.int i/\y=.int j/\C i j/\Q (g i j) H
def rI0(g:Int->Int->V):R2:=λx y H Q=>∃i j,x=.int i/\y=.int j/\Q (g i j) H
def rU(g:Int->V):V->Hp->VK->Prop:=λx H Q=>∃i,x=.int i/\Q (g i) H
section
variable {a b:Expr}{tb:TE}
def Kb(W:PE X a ta)(P:PE X b tb){O:St}{H:Hp}{R:V->V->Hp->Prop}(I:Qt X Y O H s)
(h:ta O H λx E=>tb O E λy m=>R x y m){Q:Qb}{f:Value->Value->Sem Value}
(M:∀v j q x y m,Qt X Y O m q->QO x v->QO y j->R x y m->wpAny (model X.prog X.w) X.A (f v j) Q X.xe q):
 wpAny (model X.prog X.w) X.A (eval a X.env) (λv d=>wpAny (model X.prog X.w) X.A (eval b X.env) (λj c=>wpAny (model X.prog X.w) X.A (f v j) Q X.xe c) X.xe d) X.xe s:=by
 refine Q7 (W Y s O H _ I h) ?_;rintro v A ⟨x,E,g,C,K⟩;refine Q7 (P Y A O E _ g K) ?_;rintro j q ⟨y,m,e,B,D⟩;exact M v j q x y m e C B D
def QL(A:OpR X (binaryOp op) r)(C:PE X a ta)(B:PE X b tb):PE X (.BinOp a op b pos) (tOp r ta tb):=by
 exact λY s O H Q I h=>wpAny_BinOp (Kb C B I h λv D f x y M K m j q=>A Y f O M x y v D Q K m j q)
def AA(m:UnR X (unaryOp op) r)(q:PE X a ta):PE X (.UnaryOp op a pos) (tUn r ta):=by
 refine λY s O H Q I h=>UnaryOp_ (Q7 (q Y s O H _ I h) ?_);rintro v b ⟨x,E,A,f,j⟩;exact m Y b O E x v Q A f j
def opI{f:Value->Value->Sem Value}{C:Int->Int->Prop}{g:Int->Int->Int}
(a:∀(i j:Int) (t b:Tok) (s:Shared) (Q:Qb) (K:Qb),C i j->Q (.int (g i j) s.toks) { s with toks:=s.toks+1 }->wpAny (model X.prog X.w) X.A (f (.int i t)<|.int j b) Q K s):
 OpR X f (rI C λi j=>.int<|g i j):=by
 intro Y s O H x y v b Q I B A h;apply RC h;rintro i j rfl rfl D q;obtain⟨t,rfl⟩:=B;obtain⟨m,rfl⟩:=A;exact a i j t m s _ _ D #[.int _,H,I.tok _,#[_,rfl],q]
def Ka{f:Value->Value->Sem Value}{g:Int->Int->Int}
(a:∀(i j:Int) (t b:Tok) (s:Shared) (Q:Qb) (C:Qb),Q (.int (g i j) s.toks) { s with toks:=s.toks+1 }->wpAny (model X.prog X.w) X.A (f (.int i t)<|.int j b) Q C s):
 OpR X f (rI0 λi j=>.int<|g i j):=by
 intro Y s O H x y v b Q I B A h;apply SF h;rintro i j rfl rfl q;obtain⟨t,rfl⟩:=B;obtain⟨m,rfl⟩:=A;exact a i j t m s _ _ #[.int _,H,I.tok _,#[_,rfl],q]
def Da{f:Value->Value->Sem Value}{g:Int->Int->Bool}
(a:∀(i j:Int) (t b:Tok) (s:Shared) (Q:Qb) (C:Qb),Q (.bool<|g i j) s->wpAny (model X.prog X.w) X.A (f (.int i t)<|.int j b) Q C s):
 OpR X f (rI0 λi j=>.bl<|g i j):=by
 intro Y s O H x y v b Q I B A h;apply SF h;rintro i j rfl rfl q;obtain⟨t,rfl⟩:=B;obtain⟨m,rfl⟩:=A;exact a i j t m s _ _ #[.bl _,H,I,rfl,q]
def Kg(i j:Int):Prop:=0<=j/\j<=1000000/\i.natAbs<2^64
def JL(i j:Int):Prop:=(-(2^64)<i/\i<2^64)\/(-(2^64)<j/\j<2^64)
def JL.ok{i j:Int}(h:JL i j):IntMulOk i j:=by
 rcases h with ⟨U,a⟩|⟨U,a⟩
 .exact .of_left (intBits_le_64 U a)
 .exact .of_right (intBits_le_64 U a)
def VB:OpR X (binaryOp .Add) (rI0 λi j=>.int<|i+j):=Ka λ_ _ _ _ _ _ _ q=>add_int q
def Wi:OpR X (binaryOp .Sub) (rI0 λi j=>.int<|i-j):=Ka λ_ _ _ _ _ _ _ q=>sub_int q
def UM:OpR X (binaryOp .Mult) (rI JL λi j=>.int<|i*j):=opI λ_ _ _ _ _ _ _ a q=>mul_int q a.ok
def Y6:OpR X (binaryOp .Mod) (rI (λ_ j=>0<j) λi j=>.int<|i%j):=opI λi j _ _ _ _ _ a q=>mod_int' #[] (by rw[Int.fmod_eq_emod_of_nonneg i<|#[]];exact q)
def Dv:OpR X (binaryOp .Pow) (rI Kg λi j=>.int<|i^j.toNat):=opI λ_ _ _ _ _ _ _ a q=>pow_int_small a.1 a.2.1 a.2.2 q
def KN:OpR X (binaryOp .BitXor) (rI0 λi j=>.int<|Builtin.bitXor i j):=Ka λ_ _ _ _ _ _ _ q=>xor_int q
def unI{f:Value->Sem Value}{g:Int->Int}
(a:∀(i:Int) (t:Tok) (s:Shared) (Q:Qb) (j:Qb),Q (.int (g i) s.toks) { s with toks:=s.toks+1 }->wpAny (model X.prog X.w) X.A (f<|.int i t) Q j s):
 UnR X f (rU λi=>.int<|g i):=by
 intro Y s O H x v Q I b h;apply I0 h;rintro i rfl q;obtain⟨t,rfl⟩:=b;exact a i t s _ _ #[.int<|g i,H,I.tok _,#[_,rfl],q]
def AU:UnR X (unaryOp .USub) (rU λi=>.int (-i)):=unI λ_ _ _ _ _ q=>neg_int q
end
noncomputable def Az:V->V->Bool
 |.non,.non=>true|.non,.int _=>true|.int _,.non=>true|.non,.bl _=>true|.bl _,.non=>true|.non,.str _=>true|.str _,.non=>true
 |.int _,.int _=>true|.bl _,.bl _=>true|.str _,.str _=>true|.byt _,.byt _=>true
 |.int _,.str _=>true|.str _,.int _=>true|.bl _,.str _=>true|.str _,.bl _=>true
 |_,_=>false
def rEq:R2:=λx y H Q=>Az x y=true/\Q (.bl<|decide (x=y)) H
def rNe:R2:=λx y H Q=>Az x y=true/\Q (.bl<|!decide (x=y)) H
def LF{i j:Int}:decide (V.int i=V.int j)=(i==j):=by
 rw[Br];simp
def TD{i j:Bool}:decide (V.bl i=V.bl j)=(i==j):=by
 rw[Br];simp
def LS{i j:Str}:decide (V.str i=V.str j)=(i==j):=by
 rw[Br];simp
def L5{i j:Array UInt8}:decide (V.byt i=V.byt j)=(i.toList==j.toList):=by
 rw[Br];simp_all
section
variable {a b c:Expr}{tb:TE}
def ZJ{O:St}{H:Hp}{Q:VK}{k a:Bool}(I:Qt X Y O H s)(q:Q (.bl k) H)(e:k=a):EP X Y O Q (.bool a) s:=by
 subst e;exact#[.bl k,H,I,rfl,q]
def Z3:OpR X (compareOp .Eq) rEq:=by
 intro Y s O H x y v m Q I f a h;obtain⟨c,q⟩:=h;cases x with
 |non=>
  cases f;cases y with
  |non=>cases a;exact PySem.EqNone.eq_none_none (ZJ I q<|by simp)
  |bl j=>cases a;exact PySem.EqNone.eq_none_bool (ZJ I q<|by simp)
  |int j=>obtain⟨b,rfl⟩:=a;exact PySem.EqNone.eq_none_int (ZJ I q<|by simp)
  |str j=>obtain⟨b,rfl⟩:=a;exact PySem.EqNone.eq_none_str (ZJ I q<|by simp)
  |_=>exact Xo (show false=true from c) XF
 |bl i=>
  cases f;cases y with
  |non=>cases a;exact PySem.EqNone.eq_bool_none (ZJ I q<|by simp)
  |bl j=>cases a;exact eq_bool (ZJ I q TD)
  |str j=>obtain⟨b,rfl⟩:=a;exact PySem.EqMixed.eq_bool_str (ZJ I q<|by simp)
  |_=>exact Xo (show false=true from c) XF
 |int i=>
  obtain⟨t,rfl⟩:=f;cases y with
  |non=>cases a;exact PySem.EqNone.eq_int_none (ZJ I q<|by simp)
  |int j=>obtain⟨b,rfl⟩:=a;exact eq_int (ZJ I q LF)
  |str j=>obtain⟨b,rfl⟩:=a;exact PySem.EqMixed.eq_int_str (ZJ I q<|by simp)
  |_=>exact Xo (show false=true from c) XF
 |str i=>
  obtain⟨t,rfl⟩:=f;cases y with
  |non=>cases a;exact PySem.EqNone.eq_str_none (ZJ I q<|by simp)
  |bl j=>cases a;exact PySem.EqMixed.eq_str_bool (ZJ I q<|by simp)
  |int j=>obtain⟨b,rfl⟩:=a;exact PySem.EqMixed.eq_str_int (ZJ I q<|by simp)
  |str j=>obtain⟨b,rfl⟩:=a;exact eq_str (ZJ I q LS)
  |_=>exact Xo (show false=true from c) XF
 |byt i=>
  obtain⟨t,rfl⟩:=f;cases y with
  |byt j=>obtain⟨b,rfl⟩:=a;exact W.eq_bytes (ZJ I q L5)
  |_=>exact Xo (show false=true from c) XF
 |_=>cases y<;>exact Xo (show false=true from c) XF
def PN:OpR X (compareOp .NotEq) rNe:=by
 intro Y s O H x y v m Q I f a h;obtain⟨c,q⟩:=h;cases x with
 |non=>
  cases f;cases y with
  |non=>cases a;exact PySem.EqNone.ne_none_none (ZJ I q<|by simp)
  |bl j=>cases a;exact PySem.EqNone.ne_none_bool (ZJ I q<|by simp)
  |int j=>obtain⟨b,rfl⟩:=a;exact PySem.EqNone.ne_none_int (ZJ I q<|by simp)
  |str j=>obtain⟨b,rfl⟩:=a;exact PySem.EqNone.ne_none_str (ZJ I q<|by simp)
  |_=>exact Xo (show false=true from c) XF
 |bl i=>
  cases f;cases y with
  |non=>cases a;exact PySem.EqNone.ne_bool_none (ZJ I q<|by simp)
  |bl j=>cases a;exact ne_bool (ZJ I q<|Xz not TD)
  |str j=>obtain⟨b,rfl⟩:=a;exact PySem.EqMixed.ne_bool_str (ZJ I q<|by simp)
  |_=>exact Xo (show false=true from c) XF
 |int i=>
  obtain⟨t,rfl⟩:=f;cases y with
  |non=>cases a;exact PySem.EqNone.ne_int_none (ZJ I q<|by simp)
  |int j=>obtain⟨b,rfl⟩:=a;exact ne_int (ZJ I q<|Xz not LF)
  |str j=>obtain⟨b,rfl⟩:=a;exact PySem.EqMixed.ne_int_str (ZJ I q<|by simp)
  |_=>exact Xo (show false=true from c) XF
 |str i=>
  obtain⟨t,rfl⟩:=f;cases y with
  |non=>cases a;exact PySem.EqNone.ne_str_none (ZJ I q<|by simp)
  |bl j=>cases a;exact PySem.EqMixed.ne_str_bool (ZJ I q<|by simp)
  |int j=>obtain⟨b,rfl⟩:=a;exact PySem.EqMixed.ne_str_int (ZJ I q<|by simp)
  |str j=>obtain⟨b,rfl⟩:=a;exact ne_str (ZJ I q<|Xz not LS)
  |_=>exact Xo (show false=true from c) XF
 |byt i=>
  obtain⟨t,rfl⟩:=f;cases y with
  |byt j=>obtain⟨b,rfl⟩:=a;exact W.ne_bytes (ZJ I q<|Xz not L5)
  |_=>exact Xo (show false=true from c) XF
 |_=>cases y<;>exact Xo (show false=true from c) XF
def Jw:OpR X (compareOp .Lt) (rI0 λi j=>.bl<|decide (i<j)):=Da λ_ _ _ _ _ _ _ q=>lt_int q
def UL:OpR X (compareOp .LtE) (rI0 λi j=>.bl<|decide (i<=j)):=Da λ_ _ _ _ _ _ _ q=>le_int q
def Jv:OpR X (compareOp .Gt) (rI0 λi j=>.bl<|decide (j<i)):=Da λ_ _ _ _ _ _ _ q=>gt_int q
def PB:OpR X (compareOp .GtE) (rI0 λi j=>.bl<|decide (j<=i)):=Da λ_ _ _ _ _ _ _ q=>ge_int q
def Zrf:OpR X (compareOp .In) (λx y H Q=>∃i j,x=.str i/\y=.str j/\Q (.bl<|!(Builtin.Str.occurrences j i 0 j.length 1).isEmpty) H):=by
 intro Y s O H x y v f Q I b a h;apply SF h;rintro i j rfl rfl q;obtain⟨t,rfl⟩:=b;obtain⟨c,rfl⟩:=a;exact in_str (ZJ I q rfl)
def To(b:Expr)(h:op≠.In:=by decide)(a:op≠.NotIn:=by decide):behindInMarks op b=false:=by
 have f:(op==CmpOp.In)=false:=by cases op<;>first|rfl|exact Xo rfl h
 have c:(op==CmpOp.NotIn)=false:=by cases op<;>first|rfl|exact Xo rfl a
 cases b<;>simp[behindInMarks,f,c]
def Wa(m:OpR X (compareOp op) r)(C:PE X a ta)(B:PE X b tb)(A:behindInMarks op b=false:=by first|exact To _|rfl):PE X (.Compare a [op] [b] pos) (tOp r ta tb):=by
 exact λY s O H Q I h=>wpAny_Compare1 (Kb C B I h λv D c x y M K j f q=>m Y c O M x y v D Q K j f q) A
def Jr(t:TE):TT:=λO H Q=>t O H λx J=>∃k,x=.bl k/\Q k J
def Ze(K:OpR X (compareOp op) r)(W:PE X a ta)(P:PE X b tb)(M:behindInMarks op b=false:=by first|exact To _|rfl):PT X (.Compare a [op] [b] pos) (Jr<|tOp r ta tb):=by
 refine λY s O H Q I h=>wpAny_isTrue_Compare1 (Q7 (W Y s O H _ I h) λv j ⟨x,E,l,A,D⟩=>Q7 (P Y j O E _ l D) λd f ⟨y,o,i,q,C⟩=>
  Q7 (K Y f O o x y v d _ i A q C) λc p ⟨z,n,g,m,k,e,B⟩=>?_) M
 subst e;cases m;exact wpAny_truthy_bool #[n,g,B]
def K9(r c:R2)(ta tb tc:TE):TE:=λO H Q=>ta O H λx E=>tb O E λy h=>r x y h λz a=>∃k,z=.bl k/\
 (if k=true then tc O a λb f=>c y b f Q else Q (.bl false) a)
noncomputable def Fq(t:OpR X (compareOp op) r)(f:OpR X (compareOp op') r')(G:PE X a ta)(F:PE X b tb)(w:PE X c tc)
(u:lastMarks [op,op'] [b,c]=false:=by with_unfolding_all rfl):PE X (.Compare a [op,op'] [b,c] pos) (K9 r r' ta tb tc):=by
 refine λY s O H Q I h=>Compare_chain (Q7 (G Y s O H _ I h) λv W ⟨x,E,N,l,p⟩=>chain_link (Q7 (F Y W O E _ N p) λq P ⟨y,S,L,j,o⟩=>
  Q7 (t Y P O S x y v q _ L l j o) λd M ⟨z,B,A,i,k,e,m⟩=>?_)) u
 subst e;cases i;refine wpAny_truthy_bool ?_;cases k with
 |false=>exact ite_ff #[.bl false,B,A,rfl,m]
 |true=>exact ite_tt (chain_last<|Q7 (w Y M O B _ A m)<|by rintro D K ⟨C,R,J,g,n⟩;exact f Y K O R y C q D Q J j g n)
def N9(F:OpR X (compareOp op) r)(f:OpR X (compareOp op') r')(N:PE X a ta)(L:PE X b tb)(J:PE X c tc)
(G:lastMarks [op,op'] [b,c]=false:=by with_unfolding_all rfl):PT X (.Compare a [op,op'] [b,c] pos) (Jr<|K9 r r' ta tb tc):=by
 refine λY s O H Q I h=>isTrue_chain (Q7 (N Y s O H _ I h) λv W ⟨x,E,I1,n,u⟩=>test_link (Q7 (L Y W O E _ I1 u) λq P ⟨y,H2,Z,j,t⟩=>
  Q7 (F Y P O H2 x y v q _ Z n j t) λd M ⟨z,B,A,l,k,e,m⟩=>?_)) G
 subst e;cases l;refine wpAny_truthy_bool ?_;cases k with
 |false=>
  apply I0 m;intro k' S w;cases S;exact ite_ff #[B,A,w]
 |true=>
  refine ite_tt (test_last<|Q7 (J Y M O B _ A m) ?_);rintro D K ⟨C,H4,U,i,p⟩;refine Q7 (f Y K O H4 y C q D _ U j i p) ?_;rintro d' s5 ⟨z2,H5,T,g,k2,rfl,o⟩;cases g;exact wpAny_truthy_bool #[H5,T,o]
def HJ(K:W.Frag)(x:V)(H:Hp)(k:Bool):Prop:=
 match x with
 |.non=>k=false
 |.bl b=>k=b
 |.int i=>k=(i != 0)
 |.str y=>y.length<=sizeLine/\k=((y.length:Int) != 0)
 |.byt y=>y.size<=sizeLine/\k=((y.size:Int) != 0)
 |.ref p=>(∃xs,SqL K H p xs/\k = !xs.isEmpty)\/(∃xs,SqT K H p xs/\k = !xs.isEmpty)\/∃a,H p=some (.dK a)/\k = !a.isEmpty
 |_=>False
def Zoj{a:Type}{kvs:List (a×V)}{vs:List (a×Value)}(r:KV kvs vs):(!vs.isEmpty) = !kvs.isEmpty:=by
 cases r<;>rfl
def CS(r:QW xs its):(!its.toArray.isEmpty) = !xs.isEmpty:=by
 cases r<;>simp
def UQ:(sizeLine:Nat)<2^63:=by rw[sizeLine_eq];decide
def AY:Z0r X (λx H Q=>∃k,HJ X.K x H k/\Q k H):=by
 intro Y s O H x v Q I f h;apply I0 h;intro k e q;have d:=sizeLine_eq;cases x with
 |non=>
  cases f;subst e;exact truthy_none #[H,I,q]
 |bl b=>
  cases f;have a:=e;subst e;exact wpAny_truthy_bool #[H,I,q]
 |int i=>
  obtain⟨t,rfl⟩:=f;have a:=e;subst e;exact PySem.P.truthy_int #[H,I,q]
 |str y=>
  obtain⟨t,rfl⟩:=f;obtain⟨K,rfl⟩:=e;exact PySem.P.truthy_str #[] #[H,I.tok _,q]
 |byt y=>
  obtain⟨t,rfl⟩:=f;obtain⟨K,rfl⟩:=e;exact W.truthy_bytes #[] #[H,I.tok _,q]
 |ref p=>
  cases f;have a:=e;rcases e with ⟨xs,j,rfl⟩|⟨xs,j,rfl⟩|⟨D,j,rfl⟩
  .apply L3 (I.list j);intro B r A C;have c:=r.length;exact wpAny_truthy_list A.isList (by simp only[Xw];lia) #[H,I.tok _,by rw[CS r];exact q]
  .apply L3 (I.tuple j);intro B r A C;have c:=r.length;exact truthy_tuple A (by simp only[Xw];lia) #[H,I.tok _,by rw[CS r];exact q]
  .apply aI (I.hok p _ j);intro C M P r m;have c:=Paired.length r;exact wpAny_truthy_dict M m #[] #[H,I.tok _,by rw[Zoj r];exact q]
 |_=>exact(e).elim
def Fr(m:PE X a ta)(he:∀b,isTrue a X.env b=(do let v <- b;standAt a.pos;holding [v] (truthy v))):
 PT X a (λO H Q=>ta O H λx J=>∃k,HJ X.K x J k/\Q k J):=by
 refine λY s O H Q I h=>isTrue_plain (Q7 (m Y s O H _ I h) ?_) (he _);rintro v c ⟨x,E,q,f,j⟩;exact AY Y c O E x v Q q f j
def Zoo:OpR X (binaryOp .Add) (λx y H Q=>∃i j,x=.str i/\y=.str j/\i.length+j.length<=sizeLine/\Q (.str<|i++j) H):=by
 intro Y s O H x y v A Q I c b h;apply RC h;rintro i j rfl rfl f q;obtain⟨t,rfl⟩:=c;obtain⟨a,rfl⟩:=b;exact add_str (λa m=>#[.str<|i++j,H,I.tok _,#[_,rfl],q]) f
def VN(r:QW [x] us):∃a,us=[a]/\QO x a:=by
 cases r with
 |cons c b=>cases b;exact#[_,rfl,c]
def UI(r:QW [x,y] us):∃b a,us=[b,a]/\QO x b/\QO y a:=by
 cases r with
 |cons j h=>
  cases h with
  |cons f c=>cases c;exact#[_,_,rfl,j,f]
def Zp5(b:X.calm=true):ZC X (.builtin "max") (λxs H Q=>∃i j,xs=[.int i,.int j]/\Q (.int (if j > i then j else i)) H):=by
 intro Y s O H xs f Q I r h;apply L0 h;rintro i j rfl q;apply SF (UI r);rintro B c rfl⟨t,rfl⟩⟨A,rfl⟩;refine max_two_ints (I.ok.hd b) λh' m k=>#[_,H,I.kept k,?_,q]
 by_cases a:j > i
 .rw[Xi a,Xi a];exact#[_,rfl]
 .rw[Xg a,Xg a];exact#[_,rfl]
def Zq1(b:X.calm=true):ZC X (.builtin "min") (λxs H Q=>∃i j,xs=[.int i,.int j]/\Q (.int (if j<i then j else i)) H):=by
 intro Y s O H xs f Q I r h;apply L0 h;rintro i j rfl q;apply SF (UI r);rintro B c rfl⟨t,rfl⟩⟨A,rfl⟩;refine min_two_ints (I.ok.hd b) λh' m k=>#[_,H,I.kept k,?_,q]
 by_cases a:j<i
 .rw[Xi a,Xi a];exact#[_,rfl]
 .rw[Xg a,Xg a];exact#[_,rfl]
def ZqX:ZC X (.type "int") (λxs H Q=>(∃i,xs=[.int i]/\Q (.int i) H)\/∃k,xs=[.bl k]/\Q (.int (if k then 1 else 0)) H):=by
 intro Y s O H xs c Q I r h;rcases h with ⟨i,rfl,q⟩|⟨k,rfl,q⟩
 .obtain⟨b,rfl,t,rfl⟩:=VN r;exact call_int_int #[.int i,H,I,#[_,rfl],q]
 .obtain⟨b,rfl,a⟩:=VN r;cases a;exact call_int_bool #[.int _,H,I.tok _,#[_,rfl],q]
end
end L2
namespace L2
structure ObjM(h:Heap)(x u C:Addr)(mA:Str->Qf):Prop where
 obj:h.get? x=some (W.instObj C u)
 ns:h.Ns1 u mA
 ne:u≠x
def Ce(n:h.Ns1 u mA):∃od,h.get? u=some od/\∀f,W.lookIn f od=some (mA f):=by
 refine aK n λo es D s C B _ A=>#[o,s,λf=>?_];have e:=A f;unfold nsFind findBy at e;rw[<- Array.find?_toList]at e;unfold W.lookIn;rw[C];dsimp only;split
 .rename_i y q;rw[q]at e;exact Xz some e
 .rename_i q;rw[q]at e;have a:es.toList.any (·.refKey)=false:=by
   rw[List.any_eq_false];intro y m;apply aL (B y (Array.mem_toList_iff.mp m));intro z t j;simp[DictEntry.refKey,j]
  grind
def ObjM.look(I:ObjM h x u C mA):∃od,W.InstAt h x (W.instObj C u) C (some od)/\∀f,W.lookIn f od=some (mA f):=
 let ⟨od,ho,hl⟩:=Ce I.ns
 #[od,#[I.obj,rfl,rfl,ho],hl]
section
variable {w:World}{H1:Qb}{x u f:Addr}{mA:Str->Qf}{name:Str}{v:Value}
def Op(X:K.In s.heap)(I:ObjM s.heap x u C mA)(hg:W.plainGet K C name=true)(q:W.hasDictIn K C=true)
(B:W.findIn K (.ref C) name=some none)(j:mA name=some v)(f:W.handedIn v=true)(h:Q v { s with toks:=s.toks+1 }):
 wpAny (model prog w) A (getAttr (.ref x) name expr) Q H1 s:=by
 exact I0 I.look λM D m=>W.get_value X D (W.plainGet_of hg).1 (W.findObj_own q B rfl (by rw[m,j])) f h
def Zsa(X:K.In s.heap)(I:ObjM s.heap x u C mA)(hg:W.plainGet K C name=true)
(B:W.findIn K (.ref C) name=some (some<|.ref f))(q:W.isFn K (.ref f)=true)(m:mA name=none)(h:Q (.ref f,[.ref x]) s):
 wpAny (model prog w) A (getMethod (.ref x) name pl) Q H1 s:=by
 exact I0 I.look λj D v=>W.method_fn X D (W.plainGet_of hg).1 (W.plainGet_of hg).2 B (beq_iff_eq.mp q) (by show(W.lookIn name j).map _=some false;rw[v,m];rfl) h
def O5(X:K.In s.heap)(I:ObjM s.heap x u C mA)
(a:W.findIn K (.ref C) "__setattr__"=some (some<|.builtin "object.__setattr__"))(c:W.plainOver K C=true)(Y:W.takerIn K C name=some none)(d:W.hasDictIn K C=true)
(hw:PySem.Within mA ns)(hsz:ns.length<=sizeLine)
(h:∀h',ObjM h' x u C (λy=>if y=name then some v else mA y)->Heap.SameBut u s.heap h'->Q () { s with heap:=h',toks:=s.toks+2 }):
 wpAny (model prog w) A (setAttr (.ref x) name v) Q H1 s:=by
 refine I0 I.look λk M n=>W.set_plain X M a (W.osa_open X M c Y λb=>?_);apply I0 (W.any_some d);refine λcd e B=>Xa (Xl<|Xa<|Xa<|wpAny_loadPart I.obj<|Xa<|W.Looks.here (W.looks_clsIn X e) ?_);rw[B];exact Xl (Xa<|Xl<|Xa (wpAny_nsSet1 I.ns λh' j f=>Ps (j.count (PySem.Within.cons name v hw)) λl g i m q D=>Xa (wpAny_lookBehind m (by rw[q];exact pastItsLine_dict<|Xt D<|by rw[XY];lia) (Xl (h _ #[(f.2 _<|Ne.symm I.ne).trans I.obj,j,I.ne] f)))))
def ZsA(X:K.In s.heap)(m:W.makesIn K C=true)
(q:W.findIn K (.ref C) "__init__"=some (some<|.ref f))(u:W.typeIn K (.ref f)=some (.type "function"))
(h:codeAny (model prog w) (A.under<|.builtin "type.__call__" #[.ref C::vs,kw]) (.call (.ref f) #[.ref (s.heap.objs.size+1)::vs,kw]) (W.InitBack (s.heap.objs.size+1) R)
  { s with heap:=(s.heap.push W.emptyDict).push (W.instObj C s.heap.objs.size) }):
 codeAny (model prog w) A (.call (.ref C) #[vs,kw]) R s:=W.make_core (W.makes_of X m) (W.looks_findIn X q) (λj=>W.bind_fn X j u) (.inl rfl) h
end
noncomputable def Yh(f:Str)(v:V):List (Str×V)->List (Str×V)
 |[]=>[(f,v)]
 |(g,x)::r=>if g=f then (g,v)::r else (g,x)::Yh f v r
theorem C7(f g:Str)(v:V):∀q:List (Str×V),(Yh f v q).lookup g=if g=f then some v else q.lookup g
 |[]=>by
  show List.lookup g [_]=_
  by_cases h:g=f
  .have j:=beq_iff_eq.mpr h;simp only[List.lookup,j,Xi h]
  .have j:=beq_eq_false_iff_ne.mpr h;simp only[List.lookup,j,Xg h]
 |(k,x)::r=>by
  have s:=C7 f g v r;rw[show Yh f v _=(if k=f then _::r else _::Yh f v r) from rfl];by_cases m:k=f
  .rw[Xi m]
   by_cases h:g=k
   .have j:=beq_iff_eq.mpr h;simp only[List.lookup,j,Xi<|h.trans m]
   .have j:=beq_eq_false_iff_ne.mpr h;simp only[List.lookup,j,Xg λe:g=f=>h<|e.trans m.symm]
  .rw[Xg m]
   by_cases h:g=k
   .have j:=beq_iff_eq.mpr h;simp only[List.lookup,j,Xg λe:g=f=>m<|h.symm.trans e]
   .have j:=beq_eq_false_iff_ne.mpr h;simp only[List.lookup,j];exact s
theorem Ru(f:Str)(v:V):∀j:List (Str×V),f∈(Yh f v j).map (·.1)/\∀g,g∈j.map (·.1)->g∈(Yh f v j).map (·.1)
 |[]=>⟨by simp[Yh],λg h=>by simp at h⟩
 |(k,x)::r=>by
  obtain _:=Ru f v r;rw[show Yh f v _=(if k=f then _::r else _::Yh f v r) from rfl];grind
theorem CA(f:Str)(v:V):∀h:List (Str×V),(Yh f v h).length<=h.length+1
 |[]=>by simp[Yh]
 |(k,x)::r=>by
  have j:=CA f v r;rw[show Yh f v _=(if k=f then _::r else _::Yh f v r) from rfl];by_cases m:k=f
  .simp_all
  .simp_all
def Vj.some_of(r:Vj (some v) o):∃f,o=some f/\QO v f:=by
 cases o with
 |none=>exact(r).elim
 |some f=>exact#[f,rfl,r]
def Vj.none_of(r:Vj none o):o=none:=by
 cases o with
 |none=>rfl
 |some f=>exact(r).elim
def Cj(r:QO v dx):W.handedIn dx=true:=by
 cases v with
 |non=>cases (r);rfl
 |bl b=>cases (r);rfl
 |int i=>obtain⟨t,e⟩:=(r);cases e;rfl
 |str x=>obtain⟨t,e⟩:=(r);cases e;rfl
 |byt b=>obtain⟨t,e⟩:=(r);cases e;rfl
 |flt b=>obtain⟨t,e⟩:=(r);cases e;rfl
 |ref a=>cases (r);rfl
 |ty n=>cases (r);rfl
section
variable {w:World}{H:Hp}{a u:Addr}{fs:List (Str×V)}
def Nm(m:HOk P w H h)(e:H a=some (.ins C u fs)):∃j,ObjM h a u C j/\(∀f,Vj (fs.lookup f)<|j f)/\PySem.Within j (fs.map (·.1))/\fs.length<=1000/\H u=some (.own a):=by
 apply Hs ((m a _ e));rintro d z A s⟨j,n,r,q⟩
 exact#[j,#[s,n,A],r,q,z,d]
end
structure Cls(K:W.Frag)(C:Addr):Prop where
 pg:W.plainGet K C Str.empty=true
 hd:W.hasDictIn K C=true
 po:W.plainOver K C=true
 sa:W.findIn K (.ref C) "__setattr__"=some (some<|.builtin "object.__setattr__")
def Cls.get(c:Cls K C)(f:Str):W.plainGet K C f=true:=c.pg
def Ve(K:W.Frag)(C:Addr)(f:Str):Prop:=W.findIn K (.ref C) f=some none
def Ve.taker(n:Ve K C f):W.takerIn K C f=some none:=by
 unfold W.takerIn;rw[show W.findIn K _ f=some none from n];rfl
structure Meth(K:W.Frag)(C:Addr)(m:Str)(f:Addr):Prop where
 at_:W.findIn K (.ref C) m=some (some<|.ref f)
 fn:W.isFn K (.ref f)=true
 kp:W.keepIn K (.ref f)=true
section
variable {O:St}{H:Hp}{a u:Addr}{fs:List (Str×V)}{v:V}{H1:Qb}
def CF{b:Bool}(I:Qt X Y O H s)(e:H a=some (.ins C u fs))(c:Cls X.K C)(n:Ve X.K C f)(l:fs.lookup f=some v)
(h:∀j m,Qt X Y O H m->QO v j->Q j m):wpAny (model X.prog X.w) A (getAttr (.ref a) f b) Q H1 s:=by
 exact aM (Nm I.hok e) λK B r _ _ _=>I0 (Vj.some_of (by exact l▸(r f))) λj D q=>Op I.kIn B (c.get f) c.hd n D (Cj q) (h j _ (I.tok _) q)
def RM{g:Addr}(I:Qt X Y O H s)(e:H a=some (.ins C u fs))(c:Cls X.K C)(k:Meth X.K C m g)(l:fs.lookup m=none)
(h:Q (.ref g,[.ref a]) s):wpAny (model X.prog X.w) A (getMethod (.ref a) m pl) Q H1 s:=by
 apply aM (Nm I.hok e);exact λq f r _ _ _=>Zsa I.kIn f (c.get m) k.at_ k.fn (Vj.none_of (by exact l▸(r m))) h
def CP(I:Qt X Y O H s)(e:H a=some (.ins C u fs))(c:Cls X.K C)(n:Ve X.K C f)(l:fs.length<1000)(M:QO y dx)
(h:∀B,Qt X Y O (upd H a<|.ins C u<|Yh f y fs) B->Q () B):wpAny (model X.prog X.w) A (setAttr (.ref a) f dx) Q H1 s:=by
 apply aM (Nm I.hok e);intro k j r v _ D;have P:(fs.map (·.1)).length<=sizeLine:=by rw[Xe,sizeLine_eq];lia
 refine O5 I.kIn j c.sa c.po n.taker c.hd v P λh' m K=>h _ ?_;have d:∃o,h'.get? u=some o:=let ⟨o,_,_,e',_⟩:=m.ns;#[o,e'];refine I.write (by rw[e];exact True.intro) (.inr D) (λb q i z=>(K.2 b i).trans z) d<|#[by rw[Qv j.ne];exact D,?_,j.ne,m.obj,_,m.ns,λg=>?_,λg W=>?_]
 .have:=CA f y fs;lia
 .rw[C7]
  by_cases q:g=f
  .rw[Xi q,Xi q];exact M
  .simp_all
 .by_cases q:g=f
  .rw[q];exact(Ru f y fs).1
  .refine(Ru f y fs).2 g (v g λz=>W ?_);simp_all
def Qt.made(I:Qt X Y O H s):Qt X Y O (upd (upd H s.heap.objs.size<|.own<|s.heap.objs.size+1) (s.heap.objs.size+1)<|.ins C s.heap.objs.size [])
 { s with heap:=(s.heap.push W.emptyDict).push (W.instObj C s.heap.objs.size) }:=by
 have u:=by
  have:=Xn (s.heap.push W.emptyDict) (o:=W.instObj C s.heap.objs.size) rfl;rwa [Yy]at this
 refine (I.laid (o:=.own (s.heap.objs.size+1)) (t':=s.toks) (λb v q=>Xd _ q) (Xm _) #[_,Xn s.heap rfl]).laid (λb v q=>Xd _ q) (Nat.le_of_eq<|Yy _ _)<|#[by rw[Qv (Xq (JF _)),QF],XA _,Xq (JF _),u,λ_=>none,(Heap.Ns1.of_empty (#[W.emptyDict,(List.toArray []),_,Xn s.heap rfl,rfl,(λe j=>Xo j<|by simp),λ_=>rfl])).at λo q=>Xd _ q,λ_=>True.intro,λy h=>Xo rfl h]
def Lg(a:attributeBase e f env (eval e env)=eval e env)
(h:wpAny (model prog w) A (eval e env) (λo j=>wpAny (model prog w) A (getAttr o f true) Q H1 j) H1 s):wpAny (model prog w) A (eval (.Attribute e f pos) env) Q H1 s:=
 Attribute_any_ h (by rw[arm_eval_Attribute,a])
end
def Va(K:W.Frag)(ta:TE)(f:Str):TE:=λO H Q=>ta O H λx E=>∃a C u h v,x=.ref a/\E a=some (.ins C u h)/\Cls K C/\Ve K C f/\h.lookup f=some v/\Q v E
def Ax(K:W.Frag)(ta tv:TE)(f:Str):TS:=λm O H=>tv O H λy E=>ta O E λx j=>∃a C u h,x=.ref a/\j a=some (.ins C u h)/\Cls K C/\Ve K C f/\h.length<1000/\
 m.nx O (upd j a<|.ins C u<|Yh f y h)
def Pd(X:Cx)(j:Operator)(h:V->V->Hp->VK->Prop):Prop:=
 ∀(Y:Qc) (s:Shared) (O:St) (H:Hp) (x y:V) (f v:Value) (Q:VK),Qt X Y O H s->QO x f->QO y v->h x y H Q->wpAny (model X.prog X.w) X.A (inplaceOp j f v) (EP X Y O Q) X.xe s
def LB(K:W.Frag)(ta tv:TE)(s:V->V->Hp->VK->Prop)(f:Str):TS:=λB O H=>ta O H λx E=>∃a C u m v,x=.ref a/\E a=some (.ins C u m)/\Cls K C/\Ve K C f/\m.lookup f=some v/\
 tv O E λy A=>s v y A λz q=>∃j h,q a=some (.ins C j h)/\h.length<1000/\B.nx O (upd q a<|.ins C j<|Yh f z h)
section
variable {o e value:Expr}{tpos:Pos}
def Zp(he:PE X e ta)(o:attributeBase e f X.env (eval e X.env)=eval e X.env:=by rfl):PE X (.Attribute e f pos) (Va X.K ta f):=by
 refine λY s O H Q I h=>Lg o (Q7 (he Y s O H _ I h) ?_);rintro d W ⟨x,E,K,j,a,C,u,b,v,rfl,B,c,n,l,q⟩;obtain rfl:=j;exact CF K B c n l λM P D m=>#[v,E,D,m,q]
def W2(K:PE X o ta)(B:PE X value tv)(D:swapsWith value (some<|.Attribute o f pos') pos.line X.env=pure false):PS X (.Assign [.Attribute o f pos'] value pos) (Ax X.K ta tv f):=by
 refine λY s O H v I h=>plainObj_wpAny_Assign_Attribute (Q7 (B Y s O H _ I h) ?_) D;rintro r e ⟨y,E,d,j,q⟩;refine Q7 (K Y e O E _ d q) ?_;rintro k i ⟨x,t,b,m,a,C,u,p,rfl,P,c,n,l,A⟩;obtain rfl:=m;exact CP b P c n l j λg W=>#[O,_,W,A]
def ZqR(i:PE X o ta)(g:PE X value tv)(e:Pd X op rd):PS X (.AugAssign (.Attribute o f tpos) op value pos) (LB X.K ta tv rd f):=by
 refine λY s O H H0 I h=>wpAny_AugAssign_AttributeAny (Q7 (i Y s O H _ I h) ?_);rintro Z U ⟨x,E,N,M,a,C,u,fs,v,rfl,r,c,n,l,q⟩;obtain rfl:=M;refine CF N r c n l λw B L P=>Q7 (g Y B O E _ L q) ?_;rintro m A ⟨y,Q,J,K,b⟩;refine Q7 (e Y A O Q v y w m _ J P K b) ?_;rintro R T ⟨z,H3,G,D,t,k,j,d,W⟩;exact CP G j c n d D λS F=>#[O,_,F,W]
def Pg:V->V->Hp->VK->Prop:=λx y H Q=>∃i j,x=.int i/\y=.int j/\Q (.int<|i+j) H
def El:Pd X .Add Pg:=by
 rintro Y s O H x y m v Q I f e ⟨i,j,rfl,rfl,q⟩;obtain⟨t,rfl⟩:=(f);obtain⟨h,rfl⟩:=(e);exact PyProof.Rows.iadd_int #[.int _,H,I.tok _,#[_,rfl],q]
end
end L2
namespace L2
structure Room(k:Nat)(A:Around):Prop where
 hd:A.handled=none
 dp:A.depth+3*k+5<recursionLimit
 un:A.units+16*k+200<cLine
def Room.mono(r:Room k A)(h:j<=k):Room j A:=#[r.hd,by have:=r.dp;lia,by have:=r.un;lia]
def Room.deeper(r:Room (k+1) A)(env:Env):Room k (A.deeper env):=
 #[r.hd,by have:=r.dp;show A.depth+1+3*k+5<_;lia,by have:=r.un;show A.units+3+16*k+200<_;lia]
def Zo5   : (A.under<|.builtin "type.__call__" #[.ref C::us,kw]).depth=A.depth+1:=by
 first|rfl|simp[ guardIds]
def ZnX   : (A.under<|.builtin "type.__call__" #[.ref C::us,kw]).units=A.units+1:=by
 first|rfl|simp[Around.under]
def Room.make  (r:Room (k+1) A)(C:Addr)(us:Qe)(f:List (Str×Value)):Room k (A.under<|.builtin "type.__call__" #[.ref C::us,f]):=
 #[r.hd,by have:=r.dp;rw[Zo5];lia,by have:=r.un;rw[ZnX];lia]
def Room.depth(r:Room k A):A.depth<recursionLimit:=by have:=r.dp;lia
def Room.units(r:Room k A):A.units+64<cLine:=by have:=r.un;lia
def QH:TA:=λ_ H Q=>Q [] H
def Q3(ta:TE)(f:TA):TA:=λO H Q=>ta O H λx E=>f O E λxs h=>Q (x::xs) h
section
variable {e:Expr}{t:TA}
def Qp:PA X [] QH:=λ_ _ _ _ H Q I h=>Calls.spliced_nil #[[],H,I,.nil,h]
abbrev zs(X:Cx)(e:Expr)(es:List Expr):Prop:=starEach (e::es) X.env=(false,eval e X.env)::starEach es X.env
abbrev zb(X:Cx)(pos:Pos)(es:List Expr):Prop:=(backTo pos<|starEach es X.env).any (·.1)=false
def Qs(D:PE X e te)(C:PA X es t)(B:zs X e es:=by rfl):PA X (e::es) (Q3 te t):=by
 intro pos Y s O H Q I h;rw[B];show wpAny _ _ (spliced ((false,eval e X.env)::backTo pos _)) _ _ s;refine Calls.spliced_cons (Q7 (D Y s O H _ I h) ?_);rintro b f ⟨x,E,M,m,A⟩;refine Q7 (C pos Y f O E _ M A) ?_;rintro W a ⟨xs,P,K,j,q⟩;exact#[x::xs,P,K,.cons m j,q]
def Wu(t:TA):TE:=λO H Q=>t O H λxs E=>xs.length<=sizeLine/\∀p,E p=none->Q (.ref p) (upd E p<|.tup xs)
def Y1(t:TA):TE:=λO H Q=>t O H λxs E=>xs.length<=sizeLine/\∀p,E p=none->Q (.ref p) (upd E p<|.lst xs)
def Ys{x1}(h:PA X es t):PE X (.Tuple es x1 pos) (Wu t):=by
 refine λY s O H Q I A=>wpAny_Tuple_spliced (Q7 (h pos Y s O H _ I A) ?_);rintro m f ⟨xs,E,j,r,z,q⟩;refine#[by rw[<- r.length];exact z,#[.ref f.heap.objs.size,upd E f.heap.objs.size _,j.laid (λb C e=>Xd _ e) (Xm _) ?_,rfl,q _ (j.hok.fresh (Xm _))]];exact#[z,m,r,#[_,Xn _ rfl,rfl,_,rfl]]
def Zk(h:PA X es t):PE X (.List es pos) (Y1 t):=by
 refine λY s O H Q I A=>wpAny_List_spliced (Q7 (h pos Y s O H _ I A) ?_);rintro m f ⟨xs,E,j,r,z,q⟩;refine#[by rw[<- r.length];exact z,#[.ref f.heap.objs.size,upd E f.heap.objs.size _,j.laid (λb C e=>Xd _ e) (Xm _) ?_,rfl,q _ (j.hok.fresh (Xm _))]];exact#[z,m,0,r,Xn _ rfl]
end
abbrev Sp:=List V->Hp->VK->XK->Prop
abbrev CXT:=List Env->Hp->Shared->XK->Qb
structure Env0(P:Program)(w:World)(K:W.Frag)(mg:Str->Qf)(base:Heap)(A:Around)(outer:List Env)(s:Shared)(H:Hp):Prop where
 frames:A.frames=some outer
 mod:Mod K mg base
 bs:∀b o,base.get? b=some o->s.heap.get? b=some o/\(H b=none\/∃xs,H b=some (.tup xs))
 bsz:base.objs.size<=s.heap.objs.size
 funs:s.heap.FunFrames base outer
 frf:∀b∈frs outer,H b=none
 hok:HOk P w H s.heap
 bare:AllBare s.gens
def CE(outer:List Env)(P:Program)(w:World)(H:Hp)(s:Shared)(Q:VK)(h:Value)(f:Shared):Prop:=
 ∃v J,f.os=s.os/\AllBare f.gens/\Un (frs outer) [] H J s.heap f.heap/\HOk P w J f.heap/\QO v h/\Q v J
def CR(m:CXT)(outer:List Env)(P:Program)(w:World)(H:Hp)(s:Shared)(Q:VK)(j:XK)(r:Result)(f:Shared):Prop:=
 match r with
 |.ok (.ret h)=>CE outer P w H s Q h f
 |.ok _=>False
 |.error e=>m outer H s j e f
structure FnOk(P:Program)(w:World)(K:W.Frag)(mg:Str->Qf)(base:Heap)(CX:CXT)(k:Nat)(f:Addr)(fd:FuncData)(ps:Qh)(sp:Sp):Prop where
 len:∀vs H Q H1,sp vs H Q H1->vs.length=ps.length
 run:∀(A:Around) (outer:List Env) (s:Shared) (H:Hp) (args:Args) (us:Qe) (vs:List V) (Q:VK) (H1:XK),Room k A->Env0 P w K mg base A outer s H->BindsTo s fd args (ps.zip us)->QW vs us->sp vs H Q H1->
  codeAny (model P w) A (.call (.ref f) args) (CR CX outer P w H s Q H1) s
def Env0.make(e:Env0 P w K mg base A outer s H)(C:Addr)(us:Qe)(f:List (Str×Value)):
 Env0 P w K mg base (A.under<|.builtin "type.__call__" #[.ref C::us,f]) outer s H:=#[by first|exact e.frames|(simpa [ pushEnvs] using e.frames),e.mod,e.bs,e.bsz,e.funs,e.frf,e.hok,e.bare]
section
variable {O:St}{H:Hp}{s':Shared}
def Qt.env0(I:Qt X Y O H s):Env0 X.prog X.w X.K X.mg X.base X.A X.stack s H:=
 #[I.ok.frames,I.ok.mod,I.bs,Xt I.ok.bsz I.sz,I.stack,I.stkFree,I.hok,I.bare]
def Qt.after(I:Qt X Y O H s)(h:CE X.stack X.prog X.w H s Q dx s'):EP X Y O Q dx s':=by
 apply aN h;intro v J B f m j r q;obtain⟨C,g,d,t,A⟩:=s';obtain rfl:=B;exact#[v,J,I.call m j f (λb z=>Xo z<|by simp),r,q]
end
def Vd(j:Sp)(f:List V)(m:XK)(t:TA):TE:=λO H Q=>t O H λh E=>j (h++f) E Q m
def ZY(C:Addr)(m:Str)(q:Sp)(f:List V)(A:XK)(ta:TE)(t:TA):TE:=λO H Q=>ta O H λx E=>∃a u h,x=.ref a/\E a=some (.ins C u h)/\h.lookup m=none/\
 t O E λj s=>q (x::(j++f)) s Q A
def WL(C:Addr)(j:Sp)(f:List V)(q:XK)(t:TA):TE:=λO H Q=>t O H λh E=>∀x u,E x=none->E u=none->u≠x->
 j (.ref x::(h++f)) (upd (upd E u<|.own x) x<|.ins C u []) (λv m=>v=.non/\Q (.ref x) m) q
def ZW(K:W.Frag)(fd:FuncData)(ps:Qh)(ds:Qe):Prop:=
 ∀(s:Shared) (f:Qe),K.In s.heap->(f++ds).length=ps.length->BindsTo s fd #[f,[]] (ps.zip<|f++ds)
def ZW.all(h:∀us:Qe,us.length=ps.length->bindArgs fd #[us,[]]=pure (ps.zip us)):ZW K fd ps []:=λs us _ f=>by
 rw[Xp]at f ⊢;exact .of_eq (h us f)
def VR(j:CXT)(X:Cx)(h:XK):Prop := ∀(Y:Qc) (O:St) (H:Hp) (s:Shared) (e:Value) (f:Shared),Qt X Y O H s->j X.stack H s h e f->X.xe e f
section
variable {CX:CXT}{k:Nat}{f:Addr}{sp:Sp}{dvs:List V}{ds:Qe}{H1:XK}{x:Str}{p:Pos}{e o:Expr}{t:TA}
def KA{O:St}{H:Hp}{Q:VK}{us:Qe}{vs:List V}(F:FnOk X.prog X.w X.K X.mg X.base CX k f fd ps sp)(q:Room k X.A)(A:ZW X.K fd ps ds)(x:QW dvs ds)(p:VR CX X H1)
(I:Qt X Y O H s)(r:QW vs us)(h:sp (vs++dvs) H Q H1):wpAny (model X.prog X.w) X.A (call (.ref f) us) (EP X Y O Q) X.xe s:=by
 have m:=r.append x;have t:(us++ds).length=ps.length:=by rw[<- m.length];exact F.len _ _ _ _ h
 refine wpAny_call (codeAny_mono (F.run X.A X.stack s H _ _ _ Q H1 q I.env0 (A s us I.kIn t) m h) λr o j=>?_);cases r with
 |error e=>exact p Y O H s e o I j
 |ok B=>
  cases B with
  |ret C=>exact I.after j
  |next=>exact False.elim j
  |brk=>exact False.elim j
  |cont=>exact False.elim j
def LC(F:FnOk X.prog X.w X.K X.mg X.base CX k f fd ps sp)(A:Room k X.A)(hg:Gl X x)(B:X.mg x=some (.ref f))(C:W.keepIn X.K (.ref f)=true)(K:ZW X.K fd ps ds)(D:QW dvs ds)(o:VR CX X H1)
(M:PA X (e::es) t)(j:(x==("__debug__" : Str))=false:=by decide)(he:zs X e es:=by rfl)(hpl:zb X pos es:=by rfl):
 PE X (.Call (.Name x p) (e::es) [] pos) (Vd sp dvs H1 t):=by
 refine λY s O H Q I h=>wpAny_Call_Name_kw (WZ I hg B (W.callWith_K I.ok.mod.kin C (Q7 (M pos Y s O H _ I h) ?_) he hpl) j);rintro a b ⟨P,E,m,r,q⟩;exact#[m.kIn,KA F A K D o m r q]
def Nw{P:Sem Bool}(he:PE X o ta)(c:Cls X.K C)(p:Meth X.K C m f)(F:FnOk X.prog X.w X.K X.mg X.base CX k f fd ps sp)(g:Room k X.A)(n:ZW X.K fd ps ds)(i:QW dvs ds)(b:VR CX X H1)(v:PA X (e::es) t)
(j:zs X e es:=by rfl)(hpl:zb X pos es:=by rfl)
(d:eval (.Call (.Attribute o m X3) (e::es) [] pos) X.env=(do
  let ov <- eval o X.env
  standAt X3.atName
  let (f,first) <- holding [ov] (getMethod ov m P)
  callWith pos f first (backTo pos<|starEach (e::es) X.env)<|backToKw pos<|keywordEach [] X.env):=by rfl):
 PE X (.Call (.Attribute o m X3) (e::es) [] pos) (ZY C m sp dvs H1 ta t):=by
 refine λY s O H Q I h=>W.methodCall_KW (Q7 (he Y s O H _ I h) ?_) d;rintro L D ⟨x,E,B,K,a,u,J,rfl,y,l,q⟩;obtain rfl:=K;refine RM B y c p l<|W.callWith_K I.ok.mod.kin p.kp (Q7 (v pos Y D O E _ B q) ?_) j hpl;rintro z G ⟨vs,N,A,r,M⟩;exact#[A.kIn,KA (vs:=.ref a::vs) F g n i b A (.cons rfl r) M]
def Fx{t:Sem Bool}(he:PE X o ta)(c:Cls X.K C)(j:Meth X.K C m f)(F:FnOk X.prog X.w X.K X.mg X.base CX k f fd ps sp)(D:Room k X.A)(M:ZW X.K fd ps ds)(K:QW dvs ds)(A:VR CX X H1)
(B:eval (.Call (.Attribute o m X3) [] [] pos) X.env=(do
  let ov <- eval o X.env
  standAt X3.atName
  let (f,first) <- holding [ov] (getMethod ov m t)
  callWith pos f first (backTo pos<|starEach [] X.env)<|backToKw pos<|keywordEach [] X.env):=by rfl):
 PE X (.Call (.Attribute o m X3) [] [] pos) (ZY C m sp dvs H1 ta QH):=by
 refine λY s O H Q I h=>W.methodCall_KW (Q7 (he Y s O H _ I h) ?_) B;rintro i d ⟨x,E,e,p,a,u,g,rfl,b,l,q⟩;obtain rfl:=p;exact RM e b c j l<|W.callWith_K0 e.kIn j.kp (KA (vs:=[.ref a]) F D M K A e (.cons rfl .nil) q)
structure Mk(K:W.Frag)(C f:Addr):Prop where
 makes:W.makesIn K C=true
 init:W.findIn K (.ref C) "__init__"=some (some<|.ref f)
 fn:W.isFn K (.ref f)=true
 kp:W.keepIn K (.ref C)=true
def F7{O:St}{H:Hp}{Q:VK}{us:Qe}{vs:List V}(M:Mk X.K C f)(F:FnOk X.prog X.w X.K X.mg X.base CX k f fd ps sp)(D:Room (k+1) X.A)(W:ZW X.K fd ps ds)(P:QW dvs ds)
(B:VR CX X H1)(I:Qt X Y O H s)(r:QW vs us)
(h:∀x u,H x=none->H u=none->u≠x->sp (.ref x::(vs++dvs)) (upd (upd H u<|.own x) x<|.ins C u []) (λv d=>v=.non/\Q (.ref x) d) H1):
 wpAny (model X.prog X.w) X.A (call (.ref C) us) (EP X Y O Q) X.xe s:=by
 have p:=h (s.heap.objs.size+1) s.heap.objs.size (I.hok.fresh<|Gn _) (I.hok.fresh<|Xm _) (Xq<|JF _);have m:=Qt.made (C:=C) I;have o:QW (V.ref (s.heap.objs.size+1)::_) _:=.cons rfl (r.append P);have K:=by
  have e:=o.length;rw[F.len _ _ _ _ p]at e;exact e.symm
 refine wpAny_call (ZsA I.kIn M.makes M.init (beq_iff_eq.mp M.fn) (codeAny_mono (F.run _ X.stack _ _ _ _ _ _ H1 (D.make C us [])
  (m.env0.make C us []) (W _ _ m.kIn K) o p) λr q j=>?_))
 cases r with
 |error e=>exact B Y O _ _ e q m j
 |ok a=>
  cases a with
  |ret g=>
   apply RC (m.after j);intro v J c t b A;subst b;exact#[t,#[V.ref _,J,c,rfl,A]]
  |next=>exact False.elim j
  |brk=>exact False.elim j
  |cont=>exact False.elim j
def Nk(M:Mk X.K C f)(F:FnOk X.prog X.w X.K X.mg X.base CX k f fd ps sp)(A:Room (k+1) X.A)(hg:Gl X x)(B:X.mg x=some (.ref C))(K:ZW X.K fd ps ds)(D:QW dvs ds)(o:VR CX X H1)
(P:PA X (e::es) t)(j:(x==("__debug__" : Str))=false:=by decide)(he:zs X e es:=by rfl)(hpl:zb X pos es:=by rfl):
 PE X (.Call (.Name x p) (e::es) [] pos) (WL C sp dvs H1 t):=by
 refine λY s O H Q I h=>wpAny_Call_Name_kw (WZ I hg B (W.callWith_K I.ok.mod.kin M.kp (Q7 (P pos Y s O H _ I h) ?_) he hpl) j);rintro b c ⟨a,E,m,r,q⟩;exact#[m.kIn,F7 M F A K D o m r q]
def Zsu(M:Mk X.K C f)(F:FnOk X.prog X.w X.K X.mg X.base CX k f fd ps sp)(m:Room (k+1) X.A)(hg:Gl X x)(o:X.mg x=some (.ref C))(t:ZW X.K fd ps ds)(q:QW dvs ds)(j:VR CX X H1)
(e:(x==("__debug__" : Str))=false:=by decide):PE X (.Call (.Name x p) [] [] pos) (WL C sp dvs H1 QH):=by
 exact λY s O H Q I h=>wpAny_Call_Name_kw (WZ I hg o (W.callWith_K0 I.kIn M.kp (F7 (us:=[]) M F m t q j I .nil h)) e)
end
structure Qo(N P:Qh)(sc:Scope):Prop where
 kind:sc.kind=.function
 co:sc.isCoroutine=false
 gen:sc.isGenerator=false
 nd:N.Nodup
 pre:N.take P.length=P
 par:∀x∈P,sc.names.lookup x=some .local\/sc.names.lookup x=some .cell
 nofree:∀y∈sc.names,y.2≠.free
theorem C2{j:Str->Option NameKind}{x:Str}:∀{f:List (Str×Value)} {m:Str->Qf},(∀v,(x,v)∉f)->bindL j f m x=m x
 |[],_,_=>rfl
 |(n,v)::r,m,h=>by
  unfold bindL;rw[C2 λw q=>h w<|Xf _ q];split
  .have:x≠n:=by rintro rfl;exact h v Xb
   simp[this]
  .rfl
theorem Cf{j:Str->Option NameKind}{x:Str}:∀{f:List (Str×Value)} {m:Str->Qf},(∀v,(x,v)∉f)->bindC j f m x=m x
 |[],_,_=>rfl
 |(n,v)::r,m,h=>by
  unfold bindC;rw[Cf λw q=>h w<|Xf _ q];split
  .rfl
  .have:x≠n:=by rintro rfl;exact h v Xb
   simp[this]
theorem C3{f:Str->Option NameKind}{x:Str}{v:Value}:∀{P:Qh} {vs:Qe} {i:Nat} {m:Str->Qf},P.Nodup->P[i]?=some x->vs[i]?=some v->f x=some .local->
 bindL f (P.zip vs) m x=some v
 |[],_,_,_,_,h,_,_=>by simp at h
 |_::_,[],_,_,_,_,h,_=>by simp at h
 |p::P,w::vs,0,m,q,U,j,s=>by
  simp at U j;subst U;subst j;show bindL f (_::P.zip vs) m p=_;unfold bindL;rw[C2 λv A=>(XN.mp q).1 (List.of_mem_zip A).1,Xi s]
  simp
 |p::P,w::vs,i+1,m,q,U,j,s=>by
  unfold bindL;exact C3 (XN.mp q).2 (by simpa using U) (by simpa using j) s
theorem Ck{f:Str->Option NameKind}{x:Str}{v:Value}:∀{P:Qh} {vs:Qe} {i:Nat} {m:Str->Qf},P.Nodup->P[i]?=some x->vs[i]?=some v->f x≠some .local->
 bindC f (P.zip vs) m x=some v
 |[],_,_,_,_,h,_,_=>by simp at h
 |_::_,[],_,_,_,_,h,_=>by simp at h
 |p::P,w::vs,0,m,q,U,j,s=>by
  simp at U j;subst U;subst j;show bindC f (_::P.zip vs) m p=_;unfold bindC;rw[Cf λv A=>(XN.mp q).1 (List.of_mem_zip A).1,Xg s]
  simp
 |p::P,w::vs,i+1,m,q,U,j,s=>by
  unfold bindC;exact Ck (XN.mp q).2 (by simpa using U) (by simpa using j) s
noncomputable def start(N:Qh)(vs:List V):St:=vs.map some++List.replicate (N.length-vs.length) none
noncomputable def Jo(m:CXT)(P:Program)(w:World)(K:W.Frag)(mg:Str->Qf)(base:Heap)(N:Qh)(qual:Str)(scope:Scope)(f:Addr)(cd:Value)(A:Around)(outer:List Env)(s:Shared)(H:Hp)(j:XK):Cx where
 prog:=P
 w:=w
 K:=K
 mg:=mg
 base:=base
 A:=A.deeper (envOfC qual scope s.heap.objs.size f cd)
 N:=N
 s₀:=s
 H₀:=H
 env:=envOfC qual scope s.heap.objs.size f cd
 outer:=outer
 stack:=envOfC qual scope s.heap.objs.size f cd::outer
 ex:=[]
 calm:=true
 fn:=λ_=>true
 pn:=[]
 xe:=λe q=>wpAny (model P w) (A.deeper<|envOfC qual scope s.heap.objs.size f cd) (leaving (envOfC qual scope s.heap.objs.size f cd) e) (λ_ h=>m outer H s j e h) (λB h=>m outer H s j B h) q
def Fm{sc:Scope}(h:sc.names.lookup x=some .cell):∃c,(cellsFrom n sc.names []).lookup x=some c:=by
 exact Option.isSome_iff_exists.mp (W.cellsFrom_some sc.names n [] (.inl h))
def Zpn{f:Addr}
(B:Qo N ps scope)(g:A.handled=none)(e0:Env0 P w K mg base A outer s H)(t:vs.length=ps.length)(r:QW vs us)
(x:InCallC s s.heap.objs.size (bindL (envOfC qual scope s.heap.objs.size f cd).kindOf (ps.zip us) λ_=>none) (cellsFrom (s.heap.objs.size+1) scope.names []) (bindC (envOfC qual scope s.heap.objs.size f cd).kindOf (ps.zip us) λ_=>none) s1):
 Qt (Jo CX P w K mg base N qual scope f cd A outer s H H1) [] (start N vs) H s1:=by
 have d:ps.length<=N.length:=by have:=Xz List.length B.pre;rw[MC]at this;lia
 apply L0 x.done;rintro U o rfl Y;have m:∀b:Addr,b∉(Jo CX P w K mg base N qual scope f cd A outer s H H1).ex:=λb z=>Xo (show b∈([]) from z) (by simp)
 refine#[#[e0.mod,B.kind,rfl,rfl,Xm _,λy z c U j=>?_,λy D=>?_,λy c _ h=>?_,λ_=>g,Around.frames_deeper e0.frames,.inr #[rfl,rfl],λb z=>Xo z<|m b,e0.bs,e0.bsz,λb _ _=>m b,λb z=>Xo z<|m b,e0.funs,e0.frf],
  rfl,e0.bare,Un.kept Y,#[_,x.toInCall.ns,λi y v U j u=>?_],λy c h=>#[_,x.cell y c h],e0.hok.fresh<|Xm _,λy c h=>?_,λp M=>Xo (show p∈([]) from M)<|by simp,e0.hok.kept Y,?_]
 .exact name_of_addr x.apart (PySem.mem_of_lookup U) (PySem.mem_of_lookup j)
 .rcases D with D|D
  .exact Fm D
  .exact Xo rfl (B.nofree _<|PySem.mem_of_lookup D)
 .exact Wd (x.above y c<|PySem.mem_of_lookup h)
 .have W:i<vs.length:=by
   unfold start at j;by_cases W:i<vs.length
   .exact W
   .rw[M9<|by simpa using W]at j;rw[HC]at j;split at j<;>cases j
  have l:vs[i]?=some v:=by
   unfold start at j;rw[Bq<|by simpa using W]at j;simp_all
  apply I0 (r.get l);intro n X a;have M:ps[i]?=some y:=by
   rw[<- B.pre,List.getElem?_take_of_lt<|#[]];exact U
  have C:ps.Nodup:=by rw[<- B.pre];exact B.nd.sublist (List.take_sublist _ _)
  refine#[n,a,?_];rcases B.par y (List.mem_of_getElem? M) with k|k
  .exact .inl #[k,C3 C M X k]
  .obtain⟨c,e⟩:=Fm k;refine .inr #[.inl k,c,e,?_];have q:=x.cell y c e;rw[Ck C M X<|by show scope.names.lookup y≠_;rw[k];decide]at q;exact q
 .exact e0.hok.fresh (Wd<|x.above y c<|PySem.mem_of_lookup h)
 .unfold start;show _=N.length;rw[Xr,Xe,List.length_replicate];lia
def Pv{p:CXT}{w:World}{base:Heap}{k:Nat}{f:Addr}{B:Str}{j:Arguments}{U kV i T h Z oc:Value}{an od:Qj}
{F:Array (Qf)}{N:Qh}{u:Sp}(lk:K.lookup f=some #[oc,od,.func<|W.fnOf B qual j body scope U kV i T an h Z,F])(O:W.codeIn K h qual=true)(c:Qo N ps scope)
(Y:∀vs H Q C,u vs H Q C->vs.length=ps.length)
(R:∀(A:Around) (outer:List Env) (s:Shared) (H:Hp) (vs:List V) (Q:VK) (C:XK),Room k (A.deeper<|envOfC qual scope s.heap.objs.size f h)->u vs H Q C->
  ∃t,PSs (Jo p P w K mg base N qual scope f h A outer s H C) body t/\t { nx:=λ_ J=>Q .non J,rt:=Q } (start N vs) H):
 FnOk P w K mg base p (k+1) f (W.fnOf B qual j body scope U kV i T an h Z) ps u:=by
 refine#[Y,λA outer s H args us vs Q C L g hb r a=>?_];have KX:=g.mod.kin.keeps λb o e=>(g.bs b o e).1
 have M:∀y∈ps.zip us,scope.names.lookup y.1=some .local\/(scope.names.lookup y.1=some .cell/\((cellsFrom (s.heap.objs.size+1) scope.names []).lookup y.1).isSome=true):=λ⟨n,v⟩ hy=>by
  rcases c.par n (List.of_mem_zip hy).1 with q|q
  .exact .inl q
  .exact .inr #[q,W.cellsFrom_some _ _ _<|.inl q]
 refine codeAny_call_function L.depth (KX _ _ lk) rfl c.co c.gen rfl (W.codeRec_of KX O) (hb _ _ _ _ (wpAny_newFunctionEnv_cells c.kind M λenv he S x=>?_));subst he;refine#[(g.mod.nolimit.keeps λb o e=>(g.bs b o e).1).keeps x.toInCall.keep,codeAny_func ?_];apply I0 (R A outer s H vs Q C (L.deeper _) a);refine λt ht hq=>wpAny_mono (ht [] S _ H _ (Zpn c L.hd g (Y _ _ _ _ a) r x) hq) (λfl z X=>?_) λe z X=>X
 have d:∀{m:St} {J:Hp} {v:V} {l:Value},Qt (Jo p P w K mg base N qual scope f h A outer s H C) [] m J z->QO v l->Q v J->CE outer P w H s Q l z:=
  λ{m J v l} D E q=>#[v,J,D.os,D.bare,D.base,D.hok,E,q]
 cases fl with
 |ret l=>
  exact Ps X λv m J D E q=>d D E q
 |next=>
  exact L0 X λm J D q=>d (v:=V.non) D rfl q
 |brk=>
  exact L0 X λ_ _ _ q=>False.elim q
 |cont=>
  exact L0 X λ_ _ _ q=>False.elim q
end L2
variable {sp:L2.Sp}
namespace L2
section
variable {x:Str}{p:Pos}{e:Expr}{t:TA}{id T:String}{r:List V->Hp->VK->Prop}
def tCB(r:List V->Hp->VK->Prop)(t:TA):TE:=λO H Q=>t O H λe E=>r e E Q
def Zx(K:ZC X (.builtin id) r)(D:X.mg x=none)(C:bootBuiltins x=some (.builtin id))(M:PA X (e::es) t)(hg:Gl X x:=by rfl)(hn:x ≠ "__name__" := by decide)(f:(x==("__debug__" : Str))=false:=by decide)
(he:zs X e es:=by rfl)(hpl:zb X pos es:=by rfl):PE X (.Call (.Name x p) (e::es) [] pos) (tCB r t):=by
 refine λY s O H Q I h=>wpAny_Call_Name_kw (WW I hg D C (PyProof.Rows.callWith_builtin1 (Q7 (M pos Y s O H _ I h) ?_) he hpl) hn f);rintro m q ⟨j,E,P,A,B⟩;exact K Y q O E j m Q P A B
def Vy(K:ZC X (.type T) r)(D:X.mg x=none)(C:bootBuiltins x=some (.type T))(M:PA X (e::es) t)(hg:Gl X x:=by rfl)(hn:x ≠ "__name__" := by decide)(f:(x==("__debug__" : Str))=false:=by decide)
(he:zs X e es:=by rfl)(hpl:zb X pos es:=by rfl):PE X (.Call (.Name x p) (e::es) [] pos) (tCB r t):=by
 refine λY s O H Q I h=>wpAny_Call_Name_kw (WW I hg D C (PyProof.Rows.callWith_type1 (Q7 (M pos Y s O H _ I h) ?_) he hpl) hn f);rintro m q ⟨j,E,P,A,B⟩;exact K Y q O E j m Q P A B
end
end L2
namespace HT
def sIx(n d:Nat):Option Int->Nat
 |none=>d
 |some v=>if v<0 then (v+(n:Int)).toNat else min v.toNat n
def sIx_nat(n d k:Nat):sIx n d (some (k:Int))=min k n:=by
 show(if (k)<0 then ((k:Int)+(n)).toNat else min (k:Int).toNat n)=min k n
 simp_all
end HT
namespace L2
abbrev TO:=St->Hp->(Option Int->Hp->Prop)->Prop
def PO(X:Cx)(e:Option Expr)(t:TO):Prop:=
 ∀(Y:Qc) (s:Shared) (O:St) (H:Hp) (Q:Option Int->Hp->Prop),Qt X Y O H s->t O H Q->
  wpAny (model X.prog X.w) X.A (evalPart e X.env) (λh f=>∃o J,Qt X Y O J f/\IsPart h o/\Q o J) X.xe s
def LI:TO:=λ_ H Q=>Q none H
def Pr(t:TE):TO:=λO H Q=>t O H λx E=>∃i,x=.int i/\Q (some i) E
def Hi:∀{us:Qe},QW (ns.map V.int) us->IntsAre us ns:=by
 induction ns with
 |nil=>intro us r; cases r;exact .nil
 |cons n ns j=>
  intro us r;cases r with
  |cons h f=>
   obtain⟨t,rfl⟩:=h;exact .cons n t (j f)
section
variable {e:Expr}{lo hi:Option Expr}{tl th:TO}{p2:Pos}
def VT:PO X none LI:=by
 exact λY s O H Q I h=>Xl #[none,H,I,.none,h]
def VU(h:PE X e te):PO X (some e) (Pr te):=by
 refine λY s O H Q I m=>Q7 (h Y s O H _ I m) ?_;rintro C B ⟨x,E,A,f,j⟩;apply I0 j;rintro i rfl q;obtain⟨t,rfl⟩:=f;exact#[some i,E,A,.int i t,q]
def SlR(X:Cx)(r:V->Option Int->Option Int->Hp->VK->Prop):Prop:=
 ∀(Y:Qc) (s:Shared) (O:St) (H:Hp) (x:V) (v f e:Value) (lo hi:Option Int) (h:Addr) (Q:VK),Qt X Y O H s->QO x v->s.heap.IsSliceOf h f e .none->IsPart f lo->IsPart e hi->r x lo hi H Q->
  ∃T j,typeLookup (.type T) "__getitem__"=pure (some<|.builtin j)/\s.TypeIs v T/\wpAny (model X.prog X.w) X.A (getItem v<|.ref h) (EP X Y O Q) X.xe s
def tSl(r:V->Option Int->Option Int->Hp->VK->Prop)(te:TE)(tl th:TO):TE:=λO H Q=>te O H λx E=>tl O E λl h=>th O h λe f=>r x l e f Q
def VS(g:SlR X r)(he:PE X e te)(i:PO X lo tl)(c:PO X hi th):PE X (.Subscript e (.Slice lo hi none p2) pos) (tSl r te tl th):=by
 refine λY s O H Q I h=>Subscript_ (Q7 (he Y s O H _ I h) ?_);rintro v C ⟨x,E,u,D,P⟩;refine wpAny_Slice (Q7 (i Y C O E _ u P) ?_);rintro m B ⟨l,w,t,a,M⟩;refine Q7 (c Y B O w _ t M) ?_;rintro j f ⟨n,A,p,W,K⟩;exact Xl<|SF (g Y { f with heap:=f.heap.push { cls:=.type "slice",data:=.fields (List.toArray [m,j,.none]) } } O A x v m j l n f.heap.objs.size Q (p.kept λb y q=>Xd _ q) D (Heap.IsSliceOf.new ..) a W K) λT z hT d k=>tail_any d hT k (by with_unfolding_all rfl)
noncomputable def Gz(xs:List V)(lo hi:Option Int):List V:=(xs.drop<|HT.sIx xs.length 0 lo).take (HT.sIx xs.length xs.length hi-HT.sIx xs.length 0 lo)
def Zmq(xs:List V)(lo hi:Option Int):(Gz xs lo hi).length<=xs.length:=by
 unfold Gz;rw[MC,Bs];lia
end
end L2
namespace L2
noncomputable def ixN(n:Nat)(i:Int):Option Nat:=if 0<=i then (if i<n then some i.toNat else none) else if -(n:Int)<=i then some (i+n).toNat else none
noncomputable def atI{f:Type}(xs:List f)(i:Int):Option f:=(ixN xs.length i).bind λj=>xs[j]?
def Lx{i:Int}(h:ixN n i=some j):seqIndex? i n=some j/\j<n /\ -(n:Int)<=i/\i<n:=by
 unfold ixN at h;by_cases f:0<=i
 .rw[Xi f]at h
  by_cases U:i<n
  .rw[Xi U]at h;exact#[by rw[seqIndex_of f U,Option.some.inj h],#[],#[],U]
  .simp_all
 .rw[Xg f]at h
  by_cases U : -(n)<=i
  .rw[Xi U]at h;exact#[by rw[seqIndex_neg #[] U,Option.some.inj h],#[],U,#[]]
  .simp_all
def Nl{f:Type}{xs:List f}{i:Int}{v:f}(h:atI xs i=some v):∃j,seqIndex? i xs.length=some j/\xs[j]?=some v/\j<xs.length /\ -(xs.length:Int)<=i/\i<xs.length:=by
 unfold atI at h;cases e:ixN xs.length i with
 |none=>rw[e]at h;cases h
 |some j=>
  rw[e]at h;exact aF (Lx e) λU s q m=>#[j,U,h,s,q,m]
def ZQ{f:Type}{xs:List f}{v:f}(h:xs[j]?=some v):atI xs (j:Int)=some v:=by
 have m:=(Xh.mp h).1;have e:ixN xs.length (j)=some j:=by
  unfold ixN;simp_all
 unfold atI;exact e▸h
def Oo(b:Expr):Prop := ∀o i,subscripted b false o i=operate [o,i] (getItem o i)
def IxR(X:Cx)(r:R2):Prop:=
 ∀(h f:Expr) (Y:Qc) (s:Shared) (O:St) (H:Hp) (x y:V) (v j:Value) (Q:VK),Qt X Y O H s->QO x v->QO y j->r x y H Q->
  subscripted f false v j=operate [v,j] (getItem v j)->wpAny (model X.prog X.w) X.A (subscriptTail h f v j) (EP X Y O Q) X.xe s
def MtR(X:Cx)(h:String)(r:V->List V->Hp->VK->Prop):Prop:=
 ∀(Y:Qc) (s:Shared) (O:St) (H:Hp) (x:V) (xs:List V) (v:Value) (f:Qe) (Q:VK),Qt X Y O H s->QO x v->QW xs f->r x xs H Q->
  wpAny (model X.prog X.w) X.A (call (.builtin h) (v::f)) (EP X Y O Q) X.xe s
section
variable {a b:Expr}{tb:TE}
def IxR.or(h:IxR X r)(h':IxR X r'):IxR X (λx y H Q=>r x y H Q\/r' x y H Q):=by
 intro a b Y s O H x y v A Q I j f q m;rcases q with q|q
 .exact h a b Y s O H x y v A Q I j f q m
 .exact h' a b Y s O H x y v A Q I j f q m
def QI(B:IxR X r)(D:PE X a ta)(C:PE X b tb)(A:Oo b:=by exact λ_ _=>rfl):PE X (.Subscript a b pos) (tOp r ta tb):=by
 exact λY s O H Q I h=>Subscript_ (Kb D C I h λv K f x y P M m j q=>B a b Y f O P x y v K Q M m j q<|A _ _)
def Pf(K:W.Frag):R2:=λx y H Q=>∃p xs i v,x=.ref p/\y=.int i/\SqL K H p xs/\atI xs i=some v/\Q v H
def Ph(K:W.Frag):R2:=λx y H Q=>∃p xs i v,x=.ref p/\y=.int i/\SqT K H p xs/\atI xs i=some v/\Q v H
def HK:R2:=λx y H Q=>∃z i c,x=.str z/\y=.int i/\z.length<=sizeLine/\atI z.cps.toList i=some c/\Q (.str #[(List.toArray [c])]) H
def OA:IxR X (Pf X.K):=by
 intro b f Y s O H x y v E Q I W P h D;apply aO h;rintro p xs i z rfl rfl c e q;cases W;obtain⟨t,rfl⟩:=P;refine L3 (I.list c) λB r A n=>aM (Nl e) λj U l u k g=>I0 (r.get l) λw M m=>?_;have d:=r.length;have o:=UQ
 by_cases K:0<=i
 .have C:=by
   rw[seqIndex_of K g]at U;exact Option.some.inj U
  exact item_listR A.isList K #[] (by rw[C];simpa using M) (#[z,H,I,m,q]) D
 .have C:(i+(B.toArray.size)).toNat=j:=by
   rw[seqIndex_neg #[] k]at U;rw[Xw,<- d];exact Option.some.inj U
  exact subscriptTail_builtinR A.isList.typeIs slot_list_getitem.lookup
   (wpAny_getItem_list_neg A.isList #[] (by rw[Xw]<;>lia) #[] (by rw[C];simpa using M) #[rfl,#[z,H,I,m,q]]) D
def E9:IxR X (Ph X.K):=by
 intro a b Y s O H x y v o Q I C B h K;apply aO h;rintro p xs i z rfl rfl M W q;cases C;obtain⟨t,rfl⟩:=B;refine L3 (I.tuple M) λD r A e=>aM (Nl W) λj U c n l k=>I0 (r.get c) λw d f=>?_;have g:=UQ
 exact subscriptTail_builtinR A.typeIs slot_tuple_getitem.lookup
  (getItem_tuple A #[] #[] (by rw[Xw,<- r.length];exact U) (by simpa using d) #[rfl,#[z,H,I,f,q]]) K
def Tl:IxR X HK:=by
 intro a b Y s O H x y v l Q I m f h A;apply aK h;rintro z i c rfl rfl e C q;obtain⟨t,rfl⟩:=m;obtain⟨d,rfl⟩:=f;apply aM (Nl C);intro j U M k K D;have B:z.cps.toList.length=z.length:=by simp[Str.length]
 rw[B]at U K D;have g:=UQ;exact tail_any (typeIs_str s z t) slot_str_getitem.lookup (getItem_str (by
  rw[XU #[],XU #[],Bool.or_false]) (by rw[U];simpa using M) #[.str _,H,I.tok _,#[_,rfl],q]) A
def rIx(K:W.Frag):R2:=λx y H Q=>Pf K x y H Q\/Ph K x y H Q\/HK x y H Q
def QJ:IxR X (rIx X.K):=OA.or (E9.or Tl)
def ZnP(a:Qe)(n j:Nat)(b:Value):Obj.mapSeq (·.setIfInBounds j b) { cls:=.type "list",data:=.seq a.toArray n }={ cls:=.type "list",data:=.seq (a.set j b).toArray n }:=by
 simp[Obj.mapSeq]
def Qt.lst{O:St}{H:Hp}{p:Addr}(I:Qt X Y O H s)(h:H p=some (.lst xs)):
 ∃(a:Qe) (n:Nat),QW xs a/\s.heap.get? p=some { cls:=.type "list",data:=.seq a.toArray n }/\xs.length<=sizeLine:=by
 obtain⟨z,a,n,r,e⟩:=I.hok p _ h;exact#[a,n,r,e,z]
def Qt.lstUpd{O:St}{H:Hp}{p:Addr}{j a:Qe}{n m:Nat}{f:Obj->Obj}(I:Qt X Y O H s)(h:H p=some (.lst xs))
(B:s.heap.get? p=some { cls:=.type "list",data:=.seq j.toArray n })(A:f { cls:=.type "list",data:=.seq j.toArray n }={ cls:=.type "list",data:=.seq a.toArray m })(r:QW ys a)(hz:ys.length<=sizeLine)(t:Nat):
 Qt X Y O (upd H p<|.lst ys) { s with heap:=s.heap.update p f,toks:=t }:=by
 have e:(s.heap.update p f).get? p=some { cls:=.type "list",data:=.seq a.toArray m }:=by
  rw[X9 f B<|by rw[A]<;>rfl,A]
 exact I.write (by rw[h];trivial) (.inl rfl) (λb D C q=>(XT _ _<|Ne.symm C).trans q) #[_,e]<|#[hz,a,m,r,e]
def UF:V->V->V->Hp->(Hp->Prop)->Prop:=λo i v H Q=>∃p xs k j,o=.ref p/\i=.int k/\H p=some (.lst xs)/\ixN xs.length k=some j/\Q (upd H p<|.lst<|xs.set j v)
def Jh:HV X UF:=by
 intro Y s O H o i v l u g Q I P c M h;apply aO h;rintro p xs k j rfl rfl A e q;cases P;obtain⟨t,rfl⟩:=c;refine SF (I.lst A) λa n r b d=>aF (Lx e) λU x C B=>?_;have f:=r.length;have w:=UQ;have K:=
  I.lstUpd A b (ZnP a n j g) (r.set M j) (by rw[List.length_set];exact d) s.toks
 by_cases D:0<=k
 .have m:=by
   rw[seqIndex_of D B]at U;exact Option.some.inj U
  exact W.ki_setAt b D #[] (by rw[Xw,<- f];exact B) (by rw[m];exact#[_,K,q])
 .have m:(k+(a.toArray.size)).toNat=j:=by
   rw[seqIndex_neg #[] C]at U;rw[Xw,<- f];exact Option.some.inj U
  exact W.ki_setBack b #[] (by rw[Xw,<- f];exact C) #[] (by rw[m];exact#[_,K,q])
def ZkO(lo a:Option Int)(n:Nat):(sliceBounds lo a none n).1=((HT.sIx n 0 lo:Nat):Int)/\(sliceBounds lo a none n).2.1=((HT.sIx n n a:Nat):Int)/\(sliceBounds lo a none n).2.2=1:=by
 refine#[?_,?_,rfl]
 .cases lo with
  |none=>simp[sliceBounds,HT.sIx]
  |some i=>
   simp only[sliceBounds,HT.sIx,Option.getD_none,show(1:Int) > 0 by decide,if_true]
   by_cases h:i<0
   .simp only[h,if_true]<;>lia
   .simp only[h,if_false]<;>lia
 .cases a with
  |none=>simp[sliceBounds,HT.sIx]
  |some i=>
   simp only[sliceBounds,HT.sIx,Option.getD_none,show(1:Int) > 0 by decide,if_true]
   by_cases h:i<0
   .simp only[h,if_true]<;>lia
   .simp only[h,if_false]<;>lia
def ZjZ(a:Qe)(lo b:Option Int):slicePick a.toArray lo b none=((a.drop<|HT.sIx a.length 0 lo).take (HT.sIx a.length a.length b-HT.sIx a.length 0 lo)).toArray:=by
 apply KE (ZkO lo b a.toArray.size);intro U h f;unfold slicePick;rw[U,h,f];simp only[sliceRange_one,pick_run,Xw]<;>rfl
def Db(K:W.Frag):V->Option Int->Option Int->Hp->VK->Prop:=λx b f H Q=>∃a xs,x=.ref a/\SqL K H a xs/\∀p,H p=none->Q (.ref p) (upd H p<|.lst<|Gz xs b f)
def VW:SlR X (Db X.K):=by
 intro Y s O H x v d c j m e Q I B W D C h;apply SF h;rintro a xs rfl P q;cases B;apply L3 (I.list P);intro K r A M;have f:=r.length;refine#["list",_,slot_list_getitem.lookup,A.isList.typeIs,wpAny_getItem_list_slice A.isList W D C .none (by simp) ?_ (by rw[Xw]<;>lia)];rw[ZjZ,<- f];exact#[.ref s.heap.objs.size,_,I.laid (t':=s.toks) (o:=.lst (Gz xs j m)) (λb g q=>Xd _ q) (Xm _) (#[Xt (Zmq xs j m) M,_,0,(r.drop<|HT.sIx xs.length 0 j).take (HT.sIx xs.length xs.length m-HT.sIx xs.length 0 j),Xn _ rfl]),rfl,q _<|I.hok.fresh<|Xm _]
def Zkh:ZC X (.builtin "len") (λxs H Q=>∃p ys,xs=[.ref p]/\(SqL X.K H p ys\/SqT X.K H p ys)/\Q (.int ys.length) H):=by
 intro Y s O H xs C Q I r h;apply SF h;rintro p ys rfl b q;apply I0 (VN r);rintro K rfl A;cases A;have D:=UQ;rcases b with b|b
 .apply L3 (I.list b);intro m f j B;have a:=f.length;exact Calls.call_len_list j.isList (by simp only[Xw]<;>lia) #[.int ys.length,H,I.tok _,#[s.toks+1,by rw[Xw,a]],q]
 .apply L3 (I.tuple b);intro m f j B;have a:=f.length;exact len_tuple j (by simp only[Xw]<;>lia) #[.int ys.length,H,I.tok _,#[s.toks+1,by rw[Xw,a]],q]
def ZkV:ZC X (.builtin "len") (λxs H Q=>∃z,xs=[.str z]/\z.length<=sizeLine/\Q (.int z.length) H):=by
 intro Y s O H xs a Q I r h;apply L3 h;rintro z rfl b q;apply aJ (VN r);rintro j rfl t rfl;have f:=UQ;exact len_str #[] #[.int z.length,H,I.tok _,#[_,rfl],q]
def ZkJ:ZC X (.type "list") (λxs H Q=>∃p ys,xs=[.ref p]/\(SqL X.K H p ys\/SqT X.K H p ys)/\∀l,H l=none->Q (.ref l) (upd H l<|.lst ys)):=by
 intro Y s O H xs c Q I r h;apply SF h;rintro p ys rfl A q;apply I0 (VN r);rintro d rfl W;cases W;have C:∀a,QW ys a->ys.length<=sizeLine->∀h' (f),_->
  h'.get? s.heap.objs.size=some { cls:=.type "list",dict:=none,data:=.seq a.toArray f,slots := (List.toArray []) }->EP X Y O Q _ { s with heap:=h' }:=λa b m h' f j e=>
  #[.ref s.heap.objs.size,_,I.laid j (Xm _) (show ZV X.prog X.w _ h' _ (.lst ys) from#[m,a,f,b,e]),rfl,q _<|I.hok.fresh<|Xm _]
 rcases A with A|A
 .apply L3 (I.list A);intro a b D m;have B:=b.length;exact aP D.isList λo K P n M=>call_list_seq p (.inl rfl) K P M (λh' f j e=>C a b m h' f j e) (by simp only[Xw]<;>lia)
 .apply L3 (I.tuple A);intro a b D m;have B:=b.length;exact aP D λo K P n M=>call_list_seq p (.inr rfl) K P M (λh' f j e=>C a b m h' f j e) (by simp only[Xw]<;>lia)
def Zj0:ZC X (.type "tuple") (λxs H Q=>∃p ys,xs=[.ref p]/\((SqL X.K H p ys/\∀l,H l=none->Q (.ref l) (upd H l<|.tup ys))\/(SqT X.K H p ys/\Q (.ref p) H))):=by
 intro Y s O H xs P Q I r h;apply L0 h;rintro p ys rfl h;apply I0 (VN r);rintro W rfl D;cases D;rcases h with ⟨m,q⟩|⟨m,q⟩
 .apply L3 (I.list m);intro a f j A;have B:=f.length;refine call_tuple_list j.isList (λh' K=>?_) (by simp only[Xw]<;>lia);have C:=I.kept (t':=s.toks) K;have M:=
   C.laid (t':=s.toks) (λb o e=>Xd _ e) (Xm _) (show ZV X.prog X.w _ _ _ (.tup ys) from#[A,a,f,IsTup.new _ _])
  exact#[.ref h'.objs.size,_,M,rfl,q _<|C.hok.fresh<|Xm _]
 .exact L3 (I.tuple m) λa f j A=>call_tuple_same j #[.ref p,H,I,rfl,q]
def tyV(K:W.Frag)(T:String)(x:V)(H:Hp):Prop:=match x with
 |.str _=>T = "str"
 |.int _=>T = "int"
 | .ref p=>(T = "list" /\ ∃xs,SqL K H p xs)\/(T = "tuple" /\ ∃o,K.lookup p=some o/\o.cls=.type "tuple" /\ o.dict=none) \/
  (T = "dict" /\ ((∃a,H p=some (.dK a))\/∃a,H p=some (.dT a)))\/(T = "set" /\ ∃b n,H p=some (.set b n))
 |_=>False
def Ev{O:St}{H:Hp}{T:String}{x:V}{v:Value}(I:Qt X Y O H s)(r:QO x v)(h:tyV X.K T x H):
 s.TypeIs v T/\∀a,v=.ref a->∃B,s.heap.get? a=some B/\B.dict=none:=by
 cases x with
 |str z=>
  obtain⟨t,rfl⟩:=r;cases (h);exact#[typeIs_str s z t,by rintro _ ⟨⟩]
 |int i=>
  obtain⟨t,rfl⟩:=r;cases (h);exact#[typeIs_int s i t,by rintro _ ⟨⟩]
 |ref p=>
  cases r;rcases h with ⟨rfl,xs,D⟩|⟨rfl,o,b,K,m⟩|⟨rfl,b⟩|⟨rfl,M,n,b⟩
  .refine L3 (I.list D) λC _ A _=>#[A.isList.typeIs,λa e=>?_];cases e;exact RC A λo n e c m _=>#[o,e,m]
  .refine#[#[o,I.kIn p o b,K],λa e=>?_];cases e;exact#[o,I.kIn _ o b,m]
  .have z:∃o,s.heap.get? p=some o/\o.ExactDict:=by
    rcases b with ⟨j,b⟩|⟨j,b⟩
    .apply Do (I.hok p _ b);rintro _ _ _ _ o _ _ e⟨f,_⟩;exact#[o,e,f]
    .apply Do (I.hok p _ b);rintro _ _ _ _ o _ _ e⟨f,_⟩;exact#[o,e,f]
   refine I0 z λo e f=>#[#[o,e,f.1],λa q=>?_];cases q;exact#[o,e,f.2.1]
  .refine aQ (I.hok p _ b) λo _ _ _ e f _=>#[#[o,e,f.1],λa q=>?_];cases q;exact#[o,e,f.2.1]
 |_=>exact False.elim h
def tBM(K:W.Frag)(T:String)(r:V->List V->Hp->VK->Prop)(a:TE)(t:TA):TE:=λO H Q=>a O H λx E=>tyV K T x E/\t O E λxs b=>r x xs b Q
variable {o e:Expr}{to:TE}{t:TA}{name:Str}{T id:String}{r:V->List V->Hp->VK->Prop}
def ZD(i:PlainAttrs T)(j:Slot T name id)(q:typeOf (.builtin id)=pure (.type "method_descriptor"))(n:MtR X id r)(l:PE X o to)(p:PA X (e::es) t)
(f:attributeBase o name X.env (eval o X.env)=eval o X.env:=by rfl)
(m:((backTo XM<|starEach (e::es) X.env).all (λx => !x.1)&&(backToKw XM<|keywordEach [] X.env).all (λx=>x.1.isSome)
  && decide ((e::es).length+([]:List Keyword).length+(if ([]:List Keyword).isEmpty then 0 else 1)<30))=true:=by rfl)
(b:(X3.endLine==XM.line)=true:=by rfl)(k:zs X e es:=by rfl)(a:(backTo XM<|starEach es X.env).any (·.1)=false:=by rfl):
 PE X (.Call (.Attribute o name X3) (e::es) [] XM) (tBM X.K T r to t):=by
 refine λY s O H Q I h=>wpAny_Call_method_late f m b rfl (Q7 (l Y s O H _ I h) ?_);rintro v W ⟨x,E,C,A,M,g⟩;obtain⟨U,u⟩:=Ev C A M;refine#[T,id,i,j,q,U,u,?_];have B:=p XM Y W O E _ C g;rw[k]at B ⊢;refine Calls.callWith_builtin (by show(false||(backTo XM _).any _)=false;rw[a]<;>rfl) (Calls.evalArgs_plain (Q7 B ?_));rintro K P ⟨D,y,w,c,d⟩;exact n Y P O y x D v K Q w A c d
end
end L2
namespace L2
def MtM(X:Cx)(h:String)(r:V->List V->Hp->VK->Prop):Prop:=
 ∀(Y:Qc) (s:Shared) (O:St) (H:Hp) (x:V) (xs:List V) (v:Value) (f:Qe) (Q:VK),Qt X Y O H s->QO x v->QW xs f->r x xs H Q->
  wpAny (model X.prog X.w) X.A (call (.builtin h) (v::f)) (EP X Y O Q) X.xe s
theorem QW.one:∀{x:V} {us:Qe},QW [x] us->∃f,us=[f]/\QO x f
 |_,_,.cons r .nil=>⟨_,rfl,r⟩
section
variable {O:St}{H:Hp}{l:Addr}
def Qt.lset{h:Qe}{f:Array Value->Array Value}(I:Qt X Y O H s)(C:H l=some (.lst xs))
(e:s.heap.get? l=some { cls:=.type "list",data:=.seq h.toArray n })(A:f h.toArray=its'.toArray)(j:QW ys its')(hz:ys.length<=sizeLine):
 Qt X Y O (upd H l<|.lst ys) { s with heap:=s.heap.update l (Obj.mapSeq f),toks:=t' }:=by
 have q:=PySem.IsL.update e f;rw[A]at q;exact I.write (by exact C▸trivial) (.inl rfl) (λK D B m=>(XT s.heap _<|Ne.symm B).trans m) #[_,q]<|#[hz,its',_,j,q]
def Qt.lnew(I:Qt X Y O H s)(f:QW ys its)(hz:ys.length<=sizeLine):
 Qt X Y O (upd H s.heap.objs.size<|.lst ys) { s with heap:=s.heap.push { cls:=.type "list",data:=.seq its.toArray },toks:=t' }:=
 I.laid (λ_ _ q=>Xd _ q) (Xm _) #[hz,its,0,f,Xn _ rfl]
def Qt.fresh(I:Qt X Y O H s):H s.heap.objs.size=none:=I.hok.fresh (Xm _)
def Qt.lstM(I:Qt X Y O H s)(h:H l=some (.lst xs)):xs.length<=sizeLine/\∃(f:Qe) (n:Nat),QW xs f/\xs.length=f.length/\s.heap.get? l=some { cls:=.type "list",data:=.seq f.toArray n }:=by
 exact At (I.hok l _ h) λz f n r e=>#[z,f,n,r,r.length,e]
end
def VI:V->List V->Hp->VK->Prop:=λx f H Q=>∃l xs y,x=.ref l/\f=[y]/\H l=some (.lst xs)/\xs.length<sizeLine/\Q .non (upd H l<|.lst<|xs++[y])
def V6:MtM X "list.append" VI:=by
 intro Y s O H x D v K Q I m A h;apply aK h;rintro l xs y rfl rfl j M q;cases m;apply I0 A.one;rintro C rfl B;apply At (I.lstM j);rintro z f n r⟨P,e⟩;refine call_meets F.slot_list_append #[_,e,rfl] F.entry_list_append (F.args_list_append_2 _ _) (PySem.list_append l f.toArray n C<|by rw[Xw];lia) #[e,#[.non,_,I.lset j e (by simp) (r.append<|.cons B .nil) ?_,rfl,q]];rw[Xr,List.length_singleton];lia
def U7:R2:=λx y H Q=>∃l b xs f,x=.ref l/\y=.ref b/\H l=some (.lst xs)/\H b=some (.lst f)/\xs.length+f.length<=sizeLine/\∀p,H p=none->Q (.ref p) (upd H p<|.lst<|xs++f)
def YH:OpR X (binaryOp .Add) U7:=by
 intro Y s O H x y v i Q I A m h;apply aO h;rintro l b xs W rfl rfl D K⟨d,q⟩;cases A;cases m;apply At (I.lstM D);rintro z j n r⟨g,e⟩;apply At (I.lstM K);rintro a f c B⟨C,P⟩;refine PySem.P.add_list e P ?_ (by rw[Xw,Xw];lia);have M:j.toArray++f.toArray=(j++f).toArray:=by simp
 exact M▸#[.ref _,_,I.lnew (r.append B)<|by rw[Xr];lia,rfl,q _ I.fresh]
end L2
namespace Att
open PySem PySem.W PySem.Calls PyProof.Rows
def Zio{P:Params}:∀(ns:Ql) (vs:Qe),WellAll P h vs (ns.map WData.int)->IntsAre vs ns:=by
 intro ns;induction ns with
 |nil=>
  intro vs w;cases w;exact .nil
 |cons n ns f=>
  intro vs w;cases w with
  |cons a b=>
   cases a;exact .cons _ _ (f _ b)
def Zpc{l:OpenLaw}(hn:l.most=some n){P:Params}
(f:l.row.toRowW.claim.pre args=true)(s:WellAll P h vals args):
 ∃a vs ns,vals=[Value.ref a]/\args=[WData.list<|ns.map WData.int]/\h.get? a=some { cls:=.type "list",data:=.seq vs.toArray }/\IntsAre vs ns/\ns.length<=n:=by
 apply SF (hasAllW_cons ((pre_splitW f).1));rintro d r rfl U X;obtain rfl:=hasAllW_nil X;apply I0 (hasW_list U);rintro xs rfl W;obtain⟨ns,rfl⟩:=items_int W;have j:ns.length<=n:=by
  have q:=by
   have q:=(holds_andW ((pre_splitW f).2)).1;rwa[hn]at q
  have B:=condW_of q (w_not<|w_lt w_lit<|w_len_list<|w_arg rfl)
  first
   |(exact Xo B _)
   |(simp at B;lia)
 cases s with
 |cons D C=>
  cases C;cases D with
  |list K m=>exact#[_,_,ns,rfl,rfl,K,Zio ns _ m,j]
def Zqi(l:OpenLaw)(f:List WData):l.row.toRowW.claim.post f (.bool true) f=true:=
 postW_of
  (show WShape.has [] _ .bool=true by first|rfl|decide|simp[WShape.has])
  (w_eq_bool (w_res rfl) w_lit) rfl
end Att
namespace L2
theorem C4:∀{vs:Qe} {ns:Ql},IntsAre vs ns->QW (ns.map V.int) vs
 |_,_,.nil=>.nil
 |_,_,.cons n t h=>.cons #[t,rfl] (C4 h)
def Z0s(H:Hp):Prop := ∀b,H b=none\/∃o xs,H b=some (.frz o<|.lst xs)
end L2
namespace L2
abbrev KOf{K:W.Frag}{h:Heap}(_:K.In h):W.Frag:=K
end L2
namespace L2
noncomputable def Vl(s:Stmt)(j:Nat):Stmt:=match s with
 |.ClassDef _ _ _ body _ _ _ _ _ _ _=>body.getD j (.Pass #[0,0,0,0])
 |_=>.Pass #[0,0,0,0]
noncomputable def Yw(s:Stmt):Arguments:=match s with
 |.FunctionDef _ a _ _ _ _ _ _ _ _=>a
 |_=>{ posonlyargs:=[],args:=[],vararg:=none,kwonlyargs:=[],kw_defaults:=[],kwarg:=none,defaults:=[] }
def VG(s:Stmt):List Stmt:=match s with
 |.FunctionDef _ _ b _ _ _ _ _ _ _=>b
 |_=>[]
noncomputable def Q8(s:Stmt):Scope:=match s with
 |.FunctionDef _ _ _ _ _ _ f _ _ _=>f
 |_=>{ kind:=.function,names:=[],isGenerator:=false,isCoroutine:=false }
abbrev CX0:CXT:=λ_ _ _ _ _ _=>False
abbrev E0:XK:=λ_ _ _=>False
def Js:VR CX0 X E0:=λ_ _ _ _ _ _ _ h=>h.elim
structure Fun(K:W.Frag)(x qual:Str)(st:Stmt)(f:Addr)(fd:FuncData):Prop where
 ex:∃(oc:Value) (od:Qj) (kV doc pm:Value) (an:Qj) (cdv ct:Value) (osl:Array (Qf)),
  fd=W.fnOf x qual (Yw st) (VG st) (Q8 st) .none kV doc pm an cdv ct/\K.lookup f=some #[oc,od,.func fd,osl]/\W.codeIn K cdv qual=true
 kp:W.keepIn K (.ref f)=true
def B0(P:Program)(w:World)(K:W.Frag)(mg:Str->Qf)(base:Heap)(N:Qh)(q:Str)(st:Stmt)(k:Nat)(f:Addr)(H:Hp)(j:XK)(G:TS->Prop):Prop := ∀(h:Value) (A:Around) (outer:List Env) (s:Shared),Room k (A.deeper<|envOfC q (Q8 st) s.heap.objs.size f h)->∃t,PSs (Jo CX0 P w K mg base N q (Q8 st) f h A outer s H j).nox (VG st) t/\G t
abbrev Rn(N:Qh)(vs:List V)(H:Hp)(Q:VK)(t:TS):Prop:=t { nx:=λ_ J=>Q .non J,rt:=Q } (start N vs) H
section
variable {w:World}{base:Heap}
def Fun.ok{x:Str}{st:Stmt}{f:Addr}{N:Qh}{k:Nat}(F:Fun K x qual st f fd)(Y:Qo N ps (Q8 st))(m:∀vs H Q j,sp vs H Q j->vs.length=ps.length)
(D:∀vs H Q j,sp vs H Q j->B0 P w K mg base N qual st k f H j (Rn N vs H Q)):FnOk P w K mg base CX0 (k+1) f fd ps sp:=by
 apply aR F.ex;rintro d c kV a b g C e M rfl W B;exact Pv W B Y m λA outer s H vs Q j X q=>(D vs H Q j q C A outer s X).imp λ_ h=>h.imp PSs.nox id
def Fun.binds{x:Str}{st:Stmt}{f:Addr}(F:Fun K x qual st f fd)
(h:∀(kV j q:Value) (w:Qj) (m s:Value) (us:Qe),us.length=ps.length->bindArgs (W.fnOf x qual (Yw st) (VG st) (Q8 st) .none kV j q w m s) #[us,[]]=pure (ps.zip us)):ZW K fd ps []:=by
 apply aR F.ex;rintro D C kV j q w m s A rfl M B;exact .all (h kV j q w m s)
def W4{x:Str}{st:Stmt}{f:Addr}{A:Value}{od w:Qj}{m:Array (Qf)}{kV j q h s:Value}(l:K.lookup f=some #[A,od,.func<|W.fnOf x qual (Yw st) (VG st) (Q8 st) .none kV j q w h s,m])
(c:W.codeIn K h qual=true)(k:W.keepIn K (.ref f)=true):Fun K x qual st f (W.fnOf x qual (Yw st) (VG st) (Q8 st) .none kV j q w h s):=#[#[A,od,kV,j,q,w,h,s,m,rfl,l,c],k]
end
def Wy(f:Room k A):A.units+1<cLine:=Hx (Nat.add_le_add_left (by decide) _) f.units
def Vz(h:n<=1000):n<sizeLine:=Hx h (by decide)
def pv(i:Nat)  (m:X.N[i]?=some x:=by rfl)(h:Vis X.env.scope x:=by first|exact Or.inl rfl|exact Or.inr Qa|exact Or.inr<|Or.inr rfl)(j:(x==("__debug__" : Str))=false:=by decide)
(f:(x==("__classdict__" : Str))=false:=by decide):PE X (.Name x pos) (Q5 i):=Tz m h j f
def av(i:Nat)   (m:PA X es t)(s:X.N[i]?=some x:=by rfl)(h:Vis X.env.scope x:=by first|exact Or.inl rfl|exact Or.inr Qa|exact Or.inr<|Or.inr rfl)(q:(x==("__debug__" : Str))=false:=by decide)
(f:(x==("__classdict__" : Str))=false:=by decide)(j:starEach (.Name x pos::es) X.env=(false,eval (.Name x pos) X.env)::starEach es X.env:=by rfl):PA X (.Name x pos::es) (Q3 (Q5 i) t):=Qs (pv i s h q f) m j
def y0{pos X x}:=@av pos [] X _ x 0 Qp
def va1{pos X x}:=@av pos [] X _ x 1 Qp
def y2{pos X x}:=@av pos [] X _ x 2 Qp
def v3{pos X x}:=@av pos [] X _ x 3 Qp
def g4{pos X x}:=@av pos [] X _ x 4 Qp
def u0{pos X x}:=@pv pos X x 0
def vb1{pos X x}:=@pv pos X x 1
def u2{pos X x}:=@pv pos X x 2
def y3{pos X x}:=@pv pos X x 3
def t4{pos X x}:=@pv pos X x 4
def v6{pos X x}:=@pv pos X x 6
def Q4(H J:Hp):Prop := ∀b o,H b=some o->J b=some o
def Q4.refl(H:Hp):Q4 H H:=λ_ _ h=>h
def Q4.trans(a:Q4 H E)(b:Q4 E H2):Q4 H H2:=λc o h=>b c o (a c o h)
def Q4.free(e:Q4 H J)(h:J l=Option.none):H l=Option.none:=by
 cases q:H l with
 |none=>rfl
 |some o=>
  rw[e l o q]at h;cases h
def Q4.seq(e:Q4 H J)(h:SqL K H a xs):SqL K J a xs:=by
 rcases h with (h|⟨o,h⟩)|h
 .exact .inl (.inl<|e _ _ h)
 .exact .inl (.inr #[o,e _ _ h])
 .exact .inr h
end L2
namespace L2
theorem R0{env:Env}{F:Str×NameKind->List (Str×Addr)->Sem (ForInStep<|List<|Str×Addr)}
(U:∀n c cs,env.cells.lookup n=some c->F (n,NameKind.free) cs=pure (.yield ((n,c)::cs)))
(K:∀n k cs,k≠NameKind.free->F (n,k) cs=pure (.yield cs)):
 ∀(l:List (Str×NameKind)) (cs:List (Str×Addr)),(∀p∈l,p.2=NameKind.free->∃c,env.cells.lookup p.1=some c)->(∀x c,cs.lookup x=some c->env.cells.lookup x=some c)->
  ∃j,forIn l cs F=pure j/\(∀x c,j.lookup x=some c->env.cells.lookup x=some c)/\(∀x c,cs.lookup x=some c->∃i,j.lookup x=some i)/\∀p∈l,p.2=NameKind.free->∃c,j.lookup p.1=some c
 |[],cs,_,B=>⟨cs,by rw[List.forIn_nil],B,λx c h=>#[c,h],λp f=>Xo f<|by simp⟩
 |(n,k)::l,cs,a,B=>by
  have m:=λp f=>a p (Xf _ f)
  by_cases C:k=NameKind.free
  .subst C;obtain⟨c,e⟩:=a (n,NameKind.free) Xb rfl;have D:∀x d,((n,c)::cs).lookup x=some d->env.cells.lookup x=some d:=λx d q=>by
    cases s:x==n with
    |true=>
     simp_all
    |false=>
     simp only[X4,s]at q;exact B x d q
   obtain⟨j,Y,X,W,P⟩:=R0 U K l ((n,c)::cs) m D;have b:∀x d,cs.lookup x=some d->∃M,((n,c)::cs).lookup x=some M:=λx d q=>by
    cases s:x==n with
    |true=>exact#[c,by simp only[X4,s]]
    |false=>exact#[d,by simp only[X4,s];exact q]
   refine#[j,by rw[List.forIn_cons,U n c cs e];exact Y,X,λx d q=>?_,λp f A=>?_]
   .obtain⟨M,g⟩:=b x d q;exact W x M g
   .rcases Xc.mp f with rfl|f
    .simp_all
    .exact P p f A
  .obtain⟨j,Y,X,W,P⟩:=R0 U K l cs m B;refine#[j,by rw[List.forIn_cons,K n k cs C];exact Y,X,W,λp f A=>?_];rcases Xc.mp f with rfl|f
   .exact Xo A C
   .exact P p f A
def CJ(h:∀p∈scope.names,p.2=NameKind.free->∃c,env.cells.lookup p.1=some c):
 ∃f,closureFor scope env=pure f/\(∀x c,f.lookup x=some c->env.cells.lookup x=some c)/\∀p∈scope.names,p.2=NameKind.free->∃c,f.lookup p.1=some c:=by
 simp only[closureFor];obtain⟨f,j,B,_,A⟩:=R0 (F:=λx r=>match x with|(name,kind)=>if (kind==NameKind.free)=true then do let a <- cellOf env name;pure (ForInStep.yield ((name,a)::r)) else pure<|ForInStep.yield r)
  (λn c s e=>by
   show(if _=true then _ else _)=_
   unfold cellOf;rw[e];rfl)
  (λn k s m=>by
   have:(k==NameKind.free)=false:=by simpa using m
   show(if _=true then _ else _)=_
   rw[this,Xg XF]) scope.names [] h (λx c q=>by simp at q)
 refine#[f,?_,B,A]
 first
  |exact j
  |(rw[bind_pure];exact j)
  |(exact j)
  |(exact j)
theorem Ar{env:Env}:∀{f:List (Str×NameKind)} {x:Str},f.lookup x=some .free->
 (f.map λ(n,k)=>if (k==NameKind.free&&env.scope.kind==.function&&env.kindOf n==some .cell) then (n,NameKind.cell) else (n,k)).lookup x=some .cell \/
 (f.map λ(n,k)=>if (k==NameKind.free&&env.scope.kind==.function&&env.kindOf n==some .cell) then (n,NameKind.cell) else (n,k)).lookup x=some .free
 |[],_,h=>by simp at h
 |(n,k)::r,x,h=>by
  have q:=@Ar env r x;show List.lookup x ((if _=true then _ else _)::_)=_\/List.lookup x ((if _=true then _ else _)::_)=_
  cases j:x==n with
  |true=>
   simp only[X4,j]at h;cases h
   by_cases m:(NameKind.free==NameKind.free&&env.scope.kind==.function&&env.kindOf n==some .cell)=true
   .rw[Xi m];left;simp only[X4,j]
   .rw[Xg m];right;simp only[X4,j]
  |false=>
   simp only[X4,j]at h;by_cases m:(k==NameKind.free&&env.scope.kind==.function&&env.kindOf n==some .cell)=true
   .rw[Xi m];simp only[X4,j];exact q h
   .rw[Xg m];simp only[X4,j];exact q h
theorem Aq{env:Env}:∀{f:List (Str×NameKind)} {x:Str},((f.map λ(n,k)=>if (k==NameKind.free&&env.scope.kind==.function&&env.kindOf n==some .cell) then (n,NameKind.cell) else (n,k)).lookup x=some .cell \/
 (f.map λ(n,k)=>if (k==NameKind.free&&env.scope.kind==.function&&env.kindOf n==some .cell) then (n,NameKind.cell) else (n,k)).lookup x=some .free)->f.lookup x=some .free\/f.lookup x=some .cell
 |[],_,h=>by simp at h
 |(n,k)::r,x,h=>by
  have q:=@Aq env r x;have h:List.lookup x ((if _=true then _ else _)::_)=_\/List.lookup x ((if _=true then _ else _)::_)=_:=h;cases m:x==n with
  |true=>
   simp only[X4,m];by_cases j:(k==NameKind.free&&env.scope.kind==.function&&env.kindOf n==some .cell)=true
   .have:=by
     rw[XS,XS]at j;exact eq_of_beq j.1.1
    left;rw[this]
   .rw[Xg j]at h;simp only[X4,m]at h;exact h.symm
  |false=>
   simp only[X4,m];by_cases j:(k==NameKind.free&&env.scope.kind==.function&&env.kindOf n==some .cell)=true
   .rw[Xi j]at h;simp only[X4,m]at h;exact q h
   .rw[Xg j]at h;simp only[X4,m]at h;exact q h
structure CIn where
 cl:List (Str×Addr)
 C:Addr
 s₀:Shared
 H₀:Hp
 ex:Qg
 pn:Qc
noncomputable def Vf(X:Cx)(N:Qh)(scope:Scope)(c:CIn):Cx where
 prog:=X.prog
 w:=X.w
 K:=X.K
 mg:=X.mg
 base:=X.base
 A:=X.A
 N:=N
 s₀:=c.s₀
 H₀:=c.H₀
 env:=compEnvC scope c.cl c.C X.env
 outer:=X.stack
 stack:=X.stack
 ex:=c.ex
 fn:=λ_=>false
 calm:=X.calm
 pn:=c.pn
 xe:=λ_ _=>False
def YQ(f:List (Option Nat))(O:St):St:=f.map λo=>match o with|some i=>(O[i]?).join|none=>none
structure CompOk(NX:Qh)(sc:Scope)(N:Qh)(f:List (Option Nat))(scope:Scope):Prop where
 kind:scope.kind=.function
 nocell:∀y∈scope.names,y.2≠NameKind.cell
 names:∀y∈scope.names,y.2=NameKind.local->scope.names.lookup y.1=some .local
 free:∀y∈scope.names,y.2=NameKind.free->sc.names.lookup y.1=some .cell\/sc.names.lookup y.1=some .free
 len:f.length=N.length
 ix:∀(j i:Nat),f[j]?=some (some i)->∃x,N[j]?=some x/\NX[i]?=some x/\scope.names.lookup x=some .free
noncomputable def GS(NX:Qh)(sc:Scope)(N:Qh)(f:List (Option Nat))(scope:Scope):Bool:=
 decide (scope.kind=.function)&&(scope.names.all λy=>decide (y.2≠NameKind.cell)&&(decide (y.2≠NameKind.local)||decide (scope.names.lookup y.1=some .local)) &&
  (decide (y.2≠NameKind.free)||decide (sc.names.lookup y.1=some .cell)||decide (sc.names.lookup y.1=some .free)))&&decide (f.length=N.length) &&
 (List.range f.length).all λj=>match f[j]? with
  | some (some i)=>(match N[j]? with
    |some x=>decide (NX[i]?=some x)&&decide (scope.names.lookup x=some .free)
    |none=>false)
  |_=>true
def FT{f:List (Option Nat)}(h:GS NX sc N f scope=true):CompOk NX sc N f scope:=by
 unfold GS at h;simp only[XS,X5,decide_eq_true_eq,Bool.or_eq_true]at h;obtain⟨⟨⟨U,s⟩,D⟩,C⟩:=h;refine#[U,λy m=>(s y m).1.1,λy m e=>?_,λy m e=>?_,D,λj i e=>?_]
 .rcases(s y m).1.2 with z|z
  .simp_all
  .exact z
 .rcases(s y m).2 with (z|z)|z
  .simp_all
  .exact .inl z
  .exact .inr z
 .have q:=C j (YB.mpr ((Xh.mp e).1));rw[e]at q;cases A:N[j]? with
  |none=>rw[A]at q;simp at q
  |some x=>
   rw[A]at q;simp only[XS,decide_eq_true_eq]at q;exact#[x,rfl,q.1,q.2]
def Aw(f:List (Option Nat))(O h:St):Prop:=h.length=O.length/\∀(i j:Nat),f[i]?=some (some j)->h[i]?=O[i]?
structure TgOk(f:List (Option Nat))(g:TG):Prop where
 keep:∀x O H Q,g x O H Q->g x O H λσ2 H2=>Aw f O σ2/\Q σ2 H2
 mono:∀x O H Q Q',(∀O H,Q O H->Q' O H)->g x O H Q->g x O H Q'
structure TgsOk(f:List (Option Nat))(g:TGs):Prop where
 keep:∀xs O H Q,g xs O H Q->g xs O H λσ2 H2=>Aw f O σ2/\Q σ2 H2
 mono:∀xs O H Q Q',(∀O H,Q O H->Q' O H)->g xs O H Q->g xs O H Q'
theorem Uh{f:List (Option Nat)}(h:f[j]?=some none:=by rfl):TgOk f (Vk j) where
 keep:=λx O H Q q=>#[#[List.length_set ..,λi k e=>X7<|#[]],q]
 mono:=λx O H Q s m q=>m _ _ q
theorem L4{f:List (Option Nat)}:TgsOk f HW where
 keep:=by rintro xs O H Q ⟨e,q⟩;exact#[e,#[rfl,λ_ _ _=>rfl],q]
 mono:=by rintro xs O H Q h m ⟨e,q⟩;exact#[e,m _ _ q]
theorem DZ{f:List (Option Nat)}(U:TgOk f t)(s:TgsOk f dx):TgsOk f (Ks t dx) where
 keep:=by rintro xs O H Q ⟨v,r,e,q⟩;exact#[v,r,e,U.mono _ _ _ _ _ (λh E z=>s.mono _ _ _ _ _ (λB D y=>#[#[y.1.1.trans z.1.1,λi j A=>(y.1.2 i j A).trans (z.1.2 i j A)],y.2])<|s.keep _ _ _ _ z.2)<|U.keep _ _ _ _ q]
 mono:=by rintro xs O H Q C m ⟨v,r,e,q⟩;exact#[v,r,e,U.mono _ _ _ _ _ (λh E z=>s.mono _ _ _ _ _ m z) q]
theorem Tj{f:List (Option Nat)}(h:TgsOk f t):TgOk f (HL K n t) where
 keep:=by rintro x O H Q ⟨a,xs,e,q,l,z⟩;exact#[a,xs,e,q,l,h.keep _ _ _ _ z]
 mono:=by rintro x O H Q j m ⟨a,xs,e,q,l,z⟩;exact#[a,xs,e,q,l,h.mono _ _ _ _ _ m z]
def PCs(X:Cx)(f:Qi)(tc:TT):Prop:=
 ∀(Y:Qc) (s:Shared) (O:St) (H:Hp) (Q:Bool->Hp->Prop),Qt X Y O H s->tc O H Q->
  wpAny (model X.prog X.w) X.A (forIn f true λc r=>if r=true then do let h <- isTrue c X.env (eval c X.env);pure (ForInStep.yield h) else pure<|ForInStep.yield r) (TP X Y O Q) X.xe s
def G3:TT:=λ_ H Q=>Q true H
def LJ:PCs X [] G3:=λ_ _ _ H _ I h=>wpAny_tests_nil #[H,I,h]
def BU{c:Expr}{tc:TT}(h:PT X c tc):PCs X [c] tc:=λY s O H Q I q=>wpAny_tests_one (h Y s O H Q I q)
def Zk2(I:Nat->Shared->Prop)
(q:∀n s,I n s->wpAny (model prog w) A (pyNext it) (λr D=>match r with
  |none=>R (.ok .next) D
  | some v=>wpAny (model prog w) A (letOwnedTupleGo target it v) (λ_ f=>wpAny (model prog w) A (assign target env v) (λ_ X=>
   wpAny (model prog w) A (forIn ifs true λc r=>if r=true then do let B <- isTrue c env (eval c env);pure (ForInStep.yield B) else pure<|ForInStep.yield r) (λB C=>
    if B=true then wpAny (model prog w) A (eval elt env) (λx P=>
     wpAny (model prog w) A (call (.builtin "list.append") [acc,x]) (λ_ K => ∃m,m<n/\I m K) (λ_ _=>False) P) (λ_ _=>False) C
    else ∃m,m<n/\I m C) (λ_ _=>False) X) (λ_ _=>False) f) (λ_ _=>False) D) (λ_ _=>False) s)
(n:Nat)(h:I n s):
 codeAny (model prog w) A (.compLoop (.ListComp elt [#[target,iter,ifs,0]] scope pos) 0 it acc env) R s:=by
 refine codeAny_loop rfl I (λn s Y=>?_) n h;show wpAny _ A _ _ _ s;refine wpAny_noted ?_;rw[compTurn_list];refine Xa (wpAny_standAt<|Xa<|wpAny_mono (q n s Y) (λr D W=>?_) λ_ _ h'=>h'.elim)
 cases r with
 |none=>exact Xl W
 |some v=>
  refine Xa (wpAny_mono W (λ_ f j=>Xa (wpAny_mono j (λ_ X d=>Xa<|wpAny_mono d (λB C M=>?_) λ_ _ h'=>h'.elim) λ_ _ h'=>h'.elim)) λ_ _ h'=>h'.elim);cases B with
  |false=>exact Xl #[rfl,M]
  |true=>
   exact Xa (Xa<|wpAny_mono M (λx P b=>Xa<|wpAny_mono b (λ_ K a=>Xl<|Xl #[rfl,a]) λ_ _ h'=>h'.elim) λ_ _ h'=>h'.elim)
theorem Qt.track{O:St}{H:Hp}{a:Addr}{o:HO}(I:Qt X Y O H s)(hn:H a=none)(M:X.s₀.heap.objs.size<=a)(D:a≠X.env.locals)(K:∀x c,X.env.cells.lookup x=some c->c≠a)
(C:∀p∈X.pn++Y,p.1≠a)(new:ZV X.prog X.w (upd H a o) s.heap a o):Qt X Y O (upd H a o) s where
 ok:=I.ok
 os:=I.os
 bare:=I.bare
 base:=
  { keep:=I.base.keep
    slot:=I.base.slot
    free:=λb A q n B=>by rw[Qv<|Xq<|XI (Xk q) M];exact I.base.free b A q n B
    there:=I.base.there
    tups:=λb xs q=>by have z:=I.base.tups b xs q;rw[Qv<|Z5 z hn];exact z
    tupo:=I.base.tupo
    frzs:=λb j xs q=>by have z:=I.base.frzs b j xs q;rw[Qv<|Z5 z hn];exact z
    tbls:=λb ps q=>by obtain⟨f,z⟩:=I.base.tbls b ps q;exact#[f,by rw[Qv<|Z5 z hn];exact z] }
 loc:=I.loc
 cell:=I.cell
 free:=by rw[Qv D.symm];exact I.free
 freeC:=λx c e=>by rw[Qv<|K x c e];exact I.freeC x c e
 pin:=λp h=>by exact KE (I.pin p h) λe n r=>#[e,by rw[Qv<|C p h];exact n,r]
 hok:=λb j e=>by
  by_cases m:b=a
  .subst m;rw[QF]at e;cases e;exact new
  .rw[Qv m]at e;exact(I.hok b j e).stay (λ_ _ _ q=>q) (λc q=>by rw[Qv<|Z5 q hn];exact q) λc xs q=>by rw[Qv<|Z5 q hn];exact q
 len:=I.len
def LCw(f:List (Option Nat))(g:TG)(tc:TT)(te:TE)(O:St)(q:It)(Q:VK)(E:Hp):Prop:=
 ∃W:Nat->Nat->List V->Hp->Prop,(∃m,W 0 m [] E)/\∀i m ys H,W i m ys H->
  (q.stop i H/\∀p,H p=none->Q (.ref p) (upd H p<|.lst ys)) \/
  (q.go i H/\∀x J,q.yld i H x J->g x (YQ f O) J λh B=>tc h B λb s=>
   if b=true then te h s λy A=>ys.length<sizeLine/\∃j,j<m/\W (i+1) j (ys++[y]) A
   else ∃j,j<m/\W (i+1) j ys s)
def tLC(f:List (Option Nat))(h:TI)(g:CIn->TG)(tc:CIn->TT)(te:CIn->TE):TE:=λO H Q=>h O H λj E=>∀c:CIn,LCw f (g c) (tc c) (te c) O j Q E
abbrev WG(its:Qe)(k:Nat):Obj:={ cls:=.type "list",data:=.seq its.toArray k }
structure TurnX(X:Cx)(tg:Expr)(H':It)(fp:Qg)(it:Addr)(tn:Nat->Heap->Prop):Prop where
 mem:it∈fp
 obj:∀i h,tn i h->∀b∈fp,∃o,h.get? b=some o/\∀v,o.data≠.cell v
 keep:∀i h h',tn i h->(∀b∈fp,∀o,h.get? b=some o->h'.get? b=some o)->tn i h'
 item:∀(X':Cx),X'.prog=X.prog->X'.w=X.w->X'.K=X.K->X'.A=X.A->X'.calm=X.calm->∀(i:Nat) (Y:Qc) (s:Shared) (O:St) (H:Hp) (H1:Qb),Qt X' Y O H s->(∀b∈fp,Wh X' Y H b)->tn i s.heap->H'.go i H->
  wpAny (model X.prog X.w) X'.A (pyNext<|.ref it) (λr s1=>∃dx,r=some dx/\
   wpAny (model X.prog X.w) X'.A (letOwnedTupleGo tg (.ref it) dx) (λ_ s2=>∃x J,Qt X' Y O J s2/\QO x dx/\H'.yld i H x J/\tn (i+1) s2.heap/\∀b∈fp,J b=none) H1 s1) H1 s
 done:∀(X':Cx),X'.prog=X.prog->X'.w=X.w->X'.K=X.K->X'.A=X.A->X'.calm=X.calm->∀(i:Nat) (Y:Qc) (s:Shared) (O:St) (H:Hp) (H1:Qb),Qt X' Y O H s->(∀b∈fp,Wh X' Y H b)->tn i s.heap->H'.stop i H->
  wpAny (model X.prog X.w) X'.A (pyNext<|.ref it) (λr s1=>r=none/\Qt X' Y O H s1) H1 s
 self:∀(A:Around) (i:Nat) (s:Shared) (Q:Qb) (H1:Qb),tn i s.heap->Q (.ref it) s->wpAny (model X.prog X.w) A (pyIter<|.ref it) Q H1 s
def Pb(X:Cx)(Y:Qc)(O:St)(tg:Expr)(R:It->Hp->Prop)(f:Value)(j:Shared):Prop:=
 ∃(m:Addr) (q:Qg) (h:Nat->Heap->Prop) (s:It) (J:Hp),f=.ref m/\Qt X Y O J j/\TurnX X tg s q m h/\h 0 j.heap/\(∀b∈q,Wh X Y J b)/\R s J
def PIH(X:Cx)(tg iter:Expr)(f:TI):Prop:=
 ∀(Y:Qc) (s:Shared) (O:St) (H:Hp) (R:It->Hp->Prop),Qt X Y O H s->f O H R->
  wpAny (model X.prog X.w) X.A (eval iter X.env) (λv h=>wpAny (model X.prog X.w) X.A (pyIter v) (Pb X Y O tg R) X.xe h) X.xe s
def Turn.x(T:Turn X.prog X.w X.K tg H' fp it tn)(s:X.calm=true):TurnX X tg H' fp it tn:=
 #[T.mem,T.obj,T.keep,λq j f m _ h=>T.item q j f m<|h.trans s,λq j f m _ h=>T.done q j f m<|h.trans s,T.self]
def PI.x(h:PI X tg iter wi)(m:X.calm=true):PIH X tg iter wi:=λY s O H R I q=>Q7 (h Y s O H R I q) λv K U=>Q7 U<|by rintro v D ⟨j,A,f,C,J,e,B,T,r⟩;exact#[j,A,f,C,J,e,B,T.x m,r]
section
variable {O:St}{H2:Hp}{b7:Shared}
def L9{f:List (Option Nat)}{g:CIn->TG}{tc:CIn->TT}{te:CIn->TE}
(ck:CompOk X.N X.env.scope N f scope)
(hg:∀c,PG (Vf X N scope c) tg<|g c)(ht:∀c,TgOk f<|g c)(hcs:∀c,PCs (Vf X N scope c) ifs<|tc c)(he:∀c,PE (Vf X N scope c) elt<|te c)
(P:Qt X Y O H2 b7)(T:TurnX X tg H' fp it tn)(st:tn 0 b7.heap)(H:∀b∈fp,Wh X Y H2 b)
(hq:∀c:CIn,LCw f (g c) (tc c) (te c) O H' Q H2)
(D:∀x c,cl.lookup x=some c->X.env.cells.lookup x=some c)(hcl2:∀p∈scope.names,p.2=NameKind.free->∃c,cl.lookup p.1=some c)
{RR:Value->Addr->Result->Shared->Prop}
(hRR:∀(E C:Addr) (J:Hp) (G:Shared) (m':Str->Qf),G.heap.Ns C m'->Qt X Y O J G->J C=none->C≠X.env.locals->X.s₀.heap.objs.size<=C->(∀x c,X.env.cells.lookup x=some c->c≠C)->
  (∀p∈X.pn++Y,p.1≠C)->Q (.ref E) J->RR (.ref E) C (.ok .next) G):
 wpAny (model X.prog X.w) X.A (newList []) (λE M=>wpAny (model X.prog X.w) X.A (newFunctionEnv scope X.env.globals cl [] X.env.qual none .none<|some X.env) (λcenv bq=>
  codeAny (model X.prog X.w) X.A (.compStart (.ListComp elt [#[tg,iter,ifs,0]] scope pos) 0 (.ref it) E { cenv with scope:=relabel scope X.env }) (RR E cenv.locals) bq) H1 M) H1 b7:=by
 refine wpAny_newObj_type (wpAny_newFunctionEnv ck.nocell (by intro y hy;simp at hy) (λb8 bw bz=>?_) ck.kind);dsimp only at bw bz ⊢;have A:Qt X Y O H2 { b7 with heap:=b7.heap.push (WG [] 0) }:=P.kept (t':=b7.toks) λb I e=>Xd _ e;have hD:(b7.heap.push<|WG [] 0).get? b7.heap.objs.size=some (WG [] 0):=Xn _ rfl;generalize hs3:({ b7 with heap:=b7.heap.push (WG [] 0) }:Shared)=M at A bw bz ⊢;have S:b7.heap.push (WG [] 0)=M.heap:=by rw[<- hs3]
 rw[S]at hD;simp only[S]at bw bz ⊢;have L:b7.heap.objs.size<M.heap.objs.size:=by rw[<- S,Yy];exact JF _
 have k3:∀b I,b7.heap.get? b=some I->M.heap.get? b=some I:=λb I e=>by rw[<- S];exact Xd _ e
 have k1:=λb I e=>
  bz.extBut b I (Xq<|Xk e) (Xd _ e)
 have fpo:∀b∈fp,b<b7.heap.objs.size:=λb m=>by
  exact I0 (T.obj 0 _ st b m) λo e _=>Xk e
 have st1:tn 0 b8:=T.keep _ _ _ st λb m o e=>k1 b o (k3 b o e);have fneD:=λb m=>Xq (fpo b m)
 have w:∀x d,X.env.cells.lookup x=some d->d≠b7.heap.objs.size:=λx d e=>by
  obtain⟨v,z⟩:=P.cell x d e;exact Xq z.lt
 have t:=λp K=>Xq (Xk (P.pin p K).1)
 have stk:∀b,b≠X.env.locals->b∉X.fs->b∉frs X.stack:=λb U h2 m=>by
  rcases Xc.mp (A.stkSub b m) with z|z
  .exact U z
  .exact h2 z
 have Z:∀b,b∈b7.heap.objs.size::fp->b=b7.heap.objs.size\/b∈fp:=λb m=>Xc.mp m
 let c:CIn:=#[cl,M.heap.objs.size,M,H2,b7.heap.objs.size::fp,X.pn++Y]
 have u:(Vf X N scope c).Ok:=
  { mod:=A.ok.mod
    kind:=ck.kind
    glob:=A.ok.glob
    blt:=A.ok.blt
    above:=Xm _
    inj:=λx y d U h2=>A.ok.inj x y d (D x d U) (D y d h2)
    has:=λx hx=>by
     rcases Aq hx with z|z
     .exact hcl2 (x,.free) (PySem.mem_of_lookup z) rfl
     .exact Xo rfl (ck.nocell (x,.cell)<|PySem.mem_of_lookup z)
    cab:=λx d h=>Xo (h) XF
    hd:=A.ok.hd
    frames:=A.ok.frames
    stk:=.inl rfl
    exf:=λb m=>by
     rcases Z b m with rfl|m
     .exact#[Xq L,λx d e=>w x d<|D x d e]
     .exact#[(λb m=>Xq (Nat.lt_trans (fpo b m) L)) b m,λx d e=>(H b m).2.2.2.2.1 x d (D x d e)]
    bs:=λb o e=>A.bs b o e
    bsz:=Xt A.ok.bsz A.sz
    noex:=λb o e m=>by
     rcases Z b m with rfl|m
     .exact Xo (Xk<|P.bk _ _ e) (Ym _)
     .rcases(H b m).2.2.2.1 with z|z
      .exact A.ok.noex b o e z
      .exact Xo (XI (Xk (A.ok.bs b o e).1) z) (Ym _)
    exfs:=λb m=>by
     rcases Z b m with rfl|m
     .exact stk _ (VZ P.lt) (P.nofs<|Xm _)
     .exact stk b (H b m).2.1 (H b m).2.2.1
    funs:=A.stack
    frf:=A.stkFree }
 have I4:Qt (Vf X N scope c) [(b7.heap.objs.size,WG [] 0)] (YQ f O) H2 { M with heap:=b8,toks:=M.toks+([]:List (Str×Value)).length }:=
  { ok:=u
    os:=rfl
    bare:=A.bare
    base:=Un.kept k1
    loc:=#[_,bw,λi x v e1 e2 e3=>by
     have hfi:∃j,f[i]?=some (some j)/\O[j]?=some (some v):=by
      unfold YQ at e2;rw[XG]at e2;cases ef:f[i]? with
      |none=>rw[ef]at e2;cases e2
      |some o=>
        rw[ef]at e2;cases o with
        |none=>cases e2
        |some j=>
          refine#[j,rfl,?_];have e2':(O[j]?).join=some v:=Option.some.inj e2;cases es:O[j]? with
          |none=>rw[es]at e2';cases e2'
          |some o2=>
            rw[es]at e2';have:o2=some v:=e2';rw[this]
     refine I0 hfi λj ef es=>L3 (ck.ix i j ef) λx' n1 n2 n3=>?_;have:x'=x:=Option.some.inj (n1.symm.trans e1);subst this;have hfr:=ck.free (x',.free) (PySem.mem_of_lookup n3) rfl;refine I0 A.loc λm0 hm0 hl0=>I0 (hl0 j x' v n2 es (hfr.elim (λz=>.inr<|.inl z) λz=>.inr<|.inr z)) λI ru lk=>#[I,ru,.inr #[Ar n3,?_]];rcases lk with ⟨kl,_⟩|⟨_,d,ed,hd⟩
     .have kl':X.env.scope.names.lookup x'=some .local:=kl;rcases hfr with z|z
      .rw[kl']at z;cases z
      .rw[kl']at z;cases z
     .obtain⟨d',ed'⟩:=hcl2 (x',.free) (PySem.mem_of_lookup n3) rfl;have:d'=d:=Option.some.inj ((D x' d' ed').symm.trans ed);subst this;exact#[d',ed',hd.keeps k1]]
    cell:=λx d e=>by
     obtain⟨v,z⟩:=A.cell x d (D x d e);exact#[v,z.keeps k1]
    free:=A.fresh
    freeC:=λx d e=>A.freeC x d (D x d e)
    pin:=λp K=>by
     rcases Xu.mp (K) with hp'|hp'
     .exact Hs (A.pin p hp') λe n ne nf d=>#[k1 _ _ e,n,Xq<|Xk e,stk p.1 ne nf,d]
     .have z:=Xj.mp hp';subst z;exact#[k1 _ _ hD,P.fresh,Xq L,stk _ (VZ P.lt)<|P.nofs<|Xm _,λv z=>nomatch (show Data.seq _ _=Data.cell v from z)]
    hok:=A.hok.kept k1
    len:=by
     unfold YQ;rw[Xe];exact ck.len }
 have back:∀{σ':St} {J:Hp} {G:Shared} {ps:Qc},Qt (Vf X N scope c) ps σ' J G->Qt X Y O J G:=λ{σ' J G ps} J'=>
  A.call' J'.os J'.base J'.hok J'.bare λb m=>by
   rcases Z b m with rfl|m
   .exact#[.inr P.sz,VZ P.lt,w,t]
   .exact#[(H b m).2.2.2.1,(H b m).2.1,(H b m).2.2.2.2.1,(H b m).2.2.2.2.2]
 have fpX:∀{J:Hp} {ob:Obj},(∀b∈fp,J b=none)->∀b∈fp,Wh (Vf X N scope c) [(b7.heap.objs.size,ob)] J b:=λ{J ob} hn b m=>
  #[hn b m,(u.exf b<|Xf _ m).1,u.exfs b<|Xf _ m,.inl<|Xf _ m,(u.exf b<|Xf _ m).2,λp K=>by
   rcases Xu.mp (K) with z|z
   .exact(H b m).2.2.2.2.2 p z
   .have z:p=(b7.heap.objs.size,ob):=Xj.mp z;subst z;exact(fneD b m).symm]
 apply I0 (hq c);rintro W⟨m0,w0⟩turn;have loop:∀s,s=({ M with heap:=b8,toks:=M.toks+([]:List (Str×Value)).length }:Shared)->
  codeAny (model X.prog X.w) X.A (.compLoop (.ListComp elt [#[tg,iter,ifs,0]] scope pos) 0 (.ref it) (.ref b7.heap.objs.size)<|compEnvC scope cl M.heap.objs.size X.env) (RR (.ref b7.heap.objs.size) M.heap.objs.size) s:=by
  rintro s rfl;refine Zk2 (λn G=>∃i J ys B k,Qt (Vf X N scope c) [(b7.heap.objs.size,WG B k)] (YQ f O) J G/\QW ys B/\ys.length<=sizeLine/\tn i G.heap/\(∀b∈fp,J b=none)/\W i n ys J) ?_ m0 #[0,_,[],[],0,I4,.nil,XA _,st1,λb m=>(H b m).1,w0];rintro n s5 ⟨i,H5,ys,B,k,I5,R,hz5,st5,fr5,w5⟩;rcases turn i n ys H5 w5 with ⟨stop,qn⟩|⟨go,step⟩
  .refine Q7 (T.done (Vf X N scope c) rfl rfl rfl rfl rfl i _ s5 (YQ f O) H5 _ I5 (fpX fr5) st5 stop) ?_;rintro r s6 ⟨rfl,I6⟩;refine I0 (id I6.loc) λm6 hn6 _=>KE (I6.pin (b7.heap.objs.size,WG B k) (XV _<|Xj.mpr rfl)) λeD nD _=>?_;have I7:Qt X Y O (upd H5 b7.heap.objs.size<|.lst ys) s6:=(back I6).track nD P.sz (VZ P.lt) w t #[hz5,B,k,R,eD];refine hRR _ _ _ s6 m6 hn6 I7 (by rw[Qv<|VZ L];exact I6.free) (VZ A.lt) A.sz (λx d e=>?_) (λp K=>?_) (qn _ nD)
   .obtain⟨v,z⟩:=A.cell x d e;exact Xq z.lt
   .exact Xq (Xk (A.pin p K).1)
  .refine Q7 (T.item (Vf X N scope c) rfl rfl rfl rfl rfl i _ s5 (YQ f O) H5 _ I5 (fpX fr5) st5 go) ?_;rintro r s6 ⟨I,rfl,h6⟩;refine Q7 h6 ?_;rintro _ s7 ⟨x,H7,I7,r7,y7,st7,fr7⟩;have I7':=I7.pinned (fpX fr7) (T.obj _ _ st7);refine Q7 (hg c _ s7 (YQ f O) H7 x I _ I7' r7<|(ht c).keep _ _ _ _ (step x H7 y7)) ?_;rintro _ s8 ⟨a,H8,I8,kp8,q8⟩;have wk:∀(j:Nat) v,(YQ f O)[j]?=some (some v)->a[j]?=some (some v):=λj v e=>by
    have ef:∃k,f[j]?=some (some k):=by
     unfold YQ at e;rw[XG]at e;cases q:f[j]? with
     |none=>rw[q]at e;cases e
     |some o=>
      cases o with
      |none=>rw[q]at e;cases e
      |some k=>exact#[k,rfl]
    obtain⟨k,ef⟩:=ef;rw[kp8.2 j k ef];exact e
   have recs:∀{H9:Hp} {s9:Shared} {ob:Obj},Qt (Vf X N scope c) ([(b7.heap.objs.size,ob)]++Ds fp s7.heap) a H9 s9->tn (i+1) s9.heap/\∀b∈fp,H9 b=none:=λ{H9 s9 ob} I9=>
    #[T.keep _ _ _ st7 λb m o e=>(I9.pin (b,o)<|XV _<|XV _<|Hh m e).1,λb m=>by
     exact I0 (T.obj _ _ st7 b m) λo e d=>(I9.pin (b,o)<|XV _<|XV _<|Hh m e).2.1]
   refine Q7 (hcs c _ s8 a H8 _ I8 q8) ?_;rintro ok s9 ⟨H9,I9,q9⟩;cases ok with
   |false=>
    apply I0 ((q9));intro m' hm w9;obtain⟨z1,z2⟩:=recs I9;exact#[m',hm,i+1,H9,ys,B,k,(I9.unpinned).weak kp8.1.symm wk,R,hz5,z1,z2,w9]
   |true=>
    refine Q7 (he c _ s9 a H9 _ I9<|q9) ?_;rintro v l ⟨y,H10,I10,r10,hlen,m',hm,w10⟩;apply Hs (I10.pin (b7.heap.objs.size,WG B k) (XV _<|Gj _<|Xj.mpr rfl));intro eD nD neD nfD dD;obtain⟨z1,z2⟩:=recs I10;have lv:=R.length;refine call_meets F.slot_list_append #[_,eD,rfl] F.entry_list_append (F.args_list_append_2 _ _) (PySem.list_append b7.heap.objs.size B.toArray k v<|by rw[Xw];lia) #[eD,?_];have q:=PySem.IsL.update eD (·.push v);have hf:B.toArray.push v=(B++[v]).toArray:=by simp
    rw[hf]at q;have I11:=
     (I10.pins_of (pins':=[]) λp K=>Xo K<|by simp).turned (t':=l.toks) (it:=b7.heap.objs.size) (λb o m e=>(XT l.heap (Obj.mapSeq (·.push v))<|Ne.symm m).trans e) nD neD (.inl Xb) (u.exf _ Xb).2 λp K=>by
      rw[Xp]at K;exact t p K
    have I12:Qt (Vf X N scope c) [(b7.heap.objs.size,WG (B++[v]) _)] a H10 { l with heap:=l.heap.update b7.heap.objs.size (Obj.mapSeq (·.push v)) }:=
     I11.pins_of λp K=>by
      have K:p=(b7.heap.objs.size,_):=Xj.mp K;subst K;exact#[q,nD,neD,nfD,λv K=>nomatch (show Data.seq _ _=Data.cell v from K)]
    exact#[m',hm,i+1,H10,ys++[y],B++[v],_,I12.weak kp8.1.symm wk,R.append<|.cons r10 .nil,by rw[Xr,List.length_singleton];lia,T.keep _ _ _ z1 λb m o e=>(XT l.heap (Obj.mapSeq (·.push v)) (fneD b m).symm).trans e,z2,w10]
 exact codeAny_compStart_list (loop _<|by rw[<- hs3]) (T.self _ 0 _ _ _ st1<|loop _<|by rw[<- hs3])
def ET{f:List (Option Nat)}{g:CIn->TG}{tc:CIn->TT}{te:CIn->TE}
(R:GS NX sc N f scope=true)(P:X.N=NX)(K:X.env.scope=sc)(u:PIH X tg iter wi)
(hg:∀c,PG (Vf X N scope c) tg<|g c)(k:∀c,TgOk f<|g c)(M:∀c,PCs (Vf X N scope c) ifs<|tc c)(he:∀c,PE (Vf X N scope c) elt<|te c)
(l:∀x,foldedSetIterable iter X.env x=pure x:=by intro _;rfl):PE X (.ListComp elt [#[tg,iter,ifs,0]] scope pos) (tLC f wi g tc te):=by
 subst P K;intro Y s O H Q I h;have j:=FT R;refine L3 (CJ λp r v=>I.ok.has p.1 (j.free p r v)) λcl m D B=>wpAny_comprehension_free rfl l m j.kind j.names (Q7 (u Y s O H _ I h) λxv b6 Z=>Q7 Z λi b7 S=>?_);apply aG S;rintro it fp tn H' H2 e I2 T a⟨L,n⟩;subst e;exact L9 j hg k M he I2 T a L n D B<|λW C J s' d t I' z y F U E q=>#[d,t,λG A=>#[.ref W,J,I'.turned (λb o w e=>(A.2 b w).trans e) z y (.inr F) U E,rfl,q]]
def Rc{m:Pos}{f:List (Option Nat)}{g:CIn->TG}{tc:CIn->TT}{te:CIn->TE}
(hN:X.N.Nodup)(d:X.N[i]?=some x)(t:X.env.scope.names.lookup x=some .local)
(ck:GS NX sc N f scope=true)(l:X.N=NX)(P:X.env.scope=sc)(hi:PIH X tg iter wi)
(hg:∀c,PG (Vf X N scope c) tg<|g c)(R:∀c,TgOk f<|g c)(k:∀c,PCs (Vf X N scope c) ifs<|tc c)(he:∀c,PE (Vf X N scope c) elt<|te c)
(M:swapsWith (.ListComp elt [#[tg,iter,ifs,0]] scope pos) (some<|.Name x px) m.line X.env=pure true)
(S:∀x,foldedSetIterable iter X.env x=pure x:=by intro _;rfl):PS X (.Assign [.Name x px] (.ListComp elt [#[tg,iter,ifs,0]] scope pos) m) (ZM (tLC f wi g tc te)<|Vk i):=by
 subst l P;intro Y s O H H0 I h;have j:=FT ck;apply L3 (CJ λp Z hf=>I.ok.has p.1 (j.free p Z hf));intro cl A K D;rw[exec_Assign_Name_used _ _ _ _ M];refine Xa (wpAny_standAt<|Xa ?_)
 refine Xa (wpAny_mono (wpAny_comprehension_free rfl S A j.kind j.names
  (Q7 (hi Y s O H _ I h) λxv b6 b8=>Q7 b8 λQ b7 bj=>?_)) (λ_ F W=>Xl<|Xl W) λ_ _ e=>e)
 apply aG bj;rintro it fp tn H' H2 e I2 T w⟨f2,W⟩;subst e;refine L9 j hg R k he I2 T w f2 W K D<|λn C J F L hn I' hC u h0 U h2 q=>wpAny_assign_Name (Cs I' hN d (.inl t) (v:=.ref n) rfl ?_<|.inr t);rintro E r ⟨a,y,ha⟩;have G:C≠a:=by
  rcases ha with z|z
  .exact z▸u
  .exact(U _ _ z).symm
 exact#[L,hn.sameBut y G,λh'' B=>#[_,J,r.turned (λb o hb e=>(B.2 b hb).trans e) hC u (.inr h0) U h2,q]]
noncomputable def Yp{iter m:Expr}{j:Qi}{NX P:Qh}{sc:Scope}{B:TI}{g:CIn->TG}{tc:CIn->TT}{te:CIn->TE}(W:Qo NX P sc)(N:Qh)(f:List (Option Nat))(K:PI X tg iter B)(he:∀c,PE (Vf X N scope c) m<|te c)
(s:∀c,PCs (Vf X N scope c) j (tc c):=by exact λ_=>LJ)(hg:N.Nodup->∀c,PG (Vf X N scope c) tg (g c):=by exact λh _=>by first|exact ZF 0 h|exact GP (n:=2) rfl (Wo (ZF 0 h)<|Wo (ZF 1 h) GX))
(C:∀c,TgOk f (g c):=by exact λ_=>by first|exact Uh|exact Tj<|DZ Uh<|DZ Uh L4)(O:GS NX sc N f scope=true:=by decide +kernel)(hn:N.Nodup:=by decide +kernel)
(M:X.calm=true:=by rfl)(A:X.N=NX:=by rfl)(q:X.env.scope=sc:=by rfl)(D:∀x,foldedSetIterable iter X.env x=pure x:=by intro _;rfl):PE X (.ListComp m [#[tg,iter,j,0]] scope pos) (tLC f B g tc te):=
 ET O A q (K.x M) (hg hn) C s he D
noncomputable def Hg(i:Nat){x:Str}{M j:Pos}{iter q:Expr}{m:Qi}{NX e:Qh}{sc:Scope}{K:TI}{g:CIn->TG}{tc:CIn->TT}{te:CIn->TE}(b:Qo NX e sc)(N:Qh)(f:List (Option Nat))(Y:PI X tg iter K)(he:∀c,PE (Vf X N scope c) q<|te c)
(D:∀c,PCs (Vf X N scope c) m (tc c):=by exact λ_=>LJ)(hg:N.Nodup->∀c,PG (Vf X N scope c) tg (g c):=by exact λh _=>by first|exact ZF 0 h|exact GP (n:=2) rfl (Wo (ZF 0 h)<|Wo (ZF 1 h) GX))
(P:∀c,TgOk f (g c):=by exact λ_=>by first|exact Uh|exact Tj<|DZ Uh<|DZ Uh L4)(d:GS NX sc N f scope=true:=by decide +kernel)(hn:N.Nodup:=by decide +kernel)
(a:X.calm=true:=by rfl)(s:X.N=NX:=by rfl)(B:X.env.scope=sc:=by rfl)(C:X.N[i]?=some x:=by rfl)(O:X.env.scope.names.lookup x=some .local:=by rfl)
(A:swapsWith (.ListComp q [#[tg,iter,m,0]] scope pos) (some<|.Name x M) j.line X.env=pure true:=by rfl)(W:∀x,foldedSetIterable iter X.env x=pure x:=by intro _;rfl):
 PS X (.Assign [.Name x M] (.ListComp q [#[tg,iter,m,0]] scope pos) j) (ZM (tLC f K g tc te)<|Vk i):=
 Rc (by exact s▸b.nd) C O d s B (Y.x a) (hg hn) P D he A W
end
end L2
namespace L2
inductive Rep(H:Hp):V->PyData->Prop
 |non:Rep H .non .none
 |bl (b:Bool):Rep H (.bl b) (.bool b)
 |int (i:Int):Rep H (.int i) (.int i)
 |str (x:Str):Rep H (.str x) (.str x)
 |lst {a:Addr}{xs:List V}{ds:Qd}:H a=some (.lst xs)->Paired (Rep H) xs ds->Rep H (.ref a) (.list ds)
 |tup {a:Addr}{xs:List V}{ds:Qd}:H a=some (.tup xs)->Paired (Rep H) xs ds->Rep H (.ref a) (.tuple ds)
 |dct {a:Addr}:H a=some (.dK [])->Rep H (.ref a) (.dict [])
abbrev Zt(H:Hp):List V->Qd->Prop:=Paired (Rep H)
def Rep.ind{P:V->PyData->Prop}(n:P .non .none)(b:∀b,P (.bl b)<|.bool b)(i:∀i,P (.int i)<|.int i)(s:∀x,P (.str x)<|.str x)
(l:∀{a xs ds},H a=some (.lst xs)->Paired P xs ds->P (.ref a) (.list ds))(t:∀{a xs ds},H a=some (.tup xs)->Paired P xs ds->P (.ref a) (.tuple ds))(c:∀{a},H a=some (.dK [])->P (.ref a) (.dict []))(h:Rep H v d):P v d:=
 Rep.rec (motive_1:=λv d _=>P v d) (motive_2:=λf ds _=>Paired P f ds) n b i s (λh _ r=>l h r) (λh _ r=>t h r) c .nil (λ_ _ r q=>.cons r q) h
def Rep.mono(s:Q4 H J)(h:Rep H v d):Rep J v d:=h.ind .non .bl .int .str (λh r=>.lst (s _ _ h) r) (λh r=>.tup (s _ _ h) r) λh=>.dct (s _ _ h)
def Zt.mono(s:Q4 H J)(h:Zt H vs ds):Zt J vs ds:=Paired.mono (λ_ _ r=>r.mono s) h
def DO{j:Type}{H:Hp}{f:j->PyData}{g:j->V}(k:∀a v,Rep H v (f a)->v=g a){vs:List V}{l:List j}(h:Zt H vs (l.map f)):vs=l.map g:=by
 induction l generalizing vs with
 |nil=>cases h;rfl
 |cons a l m=>
  cases h with
  |cons r t=>rw[k a _ r,m t];rfl
def Hf{l:Ql}(h:Zt H vs (l.map PyData.int)):vs=l.map V.int:=DO (λ_ _ r=>by cases r;rfl) h
section
variable {O:St}{H:Hp}
def Co{P:V->PyData->Prop}(h:∀{v d},P v d->∀{dx},QO v dx->∃as,Reads s.heap dx d as)(q:Paired P vs ds):∀{us:Qe},QW vs us->∃as,ReadsAll s.heap us ds as:=by
 induction q with
 |nil=>intro us r;cases r;exact#[_,.nil]
 |cons q t B=>
  intro us r;cases r with
  |cons A m=>
   obtain⟨as,j⟩:=h q A;obtain⟨C,f⟩:=B m;exact#[_,.cons j f]
def Rep.reads(I:Qt X Y O H s)(h:Rep H v d):QO v g->∃as,Reads s.heap g d as:=by
 refine Rep.ind (P:=λv d=>∀{g},QO v g->∃as,Reads s.heap g d as) ?_ ?_ ?_ ?_ ?_ ?_ ?_ h
 .intro g r;cases r;exact#[_,.none]
 .intro b g r;cases r;exact#[_,.bool b]
 .rintro i _ ⟨t,rfl⟩;exact#[_,.int i t]
 .rintro x _ ⟨t,rfl⟩;exact#[_,.str x t]
 .intro a xs ds h q g r;cases r;apply At (I.hok _ _ h);intro z m n f e;obtain⟨as,j⟩:=Co (λz=>z) q f;exact#[_,.list e rfl rfl (by simpa using j)]
 .intro a xs ds h q g r;cases r;apply aT (I.hok _ _ h);intro z m f o e c n dd;obtain⟨as,j⟩:=Co (λz=>z) q f;exact#[_,.tuple e c dd<|by simpa using j]
 .intro a h g r;cases r;apply Do (I.hok _ _ h);rintro z y D C K es M e⟨c,dd,_,B,_⟩;cases C;have A:es.toList=[]:=List.eq_nil_of_length_eq_zero B.length;exact#[_,.dict (kvs:=[]) e c.1 dd (by rw[A];exact .nil)<|by rw[A];exact .nil]
def Vi(d:PyData):Prop:=d.canLay0=true/\d.depth<=60
def MN:R2:=λx y H Q=>∃d e,Rep H x d/\Rep H y e/\Vi d/\Vi e/\Q (.bl<|PyData.eqv d e) H
def HU:R2:=λx y H Q=>∃d e,Rep H x d/\Rep H y e/\Vi d/\Vi e/\Q (.bl<|!PyData.eqv d e) H
def GQ(K:X.A.units+64<cLine):OpR X (compareOp .Eq) MN:=by
 intro Y s O H x y v P Q I j f h;apply aU h;intro d e C B fd D q;obtain⟨a,A⟩:=C.reads I j;obtain⟨W,m⟩:=B.reads I f;refine SeqAt.compareEq_reads A m fd.1 D.1 ?_ #[.bl<|PyData.eqv d e,H,I,rfl,q];have U:=fd.2;have M:min d.depth e.depth<=d.depth:=Nat.min_le_left _ _;lia
def Ud(K:X.A.units+64<cLine):OpR X (compareOp .NotEq) HU:=by
 intro Y s O H x y v P Q I j f h;apply aU h;intro d e C B fd D q;obtain⟨a,A⟩:=C.reads I j;obtain⟨W,m⟩:=B.reads I f;refine SeqAt.compareNe_reads A m fd.1 D.1 ?_ #[.bl<|!PyData.eqv d e,H,I,rfl,q];have U:=fd.2;have M:min d.depth e.depth<=d.depth:=Nat.min_le_left _ _;lia
end
def NG(f:Vi d):PyData.eqv d d=true:=SeqAt.eqv_refl d f.1
def Td{f:Type}{xs:List f}{i:Int}{v:f}(h:atI xs i=some v):∃j:Nat,xs[j]?=some v/\ixN xs.length i=some j:=by
 unfold atI at h;cases e:ixN xs.length i with
 |none=>rw[e]at h;cases h
 |some j=>rw[e]at h;exact#[j,h,rfl]
inductive TyN(H:Hp):V->String->Prop
 |non:TyN H .non "NoneType"
 |bl (b:Bool):TyN H (.bl b) "bool"
 |int (i:Int):TyN H (.int i) "int"
 |str (x:Str):TyN H (.str x) "str"
 |lst {a:Addr}{xs:List V}:H a=some (.lst xs)->TyN H (.ref a) "list"
 |tup {a:Addr}{xs:List V}:H a=some (.tup xs)->TyN H (.ref a) "tuple"
 |dct {a:Addr}:H a=some (.dK [])->TyN H (.ref a) "dict"
noncomputable def tyD:PyData->String
 |.none => "NoneType"
 |.bool _ => "bool"
 |.int _ => "int"
 |.str _ => "str"
 |.list _ => "list"
 |.tuple _ => "tuple"
 |.dict _ => "dict"
def Rep.ty(r:Rep H v d):TyN H v (tyD d):=by
 cases r with
 |non=>exact .non
 |bl b=>exact .bl b
 |int i=>exact .int i
 |str x=>exact .str x
 |lst h _=>exact .lst h
 |tup h _=>exact .tup h
 |dct h=>exact .dct h
noncomputable def JK(T c:String):Option Bool:=
 if T = "int" /\ c = "int" then some true else if T = "int" /\ c = "bool" then some false else if T = "list" /\ c = "list" then some true else if T = "tuple" /\ c = "tuple" then some true else if T = "NoneType" /\ c = "int" then some false else none
def OK:ZC X (.builtin "isinstance") (λxs H Q=>∃x T c b,xs=[x,.ty c]/\TyN H x T/\JK T c=some b/\Q (.bl b) H):=by
 intro Y s O H xs a Q I r h;apply aQ h;rintro x T c b rfl D⟨e,q⟩;apply SF (UI r);rintro d W rfl j M;cases (M);have f:∀t,EP X Y O Q _ { s with toks:=t }:=λt=>#[.bl b,H,I.tok t,rfl,q]
 cases D with
 |int i=>
  obtain⟨t,rfl⟩:=j
  by_cases z:c = "int"
  .subst z;cases e;exact IsiPair.int_int (f _)
  .by_cases C:c = "bool"
   .subst C;cases e;exact IsiPair.int_bool (f _)
   .simp[JK,z,C]at e
 |lst A=>
  by_cases z:c = "list"
  .subst z;cases e;cases j;exact At (I.hok _ _ A) λz m n K B=>IsiPair.list_list B rfl (f _)
  .simp[JK,z]at e
 |tup A=>
  by_cases z:c = "tuple"
  .subst z;cases e;cases j;exact aT (I.hok _ _ A) λz m K o B P n dd=>IsiPair.tuple_tuple B P (f _)
  .simp[JK,z]at e
 |non=>
  by_cases z:c = "int"
  .subst z;cases e;cases j;exact IsiPair.NoneType_int (f _)
  .simp[JK,z]at e
 |_=>simp[JK]at e
def G8(_ j:Int):Prop:=0<j/\j<2^8000
def Ij{j:Int}(h:G8 0 j):j.natAbs.log2<9000:=by
 have f:j.natAbs≠0:=by have:=h.1;lia
 have U:j.natAbs<2^8000:=by have:=h.2;have:=h.1;lia
 have:=(Nat.log2_lt f).mpr U;lia
def Jf:OpR X (binaryOp .FloorDiv) (rI G8 λi j=>.int<|i/j):=opI λi j _ _ _ _ _ f q=>by
 refine floordiv_int (Int.ne_of_gt f.1) ?_ (.inl<|PyProof.noPylong_of_log2<|Ij f);rw[Int.fdiv_eq_ediv_of_nonneg _ (Int.le_of_lt f.1)];exact q
def Q4.upd(s:Q4 H J)(h:H a=none):Q4 H (L2.upd J a o):=λb f e=>by
 rw[Qv<|Z5 e h];exact s b f e
def Q4.new(h:H a=none):Q4 H (L2.upd H a o):=(Q4.refl H).upd h
end L2
namespace Att
open PySem PySem.W PySem.Calls PyProof.Rows
theorem CN:∀(ns:Ql) (i:Int),i∈ns->Builtin.Int.intBits i<=WData.weightAll (ns.map WData.int)
 |[],i,h=>by simp at h
 |n::ns,i,h=>by
  rw[Xy,WData.weightAll];rcases Xc.mp h with rfl|h
  .have:WData.weight (.int i)=Builtin.Int.intBits i:=by rw[WData.weight];rfl
   lia
  .have:=CN ns i h;lia
def O6{ns:Ql}(h:WData.layableAll [WData.list<|ns.map WData.int]=true):∀i∈ns,Builtin.Int.intBits i<=2^20:=λi f=>by
 exact KE (layableW_iff.mp (layableW_arg h _ (Xj.mpr rfl))) λ_ _ j=>Xt (CN ns i f) j
def attach_callW{l:OpenLaw}{q:Program}
(hn:l.most=some n)(b:d.params.defaults=[])
(call:∀(w:World) (h j:Shared) (mg W:Str->Qf) (K:Addr) (o:Obj) (P cd s:Value) (a:Addr) (vs:Qe) (ns:Ql),
  Ground q loose [] XP w h mg W j.heap->YP w j.heap->
  j.heap.get? K=some o->o.data=.func (docDef d.name d.params d.body d.scope P cd s)->j.heap.CodeRec cd d.name->mg d.name=some (.ref K)->
  j.heap.get? a=some { cls:=.type "list",data:=.seq vs.toArray }->IntsAre vs ns->ns.length<=n->(∀i∈ns,Builtin.Int.intBits i<=2^20)->j.gens=(List.toArray [])->
  codeAny (model l.prog w) callerA (.call (.ref K) #[[.ref a],[]]) (λr M=>r=.ok (.ret<|.bool true)/\OldK j.heap M.heap/\M.os=j.os/\AllBare M.gens) j):
 WalkO q loose XP YP l.row.toRowW d [] (λf vs=>PySem.call f vs):=by
 intro w h j mg W G Xa6 K o P cd s I kV u z c g Y y k e J A D p X x;obtain rfl:=Dflts.none g b;obtain rfl:=Dflts.noKw g;apply aK (Zpc hn A X);rintro a vs ns rfl rfl B m C;refine enter_call (codeAny_mono (call w h j mg W K o P cd s a vs ns G Xa6 u (fd_plain z) c Y B m C (O6 D) y) λr M t=>?_);apply aF t;rintro rfl H F E;exact#[.inl #[.bool true,.bool true,[],rfl,λ_=>rfl,.bool true,Zqi l _,λ_=>#[List.Pairwise.nil,λ_ v=>(nomatch v)]],H,F,E]
end Att
namespace L2
structure Scr(K:W.Frag)(H:Hp)(a:Addr)(ns:Ql):Prop where
 sq:SqL K H a (ns.map V.int)
 len:ns.length<=63
 bits:∀i∈ns,Builtin.Int.intBits i<=2^20
def Scr.mono(h:Scr K H a ns)(s:Q4 H J):Scr K J a ns:=#[s.seq h.sq,h.len,h.bits]
structure Df(K:W.Frag)(mg:Str->Qf)(x:Str)(st:Stmt)(ps:Qh):Prop where
 ex:∃f fd,Fun K x x st f fd/\mg x=some (.ref f)/\ZW K fd ps []
def Q2(P:Program)(w:World)(K:W.Frag)(mg:Str->Qf)(base:Heap)(x:Str)(ps:Qh)(k:Nat)(sp:Sp):Prop:=
 ∃f fd,mg x=some (.ref f)/\W.keepIn K (.ref f)=true/\ZW K fd ps []/\FnOk P w K mg base CX0 k f fd ps sp
def Df.go{j:CXT}{w:World}{base:Heap}{x:Str}{st:Stmt}{k:Nat}(s:Df K mg x st ps)(h:∀f fd,Fun K x x st f fd->FnOk P w K mg base j k f fd ps sp):∃f fd,mg x=some (.ref f)/\W.keepIn K (.ref f)=true/\ZW K fd ps []/\FnOk P w K mg base j k f fd ps sp:=by
 exact SF s.ex λf fd F m q=>#[f,fd,m,F.kp,q,h f fd F]
def Q6{x:Str}{p:Pos}{e:Expr}{t:TA}{k:Nat}(C:Q2 X.prog X.w X.K X.mg X.base x ps j sp)(m:Room k X.A)(D:PA X (e::es) t)(A:j<=k:=by walk_at"j")(hg:Gl X x:=by rfl)
(h:(x==("__debug__" : Str))=false:=by decide +kernel)
(he:zs X e es:=by rfl)(hpl:zb X pos es:=by rfl):PE X (.Call (.Name x p) (e::es) [] pos) (Vd sp [] E0 t):=by
 exact RC C λf fd q s B F=>LC F (m.mono A) hg q s B .nil Js D h he hpl
def Vr:bootBuiltins "len"=some (.builtin "len"):=by decide +kernel
def K6:bootBuiltins "max"=some (.builtin "max"):=by decide +kernel
def Dr:bootBuiltins "min"=some (.builtin "min"):=by decide +kernel
def TN:bootBuiltins "sum"=some (.builtin "sum"):=by decide +kernel
def BK:bootBuiltins "all"=some (.builtin "all"):=by decide +kernel
def Jz:bootBuiltins "isinstance"=some (.builtin "isinstance"):=by decide +kernel
def BO:bootBuiltins "int"=some (.type "int"):=by decide +kernel
def OE:bootBuiltins "bool"=some (.type "bool"):=by decide +kernel
def O8:bootBuiltins "list"=some (.type "list"):=by decide +kernel
def Ba:bootBuiltins "tuple"=some (.type "tuple"):=by decide +kernel
end L2
namespace L2
mutual
def noL:PyData->Bool
 |.none=>true
 |.bool _=>true
 |.int _=>true
 |.str _=>true
 |.list _=>false
 |.dict _=>false
 |.tuple ds=>noLs ds
def noLs:Qd->Bool
 |[]=>true
 |d::ds=>noL d&&noLs ds
end
end L2
namespace L2
def CC(a b:Int):Builtin.Range.rangeSize a b (-1)=((a-b).toNat:Int):=by
 unfold Builtin.Range.rangeSize;split<;>lia
def Zl9{b:Int}(ha : -(2^62)<=a)(h:a<2^62)(hb : -(2^62)<=b)(f:b<2^62):Builtin.Range.small a b (-1)=true:=by
 unfold Builtin.Range.small;rw[CC];simp only[Builtin.Range.rangeFitsLong,XS,Bool.or_eq_true,decide_eq_true_eq,beq_iff_eq,show ¬((-1) > 0) by decide,if_false];lia
def HS(f:Int)(n:Nat):It:=#[λi _=>i<n,λi H x J=>J=H/\x=.int (f-i),λi _=>n<=i]
theorem Zmz(it:Addr)(hi:Int)(n:Nat):Turn P w K tg (HS hi n) [it] it (λi h=>IsRangeIter h it (hi+(i:Nat)*(-1)) ((n:Int)-(i:Nat)) (-1)) where
 mem:=by simp
 obj:=λi h f b j=>by
  simp_all
 keep:=λi h h' f k=>k it (by simp) _ f
 item:=by
  intro X d c g B i Y s O H y I q f A;subst d c g;apply aA (q it (by simp));refine λf0 a r M D C=>(Walks.range (prog:=X.prog) (w:=X.w) (I.ok.hd B) it hi (-1) n).item i s _ _ A f λv h' tk p m l=>?_;obtain⟨t,rfl⟩:=p;refine#[_,rfl,GD m rfl rfl (by decide) #[.int<|hi-i,H,I.turned (λb o j e=>l b o (by simpa using j) e) f0 a M D C,#[t,?_],#[rfl,rfl],m,λb j=>(q b j).1]]
  grind
 done:=by
  exact λX d c g B i Y s O H y I q f A=>aA (q it (by simp)) λf0 a r M D C=>wpAny_pyNext_range_end (I.ok.hd B) f (by have:n<=i:=A;lia) λh' u=>#[rfl,I.turned (λb o j e=>u b o j e) f0 a M D C]
 self:=λ_ _ _ _ _ f h=>wpAny_pyIter_rangeiter f h
def Zq0{O:St}{H:Hp}{R:It->Hp->Prop}{M:Qb}{lo f:Int}{t h v:Tok}{m:Nat}(I:Qt X Y O H s)(U : -(2^62)<=f)(C:f<2^62)(h3 : -(2^62)<=lo)(B:lo<2^62)
(q:R (HS f (f-lo).toNat) H):wpAny (model X.prog X.w) X.A (pyIter<|.ref s.heap.objs.size) (PIE X Y O tg R) M { s with heap:=s.heap.push { cls:=.type "range",data:=.fields (List.toArray [.int f t,.int lo h,.int (-1) v]) },toks:=m }:=by
 refine wpAny_pyIter_range (IsRange.new ..) (Zl9 U C h3 B) ?_;have j:Qt X Y O H { s with heap:=s.heap.push { cls:=.type "range",data:=.fields (List.toArray [.int f t,.int lo h,.int (-1) v]) },toks:=m }:=I.kept λb o e=>Xd _ e
 refine#[(s.heap.push { cls:=.type "range",data:=.fields (List.toArray [.int f t,.int lo h,.int (-1) v]) }).objs.size,[(s.heap.push { cls:=.type "range",data:=.fields (List.toArray [.int f t,.int lo h,.int (-1) v]) }).objs.size],_,_,H,rfl,
  j.kept λb o e=>Xd _ e,Zmz _ f (f-lo).toNat,?_,λb A=>?_,q]
 .have K:f+((0:Nat))*(-1)=f:=by simp
  have D:(((f-lo).toNat))-((0:Nat))=Builtin.Range.rangeSize f lo (-1):=by rw[CC];lia
  rw[K,D];exact Xn _ rfl
 .have e:b=(s.heap.push { cls:=.type "range",data:=.fields (List.toArray [.int f t,.int lo h,.int (-1) v]) }).objs.size:=by simpa using A
  subst e;exact j.fpOk (Xm _) (j.hok.fresh<|Xm _)
def PF(ta:TA):TI:=λO H R=>ta O H λf E=>∃i j:Int,f=[.int i,.int j,.int (-1)]/\(-(2^62)<=i/\i<2^62 /\ -(2^62)<=j/\j<2^62)/\R (HS i (i-j).toNat) E
def ZqE{a b c:Expr}{ta:TA}{p:Pos}(hg:Gl X "range")(d:X.mg "range"=none)(g:PA X [a,b,c] ta)(W:starEach [a,b,c] X.env=[(false,eval a X.env),(false,eval b X.env),(false,eval c X.env)]:=by rfl)
(m:starEach [b,c] X.env=[(false,eval b X.env),(false,eval c X.env)]:=by rfl):PI X tg (.Call (.Name "range" p) [a,b,c] [] pos) (PF ta):=by
 refine λY s O H R I h=>Call_ (WW I hg d boot_range<|PyProof.Rows.callWith_type1 (Q7 (g pos Y s O H _ I h) ?_) (by rw[W,m])<|by rw[m];rfl);rintro n v ⟨l,E,k,C,A⟩;obtain⟨i,j,rfl,⟨A,P,M,K⟩,q⟩:=A;cases C with
 |cons r f=>
  cases f with
  |cons D f=>
   cases f with
   |cons B f=>
    cases f;obtain⟨t,rfl⟩:=r;obtain⟨u,rfl⟩:=D;obtain⟨o,rfl⟩:=B;exact call_range_3 (by decide) (Zq0 k A P M K q) (.inl<|PyProof.noPylong_small<|by decide)
def Dj(K:W.Frag):V->V->Hp->VK->Prop:=λo i H Q=>∃p xs k v,o=.ref p/\i=.int k/\SqL K H p xs/\0<=k/\xs[k.toNat]?=some v/\Q v H
def ZlR(ns:Ql):preSum (λi=>ns.getD i 0) ns.length=ns.sum:=by
 have f:∀k,k<=ns.length->preSum (λi=>ns.getD i 0) k=(ns.take k).sum:=by
  intro k;induction k with
  |zero=>intro _;simp[preSum]
  |succ k h=>
   intro j;have U:k<ns.length:=#[]
   rw[Uu,List.sum_append,<- h #[]];simp[preSum,U]
 rw[f ns.length<|Xm _,JE]
theorem Uk:∀{vs:Qe} {ns:Ql} {i:Nat} {v:Value},IntsAre vs ns->vs[i]?=some v->∃t,v=.int (ns.getD i 0) t
 |_,_,_,_,.nil,e=>by simp at e
 |_,_,0,_,.cons n t h,e=>by simp at e;exact#[t,by simp[<- e]]
 |_,_,i+1,v,.cons n t h,e=>by
  obtain⟨f,z⟩:=Uk h (by simpa using e);exact#[f,by simpa using z]
def ZkF(X:A.handled=none)(C:s.heap.IsList l vs.toArray)(K:IntsAre vs ns)
(h:∀h' M t',(∀b o,s.heap.get? b=some o->h'.get? b=some o)->Q (.int ns.sum t') { s with heap:=h',toks:=M }):wpAny (model prog w) A (call (.builtin "sum") [.ref l]) Q H1 s:=by
 apply aP (id C);refine λo D r n p=>call_sum_walkAnyS (wpAny_pyIter_list C (#[s.heap.objs.size,_,_,_,_,_,_,λi=>ns.getD i 0,rfl,(Walks.list (prog:=prog) (w:=w) (A:=A.in1) X s.heap.objs.size l (Xq (Xk D)) vs.toArray).toS,#[#[_,Xn _ rfl,rfl,rfl],C.at λo e=>Xd _ e],λb f=>?_,λi v Y=>Uk K<|by simpa using Y,λP t' j=>?_]))
 .rcases Xc.mp f with rfl|f
  .exact Xk (Xn _ rfl)
  .obtain rfl:=Xj.mp f;exact Xk (Xd _ D)
 .obtain⟨h',a,k,m,q⟩:=P;have g:a=s.gens:=j.gens;have d:k=s.drawn:=j.drawn;have c:q=s.os:=j.os;subst g d c;have es:vs.toArray.size=ns.length:=by rw[Xw,K.length]
  rw[es,ZlR];exact h h' m t' λb o e=>j.heap b o (λf=>Xo (Xk e)<|(Xj.mp f)▸Ym _) (Xd _ e)
def Md:Pk X (Dj X.K):=by
 intro Y s O H o i W a Q I m A h;apply aO h;rintro p xs k v rfl rfl D M⟨j,q⟩;cases m;obtain⟨t,rfl⟩:=A;refine L3 (I.list D) λC r B b=>I0 (r.get j) λw P f=>?_;have c:=UQ;have K:=(Xh.mp j).1;exact wpAny_getItem_list B.isList M #[] (by simpa using P) #[v,H,I,f,q]
def Zrn:ZC X (.builtin "sum") (λxs H Q=>X.calm=true/\∃(x:V) (ns:Ql),xs=[x]/\Rep H x (.list<|ns.map PyData.int)/\Q (.int ns.sum) H):=by
 intro Y s O H xs M Q I r h;obtain⟨C,x,ns,rfl,B,q⟩:=h;apply I0 (VN r);rintro b rfl f;cases B with
 |lst D m=>
  cases f;have K:=Hf m;subst K;exact L3 (I.list (SqL.of D)) λA j p a=>ZkF (I.ok.hd C) p.isList (Hi j) λh' P W k=>#[.int ns.sum,H,I.kept k,#[_,rfl],q]
end L2
namespace L2
def Qt.turnedL{O:St}{H:Hp}{t':Nat}{ch:Qg}(I:Qt X Y O H s)(k:∀b o,b∉ch->s.heap.get? b=some o->h'.get? b=some o)(h:∀b∈ch,Wh X Y H b):Qt X Y O H { s with heap:=h',toks:=t' }:=by
 refine I.step (λb B=>?_) (λb o _ _ f e _=>k b o f e) (λb o _ _ f e _=>#[o.slots,k b o f e]) (λ_ _ _ _ n=>n)
  (λb o f e=>#[o,k b o f e]) (λ_ _ e=>e) (λ_ _ _ e=>e) (λb ps e=>#[(List.toArray []),by rw[e];simp]) (λm A=>?_) (λb W e=>?_) I.bare (λb _ o f _ e=>k b o f e)
 .exact aA (h b B) λf0 M d K D C=>#[K,M,D,C]
 .exact L1 A λo es P j r=>#[o,es,P,k _ o (λz=>(h _ z).2.1 rfl) j,r]
 .refine(I.hok b W e).stay (λc v f q=>k c v (λz=>?_) q) (λ_ q=>q) λ_ _ q=>q
  have a:=(h c z).1
  grind
def Qt.trackTup{O:St}{H:Hp}{T:Addr}{x y:V}{j v:Value}(f:Qt X Y O H s0)(I:Qt X Y O H s)(hT:s0.heap.objs.size<=T)(A:QO x j)(m:QO y v)(h:s.heap.IsTuple T (List.toArray [j,v])):Qt X Y O (upd H T<|.tup [x,y]) s:=by
 refine I.track (f.hok.fresh hT) (Xt f.sz hT) (VZ<|XI f.lt hT) (λz c e q=>?_) (λp C q=>?_) #[by show 2<=sizeLine;decide,[j,v],.cons A<|.cons m .nil,h]
 .obtain⟨w,B⟩:=f.cell z c e;exact Xo (XI B.lt<|by exact q▸hT) (Ym _)
 .exact Xo (XI (Xk (f.pin p C).1)<|by exact q▸hT) (Ym _)
def Ite(K:W.Frag)(a:Addr):It:=
 #[λi H=>∃xs x,SqL K H a xs/\xs[i]?=some x,
  λi H v J=>∃p x,H p=none/\v=.ref p/\J=upd H p (.tup [.int (i:Int),x])/\∀xs,SqL K H a xs->xs[i]?=some x,
  λi H=>∃xs,SqL K H a xs/\i=xs.length]
theorem Zpf(p:e≠it)(l:a≠e)(g:a≠it):
 Turn P w K (.Tuple elts k pos) (Ite K a) [e,it] e (λi h=>(∃j,IsEnum h e it i j)/\h.IsListIter it a i) where
 mem:=by simp
 obj:=λi h q c u=>by
  apply aV q;rintro⟨j,m⟩o1 e1 c1 d1
  grind
 keep:=λi h h' q kk=>by
  obtain⟨⟨j,m⟩,U⟩:=q;exact#[#[j,kk e (by simp) _ m],U.at λo x=>kk it (by simp) o x]
 item:=by
  intro X Q G R u i Y s O H H1 I r q L;subst Q G R;refine L0 L λxs x A hx=>L3 (I.list A) λf B E F=>I0 (B.get hx) λu1 d y=>?_;obtain⟨m,U⟩:=q;have W:=WalksT.enumerate (prog:=X.prog) (w:=X.w) (I.ok.hd u) e it a p l g f.toArray;have l1:=(Xh.mp d).1;refine W.item i s _ _ (by simp only[Xw];lia) #[m,U,E.isList] λT vals h' tk pt hT tup M kp=>?_;apply L0 pt;rintro t v1 e1 rfl
  have Z:=by
   have:=by simpa using e1
   exact(Option.some.inj (d▸this)).symm
  subst Z;refine#[.ref T,rfl,W.go elts k pos i T { s with heap:=h',toks:=tk } _ _ M λS v b=>?_];have D:S.IsTuple T (List.toArray [.int (i) t,v1]):=by
   exact aP tup λo ho N n hd=>#[o,b T o (W.apart i T h' M) ho,N,n,hd]
  refine KE v λs1 s2 _=>#[.ref T,_,I.trackTup ((I.turnedL kp r).turnedL (t':=tk) b r) hT (x:=.int (i)) #[t,rfl] y D,rfl,#[T,x,I.hok.fresh hT,rfl,rfl,λxs' h=>by rw[I.list_inj h A];exact hx],#[s1,s2],λc C=>?_];have J:c<s.heap.objs.size:=by
   simp only[Xc,XH,or_false]at C;obtain⟨j,m⟩:=m;rcases C with rfl|rfl
   .exact Xk m
   .exact I0 U λ_ z _=>Xk z
  rw[Qv<|Xq<|XI J hT];exact(r c C).1
 done:=by
  intro X Q G R u i Y s O H H1 I r q L;subst Q G R;apply I0 L;rintro xs A rfl;apply L3 (I.list A);intro f B E F;obtain⟨m,U⟩:=q;have en:xs.length=f.toArray.size:=by simp[B.length]
  refine (WalksT.enumerate (prog:=X.prog) (w:=X.w) (I.ok.hd u) e it a p l g f.toArray).done s _ _ (by exact en▸#[m,U,E.isList]) λh' tk kp=>#[rfl,I.turnedL kp r]
 self:=λ_ _ _ _ _ q h=>by
  obtain⟨⟨j,m⟩,_⟩:=q;exact wpAny_pyIter_enum m h
def PK(K:W.Frag)(ta:TA):TI:=λO H R=>ta O H λf E=>∃a,f=[.ref a]/\(∃xs,SqL K E a xs)/\R (Ite K a) E
def Cn:bootBuiltins "enumerate"=some (.type "enumerate"):=by decide +kernel
def Hr{ta:TA}   (hg:Gl X "enumerate")(t:X.mg "enumerate"=none)(u:PA X [a] ta)(n:starEach [a] X.env=[(false,eval a X.env)]:=by rfl):
 PI X (.Tuple elts k tpos) (.Call (.Name "enumerate" p) [a] [] pos) (PK X.K ta):=by
 refine λY s O H R I h=>Call_ (WW I hg t Cn<|PyProof.Rows.callWith_type1 (Q7 (u pos Y s O H _ I h) ?_) n rfl);rintro y f ⟨w,E,m,W,b⟩;apply L3 b;rintro x e⟨xs,i⟩q;subst e;apply I0 (VN W);rintro z rfl M;cases M;refine L3 (m.list i) λC P A g=>call_enumerate_list A.isList λh' D U l d=>wpAny_pyIter_enum D ?_;have B:x<f.heap.objs.size:=by exact I0 A.isList λo r _=>Xk r
 refine#[_,[f.heap.objs.size+1,f.heap.objs.size],_,_,E,rfl,m.kept (t':=f.toks) d,Zpf (Nat.succ_ne_self _) (Xq<|JG B)<|Xq B,#[#[_,D],U],λc K=>?_,q];have j:f.heap.objs.size<=c:=by
  simp only[Xc,XH,or_false]at K;rcases K with rfl|rfl
  .exact Nat.le_add_right _ _
  .exact Xm _
 exact m.fpOk j (m.hok.fresh j)
end L2
namespace L2
def D7(h:∀b x,b∉[s.heap.objs.size]->(s.heap.push o).get? b=some x->h'.get? b=some x):∀b x,s.heap.get? b=some x->h'.get? b=some x:=
 λb x e=>h b x (λf=>by rw[Xj.mp f]at e;exact Ym _<|Xk e) (Xd _ e)
def Zon(bs:List Bool):((List.range bs.length).all λi=>bs.getD i true)=bs.all id:=by
 rw[Br,X5,X5];constructor
 .intro h b m;obtain⟨i,j,rfl⟩:=Gi.mp m;have:=h i (YB.mpr j);simpa [j] using this
 .intro h i j;have f:=YB.mp j;have:=h bs[i] (XX f);simpa [f] using this
def ZoJ{bs:List Bool}{us:Qe}(r:QW (bs.map V.bl) us){i:Nat}(e:us[i]?=some v)(d:Bool):v=.bool (bs.getD i d):=by
 have m:=r.length;have q:i<us.length:=(Xh.mp e).1;rw[Xe]at m;have j:(bs.map V.bl)[i]?=some (.bl<|bs.getD i d):=by
  have:i<bs.length:=#[]
  simp[this]
 apply I0 (r.get j);intro s f h;rw[e]at f;cases f;exact h
noncomputable def Wg:Ql->Int
 |[]=>0
 |[a]=>a
 |a::b::r=>min a (Wg (b::r))
theorem Rh:∀{ns:Ql},ns≠[]->Wg ns∈ns/\∀a∈ns,Wg ns<=a
 |[],h=>Xo rfl h
 |[a],_=>by simp[Wg]
 |a::b::r,_=>by
  obtain⟨U,j⟩:=Rh (ns:=b::r) (by simp);simp only[Wg];refine#[?_,λc f=>?_]
  .grind
  .grind
def Iq{M:Int}(U:M∈ns)(f:∀a∈ns,M<=a):M=Wg ns:=by
 obtain⟨j,h⟩:=Rh (ns:=ns) (λz=>by rw[z]at U;cases U);have:=f _ j;have:=h _ U;lia
def A2(X:Cx):List V->Hp->VK->Prop:=λxs H Q=>X.calm=true/\∃(x:V) (f:List Bool),xs=[x]/\Rep H x (.list<|f.map PyData.bool)/\Q (.bl<|f.all id) H
def P2(X:Cx):List V->Hp->VK->Prop:=λxs H Q=>X.calm=true/\∃(x:V) (f:Ql),xs=[x]/\Rep H x (.list<|f.map PyData.int)/\f≠[]/\Q (.int<|Wg f) H
def Zor{l:List Bool}(h:Zt H vs (l.map PyData.bool)):vs=l.map V.bl:=DO (λ_ _ r=>by cases r;rfl) h
def BN:ZC X (.builtin "all") (A2 X):=by
 intro Y s O H xs k Q I r h;apply At h;rintro a x j rfl⟨P,q⟩;apply I0 (VN r);rintro u rfl D;cases P with
 |@lst l ys _ b M=>
  cases D;have g:=Zor M;subst g;apply L3 (I.list (SqL.of (K:=X.K) b));intro f C p t;have B:=p.isList
  refine call_all_walk (wpAny_pyIter_list B (#[s.heap.objs.size,[s.heap.objs.size,l],[s.heap.objs.size],f.toArray.size,_,_,λi=>j.getD i true,rfl,Walks.list (A:=X.A.in1) (I.ok.hd a) _ l (Xq (by exact I0 B λ_ e _=>Xk e)) f.toArray,
   #[#[_,Xn _ rfl,rfl,rfl],B.push _],λi v o w y d c=>?_,λh' n W=>?_]))
  .rw[ZoJ C (show f[i]?=some v by simpa using d) true];exact wpAny_truthy_bool c
  .have e:((List.range f.toArray.size).all λi=>j.getD i true)=j.all id:=by
    have:=C.length;rw[Xe]at this;rw[Xw,<- this];exact Zon j
   exact e▸#[.bl _,H,I.kept<|D7 W,rfl,q]
def IK:ZC X (.builtin "min") (P2 X):=by
 intro Y s O H xs R Q I r h;apply At h;rintro F x m rfl⟨w,K,q⟩;apply I0 (VN r);rintro U rfl n;cases w with
 |@lst l ys _ G u=>
  cases n;have L:=Hf u;subst L;apply L3 (I.list (SqL.of G));intro f o p T;have M:=p.isList;have W:=Hi o;have d:=W.length;have hpos:=Gh.mpr K;have B:l<s.heap.objs.size:=by exact I0 M λ_ e _=>Xk e
  refine call_min_walk (wpAny_pyIter_list M (#[s.heap.objs.size,[s.heap.objs.size,l],[s.heap.objs.size],f.toArray.size,_,_,_,rfl,Walks.list (A:=X.A.in1) (I.ok.hd F) _ l (Xq B) f.toArray,
   #[#[_,Xn _ rfl,rfl,rfl],M.push _],λb C=>?_,by simp only[Xw];lia,CmpOf.ints_lt (λi=>m.getD i 0) (λi v D=>Uk W<|by simpa using D),λv h' S D z=>?_]))
  .rw[Yy];rcases Xc.mp C with rfl|C
   .exact JF _
   .rcases Xc.mp C with rfl|C
    .exact JG B
    .cases C
  .rw[List.getElem?_toArray]at D;obtain⟨t,rfl⟩:=Uk W D;obtain⟨J,g⟩:=argBest_lt (λi=>m.getD i 0) (f.toArray.size-1);have y:f.toArray.size=f.length:=by simp
   generalize argBest _ (f.toArray.size-1)=k at J g ⊢;have P:k<m.length:=#[]
   have N:m.getD k 0=Wg m:=by
    refine Iq (by simp[P]) λa c=>?_;obtain⟨j,E,rfl⟩:=Gi.mp c
    have:=g j #[];simpa [E] using this
   exact#[.int<|Wg m,H,I.kept<|D7 z,#[t,by rw[N]],q]
end L2
namespace Mir
def WN(ns:Ql)(k:Int):Int:=ns.getD k.toNat 0
noncomputable def AD(x:Int):Nat:=if x==0 then 0 else x.natAbs.log2+1
def Au(i:Int):Int:=if i<0 then -i else i
noncomputable def mix(head k:Int):Nat->Int×Int×Int
 |0=>(head%2147483629+7919*k,69621*k+5,0)
 |i+1=>
  ((((mix head k i).1*48271+11+(i:Int)*k)%2147483647),
   (((mix head k i).2.1*16807+((mix head k i).1*48271+11+(i:Int)*k)%2147483647)%2147483629),
   (mix head k i).2.2*2147483629+(((mix head k i).2.1*16807+((mix head k i).1*48271+11+(i:Int)*k)%2147483647)%2147483629*(((mix head k i).2.1*16807+((mix head k i).1*48271+11+(i:Int)*k)%2147483647)%2147483629)+((mix head k i).1*48271+11+(i:Int)*k)%2147483647)%2147483587)
noncomputable def EO(ns:Ql)(k:Int):Int:=
 if WN ns 0/720%2=1 then (mix (WN ns 0) k 30).2.2 else Au (WN ns k)+(mix (WN ns 0) k 30).2.2*2^AD (Au<|WN ns k)
structure Ln where
 up:Option Nat
 bs:Ql
structure Yd where
 T:Nat
 ls:List Ln
noncomputable def Zn(y:Yd)(k:Nat):Option Nat:=(y.ls[k]?).bind (·.up)
structure Yd.Ok(y:Yd):Prop where
 t1:1<=y.T
 t8:y.T<=8
 l1:1<=y.ls.length
 l5:y.ls.length<=5
 up0:Zn y 0=none
 ups:∀k,0<k->k<y.ls.length->∃a,Zn y k=some a/\a<k
 bl:∀l∈y.ls,l.bs.length=y.T
 bb:∀l∈y.ls,∀b∈l.bs,0<=b/\b<10^300
def GW{b:Int}(h:b<10^30):b<10^300:=Int.lt_trans h (by decide +kernel)
noncomputable def upF9(y:Yd):Nat->Nat->Qk
 |0,k=>[k]
 |n+1,k=>k::match Zn y k with
  |none=>[]
  |some a=>if a<k then upF9 y n a else []
theorem upE9(y:Yd):∀n k m,k<=n->k<=m->upF9 y n k=upF9 y m k
 |0,k,0,_,_=>rfl
 |0,k,m+1,h,_=>by
  cases Nat.le_zero.mp h;unfold upF9;cases Zn y 0<;>simp
 |n+1,k,0,_,h=>by
  cases Nat.le_zero.mp h;unfold upF9;cases Zn y 0<;>simp
 |n+1,k,m+1,h,g=>by
  unfold upF9;cases Zn y k with
  |none=>rfl
  |some a=>
   by_cases l:a<k
   .simp only[l,if_true,upE9 y n a m (by omega)<|by omega]
   .simp only[l,if_false]
def upL(y:Yd)(k:Nat):Qk:=upF9 y k k
theorem upD9(y:Yd)(k:Nat):upL y k=k::match Zn y k with|none=>[]|some a=>if a<k then upL y a else []:=by
 unfold upL;rw[upE9 y k k (k+1) (Nat.le_refl _)<|by omega];show k::_=_
 cases Zn y k with
 |none=>rfl
 |some a=>
  by_cases l:a<k
  .simp only[l,if_true,upE9 y k a a (by omega)<|Nat.le_refl _]
  .simp only[l,if_false]
def TM{y:Yd}(f:y.Ok)(h:k<y.ls.length):upL y k=if k=0 then [0] else k::upL y ((Zn y k).getD 0):=by
 rw[upD9];by_cases j:k=0
 .subst j;simp[f.up0]
 .apply I0 (f.ups k #[] h);intro a e l;simp_all
def TY(y:Yd):∀k,∀j∈upL y k,j<=k:=by
 intro k;induction k using Nat.strongRecOn with
 |ind k m=>
  intro j f;rw[upD9]at f;rcases Xc.mp f with rfl|f
  .exact Xm _
  .cases e:Zn y k with
   |none=>rw[e]at f;simp at f
   |some a=>
    rw[e]at f;by_cases h:a<k
    .simp only[h]at f;have:=m a h j f;lia
    .simp only[h,if_false]at f;simp at f
def N8(y:Yd)(k:Nat):k∈upL y k:=by rw[upD9];exact Xb
def K4{y:Yd}(f:y.Ok)(m:0<k)(h:k<y.ls.length)(e:Zn y k=some a)(l:Nat)(j:l≠k):l∈upL y k↔l∈upL y a:=by
 rw[TM f h,Xg<|#[]];grind
end Mir
namespace Mir
structure Gs where
 line:Nat
 first:Nat
 last:Nat
 want:Int
 most:Int
structure Gs.Ok(y:Yd)(g:Gs):Prop where
 ln:g.line<y.ls.length
 fl:g.first<=g.last
 lt:g.last<y.T
 w1:1<=g.want
 w2:g.want<10^300
 m1:1<=g.most
 m2:g.most<10^300
def gn0(ns:Ql)(k:Nat):Int:=EO ns (6+(k:Int))
def gn1(ns:Ql)(y:Yd)(k:Nat):Int:=gn0 ns k/(y.ls.length:Int)
def gn2(ns:Ql)(y:Yd)(k:Nat):Int:=gn1 ns y k/(y.T:Int)
def gf(ns:Ql)(y:Yd)(k:Nat):Int:=gn1 ns y k%(y.T:Int)
def gl(ns:Ql)(y:Yd)(k:Nat):Int:=gf ns y k+gn2 ns y k%((y.T:Int)-gf ns y k)
noncomputable def Ug(g:Gs)(t:Int):Bool:=decide ((g.first:Int)<=t)&&decide (t<=(g.last:Int))
noncomputable def ZU(y:Yd)(l:Nat)(t:Nat):Int:=(((y.ls[l]?).map (·.bs)).getD []).getD t 0
noncomputable def V9(S:List Gs)(t:Int)(l:Nat):Qk->Int
 |[]=>0
 |k::r=>(match S[k]? with|some g=>if g.line=l/\Ug g t=true then g.most else 0|none=>0)+V9 S t l r
def Hq(S:List Gs)(t:Int)(l:Nat)(a b:Qk):V9 S t l (a++b)=V9 S t l a+V9 S t l b:=by
 induction a with
 |nil=>simp[V9]
 |cons k r f=>simp only[JD,V9,f];lia
noncomputable def UK(y:Yd)(b:Qn)(st:Qn)(j:Nat):Qn:=λl=>st l+(if Zn y j=some l then min (st j) (b j) else 0)
noncomputable def Y7(y:Yd)(b own:Qn):Nat->Qn
 |0=>own
 |i+1=>UK y b (Y7 y b own i) (y.ls.length-1-i)
noncomputable def YU(y:Yd)(b own:Qn)(l:Nat):Int:=Y7 y b own (y.ls.length-1) l
def passes(y:Yd)(b own:Qn)(l:Nat):Int:=min (YU y b own l) (b l)
noncomputable def Uq(y:Yd)(b own:Qn)(l:Nat):Qn
 |0=>0
 |n+1=>Uq y b own l n+(if Zn y (l+1+n)=some l then passes y b own (l+1+n) else 0)
theorem CG(y:Yd)(f:y.Ok)(b own:Qn)(l:Nat):∀i,i<=y.ls.length-1->y.ls.length-1-i<=l->∀d,i+d<=y.ls.length-1->Y7 y b own (i+d) l=Y7 y b own i l
 |i,j,h,0,_=>rfl
 |i,j,h,d+1,B=>by
  have m:=CG y f b own l i j h d #[];show UK y b (Y7 y b own<|i+d) (y.ls.length-1-(i+d)) l=_;unfold UK;rw[m];by_cases q:0<y.ls.length-1-(i+d)
  .obtain⟨a,s,A⟩:=f.ups _ q #[];rw[s];have:¬some a=some l:=by
    intro z;lia
   simp_all
  .lia
def Zof{y:Yd}(f:y.Ok)(b own:Qn)(h:j<y.ls.length):Y7 y b own (y.ls.length-1-j) j=YU y b own j:=by
 have:=CG y f b own j (y.ls.length-1-j) #[] #[] j #[];exact ((show y.ls.length-1-j+j=y.ls.length-1 by lia)▸this).symm
theorem Cb{y:Yd}(f:y.Ok)(b own:Qn)(l:Nat):∀i,i<=y.ls.length-1->Y7 y b own i l+Uq y b own l (y.ls.length-1-i-l)=own l+Uq y b own l (y.ls.length-1-l)
 |0,_=>by simp[Y7]
 |i+1,K=>by
  have m:=Cb f b own l i #[];have e:Y7 y b own (i+1) l=Y7 y b own i l+(if Zn y (y.ls.length-1-i)=some l then passes y b own (y.ls.length-1-i) else 0):=by
   show UK y b (Y7 y b own i) _ l=_;unfold UK passes;have q:y.ls.length-1-i<y.ls.length:=by have:=f.l1;lia
   have j:=Zof f b own q;rw[show y.ls.length-1-_=i by lia]at j;rw[j]
  rw[e];by_cases D:l<y.ls.length-1-i
  .obtain⟨d,A⟩:∃d,y.ls.length-1-i-l=d+1:=⟨y.ls.length-1-i-l-1,#[]⟩
   rw[A]at m;have h:y.ls.length-1-(i+1)-l=d:=#[]
   rw[h];have B:l+1+d=y.ls.length-1-i:=#[]
   simp only[Uq,B]at m;lia
  .have P:y.ls.length-1-i-l=0:=#[]
   have h:y.ls.length-1-(i+1)-l=0:=#[]
   rw[h];have:¬Zn y (y.ls.length-1-i)=some l:=by
    intro z;have s:0<y.ls.length-1-i:=#[]
    obtain⟨a,M,C⟩:=f.ups _ s #[];lia
   simp_all
def ZrQ{y:Yd}(f:y.Ok)(b own:Qn)(l:Nat):YU y b own l=own l+Uq y b own l (y.ls.length-1-l):=by
 have h:=Cb f b own l _ (Xm _);rw[show y.ls.length-1-_-l=0 by lia]at h;simp only[Uq]at h;unfold YU;lia
end Mir
namespace Mir
noncomputable def QD(f:Qn):Qn
 |0=>0
 |n+1=>QD f n+f n
theorem Z4{f g:Qn}:∀{n:Nat},(∀k,k<n->f k=g k)->QD f n=QD g n
 |0,_=>rfl
 |n+1,h=>by
  simp only[QD];rw[Z4 λk j=>h k<|#[],h n<|#[]]
theorem Jc{f g:Qn}:∀{n:Nat},(∀k,k<n->f k<=g k)->QD f n<=QD g n
 |0,_=>Gk _
 |n+1,h=>by
  simp only[QD];have:=Jc (n:=n) λk j=>h k #[]
  have:=h n #[];lia
theorem Mn(f g:Qn):∀n,QD (λk=>f k+g k) n=QD f n+QD g n
 |0=>rfl
 |n+1=>by simp only[QD];rw[Mn f g n];lia
theorem DJ(c:Int)(f:Qn):∀n,QD (λk=>c*f k) n=c*QD f n
 |0=>by simp[QD]
 |n+1=>by simp only[QD];rw[DJ c f n,Int.mul_add]
theorem Yu:∀n,QD (λ_=>0) n=0
 |0=>rfl
 |n+1=>by simp only[QD];rw[Yu n];rfl
theorem GT{a:Nat}{v:Int}:∀{n:Nat},QD (λl=>if l=a then v else 0) n=if a<n then v else 0
 |0=>by simp[QD]
 |n+1=>by
  simp only[QD];rw[GT];by_cases h:n=a
  .subst h;simp
  .by_cases f:a<n
   .simp[h,f];lia
   .have:¬a<n+1:=#[]
    simp[h,f,this]
def Ie{f:Qn}(h:∀k,k<n->0<=f k):0<=QD f n:=by
 have:=Jc h;rwa[Yu]at this
noncomputable def wgt(S:List Gs)(t:Int)(l k:Nat):Int:=match S[k]? with|some g=>if g.line=l/\Ug g t=true then g.most else 0|none=>0
def Iz(S:List Gs)(t:Int)(l k:Nat):V9 S t l [k]=wgt S t l k:=by
 simp only[V9,wgt];cases S[k]? with
 |none=>rfl
 |some g=>simp
def Zo6(S:List Gs)(t:Int)(l:Nat)(p:Qm)(m:Nat):V9 S t l ((List.range m).filter p)=QD (λk=>if p k=true then wgt S t l k else 0) m:=by
 induction m with
 |zero=>rfl
 |succ m f=>
  rw[WF,Bt,Hq,f];simp only[QD];cases e:p m with
  |true=>simp only[HE,e,if_true,List.filter_nil,Iz]
  |false=>simp only[HE,e,List.filter_nil,V9,Hw,if_false]
theorem Hl(f:Nat->Qn)(n:Nat):∀m,QD (λl=>QD (λk=>f l k) m) n=QD (λk=>QD (λl=>f l k) n) m
 |0=>by simp only[QD];exact Yu n
 |m+1=>by
  simp only[QD];rw[Mn,Hl f n m]
end Mir
namespace L2
structure Q1(F H F' J:Hp):Prop where
 hh:Q4 H J
 ff:Q4 F F'
 fh:Q4 F' J
 fr:∀a,F' a≠none->F a≠none\/H a=none
def Q1.refl(s:Q4 F H):Q1 F H F H:=#[Q4.refl _,Q4.refl _,s,λ_ h=>.inl h]
def Q1.trans(a:Q1 F H F1 E)(b:Q1 F1 E F2 H2):Q1 F H F2 H2:=
 #[a.hh.trans b.hh,a.ff.trans b.ff,b.fh,λp h=>by
  rcases b.fr p h with z|z
  .exact a.fr p z
  .exact .inr (a.hh.free z)]
def ZE{H:Hp}{a:Addr}{o:HO}(h:H a=some o):H a≠none:=by rw[h];rintro⟨⟩
def Nt{H:Hp}{a:Addr}(h:H a≠none):∃o,H a=some o:=by
 cases e:H a with
 |none=>exact Xo e h
 |some o=>exact#[o,rfl]
def ZrR(s:Q4 F H):Q4 (upd F p o) (upd H p o):=λb f e=>by
 by_cases h:b=p
 .subst h;rw[QF]at e ⊢;exact e
 .rw[Qv h]at e ⊢;exact s b f e
def Q1.new(s:Q4 F H)(f:H p=none):Q1 F H (upd F p o) (upd H p o):=
 #[Q4.new f,Q4.new<|s.free f,ZrR s,λa h=>by
  by_cases e:a=p
  .subst e;exact .inr f
  .rw[Qv e]at h;exact .inl h]
def Q1.own(s:Q4 F H)(f:H p=none):Q1 F H F (upd H p o):=
 #[Q4.new f,Q4.refl _,s.upd<|s.free f,λ_ h=>.inl h]
def Q1.freeze(x:Q1 F0 D F H)(j:F a=none)(f:H a=some o)(m:D a=none):Q1 F0 D (upd F a o) H:=
 #[x.hh,x.ff.trans<|Q4.new j,λb q e=>by
  by_cases h:b=a
  .subst h;rw[QF]at e;rw[f];exact e
  .rw[Qv h]at e;exact x.fh b q e,λb h=>by
  by_cases e:b=a
  .subst e;exact .inr m
  .rw[Qv e]at h;exact x.fr b h]
def Q1.free(x:Q1 F H F' J)(h:F a=none)(f:H a≠none):F' a=none:=by
 cases e:F' a with
 |none=>rfl
 |some o=>
  rcases x.fr a (ZE e) with z|z
  .exact Xo h z
  .exact Xo z f
structure OwnP where
 ok:W.Frag->Hp->Hp->V->Qg->Prop
 there:∀{K:W.Frag} {F H:Hp} {v:V} {p:Qg},ok K F H v p->∀a∈p,F a=none/\H a≠none
 mono:∀{K:W.Frag} {F F' H J:Hp} {v:V} {p:Qg},Q4 F F'->(∀a∈p,F' a=none)->(∀a∈p,J a=H a)->ok K F H v p->ok K F' J v p
 uniq:∀{K:W.Frag} {F H:Hp} {v:V} {p q:Qg},ok K F H v p->ok K F H v q->∀a∈q,a∈p
structure ZP where
 ok:W.Frag->Hp->V->Prop
 mono:∀{K:W.Frag} {F F':Hp} {v:V},Q4 F F'->ok K F v->ok K F' v
inductive OT where
 |zow (Ψ:ZP)
 |fz (d:PyData)
 |ol (ds:Qd)
 |oll (T1:List (Qd))
 |scr (ns:Ql)
 |own (v:V)(Φ:OwnP)
abbrev ZbB:=List (Option OT)
abbrev zi(n:Int):Option OT:=some (.fz (.int n))
abbrev zf(d:PyData):Option OT:=some (.fz d)
abbrev zo(v:V)(d:OwnP):Option OT:=some (.own v d)
abbrev zz(d:ZP):Option OT:=some (.zow d)
abbrev zr(N:List Str)(ts:List OT):ZbB:=ts.map some++List.replicate (N.length-ts.length) none
abbrev zg(r:ZbB)(i:Nat)(t:Option OT):Prop:=r[i]?=some t
def Yz(F H:Hp)(a:Addr)(ds:Qd):Prop:=F a=none/\∃xs,H a=some (.lst xs)/\Zt F xs ds
def Vb(F H:Hp):Qg->List (Qd)->Prop
 |[],[]=>True
 |a::h,ds::f=>Yz F H a ds/\Vb F H h f
 |_,_=>False
def Zy(K:W.Frag)(F H:Hp)(v:V):OT->Qg->Prop
 |.fz d,p=>p=[]/\Rep F v d
 |.ol ds,p=>∃a,v=.ref a/\p=[a]/\Yz F H a ds
 |.oll h,p=>∃a f,v=.ref a/\p=a::f/\(a::f).Nodup/\F a=none/\H a=some (.lst<|f.map V.ref)/\Vb F H f h
 |.scr s,p=>p=[]/\∃a,v=.ref a/\Scr K F a s
 |.own q m,p=>v=q/\m.ok K F H v p
 |.zow j,p=>p=[]/\j.ok K F v
def Q4.at_eq(s:Q4 H J)(h:H a≠none):J a=H a:=by
 cases e:H a with
 |none=>exact Xo e h
 |some o=>exact s _ _ e
def Yz.ext(h:Yz F H a ds)(x:Q1 F H F' J):Yz F' J a ds:=by
 exact By h λU xs f j=>#[x.free U<|ZE f,xs,x.hh _ _ f,j.mono x.ff]
theorem Vb.mem{F H:Hp}:∀{as:Qg} {j:List (Qd)},Vb F H as j->∀a∈as,F a=none/\H a≠none
 |[],[],_,a,f=>by cases f
 |b::as,_::_,h,a,f=>by
  rcases Xc.mp f with rfl|f
  .obtain⟨U,xs,m,_⟩:=h.1;exact#[U,ZE m]
  .exact Vb.mem h.2 a f
 |[],_::_,h,_,_=>False.elim h
 |_::_,[],h,_,_=>False.elim h
def Zy.there(h:Zy K F H v t p):∀a∈p,F a=none/\H a≠none:=by
 cases t with
 |fz d=>obtain⟨rfl,_⟩:=h;intro a j;cases j
 |zow D=>obtain⟨rfl,_⟩:=h;intro a j;cases j
 |ol ds=>
  obtain⟨a,U,rfl,q,xs,m,_⟩:=h;intro b f;have e:=by simpa using f
  subst e;exact#[q,ZE m]
 |oll C=>
  obtain⟨a,W,U,rfl,q,m,B,A⟩:=h;intro b f;rcases Xc.mp f with rfl|f
  .exact#[m,ZE B]
  .exact A.mem b f
 |scr P=>obtain⟨rfl,_⟩:=h;intro a j;cases j
 |own M s=>exact s.there h.2
theorem Vb.move{F m H J:Hp}(s:Q4 F m):∀{as:Qg} {f:List (Qd)},(∀a∈as,m a=none)->(∀a∈as,J a=H a)->Vb F H as f->Vb m J as f
 |[],[],_,_,_=>trivial
 |a::as,_::_,A,q,o=>by
  obtain⟨⟨U,xs,D,C⟩,B⟩:=o;exact#[#[A a Xb,xs,by rw[q a Xb];exact D,C.mono s],Vb.move s (λb j=>A b<|Xf _ j) (λb j=>q b<|Xf _ j) B]
 |[],_::_,_,_,h=>False.elim h
 |_::_,[],_,_,h=>False.elim h
def Zy.move(s:Q4 F F')(m:∀a∈p,F' a=none)(j:∀a∈p,J a=H a)(h:Zy K F H v t p):Zy K F' J v t p:=by
 cases t with
 |fz d=>exact#[h.1,h.2.mono s]
 |zow B=>exact#[h.1,B.mono s h.2]
 |ol ds=>
  obtain⟨a,rfl,rfl,U,xs,q,f⟩:=h;exact#[a,rfl,rfl,m a Xb,xs,by rw[j a Xb];exact q,f.mono s]
 |oll M=>
  obtain⟨a,P,rfl,rfl,U,q,f,D⟩:=h;exact#[a,P,rfl,rfl,U,m a Xb,by rw[j a Xb];exact f,D.move s (λb A=>m b<|Xf _ A) λb A=>j b<|Xf _ A]
 |scr X=>obtain⟨U,a,q,f⟩:=h;exact#[U,a,q,f.mono s]
 |own W C=>exact#[h.1,C.mono s m j h.2]
theorem NW:∀{as bs:Qg},as.map V.ref=bs.map V.ref->as=bs
 |[],[],_=>rfl
 |a::as,b::bs,h=>by
  injection h with U f;cases U;rw[NW f]
 |[],_::_,h=>by cases h
 |_::_,[],h=>by cases h
def Mh{w:V}{q:Qg}(h:Zy K F H w t p)(h':Zy K F H w t q):∀b∈q,b∈p:=by
 cases t with
 |fz d=>rw[h'.1];intro b f;cases f
 |zow X=>rw[h'.1];intro b f;cases f
 |ol ds=>
  refine L3 h' λi B A s=>L3 h λg m C j=>?_
  grind
 |oll W=>
  refine aN h' λa k B A _ _ s _=>aN h λb e m C _ _ j _=>?_;rw[B]at m;cases m;rw[s]at j;injection j with P;injection P with M;rw[A,C,NW M];exact λ_ z=>z
 |scr c=>rw[h'.1];intro b f;cases f
 |own Y D=>exact D.uniq h.2 h'.2
def Vb.ext(x:Q1 F H F' J)(h:Vb F H as T1):Vb F' J as T1:=h.move x.ff (λa f=>x.free (h.mem a f).1 (h.mem a f).2) λa f=>x.hh.at_eq (h.mem a f).2
def Zy.ext(h:Zy K F H v t p)(x:Q1 F H F' J):Zy K F' J v t p:=h.move x.ff (λa f=>x.free (h.there a f).1 (h.there a f).2) λa f=>x.hh.at_eq (h.there a f).2
def Vb.other{b:Addr}(h:Vb F H as T1)(n:b∉as):Vb F (upd H b o) as T1:=h.move (Q4.refl _) (λa f=>(h.mem a f).1) λa f=>Qv λz=>n (z▸f)
def KTs(K:W.Frag)(F:Hp):Prop:=W.nsIn K mainGlobals "START"=some none\/∃f h,W.nsIn K mainGlobals "START"=some (some<|.ref f)/\W.nsIn K mainGlobals "END"=some (some<|.ref h)/\F f=some (.tup [.str "start"])/\F h=some (.tup [.str "end"])
def KTs.mono(h:KTs K F)(s:Q4 F F'):KTs K F':=
 h.imp id<|by rintro⟨q,A,U,m,j,f⟩;exact#[q,A,U,m,s _ _ j,s _ _ f]
structure QB(K:W.Frag)(D F:Hp)(Z:ZbB)(O:St)(H:Hp):Prop where
 kt:KTs K F
 sub:Q4 F H
 len:O.length=Z.length
 fp:∃fp:Nat->Qg,(∀(i:Nat) (t:OT),Z[i]?=some (some t)->∃v,O[i]?=some (some v)/\Zy K F H v t (fp i))/\
  (∀(i j:Nat) (a:Addr),a∈fp i->a∈fp j->i=j)/\∀(i:Nat) (a:Addr),a∈fp i->D a=none/\H a≠none
def QB.ext(s:QB K D F Z O H)(x:Q1 F H F' J):QB K D F' Z O J:=by
 obtain⟨j,U,C,M,B,A,q⟩:=s;refine#[j.mono x.ff,x.fh,C,M,λi t e=>?_,A,λi a m=>?_]
 .obtain⟨v,h,f⟩:=B i t e;exact#[v,h,f.ext x]
 .obtain⟨h,f⟩:=q i a m;obtain⟨o,P⟩:=Nt f;exact#[h,ZE<|x.hh _ _ P]
def Fgt:ZbB->ZbB->Prop
 |[],[]=>True
 |_::r,none::f=>Fgt r f
 |s::r,some x::f=>s=some x/\Fgt r f
 |_,_=>False
theorem Fgt.len:∀{Z f:ZbB},Fgt Z f->Z.length=f.length
 |[],[],_=>rfl
 |_::r,none::j,h=>by
  have h':Fgt r j:=h;simp[Fgt.len h']
 |s::r,some x::j,h=>by
  have h':=h;simp[Fgt.len h'.2]
 |[],none::_,h=>False.elim h
 |[],some _::_,h=>False.elim h
 |_::_,[],h=>False.elim h
theorem Fgt.get:∀{Z f:ZbB},Fgt Z f->∀(i:Nat) (t:OT),f[i]?=some (some t)->Z[i]?=some (some t)
 |[],[],_,i,t,e=>by simp at e
 |_::r,none::j,h,0,t,e=>by simp at e
 |_::r,none::j,h,i+1,t,e=>by
  have h':Fgt r j:=h;have:=Fgt.get h' i t (by simpa using e);simpa using this
 |s::r,some x::j,h,0,t,e=>by
  have h':=h;simp at e;subst e;simp[h'.1]
 |s::r,some x::j,h,i+1,t,e=>by
  have h':=h;have:=Fgt.get h'.2 i t (by simpa using e);simpa using this
 |[],none::_,h,_,_,_=>False.elim h
 |[],some _::_,h,_,_,_=>False.elim h
 |_::_,[],h,_,_,_=>False.elim h
def QB.fgt(s:QB K D F Z O H)(f:Fgt Z ρ'):QB K D F ρ' O H:=by
 obtain⟨h,U,A,B,q,m,j⟩:=s;exact#[h,U,A.trans f.len,B,λi t e=>q i t<|f.get i t e,m,j]
def QB.set(s:QB K D F Z O H)(l:Zy K F H v t p)
(u:∀(a:Addr),a∈p->D a=none)
(hn:∀(a:Addr),a∈p->∀(j:Nat) (f:V) (t':OT) (q:Qg),Z[j]?=some (some t')->O[j]?=some (some f)->Zy K F H f t' q->a∉q):
 QB K D F (Z.set i<|some t) (O.set i<|some v) H:=by
 obtain⟨r,U,y,X,n,x,J⟩:=s;refine#[r,U,by simp[y],λj=>if j=i then p else if (Z[j]?).join.isSome then X j else [],λj t' e=>?_,λj k a P d=>?_,λj a P=>?_]
 .by_cases h:j=i
  .subst h;have b:=by
    have:=(Xh.mp e).1;simpa using this
   rw[X6 b]at e;cases e;refine#[v,X6<|#[],?_];dsimp only;rw[Xi rfl];exact l
  .rw[X7<|Ne.symm h]at e;obtain⟨f,C,B⟩:=n j t' e;refine#[f,by rw[X7<|Ne.symm h];exact C,?_];dsimp only;rw[Xg h,e];exact B
 .have A:∀(j:Nat),j≠i->a∈(if j=i then p else if (Z[j]?).join.isSome then X j else [])->∃t' f,Z[j]?=some (some t')/\O[j]?=some (some f)/\Zy K F H f t' (X j)/\a∈X j:=λj h M=>by
   rw[Xg h]at M;cases e:(Z[j]?).join with
   |none=>rw[e]at M;simp at M
   |some t'=>
    rw[e]at M;have o:Z[j]?=some (some t'):=by
     cases z:Z[j]? with
     |none=>rw[z]at e;simp at e
     |some w=>rw[z]at e;simp at e;rw[e]
    obtain⟨f,C,B⟩:=n j t' o;exact#[t',f,o,C,B,by simpa using M]
  by_cases h:j=i
  .by_cases W:k=i
   .lia
   .obtain⟨t',f,C,B,g,Y⟩:=A k W d;have m:=by simpa [h] using P
    exact Xo Y (hn a m k f t' _ C B g)
  .obtain⟨t',f,C,B,g,Y⟩:=A j h P
   by_cases W:k=i
   .have c:=by simpa [W] using d
    exact Xo Y (hn a c j f t' _ C B g)
   .obtain⟨I,G,Q,N,L,E⟩:=A k W d;exact x j k a Y E
 .by_cases h:j=i
  .have m:=by simpa [h] using P
   exact#[u a m,(l.there a m).2]
  .simp only[Xg h]at P
   grind
def QB.setF(s:QB K D F Z O H)(r:Rep F v d):QB K D F (Z.set i<|zf d) (O.set i<|some v) H:=
 s.set #[rfl,r] (by rintro a ⟨⟩) (hn:=λa f=>nomatch f)
def QB.chg(s:QB K D F Z O H)(e:Z[i]?=some (some t)):
 ∃v p,O[i]?=some (some v)/\Zy K F H v t p/\(∀b∈p,D b=none/\F b=none/\H b≠none)/\∀M J t' a,Q4 F M->Q4 M J->(∀b,b∉p->H b≠none->J b=H b)->(∀b,M b≠none->F b≠none\/H b=none\/b∈p)->Zy K M J v t' a->(∀b∈a,b∈p\/(H b=none/\D b=none))->
  QB K D M (Z.set i<|some t') O J/\∀j A m q,j≠i->Z[j]?=some (some m)->O[j]?=some (some A)->Zy K M J A m q->∀b∈q,b∉p/\H b≠none:=by
 obtain⟨R,U,T,P,n,L,C⟩:=s;apply I0 (n i _ e);intro v e1 w;have l:=(Xh.mp e).1;refine#[v,P i,e1,w,λb f=>#[(C i b f).1,w.there b f],λM J t' a u N S fr g Y=>?_];have B:∀j,j≠i->∀b∈P j,b∉P i:=λj h b f z=>h (L j i b f z);have I:=λj h b f=>S b (B j h b f) (C j b f).2
 have E:∀j m A,j≠i->Zy K F H A m (P j)->Zy K M J A m (P j):=λj m A h X=>X.move u (λb f=>Classical.byContradiction λz=>by
  rcases fr b z with y|y|y
  .exact y (X.there b f).1
  .exact(C j b f).2 y
  .exact B j h b f y) (I j h)
 have x:∀j,j≠i->∀b∈P j,b∉a:=λj h b f z=>by
  rcases Y b z with y|y
  .exact B j h b f y
  .exact(C j b f).2 y.1
 refine#[#[R.mono u,N,by simp[T],λj=>if j=i then a else P j,λj m r=>?_,λj k b f W=>?_,λj b f=>?_],λj A m q h Q G d b f=>?_]
 .by_cases h:j=i
  .subst h;rw[X6 l]at r;grind
  .rw[X7<|Ne.symm h]at r;exact I0 (n j m r) λA o X=>#[A,o,by simp only[Xg h];exact E j m A h X]
 .by_cases h:j=i<;>by_cases c:k=i
  .rw[h,c]
  .simp only[Xi h]at f;simp only[Xg c]at W;exact Xo f (x k c b W)
  .simp only[Xg h]at f;simp only[Xi c]at W;exact Xo W (x j h b f)
  .simp only[Xg h]at f;simp only[Xg c]at W;exact L j k b f W
 .by_cases h:j=i
  .simp only[Xi h]at f;exact#[(Y b f).elim (λz=>(C i b z).1) λz=>z.2,(g.there b f).2]
  .simp only[Xg h]at f;exact#[(C j b f).1,by rw[I j h b f];exact(C j b f).2]
 .apply I0 (n j m Q);intro u' o X;rw[o]at G;cases G;have z:=Mh (E j m A h X) d b f;exact#[B j h b z,(C j b z).2]
def QB.write(s:QB K D F Z O H)(e:Z[i]?=some (some<|.ol ds)):
 ∃a xs,O[i]?=some (some<|.ref a)/\H a=some (.lst xs)/\Zt F xs ds/\D a=none/\F a=none/\∀f j,Zt F f j->QB K D F (Z.set i<|some<|.ol j) O (upd H a<|.lst f):=by
 apply RC (s.chg e);rintro v p C⟨a,rfl,rfl,f0,xs,B,r⟩A k;exact#[a,xs,C,B,r,(A a Xb).1,f0,λf j q=>(k F _ (.ol j) [a] (Q4.refl _) (s.sub.upd f0) (λb m _=>Qv λz=>m<|by exact z▸Xb) (λb h=>.inl h) #[a,rfl,rfl,f0,f,QF,q] λb m=>.inl m).1]
def QB.freeze(s:QB K D F Z O H)(e:Z[i]?=some (some<|.ol ds)):
 ∃a xs,F a=none/\H a=some (.lst xs)/\D a=none/\O[i]?=some (some<|.ref a)/\Zt F xs ds/\QB K D (upd F a<|.lst xs) (Z.set i<|zf<|.list ds) O H:=by
 apply RC (s.chg e);rintro v p q⟨a,rfl,rfl,f0,xs,j,r⟩m k;refine#[a,xs,f0,j,(m a Xb).1,q,r,(k _ H (.fz _) [] (Q4.new f0) (λb A f=>?_) (λ_ _ _=>rfl) (λb f=>?_) #[rfl,.lst QF<|r.mono (Q4.new f0)]<|by rintro b ⟨⟩).1]
 .by_cases z:b=a
  .subst z;rw[QF]at f;rw[j];exact f
  .rw[Qv z]at f;exact s.sub b A f
 .by_cases z:b=a
  .exact .inr (.inr<|by exact z▸Xb)
  .rw[Qv z]at f;exact .inl f
inductive Args(K:W.Frag)(F:Hp):List V->List OT->Prop
 |nil:Args K F [] []
 |fz {v:V}{d:PyData}{vs:List V}{ts:List OT}:Rep F v d->Args K F vs ts->Args K F (v::vs) (.fz d::ts)
 |zow {v:V}{Ψ:ZP}{vs:List V}{ts:List OT}:Ψ.ok K F v->Args K F vs ts->Args K F (v::vs) (.zow Ψ::ts)
 |scr {a:Addr}{ns:Ql}{vs:List V}{ts:List OT}:Scr K F a ns->Args K F vs ts->Args K F (.ref a::vs) (.scr ns::ts)
def Args.mono(s:Q4 F F'):∀{vs:List V} {ts:List OT},Args K F vs ts->Args K F' vs ts:=by
 intro vs ts h;induction h with
 |nil=>exact .nil
 |fz r _ f=>exact .fz (r.mono s) f
 |scr r _ f=>exact .scr (r.mono s) f
 |@zow v j vs ts r _ f=>exact .zow (j.mono s r) f
def Args.length : ∀{vs:List V} {ts:List OT},Args K F vs ts->vs.length=ts.length:=by
 intro vs ts h;induction h with
 |nil=>rfl
 |fz _ _ f=>exact Xz Nat.succ f
 |scr _ _ f=>exact Xz Nat.succ f
 |zow _ _ f=>exact Xz Nat.succ f
def Args.get : ∀{vs:List V} {ts:List OT},Args K F vs ts->∀(i:Nat) (t:OT),ts[i]?=some t->∃v,vs[i]?=some v/\Zy K F H v t []:=by
 intro vs ts h;induction h with
 |nil=>intro i t e;simp at e
 |fz r _ f|scr r _ f|zow r _ f=>
  intro i t e;cases i with
  |succ i=>exact f i t e
  |zero=>cases Option.some.inj e;first|exact#[_,rfl,rfl,r]|exact#[_,rfl,rfl,_,rfl,r]
section
variable (K:W.Frag)
def Qr(t:TE)(Z:ZbB)(d:PyData):Prop := ∀(D F:Hp) (O:St) (H:Hp) (Q:VK),QB K D F Z O H->(∀f J v,Q1 F H f J->Rep f v d->Q v J)->t O H Q
def EvO(t:TE)(Z:ZbB)(r:OT):Prop := ∀(D F:Hp) (O:St) (H:Hp) (Q:VK),QB K D F Z O H->(∀f J v p,Q1 F H f J->(∀a∈p,H a=none)->Zy K f J v r p->Q v J)->t O H Q
def QZ(t:TT)(Z:ZbB)(b:Bool):Prop := ∀(D F:Hp) (O:St) (H:Hp) (Q:Bool->Hp->Prop),QB K D F Z O H->(∀f J,Q1 F H f J->Q b J)->t O H Q
def Zi(t:TA)(Z:ZbB)(ts:List OT):Prop := ∀(D F:Hp) (O:St) (H:Hp) (Q:List V->Hp->Prop),QB K D F Z O H->(∀h J f,Q1 F H h J->Args K h f ts->Q f J)->t O H Q
def Tw(s:Hp)(j:It)(ds:Qd):Prop := ∀(h f:Hp),Q4 s h->Q4 h f->j.stop ds.length f/\
 ∀(i:Nat) (d:PyData),ds[i]?=some d->j.go i f/\∀x m,j.yld i f x m->∃q,Q1 h f q m/\Rep q x d
def EvI(j:TI)(Z:ZbB)(ds:Qd):Prop := ∀(D F:Hp) (O:St) (H:Hp) (R:It->Hp->Prop),QB K D F Z O H->(∀h J f,Q1 F H h J->Tw h f ds->R f J)->j O H R
def GTo(g:TG)(d:PyData)(Z h:ZbB):Prop := ∀(D F:Hp) (O:St) (H:Hp) (x:V) (Q:St->Hp->Prop),QB K D F Z O H->Rep F x d->(∀f,QB K D F h f H->Q f H)->g x O H Q
def MT(g:TGs)(ds:Qd)(Z h:ZbB):Prop := ∀(D F:Hp) (O:St) (H:Hp) (xs:List V) (Q:St->Hp->Prop),QB K D F Z O H->Zt F xs ds->(∀f,QB K D F h f H->Q f H)->g xs O H Q
structure PEnds where
 nx:ZbB->Prop
 rt:OT->Prop
 bk:ZbB->Prop:=λ_=>False
 ct:ZbB->Prop:=λ_=>False
structure Cnv(F0 D:Hp)(H0:PEnds)(H1:Ends):Prop where
 nx:∀F O H Z,Q1 F0 D F H->QB K D F Z O H->H0.nx Z->H1.nx O H
 rt:∀F H v r p,Q1 F0 D F H->(∀a∈p,D a=none)->Zy K F H v r p->H0.rt r->H1.rt v H
 bk:∀F O H Z,Q1 F0 D F H->QB K D F Z O H->H0.bk Z->H1.bk O H
 ct:∀F O H Z,Q1 F0 D F H->QB K D F Z O H->H0.ct Z->H1.ct O H
def QE(t:TS)(Z:ZbB)(h:PEnds):Prop := ∀(F0 D F:Hp) (O:St) (H:Hp) (f:Ends),Q1 F0 D F H->QB K D F Z O H->Cnv K F0 D h f->t f O H
end
section
variable {Z:ZbB}{tb:TE}
def Qr.o(h:Qr K t Z d):EvO K t Z (.fz d):=λD F O H Q f q=>h D F O H Q f λj J v x r=>q j J v [] x (by rintro _ ⟨⟩) #[rfl,r]
def EvO.e(h:EvO K t Z (.fz d)):Qr K t Z d:=λD F O H Q f q=>h D F O H Q f λj J v p x _ r=>q j J v x r.2
def EvO.fz(h:EvO K t Z (.ol ds)):Qr K t Z (.list ds):=λD F O H Q A q=>h D F O H Q A λB J v p x s r=>by
 apply aW r;rintro a rfl rfl f xs m j;refine q _ J _ (x.freeze f m<|s a Xb) (.lst QF<|j.mono<|Q4.new f)
def nf{p:Prop}(h:false=true):p:=nomatch h
def nt{p:Prop}(h:true=false):p:=nomatch h
def Qq(e:Z[i]?=some (zf d):=by rfl):Qr K (Q5 i) Z d:=λD F O H Q f q=>by
 exact I0 f.fp λs h _=>I0 (h i _ e) λv m j=>#[v,m,q F H v (Q1.refl f.sub) j.2]
def Qz{i:Int}:Qr K (tC<|.int i) Z (.int i):=λD F O H Q f q=>q F H _ (Q1.refl f.sub) (.int i)
def Ww{b:Bool}:Qr K (tC<|.bl b) Z (.bool b):=λD F O H Q f q=>q F H _ (Q1.refl f.sub) (.bl b)
def W0:Qr K (tC .non) Z .none:=λD F O H Q f q=>q F H _ (Q1.refl f.sub) .non
def QU:Qr K (tC<|.str x) Z (.str x):=λD F O H Q f q=>q F H _ (Q1.refl f.sub) (.str x)
def YI{b:PyData}(C:Qr K ta Z a)(B:Qr K tb Z b)(q:QB K D F Z O H)
(h:∀f J x y,Q1 F H f J->Rep f x a->Rep f y b->r x y J Q):tOp r ta tb O H Q:=
 C D F O H _ q λW E x m A=>B D W O E _ (q.ext m) λP M y j s=>h P M x y (m.trans j) (A.mono j.ff) s
def ZB{g:Int->Int->Int}{y:Int}(s:Qr K ta Z (.int x))(m:Qr K tb Z (.int y)):Qr K (tOp (rI0 λi j=>.int<|g i j) ta tb) Z (.int<|g x y):=λD F O H Q A q=>
 YI s m A λB J C v e h f=>by cases h;cases f;exact#[x,y,rfl,rfl,q B J _ e<|.int _]
def Yj{g:Int->Int->Bool}{y:Int}(s:Qr K ta Z (.int x))(m:Qr K tb Z (.int y)):Qr K (tOp (rI0 λi j=>.bl<|g i j) ta tb) Z (.bool<|g x y):=λD F O H Q A q=>
 YI s m A λB J C v e h f=>by cases h;cases f;exact#[x,y,rfl,rfl,q B J _ e<|.bl _]
def Z8{C:Int->Int->Prop}{g:Int->Int->Int}{y:Int}(A:Qr K ta Z (.int x))(s:Qr K tb Z (.int y))(m:C x y):Qr K (tOp (rI C λi j=>.int<|g i j) ta tb) Z (.int<|g x y):=λD F O H Q B q=>
 YI A s B λM J P v e h f=>by cases h;cases f;exact#[x,y,rfl,rfl,m,q M J _ e<|.int _]
def Z0p{g:Int->Int}(j:Qr K ta Z (.int x)):Qr K (tUn (rU λi=>.int<|g i) ta) Z (.int<|g x):=λD F O H Q m q=>
 j D F O H _ m λs E v f h=>by cases h;exact#[x,rfl,q s E _ f<|.int _]
noncomputable def V1:PyData->Option V
 |.none=>some .non
 |.bool b=>some (.bl b)
 |.int i=>some (.int i)
 |.str x=>some (.str x)
 |_=>Option.none
def Rep.flat(r:Rep H x d)(e:V1 d=some v):x=v:=by
 cases r<;>simp[V1]at e<;>exact e
def TV{b:PyData}{w:V}(s:Qr K ta Z a)(m:Qr K tb Z b)(e1:V1 a=some v)(B:V1 b=some w)(j:∀(H:Hp) (Q:VK),Q (.bl<|decide (v=w)) H->rEq v w H Q):
 Qr K (tOp rEq ta tb) Z (.bool<|decide (v=w)):=λD F O H Q A q=>
 YI s m A λC J x y e h f=>by rw[h.flat e1,f.flat B];exact j _ _ (q C J _ e<|.bl _)
def En{b:PyData}{w:V}(s:Qr K ta Z a)(m:Qr K tb Z b)(e1:V1 a=some v)(B:V1 b=some w)(j:∀(H:Hp) (Q:VK),Q (.bl<|!decide (v=w)) H->rNe v w H Q):
 Qr K (tOp rNe ta tb) Z (.bool<|!decide (v=w)):=λD F O H Q A q=>
 YI s m A λC J x y e h f=>by rw[h.flat e1,f.flat B];exact j _ _ (q C J _ e<|.bl _)
def Zsk{y:Int}:decide (V.int x=V.int y)=decide (x=y):=by
 simp_all
def VP{y:Int}(h:Qr K ta Z (.int x))(f:Qr K tb Z (.int y)):Qr K (tOp rEq ta tb) Z (.bool<|decide (x=y)):=by
 exact Zsk▸(TV h f rfl rfl λH Q q=>#[rfl,q])
def Ky{b:PyData}(m:Qr K ta Z a)(j:Qr K tb Z b)(B:Vi a)(A:Vi b):Qr K (tOp MN ta tb) Z (.bool<|PyData.eqv a b):=λD F O H Q s q=>
 YI m j s λC J x y e h f=>#[a,b,h.mono e.fh,f.mono e.fh,B,A,q C J _ e<|.bl _]
def B8{b:PyData}(m:Qr K ta Z a)(j:Qr K tb Z b)(B:Vi a)(A:Vi b):Qr K (tOp HU ta tb) Z (.bool<|!PyData.eqv a b):=λD F O H Q s q=>
 YI m j s λC J x y e h f=>#[a,b,h.mono e.fh,f.mono e.fh,B,A,q C J _ e<|.bl _]
def B7:PyData->Bool
 |.none=>true
 |_=>false
def Rep.isNon(r:Rep H x d):decide (x=.non)=B7 d:=by cases r<;>rfl
def K2(j:Qr K ta Z a):Qr K (Ay ta) Z (.bool<|B7 a):=λD F O H Q m q=>
 j D F O H _ m λs E v f h=>by rw[h.isNon];exact q s E _ f (.bl _)
def D5(j:Qr K ta Z a):Qr K (Kt ta) Z (.bool<|!B7 a):=λD F O H Q m q=>
 j D F O H _ m λs E v f h=>by rw[h.isNon];exact q s E _ f (.bl _)
def Zq{b:Bool}(h:Qr K ta Z (.bool b)):QZ K (Jr ta) Z b:=λD F O H Q m q=>h D F O H _ m λs E v f j=>by cases j;exact#[b,rfl,q s E f]
def Z2{b:Bool}(h:Qr K ta Z (.bool b)):QZ K (tB ta) Z b:=λD F O H Q m q=>h D F O H _ m λs E v f j=>by cases j;exact#[b,rfl,q s E f]
def Po:QZ K G3 Z true:=λD F O H Q f q=>q F H (Q1.refl f.sub)
def K1{b c:Bool}(U:QZ K tA Z b)(s:b=true->QZ K tB' Z c):QZ K (HR tA tB') Z (b&&c):=λD F O H Q h q=>U D F O H _ h λj E f=>by
 cases b with
 |true=>rw[Xi rfl];exact s rfl D j O E Q (h.ext f) λB A m=>by simpa using q B A (f.trans m)
 |false=>rw[Xg XF];simpa using q j E f
def JW{b c:Bool}(U:QZ K tA Z b)(s:b=false->QZ K tB' Z c):QZ K (tOr tA tB') Z (b||c):=λD F O H Q h q=>U D F O H _ h λj E f=>by
 cases b with
 |false=>rw[Xg XF];exact s rfl D j O E Q (h.ext f) λB A m=>by simpa using q B A (f.trans m)
 |true=>rw[Xi rfl];simpa using q j E f
def Vm{b:Bool}(U:QZ K tA Z b):QZ K (A1 tA) Z (!b):=λD F O H Q h q=>U D F O H _ h λj E f=>q j E f
def VC{b c:Bool}(U:Qr K ta Z (.bool b))(B:b=true->Qr K tb Z (.bool c)):Qr K (Pz ta tb) Z (.bool<|b&&c):=λD F O H Q h q=>U D F O H _ h λj E v f A=>by
 cases A;refine#[b,rfl,?_];cases b with
 |true=>rw[Xi rfl];exact B rfl D j O E Q (h.ext f) λM C v m s=>by simpa using q M C v (f.trans m) (by simpa using s)
 |false=>rw[Xg XF];exact q j E _ f (.bl _)
def Kh(U:Qr K ta Z (.bool b))(B:b=false->Qr K tb Z (.bool c)):Qr K (SW ta tb) Z (.bool<|b||c):=λD F O H Q h q=>U D F O H _ h λj E v f A=>by
 cases A;refine#[b,rfl,?_];cases b with
 |false=>rw[Xg XF];exact B rfl D j O E Q (h.ext f) λM C v m s=>by simpa using q M C v (f.trans m) (by simpa using s)
 |true=>rw[Xi rfl];exact q j E _ f (.bl _)
def K3{b:Bool}(U:Qr K ta Z (.bool b)):Qr K (PP ta) Z (.bool<|!b):=λD F O H Q j q=>U D F O H _ j λm E v f h=>by cases h;exact#[b,rfl,q m E _ f<|.bl _]
def UU{g g':Int->Int->Bool}{x y z:Int}(Y:Qr K ta Z (.int x))(X:Qr K tb Z (.int y))(W:Qr K tc Z (.int z)):
 Qr K (K9 (rI0 λi j=>.bl<|g i j) (rI0 λi j=>.bl<|g' i j) ta tb tc) Z (.bool<|g x y&&g' y z):=λD F O H Q m q=>
 Y D F O H _ m λc E v f P=>X D c O E _ (m.ext f) λA s w h M=>by
  cases P;cases M;refine#[x,y,rfl,rfl,g x y,rfl,?_];cases e:g x y with
  |true=>rw[Xi rfl];exact W D A O s _ (m.ext<|f.trans h) λb a d B C=>by cases C;exact#[y,z,rfl,rfl,by simpa [e] using q b a _ ((f.trans h).trans B)<|by rw[e];exact .bl _]
  |false=>rw[Xg XF];simpa [e] using q A s _ (f.trans h) (by rw[e];exact .bl _)
def PM(U:QZ K tA Z b)(M:b=true->Qr K ta Z d)(C:b=false->Qr K tb Z d):Qr K (tIf tA ta tb) Z d:=λD F O H Q m q=>U D F O H _ m λB E f=>by
 cases b with
 |true=>rw[Xi rfl];exact M rfl D B O E Q (m.ext f) λA s v h j=>q A s v (f.trans h) j
 |false=>rw[Xg XF];exact C rfl D B O E Q (m.ext f) λA s v h j=>q A s v (f.trans h) j
def Q0:Zi K QH Z []:=λD F O H Q f q=>q F H [] (Q1.refl f.sub) .nil
def Qu(U:Qr K ta Z d)(A:Zi K t Z ts):Zi K (Q3 ta t) Z (.fz d::ts):=λD F O H Q j q=>
 U D F O H _ j λM E v h s=>A D M O E _ (j.ext h) λC B P f m=>q C B _ (h.trans f) (.fz (s.mono f.ff) m)
def Px(e:Z[i]?=some (some<|.scr ns))(s:Zi K t Z ts):Zi K (Q3 (Q5 i) t) Z (.scr ns::ts):=λD F O H Q j q=>by
 apply I0 j.fp;intro W h _;apply aP (h i _ e);rintro v B _ a⟨rfl,A⟩;exact#[_,B,s D F O H _ j λM C P f m=>q M C _ f<|.scr (A.mono f.ff) m]
def Dy(e:zg Z i<|zz Ψ)(s:Zi K t Z ts):Zi K (Q3 (Q5 i) t) Z (.zow Ψ::ts):=λD F O H Q j q=>by
 exact I0 j.fp λW h _=>L3 (h i _ e) λv B _ A=>#[_,B,s D F O H _ j λM C P f m=>q M C _ f<|.zow (Ψ.mono f.ff A) m]
def fzs(ds:Qd):List OT:=ds.map OT.fz
def Args.reps:∀{vs:List V} {ds:Qd},Args K F vs (fzs ds)->Zt F vs ds:=by
 intro vs ds h;induction ds generalizing vs with
 |nil=>cases h;exact .nil
 |cons d ds f=>
  cases h with
  |fz r t=>exact .cons r (f t)
def YW(h:Zi K t Z (fzs ds))(A:ds.length<=1000):Qr K (Wu t) Z (.tuple ds):=λD F O H Q B q=>
 h D F O H _ B λM E C f m=>#[by rw[m.reps.length];exact Wd<|Vz A,λp s=>by
  have j:=f.fh;exact q _ _ _ (f.trans<|Q1.new j s)<|.tup QF<|m.reps.mono<|Q4.new<|j.free s]
def BW(x:Q1 F0 D F H)(f:H p=none)(r:Zt F xs ds):Q1 F0 D F (upd H p<|.lst xs)/\(∀a∈[p],D a=none)/\Zy K F (upd H p<|.lst xs) (.ref p) (.ol ds) [p]:=
 #[x.trans<|Q1.own x.fh f,λa h=>by
  have e:=by simpa using h
  subst e;exact x.hh.free f,p,rfl,rfl,x.fh.free f,xs,QF,r]
def ZA(h:Zi K t Z (fzs ds))(s:ds.length<=1000):EvO K (Y1 t) Z (.ol ds):=λD F O H Q A q=>
 h D F O H _ A λC E B j f=>#[by rw[f.reps.length];exact Wd<|Vz s,λp m=>by
  exact KE (BW j m f.reps) λa b c=>q _ _ _ _ a b c]
def J8(r:Rep F x (.list ds))(s:Q4 F H):∃a xs,x=.ref a/\SqL K H a xs/\Zt F xs ds/\H a=some (.lst xs):=by
 cases r with
 |lst f h=>exact#[_,_,rfl,SqL.of<|s _ _ f,h,s _ _ f]
def DM(r:Rep F x (.tuple ds))(s:Q4 F H):∃a xs,x=.ref a/\SqT K H a xs/\Zt F xs ds/\H a=some (.tup xs):=by
 cases r with
 |tup f h=>exact#[_,_,rfl,SqT.of<|s _ _ f,h,s _ _ f]
def GZ{i:Int}(r:Zt F xs ds)(e:atI ds i=some d):∃z,atI xs i=some z/\Rep F z d:=by
 refine I0 (Td e) λj q m=>I0 (r.get q) λz h f=>#[z,?_,f];unfold atI;rw[r.length,m];exact h
def ZZ{i:Int}(B:Qr K ta Z (.list ds))(A:Qr K tb Z (.int i))(e:atI ds i=some d):Qr K (tOp (rIx K) ta tb) Z d:=λD F O H Q M q=>
 YI B A M λP J x y f s m=>by
  apply RC (J8 (K:=K) s f.fh);rintro a xs rfl U C _;apply I0 (GZ C e);intro z j h;cases m;exact .inl #[a,xs,i,z,rfl,rfl,U,j,q P J z f h]
def V5{i:Int}(B:Qr K ta Z (.tuple ds))(A:Qr K tb Z (.int i))(e:atI ds i=some d):Qr K (tOp (rIx K) ta tb) Z d:=λD F O H Q M q=>
 YI B A M λP J x y f s m=>by
  apply RC (DM (K:=K) s f.fh);rintro a xs rfl U C _;apply I0 (GZ C e);intro z j h;cases m;exact .inr (.inl #[a,xs,i,z,rfl,rfl,U,j,q P J z f h])
def Pl(e0:Z[i]?=some (some<|.ol ds))(C:Qr K tb Z (.int k))(e:atI ds k=some d):Qr K (tOp (rIx K) (Q5 i) tb) Z d:=λD F O H Q j q=>by
 apply I0 j.fp;intro Y h _;apply aJ (h i _ e0);rintro v W a⟨rfl,_,B⟩;refine#[_,W,C D F O H _ j λX E y f A=>By (B.ext f) λb xs P M=>I0 (GZ M e) λz s m=>?_];cases A;exact .inl #[a,xs,k,z,rfl,rfl,SqL.of P,s,q X E z f m]
def AI(e0:Z[i]?=some (some<|.scr ns))(C:Qr K tb Z (.int k))(e:atI ns k=some n):Qr K (tOp (rIx K) (Q5 i) tb) Z (.int n):=λD F O H Q m q=>by
 apply I0 m.fp;intro Y h _;apply aP (h i _ e0);rintro v M _ a⟨rfl,A⟩;refine#[_,M,C D F O H _ m λP E y f B=>?_];cases B;apply I0 (Td e);intro j X W;have s:atI (ns.map V.int) k=some (.int n):=by
  unfold atI;simp_all
 exact .inl #[a,_,k,_,rfl,rfl,(f.ff.trans f.fh).seq A.sq,s,q P E _ f<|.int n]
def QA(R:List OT->OT->Prop):Sp:=λj H Q _=>∃F f r,KTs K F/\Q4 F H/\Args K F j f/\R f r/\∀h J v p,Q1 F H h J->(∀a∈p,H a=none)->Zy K h J v r p->Q v J
def D4(h:Zi K t Z ts)(M:R ts r):EvO K (Vd (QA (K:=K) R) [] H1 t) Z r:=λD F O H Q j q=>
 h D F O H _ j λX E Y f s=>by
  refine#[X,ts,r,(j.ext f).kt,f.fh,by rw[Xp];exact s,M,λW P v p m B A=>q W P v p (f.trans m) (λa C=>f.hh.free<|B a C) A]
def QN(h:Zi K t Z ts)(f:R ts (.fz d)):Qr K (Vd (QA (K:=K) R) [] H1 t) Z d:=(D4 h f).e
def Ei(h:Zi K t Z ts)(f:R ts (.ol ds)):Qr K (Vd (QA (K:=K) R) [] H1 t) Z (.list ds):=(D4 h f).fz
end
def FK{ts:List OT}(G:Nat->Qg)(s:KTs K F)(q:Q4 F H)(f:vs.length=ts.length)(h:∀i t,ts[i]?=some t->∃v,vs[i]?=some v/\Zy K F H v t (G i))(M:∀i j b,b∈G i->b∈G j->i=j)(A:∀i b,b∈G i->D b=none/\H b≠none):
 QB K D F (ts.map some++List.replicate (N.length-ts.length) none) (start N vs) H:=by
 refine#[s,q,by unfold start;simp[f],G,λi m e=>?_,M,A]
 by_cases z:i<ts.length
 .rw[Bq<|by simpa using z]at e;refine I0 (h i m (by cases y:ts[i]?<;>simp[y]at e ⊢;exact e)) λv C B=>#[v,?_,B];unfold start;rw[Bq<|by simpa [f] using z,XG,C];rfl
 .rw[M9<|by simpa using z]at e;have:=List.mem_of_getElem? e;simp at this
def Gd(q:KTs K F)(m:Q4 F H)(f:Args K F vs ts):QB K H F (zr N ts) (start N vs) H:=
 FK _ q m f.length (λi t e=>f.get i t e) (λi j a h=>(nomatch h)) λi a h=>(nomatch h)
noncomputable abbrev ini(N:Qh)(ts:List OT):ZbB:=ts.map some++List.replicate (N.length-ts.length) none
def Df.ev{w:World}{base:Heap}{x:Str}{st:Stmt}{N:Qh}{k:Nat}{R:List OT->OT->Prop}(y:Df K mg x st ps)(u:Qo N ps (Q8 st))
(W:∀f ts r,R ts r->∀H j,B0 P w K mg base N x st k f H j λt=>QE K t (ini N ts) { nx:=λ_=>r=.fz .none,rt:=λa=>a=r })(B:∀ts r,R ts r->ts.length=ps.length:=by intro _ _ h;cases h<;>rfl):Q2 P w K mg base x ps (k+1) (QA (K:=K) R):=by
 refine y.go λf fd F=>F.ok u (by rintro d H Q j ⟨F,ts,r,_,_,C,D,_⟩;exact C.length.trans<|B ts r D) ?_;rintro d H Q j ⟨F,ts,r,i,Y,C,D,q⟩ M A outer s l;refine I0 (W f ts r D H j M A outer s l) λt U o=>#[t,U,o F H F _ H _ (Q1.refl Y) (Gd i Y C) #[λX b J c m _ e=>?_,λX J v a p m n g e=>?_,λ_ _ _ _ _ _ z=>False.elim z,λ_ _ _ _ _ _ z=>False.elim z]]
 .subst e;exact q X J _ [] m (by rintro _ ⟨⟩) #[rfl,.non]
 .subst e;exact q X J v p m n g
end L2
variable {Z:L2.ZbB}{H0:L2.PEnds}{ts:List L2.OT}{Θ:Int->L2.OT->Prop}
namespace L2
theorem C9:∀{as bs:Qg},as.map V.ref=bs.map V.ref->as=bs
 |[],[],_=>rfl
 |[],_::_,h=>by simp at h
 |_::_,[],h=>by simp at h
 |a::as,b::bs,h=>by
  simp only[Xy,List.cons.injEq]at h;obtain⟨U,f⟩:=h;injection U with U;rw[U,C9 f]
section
variable {tb:TE}{t dx:TS}
def QX(h:H0.nx Z):QE K UA Z H0:=λF0 D F O H j x f C=>C.nx F O H Z x f h
def Q9(h:QE K t Z { H0 with nx:=λf=>QE K dx f H0 }):QE K (Vh t dx) Z H0:=λF0 D F O H m x A C=>
 h F0 D F O H { m with nx:=dx m } x A #[λM j J f s B q=>q F0 D M j J m s B C,C.rt,C.bk,C.ct]
def BI(f:Fgt Z ρ')(h:QE K t ρ' H0):QE K t Z H0:=λF0 D F O H m x j C=>h F0 D F O H m x (j.fgt f) C
def YF(i:Nat)(e:Z[i]?=some (some<|.ol ds))(h:QE K t (Z.set i<|zf<|.list ds) H0):QE K t Z H0:=λF0 D F O H A x f C=>by
 exact aN (f.freeze e) λa xs q m j _ _ s=>h F0 D _ O H A (x.freeze q m j) s C
def UN(h:EvO K te Z r)(m:H0.rt r):QE K (VJ te) Z H0:=λF0 D F O H B x t C=>
 h D F O H _ t λA J v p f q j=>C.rt A J v r p (x.trans f) (λa s=>x.hh.free<|q a s) j m
def Zh(h:Qr K te Z d)(f:H0.rt (.fz d)):QE K (VJ te) Z H0:=UN h.o f
def J5(e:Z[i]?=some (some<|.ol ds))(j:H0.rt (.ol ds)):QE K (VJ<|Q5 i) Z H0:=λF0 D F O H B x s C=>by
 exact L3 s.fp λA h _ q=>I0 (h i _ e) λv t f=>#[v,t,C.rt F H v _ _ x (λa m=>(q i a m).1) f j]
def Zc{b:Bool}(h:QZ K tA Z b)(U:b=true->QE K t Z H0)(s:b=false->QE K dx Z H0):QE K (Ws tA t dx) Z H0:=λF0 D F O H m x j C=>
 h D F O H _ j λq J f=>by
  cases b with
  |true=>rw[Xi rfl];exact U rfl F0 D q O J m (x.trans f) (j.ext f) C
  |false=>rw[Xg XF];exact s rfl F0 D q O J m (x.trans f) (j.ext f) C
def ZO(h:EvO K te Z r)(hn:H0.nx (Z.set i<|some r)):QE K (ZM te<|Vk i) Z H0:=λF0 D F O H H1 x M C=>
 h D F O H _ M λF' J v p A g G=>by
  refine C.nx F' _ J _ (x.trans A) ((M.ext A).set G (λa B=>x.hh.free<|g a B) (hn:=λa B j w e q U T f=>L3 M.fp λQ N g2 L=>I0 (N j e U) λw' k R=>?_)) hn;intro I;have P:=R.ext A;rw[T]at k;cases k;have s:∀b∈q,b∈Q j:=by
   cases e with
   |fz d=>rw[f.1];intro b m;cases m
   |zow Ψ=>rw[f.1];intro b m;cases m
   |ol ds=>
    refine L3 f λb1 Y u o=>L3 P λb2 t E y=>?_
    grind
   |oll T1=>
    refine aN f λb1 X Y u o z4 n z6=>aN P λb2 W t E y y4 c y6=>?_;rw[Y]at t;cases t;rw[n]at c;have S:X.map V.ref=W.map V.ref:=by injection c with z;injection z
    have e6:=C9 S
    grind
   |scr ns=>rw[f.1];intro b m;cases m
   |own v0 l=>exact λb m=>l.uniq P.2 f.2 b m
  exact(L j a<|s a I).2 (g a B)
def Z1(h:Qr K te Z d)(hn:H0.nx (Z.set i<|zf d)):QE K (ZM te<|Vk i) Z H0:=ZO h.o hn
def Zw : GTo K (Vk i) d Z (Z.set i<|zf d):=λD F O H x Q f r q=>q _ (f.setF r)
def J1:MT K HW [] Z Z:=λD F O H xs Q f r q=>by cases r;exact#[rfl,q _ f]
def Yl{g:TG}(U:GTo K g d Z ρ1)(m:MT K S ds ρ1 ρ2):MT K (Ks g S) (d::ds) Z ρ2:=λD F O H xs Q s r q=>by
 cases r with
 |cons j h=>exact#[_,_,rfl,U D F O H _ _ s j λf t=>m D F f H _ _ t h q]
def WJ(h:MT K S ds Z ρ1)(hn:ds.length=n):GTo K (HL K n S) (.tuple ds) Z ρ1:=λD F O H x Q j r q=>by
 apply RC (DM (K:=K) r j.sub);rintro a xs rfl U f _;exact#[a,xs,rfl,U,by rw[f.length,hn],h D F O H xs Q j f q]
def Q1.wr(x:Q1 F0 D F H)(h:D a=none)(f:F a=none):Q1 F0 D F (upd H a o):=
 #[x.hh.upd h,x.ff,x.fh.upd f,x.fr]
def Ji(e:Z[i]?=some (some<|.ol ds))(h:Qr K te Z d)(b:ds.length<1000)(hn:H0.nx (Z.set i<|some<|.ol<|ds++[d])):
 QE K (Vq<|tBM K "list" VI (Q5 i)<|Q3 te QH) Z H0:=λF0 D F O H k x j C=>by
 refine RC (j.write e) λa xs t X c _=>#[_,t,.inl #[rfl,_,SqL.of X],h D F O H _ j λY E v m A=>?_];apply aN ((j.ext m).write e);intro g f s W q P M B;rw[t]at s;cases s;exact#[a,f,v,rfl,rfl,W,by rw[q.length];exact Vz<|#[],C.nx Y O _ _ ((x.trans m).wr P M) (B _ _<|q.snoc A) hn]
def TJ(e:Z[i]?=some (some<|.ol ds))(h:Qr K te Z d)(X:Qr K tb Z (.int k))(W:ixN ds.length k=some j)(hn:H0.nx (Z.set i<|some<|.ol<|ds.set j d)):
 QE K (ZM te<|MW (Q5 i) tb UF) Z H0:=λF0 D F O H w x m C=>
 h D F O H _ m λn E v f P=>by
  refine RC ((m.ext f).write e) λa xs B p o _=>#[_,B,X D n O E _ (m.ext f) λl u y s M=>?_];apply aN ((m.ext<|f.trans s).write e);intro r q A g t c b Y;rw[B]at A;cases A;cases M;exact#[a,q,k,j,rfl,rfl,g,by rw[t.length];exact W,C.nx l O _ _ ((x.trans<|f.trans s).wr c b) (Y _ _<|t.set (P.mono s.ff) j) hn]
def Lr{f:Int->Int->Int}{m:Int}(e:Z[i]?=some (some<|.ol ds))(o:Qr K tb Z (.int k))(P:0<=k)(M:ds[k.toNat]?=some (.int m))(h:Qr K te Z (.int n))
(hn:H0.nx (Z.set i<|some<|.ol<|ds.set k.toNat<|.int<|f m n)):QE K (Dm (Q5 i) tb te (Dj K) (ipI f) UF) Z H0:=λF0 D F O H U x j C=>by
 refine RC (j.write e) λa xs A Q N _=>#[_,A,o D F O H _ j λL E y q g=>?_];cases g;apply RC ((j.ext q).write e);intro S t Y I G _;rw[A]at Y;cases Y;refine I0 (G.get M) λz c b=>#[a,t,k,z,rfl,rfl,SqL.of I,P,c,h D L O E _ (j.ext q) λJ T w B d=>?_];cases d;cases b;refine#[m,n,rfl,rfl,?_];apply aN ((j.ext<|q.trans B).write e);intro R s X v W u r p;rw[A]at X;cases X;have l:=(Xh.mp M).1;refine#[a,s,k,k.toNat,rfl,rfl,v,?_,?_]
 .rw[W.length];unfold ixN;rw[Xi P,Xi<|#[]]
 .exact C.nx J O _ _ ((x.trans<|q.trans B).wr u r) (p _ _<|W.set (.int _) _) hn
def Q1.base(x:Q1 F0 D F H):Q1 F D F H:=#[x.hh,Q4.refl _,x.fh,λ_ h=>.inl h]
def Q1.rebase(x:Q1 F0 D F H)(y:Q1 F D F' J):Q1 F0 D F' J:=
 #[y.hh,x.ff.trans y.ff,y.fh,λa h=>(y.fr a h).elim (λz=>x.fr a z) .inr]
def Yr{g:TG}(P:Nat->ZbB->Prop)(hi:EvI K wi Z ds)(h0:P 0 Z)
(hs:∀(i:Nat) (d:PyData) (f:ZbB),ds[i]?=some d->P i f->∃h,GTo K g d f h/\QE K tbd h { nx:=P (i+1),ct:=P (i+1),bk:=H0.nx,rt:=H0.rt })(hd:∀f,P ds.length f->H0.nx f):QE K (U1 wi g tbd) Z H0:=λF0 D F O H H1 x N C=>
 hi D F O H _ N λz E H' G W=>by
  refine#[λi m O H=>m=ds.length-i/\i<=ds.length/\∃F f,Q1 F0 D F H/\Q4 z F/\QB K D F f O H/\P i f,#[ds.length,by simp,XA _,z,Z,x.trans G,Q4.refl _,N.ext G,h0],?_];rintro i m X J ⟨rfl,hle,Q,f,I,L,n,p⟩;obtain⟨T,S⟩:=W Q J L n.sub
  by_cases a:i<ds.length
  .have e:ds[i]?=some ds[i]:=by simp[a]
   obtain⟨go,R⟩:=S i _ e;refine .inr #[go,λt r=>∃w h,Q1 F0 D w r/\Q4 z w/\QB K D w h t r/\P _ h,λt r q=>#[ds.length-_,#[],rfl,a,q],λv o y=>I0 (R v o y) λu c r3=>I0 (hs i _ f e p) λh hg hb=>hg D u X o v _ (n.ext c) r3 λt S2=>?_];have s:=I.trans c;have Y:=L.trans c.ff
   exact hb u D u t o _ s.base S2 #[λM B b j A l k=>#[M,j,s.rebase A,Y.trans A.ff,l,k],λM b U r4 p4 A=>C.rt M b U r4 p4<|s.rebase A,
    λM B b j A=>C.nx M B b j<|s.rebase A,λM B b j A l k=>#[M,j,s.rebase A,Y.trans A.ff,l,k]]
  .have e:i=ds.length:=#[]
   subst e;exact .inl #[T,C.nx Q X J f I n<|hd f p]
def BS{g:TG}(R:Nat->ZbB)(s:EvI K wi Z ds)(B:Fgt Z (R 0))
(m:∀(i:Nat) (d:PyData),ds[i]?=some d->∃j,GTo K g d (R i) j/\QE K tbd j { nx:=λh=>Fgt h<|R<|i+1,ct:=λh=>Fgt h<|R<|i+1,bk:=H0.nx,rt:=H0.rt })(t:∀h,Fgt h (R ds.length)->H0.nx h):QE K (U1 wi g tbd) Z H0:=by
 exact Yr (λi h=>Fgt h<|R i) s B (λi d h e f=>I0 (m i d e) λj U A=>#[j,λD F O H x Q C r q=>U D F O H x Q (C.fgt f) r q,A]) t
def N7{c:TT}(P:Nat->ZbB->Prop)(d:Nat)(z:P d Z)
(v:∀(m:Nat) (f:ZbB),P m f->∃b,QZ K c f b/\(b=true->QE K tbd f { nx:=λj=>∃q,q<m/\P q j,ct:=λj=>∃q,q<m/\P q j,bk:=H0.nx,rt:=H0.rt })/\(b=false->H0.nx f)):QE K (Tm c tbd) Z H0:=λF0 D F O H N x G C=>by
 refine#[λm O H=>∃F f,Q1 F0 D F H/\QB K D F f O H/\P m f,#[d,F,Z,x,G,z],?_];rintro m A J ⟨L,f,o,k,p⟩;refine L3 (v m f p) λb U y w=>U D L A J _ k λl E a=>?_;have g:=o.trans a;have i:=k.ext a
 cases b with
 |false=>rw[Xg XF];exact C.nx l A E f g i (w rfl)
 |true=>
  exact#[λB Y=>∃q,q<m/\∃W j,Q1 F0 D W Y/\QB K D W j B Y/\P q j,λB Y h=>h,y rfl F0 D l A E _ g i #[λX t M s n I ⟨q,u,r⟩=>#[q,u,X,s,n,I,r],C.rt,C.nx,λX t M s n I ⟨q,u,r⟩=>#[q,u,X,s,n,I,r]]]
def Y9(h:Qr K ta Z (.list ds)):EvI K (Pn K ta) Z ds:=λD F O H R b q=>
 h D F O H _ b λP E v f B=>by
  apply RC (J8 (K:=K) B f.fh);rintro a xs rfl U C l;have Y:P a=some (.lst xs):=by
   cases B with
   |lst X k=>
    have:=f.fh _ _ X
    grind
  refine#[a,rfl,#[xs,U],q P E _ f λg c A t=>?_];have m:SqL K c a xs:=SqL.of (t _ _<|A _ _ Y);refine#[#[xs,m,by rw[C.length];exact Xm _],λi d e=>I0 (C.get e) λz s W=>#[#[xs,z,m,s],λy n j=>?_]];obtain⟨rfl,j⟩:=j;have M:=j xs m;rw[s]at M;cases M;exact#[g,Q1.refl t,W.mono A]
def GH(h:Qr K ta Z (.tuple ds)):EvI K (Pj K ta) Z ds:=λD F O H R b q=>
 h D F O H _ b λP E v f B=>by
  apply RC (DM (K:=K) B f.fh);rintro a xs rfl U C l;have Y:P a=some (.tup xs):=by
   cases B with
   |tup X k=>
    have:=f.fh _ _ X
    grind
  refine#[a,rfl,#[xs,U],q P E _ f λg c A t=>?_];have m:SqT K c a xs:=SqT.of (t _ _<|A _ _ Y);refine#[#[xs,m,by rw[C.length];exact Xm _],λi d e=>I0 (C.get e) λz s W=>#[#[xs,z,m,s],λy n j=>?_]];obtain⟨rfl,j⟩:=j;have M:=j xs m;rw[s]at M;cases M;exact#[g,Q1.refl t,W.mono A]
def Vp(lo:Int)(n:Nat):Qd:=(List.range n).map λ(i:Nat)=>PyData.int (lo+(i:Int))
def Wn{lo:Int}{n i:Nat}(e:(Vp lo n)[i]?=some d):i<n/\d=.int (lo+(i:Int)):=by
 unfold Vp at e;rw[XG]at e;by_cases h:i<n
 .simp[h]at e;exact#[h,e.symm]
 .simp[h]at e
def Jg{lo:Int}{n:Nat}:(Vp lo n).length=n:=by simp[Vp]
def Ct{lo:Int}{n:Nat}:Tw F (Itr lo n) (Vp lo n):=λj s m f=>by
 refine#[by show n<=_;rw[Jg];exact Xm _,λi d e=>?_];obtain⟨U,rfl⟩:=Wn e;refine#[U,λx q h=>?_];obtain⟨rfl,rfl⟩:=h;exact#[j,Q1.refl f,.int _]
def W9{t:TA}(h:Zi K t Z [.fz<|.int n])(U : -(2^62)<=n)(m:n<2^62):EvI K (B6 t) Z (Vp 0 n.toNat):=λD F O H R s q=>
 h D F O H _ s λA E B j f=>by
  cases f with
  |fz r f=>cases f;cases r;exact#[n,rfl,U,m,q A E _ j Ct]
def Lj{t:TA}{m:Int}(h:Zi K t Z [.fz<|.int m,.fz<|.int n])(U : -(2^62)<=m/\m<2^62 /\ -(2^62)<=n/\n<2^62):EvI K (P5 t) Z (Vp m (n-m).toNat):=λD F O H R A q=>
 h D F O H _ A λB E C j f=>by
  cases f with
  |fz r f=>
   cases f with
   |fz s f=>cases f;cases r;cases s;exact#[m,n,rfl,U,q B E _ j Ct]
def G0(f:Int)(n:Nat):Qd:=(List.range n).map λ(i:Nat)=>PyData.int (f-(i:Int))
def Fo(e:(G0 hi n)[i]?=some d):i<n/\d=.int (hi-(i:Int)):=by
 unfold G0 at e;rw[XG]at e;by_cases h:i<n
 .simp[h]at e;exact#[h,e.symm]
 .simp[h]at e
def Fw : (G0 hi n).length=n:=by simp[G0]
def E6{t:TA}{m:Int}(h:Zi K t Z [.fz<|.int m,.fz<|.int n,.fz<|.int (-1)])(U : -(2^62)<=m/\m<2^62 /\ -(2^62)<=n/\n<2^62):EvI K (PF t) Z (G0 m (m-n).toNat):=λD F O H R M q=>
 h D F O H _ M λW E X j f=>by
  cases f with
  |fz r f=>
   cases f with
   |fz B f=>
    cases f with
    |fz A f=>
     cases f;cases r;cases B;cases A;refine#[m,n,rfl,U,q W E _ j λP b Y s=>#[by show _<=_;rw[Fw];exact Xm _,λi d e=>?_]];obtain⟨U,rfl⟩:=Fo e;refine#[U,λx a C=>?_];obtain⟨rfl,rfl⟩:=C;exact#[P,Q1.refl s,.int _]
noncomputable def WQ:Option OT->Option OT
 |some (.fz d)=>some (.fz d)
 |some (.scr h)=>some (.scr h)
 |some (.zow f)=>some (.zow f)
 |_=>none
def JY(f:List (Option Nat))(Z:ZbB):ZbB:=f.map λo=>match o with|some i=>WQ (Z[i]?).join|none=>none
def QB.inner(f:List (Option Nat))(M:QB K D F Z O H):QB K D F (JY f Z) (YQ f O) H:=by
 obtain⟨B,U,b,c,C,Y,X⟩:=M;refine#[B,U,by simp[JY,YQ],λ_=>[],λi t e=>?_,λi j a h=>(nomatch h),λi a h=>(nomatch h)];unfold JY at e;rw[XG]at e;cases z:f[i]? with
 |none=>rw[z]at e;simp at e
 |some o=>
  rw[z]at e;simp only[WE,Option.some.injEq]at e;cases o with
  |none=>cases e
  |some k=>
   simp only at e;have A:Z[k]?=some (some t)/\((∃d,t=.fz d)\/(∃q,t=.scr q)\/∃m,t=.zow m):=by
    cases y:Z[k]? with
    |none=>rw[y]at e;simp[WQ]at e
    |some w=>
     rw[y]at e;simp only[Option.join_some]at e;cases w with
     |none=>simp[WQ]at e
     |some w=>
      cases w with
      |fz d=>simp[WQ]at e;subst e;exact#[rfl,.inl #[_,rfl]]
      |scr q=>simp[WQ]at e;subst e;exact#[rfl,.inr<|.inl #[_,rfl]]
      |zow m=>simp[WQ]at e;subst e;exact#[rfl,.inr<|.inr #[_,rfl]]
      |ol ds=>simp[WQ]at e
      |oll ds=>simp[WQ]at e
      |own W P=>simp[WQ]at e
   refine I0 (C k t A.1) λv g s=>#[v,?_,?_]
   .unfold YQ;simp_all
   .rcases A.2 with ⟨d,rfl⟩|⟨q,rfl⟩|⟨m,rfl⟩
    .exact#[rfl,s.2]
    .exact#[rfl,s.2]
    .exact#[rfl,s.2]
def BM{b:Type}{f:List (Option Nat)}{o:TI}{g:CIn->TG}{P:CIn->TT}{M:CIn->TE}{xs:List b}{enc h:b->PyData}{p:b->Bool}(hi:EvI K o Z (xs.map enc))(hl:xs.length<=1000)
(hs:∀x∈xs,∀c,∃s,GTo K (g c) (enc x) (JY f Z) s/\QZ K (P c) s (p x)/\(p x=true->Qr K (M c) s (h x))):EvO K (tLC f o g P M) Z (.ol<|(xs.filter p).map h):=λD F O H Q u q=>
 hi D F O H _ u λL E H' d W c=>by
  have hn:=Wd (Vz hl);refine#[λi m ys H=>m=xs.length-i/\i<=xs.length/\∃Y,Q1 L E Y H/\Zt Y ys (((xs.take i).filter p).map h),#[xs.length,by simp,XA _,L,Q1.refl d.fh,.nil],?_];rintro i m ys J ⟨rfl,hle,Y,t,X⟩;obtain⟨w1,U⟩:=W Y J t.ff t.fh
  by_cases j:i<xs.length
  .have e:(xs.map enc)[i]?=some (enc xs[i]):=by simp[j]
   obtain⟨go,T⟩:=U i _ e;refine .inr #[go,λv l y=>I0 (T v l y) λI C r3=>L3 (hs xs[i] (XX j) c) λs k1 k2 k3=>?_];have r:xs.take (i+1)=xs.take i++[xs[i]]:=by rw[Uu];simp[j]
   have ly2:ys.length<=i:=by
    rw[X.length,Xe];refine Xt (MJ _ _) ?_;rw[MC];lia
   refine k1 D I _ l v _ ((u.ext<|d.trans<|t.trans C).inner f) r3 λA w=>k2 D I A l _ w λG H4 B=>?_
   cases k:p xs[i] with
   |true=>
    refine k3 k D G A H4 _ (w.ext B) λF5 H5 z n r5=>#[#[],xs.length-(i+1),#[],rfl,j,F5,t.trans<|C.trans<|B.trans n,?_];rw[r,Bt,Xv];simp only[HE,k,if_true,List.filter_nil];exact(X.mono (C.trans<|B.trans n).ff).snoc r5
   |false=>
    refine#[xs.length-(i+1),#[],rfl,j,G,t.trans<|C.trans B,?_];rw[r,Bt];simp only[HE,k,List.filter_nil,List.map_nil,Xp,Hw,if_false];exact X.mono (C.trans B).ff
  .have e:i=xs.length:=#[]
   subst e;refine .inl #[by simpa using w1,λa ha=>?_];rw[JE]at X;exact KE (BW (d.trans t) ha X) λS R N=>q _ _ _ _ S R N
def YV{q:Type}{f:List (Option Nat)}{s:TI}{g:CIn->TG}{m:CIn->TE}{xs:List q}{enc h:q->PyData}(C:EvI K s Z (xs.map enc))(B:xs.length<=1000)
(A:∀x∈xs,∀c,∃j,GTo K (g c) (enc x) (JY f Z) j/\Qr K (m c) j (h x)):EvO K (tLC f s g (λ_=>G3) m) Z (.ol<|xs.map h):=by
 have:=BM C B λx t c=>by
  exact I0 (A x t c) λj U D=>#[j,U,Po,λ_=>D]
 have e:xs.filter _=xs:=List.filter_eq_self.mpr λ_ _=>rfl
 simp_all
def Kk:List V->Hp->VK->Prop:=λxs H Q=>∃i j,xs=[.int i,.int j]/\Q (.int (if j > i then j else i)) H
def Ko:List V->Hp->VK->Prop:=λxs H Q=>∃i j,xs=[.int i,.int j]/\Q (.int (if j<i then j else i)) H
def P1:List V->Hp->VK->Prop:=λxs H Q=>(∃i,xs=[.int i]/\Q (.int i) H)\/∃k,xs=[.bl k]/\Q (.int (if k then 1 else 0)) H
def Pc:List V->Hp->VK->Prop:=λxs H Q=>∃x T c b,xs=[x,.ty c]/\TyN H x T/\JK T c=some b/\Q (.bl b) H
def U8(K:W.Frag):List V->Hp->VK->Prop:=λxs H Q=>∃p ys,xs=[.ref p]/\(SqL K H p ys\/SqT K H p ys)/\Q (.int ys.length) H
def Lp(K:W.Frag):List V->Hp->VK->Prop:=λxs H Q=>∃p ys,xs=[.ref p]/\(SqL K H p ys\/SqT K H p ys)/\∀l,H l=none->Q (.ref l) (upd H l<|.lst ys)
def KI(K:W.Frag):List V->Hp->VK->Prop:=λxs H Q=>∃p ys,xs=[.ref p]/\((SqL K H p ys/\∀l,H l=none->Q (.ref l) (upd H l<|.tup ys))\/(SqT K H p ys/\Q (.ref p) H))
def As(X:Cx):List V->Hp->VK->Prop:=λxs H Q=>X.calm=true/\∃(x:V) (f:Ql),xs=[x]/\Rep H x (.list<|f.map PyData.int)/\Q (.int f.sum) H
def ES(h:X.calm=true):ZC X (.builtin "max") Kk:=Zp5 h
def KD(h:X.calm=true):ZC X (.builtin "min") Ko:=Zq1 h
def Em:ZC X (.type "int") P1:=ZqX
def Dz:ZC X (.builtin "isinstance") Pc:=OK
def Vt:ZC X (.builtin "len") (U8 X.K):=Zkh
def Ir:ZC X (.type "list") (Lp X.K):=ZkJ
def Ha:ZC X (.type "tuple") (KI X.K):=Zj0
def T6:ZC X (.builtin "sum") (As X):=Zrn
def Tr{y:Int}(A:Qr K ta Z (.int x))(t:Qr K tb Z (.int y))(j:QB K D F Z O H)(h:∀P J,Q1 F H P J->r [.int x,.int y] J Q):tCB r (Q3 ta<|Q3 tb QH) O H Q:=
 A D F O H _ j λM E v f s=>t D M O E _ (j.ext f) λC B w m q=>by cases s;cases q;exact h C B (f.trans m)
def EG{y:Int}(h:Qr K ta Z (.int x))(f:Qr K tb Z (.int y)):Qr K (tCB Kk<|Q3 ta<|Q3 tb QH) Z (.int (if y > x then y else x)):=λD F O H Q j q=>
 Tr h f j λm J e=>#[x,y,rfl,q m J _ e<|.int _]
def AS{y:Int}(h:Qr K ta Z (.int x))(f:Qr K tb Z (.int y)):Qr K (tCB Ko<|Q3 ta<|Q3 tb QH) Z (.int (if y<x then y else x)):=λD F O H Q j q=>
 Tr h f j λm J e=>#[x,y,rfl,q m J _ e<|.int _]
def PU{b:Bool}(h:Qr K ta Z (.bool b)):Qr K (tCB P1<|Q3 ta QH) Z (.int (if b then 1 else 0)):=λD F O H Q m q=>
 h D F O H _ m λs E v f j=>by cases j;exact .inr #[b,rfl,q s E _ f<|.int _]
def GI{c:String}{b:Bool}(h:Qr K ta Z a)(m:JK (tyD a) c=some b):Qr K (tCB Pc<|Q3 ta<|Q3 (tC<|.ty c) QH) Z (.bool b):=λD F O H Q s q=>
 h D F O H _ s λt E v f j=>#[v,_,c,b,rfl,(j.mono f.fh).ty,m,q t E _ f<|.bl _]
def YL(h:Qr K ta Z (.list ds)):Qr K (tCB (U8 K)<|Q3 ta QH) Z (.int (ds.length:Int)):=λD F O H Q s q=>
 h D F O H _ s λt E v f j=>by
  apply RC (J8 (K:=K) j f.fh);rintro a xs rfl U m _;exact#[a,xs,rfl,.inl U,by rw[m.length];exact q t E _ f<|.int _]
def BQ(h:Qr K ta Z (.tuple ds)):Qr K (tCB (U8 K)<|Q3 ta QH) Z (.int (ds.length:Int)):=λD F O H Q s q=>
 h D F O H _ s λt E v f j=>by
  apply RC (DM (K:=K) j f.fh);rintro a xs rfl U m _;exact#[a,xs,rfl,.inr U,by rw[m.length];exact q t E _ f<|.int _]
def A5(e0:Z[i]?=some (some<|.scr ns)):Qr K (tCB (U8 K)<|Q3 (Q5 i) QH) Z (.int (ns.length:Int)):=λD F O H Q f q=>by
 apply I0 f.fp;intro s h _;apply aP (h i _ e0);rintro v m _ a⟨rfl,j⟩;exact#[_,m,a,ns.map V.int,rfl,.inl<|f.sub.seq j.sq,by rw[Xe];exact q F H _ (Q1.refl f.sub)<|.int _]
def PV(e0:Z[i]?=some (some<|.ol ds)):Qr K (tCB (U8 K)<|Q3 (Q5 i) QH) Z (.int (ds.length:Int)):=λD F O H Q f q=>by
 apply I0 f.fp;intro t h _;apply aX (h i _ e0);rintro v s a rfl _ _ xs m j;exact#[_,s,a,xs,rfl,.inl<|SqL.of m,by rw[j.length];exact q F H _ (Q1.refl f.sub)<|.int _]
def PX(h:Qr K ta Z (.list ds)):Qr K (tCB (KI K)<|Q3 ta QH) Z (.tuple ds):=λD F O H Q A q=>
 h D F O H _ A λB E v f s=>by
  apply RC (J8 (K:=K) s f.fh);rintro a xs rfl U t _;exact#[a,xs,rfl,.inl #[U,λp m=>q _ _ _ (f.trans<|Q1.new f.fh m) (.tup QF<|t.mono<|Q4.new<|f.fh.free m)]]
def D0(e0:Z[i]?=some (some<|.ol ds)):Qr K (tCB (KI K)<|Q3 (Q5 i) QH) Z (.tuple ds):=λD F O H Q f q=>by
 apply I0 f.fp;intro A h _;apply aX (h i _ e0);rintro v t a rfl _ _ xs s m;exact#[_,t,a,xs,rfl,.inl #[SqL.of s,λp j=>q _ _ _ (Q1.new f.sub j) (.tup QF<|m.mono<|Q4.new<|f.sub.free j)]]
def Kx{ns:Ql}(h:Qr K ta Z (.list<|ns.map PyData.int))(m:X.calm=true):Qr K (tCB (As X)<|Q3 ta QH) Z (.int ns.sum):=λD F O H Q s q=>
 h D F O H _ s λt E v f j=>#[m,v,ns,rfl,j.mono f.fh,q t E _ f<|.int _]
def WV(P:Qr K ta Z (.list as))(M:Qr K tb Z (.list bs))(C:as.length+bs.length<=1000):EvO K (tOp U7 ta tb) Z (.ol<|as++bs):=λD F O H Q X q=>
 YI P M X λd J x y e A t=>by
  apply RC (J8 (K:=K) A e.fh);rintro a xs rfl U f W;apply RC (J8 (K:=K) t e.fh);rintro b ys rfl c h Y;exact#[a,b,xs,ys,rfl,rfl,W,Y,by rw[f.length,h.length];exact Wd<|Vz C,λp B=>KE (BW e B (f.append h)) λs m j=>q _ _ _ _ s m j]
end
end L2
namespace L2
def QM(U:Qr K ta Z d)(f:Zi K t Z (fzs ds)):Zi K (Q3 ta t) Z (fzs (d::ds)):=Qu U f
def EvI.cast(h:EvI K wi Z ds)(e:ds=ds'):EvI K wi Z ds':=e▸h
def JA{b:Int}{m:Nat}(h:a=b)(f:m=n):Vp a m=Vp b n:=by rw[h,f]
def Tu{y:Int}(h:Qr K ta Z (.int x))(f:Qr K tb Z (.int y)):Qr K (tCB Kk<|Q3 ta<|Q3 tb QH) Z (.int<|max x y):=by
 have e:max x y=if y > x then y else x:=by split<;>lia
 rw[e];exact EG h f
def PY{y:Int}(h:Qr K ta Z (.int x))(f:Qr K tb Z (.int y)):Qr K (tCB Ko<|Q3 ta<|Q3 tb QH) Z (.int<|min x y):=by
 have e:min x y=if y<x then y else x:=by split<;>lia
 rw[e];exact AS h f
def KO{f:List (Option Nat)}{g:CIn->TG}{lo:Int}{n:Nat}{h:Nat->PyData}(A:EvI K wi Z (Vp lo n))(s:n<=1000)
(q:∀(x:Nat),x<n->∀c,∃j,GTo K (g c) (.int<|lo+(x:Int)) (JY f Z) j/\Qr K (tee c) j (h x)):EvO K (tLC f wi g (λ_=>G3) tee) Z (.ol<|(List.range n).map h):=
 YV A (by simpa using s) λx m c=>q x (YB.mp m) c
def Qr.cast(h:Qr K t Z d)(e:d=d'):Qr K t Z d':=e▸h
def EvO.cast(h:EvO K t Z d)(e:d=d'):EvO K t Z d':=e▸h
def QZ.cast(h:QZ K t Z d)(e:d=d'):QZ K t Z d':=e▸h
def Du(K:W.Frag):Sp:=λf H Q _=>∃(a:Addr) (h:Ql),f=[.ref a]/\KTs K H/\Scr K H a h/\∀J,Q (.bl true) J
def Fun.evLaw{w:World}{base:Heap}{x p:Str}{st:Stmt}{f:Addr}{N:Qh}{k:Nat}(F:Fun K x qual st f fd)(g:Qo N [p] (Q8 st))
(D:∀ns:Ql,ns.length<=63->(∀i∈ns,Builtin.Int.intBits i<=2^20)->∀H m,B0 P w K mg base N qual st k f H m λt=>QE K t (some (.scr ns)::List.replicate (N.length-1) none) { nx:=λ_=>False,rt:=λr=>r=.fz (.bool true) }):FnOk P w K mg base CX0 (k+1) f fd [p] (Du K):=by
 refine F.ok g (by rintro Y H Q m ⟨a,ns,e,_⟩;rw[e];rfl) ?_;rintro Y H Q m ⟨a,ns,rfl,b,B,q⟩ C A outer s c;refine I0 (D ns B.len B.bits H m C A outer s c) λt U d=>#[t,U,d H H H _ H _ (Q1.refl<|Q4.refl _) #[b,Q4.refl _,?_,λ_=>[],λi n e=>?_,λi j a h=>(nomatch h),λi a h=>(nomatch h)] #[λl M J W X _ e=>False.elim e,λl J v o p X u Z e=>?_,λ_ _ _ _ _ _ z=>False.elim z,λ_ _ _ _ _ _ z=>False.elim z]]
 .unfold start;simp
 .cases i with
  |zero=>
   simp at e;subst e;exact#[_,rfl,rfl,a,rfl,B]
  |succ i=>
   rw[List.getElem?_cons_succ]at e;have:=List.mem_of_getElem? e;simp at this
 .subst e;obtain⟨_,r⟩:=Z;cases r;exact q J
def Zu : Zi K QH Z (fzs []):=Q0
def z62:(2:Int)^62=4611686018427387904:=by decide
def Vu{f:Addr} : (Jo CX P w K mg base N q sc f cd A o s H H1).nox.K=K:=rfl
def Zs1{c:CIn}:(Vf X N sc c).K=X.K:=rfl
end L2
namespace L2
def EvP(K:W.Frag)(t:TO)(Z:ZbB)(o:Option Int):Prop := ∀(D F:Hp) (O:St) (H:Hp) (Q:Option Int->Hp->Prop),QB K D F Z O H->(∀f J,Q1 F H f J->Q o J)->t O H Q
def VE:EvP K LI Z none:=λD F O H Q f q=>q F H (Q1.refl f.sub)
def VF{i:Int}(h:Qr K te Z (.int i)):EvP K (Pr te) Z (some i):=λD F O H Q m q=>h D F O H _ m λs E v f j=>by cases j;exact#[i,rfl,q s E f]
noncomputable def cut{f:Type}(xs:List f)(lo h:Option Int):List f:=(xs.drop<|HT.sIx xs.length 0 lo).take (HT.sIx xs.length xs.length h-HT.sIx xs.length 0 lo)
def Zsp(r:Zt F xs ds)(lo f:Option Int):Zt F (Gz xs lo f) (cut ds lo f):=by
 unfold Gz cut;rw[r.length];exact(r.drop _).take _
def Wz{th:TO}{lo m:Option Int}(h:Qr K te Z (.list ds))(U:EvP K tl Z lo)(X:EvP K th Z m):EvO K (tSl (Db K) te tl th) Z (.ol<|cut ds lo m):=λD F O H Q s q=>
 h D F O H _ s λe E v j P=>U D e O E _ (s.ext j) λd c f=>X D d O c _ (s.ext<|j.trans f) λk i A=>by
  have x:=j.trans (f.trans A);apply RC (J8 (K:=K) (P.mono (f.trans A).ff) x.fh);rintro a xs rfl b Y g;exact#[a,xs,rfl,b,λp W=>KE (BW (K:=K) x W (Zsp Y lo m)) λM C B=>q _ _ _ _ M C B]
end L2
namespace L2
def Ub(as:Qd):Qd:=as.zipIdx.map λp=>PyData.tuple [.int (p.2:Int),p.1]
def Mr(as:Qd):(Ub as).length=as.length:=by simp[Ub]
def Mt{as:Qd}{i:Nat}(e:(Ub as)[i]?=some d):∃a,as[i]?=some a/\d=.tuple [.int (i:Int),a]:=by
 unfold Ub at e;rw[XG,List.getElem?_zipIdx]at e;cases z:as[i]? with
 |none=>rw[z]at e;cases e
 |some a=>rw[z]at e;simp at e;exact#[a,rfl,e.symm]
def Zrb{H:Hp}(r:Rep F x (.list ds)):∃a xs,x=.ref a/\F a=some (.lst xs)/\Zt F xs ds:=by
 cases r with
 |lst h f=>exact#[_,_,rfl,h,f]
def BR(h:Zi K t Z [.fz<|.list as]):EvI K (PK K t) Z (Ub as):=λD F O H R c q=>
 h D F O H _ c λn E o A j=>by
  cases j with
  |fz r j=>
   cases j;apply SF (Zrb (H:=E) r);rintro a xs rfl P C;refine#[a,rfl,#[xs,SqL.of<|A.fh _ _ P],q n E _ A λY l B f=>?_];have m:SqL K l a xs:=SqL.of (f _ _<|B _ _ P);refine#[#[xs,m,by rw[Mr,C.length]],λi d e=>?_];apply I0 (Mt e);rintro u k rfl;refine I0 (C.get k) λs W g=>#[#[xs,s,m,W],λv w b=>?_];apply RC b;rintro p x M rfl rfl k1;have X:=k1 xs m;rw[W]at X;cases X;exact#[_,Q1.new f M,.tup QF<|.cons (.int _)<|.cons ((g.mono B).mono (Q4.new (f.free M))) .nil]
def B9{bs:List Bool}(h:Qr K ta Z (.list<|bs.map PyData.bool))(m:X.calm=true):Qr K (tCB (A2 X)<|Q3 ta QH) Z (.bool<|bs.all id):=λD F O H Q s q=>
 h D F O H _ s λA E v f j=>#[m,v,bs,rfl,j.mono f.fh,q A E _ f<|.bl _]
def ID(h:Qr K ta Z (.list<|ns.map PyData.int))(m:X.calm=true)(hn:ns≠[]):Qr K (tCB (P2 X)<|Q3 ta QH) Z (.int<|Wg ns):=λD F O H Q s q=>
 h D F O H _ s λA E v f j=>#[m,v,ns,rfl,j.mono f.fh,hn,q A E _ f<|.int _]
noncomputable def Bw:OT->Option PyData
 |.fz d=>some d
 |.ol ds=>some (.list ds)
 |.oll f=>some (.list<|f.map PyData.list)
 |.scr _=>none
 |.own _ _=>none
 |.zow _=>none
def frF(F H:Hp)(p:Qg):Hp:=λb=>if b∈p then H b else F b
def WT{b:Addr}(h:b∈p):frF F H p b=H b:=by unfold frF;rw[Xi h]
def J4{b:Addr}(h:b∉p):frF F H p b=F b:=by unfold frF;rw[Xg h]
def W8(h:∀a∈p,F a=none):Q4 F (frF F H p):=λb f e=>by
 rw[J4 λz=>by rw[h b z]at e;cases e];exact e
def D9(s:Q4 F H):Q4 (frF F H p) H:=λb f e=>by
 by_cases z:b∈p
 .rwa[WT z]at e
 .rw[J4 z]at e;exact s b f e
theorem LW{F j H:Hp}(m:Q4 F j):∀{as:Qg} {f:List (Qd)},Vb F H as f->(∀a∈as,j a=H a)->Zt j (as.map V.ref) (f.map PyData.list)
 |[],[],_,_=>.nil
 |a::as,ds::f,h,q=>by
  obtain⟨⟨U,xs,C,B⟩,A⟩:=h;exact .cons (.lst (by rw[q a Xb];exact C)<|B.mono m) (LW m A λb s=>q b<|Xf _ s)
 |[],_::_,h,_=>False.elim h
 |_::_,[],h,_=>False.elim h
def Zy.frz(f:Zy K F H v t p)(e:Bw t=some d):Rep (frF F H p) v d:=by
 have h:Q4 F (frF F H p):=W8 λa s=>(f.there a s).1
 cases t with
 |fz W=>cases e;exact f.2.mono h
 |ol ds=>
  cases e;apply aW f;rintro a rfl rfl U xs m j;exact .lst (by rw[WT Xb];exact m) (j.mono h)
 |oll A=>
  cases e;apply aN f;rintro a X rfl rfl P U m j;exact .lst (by rw[WT Xb];exact m) (LW h j λb q=>WT<|Xf _ q)
 |scr M=>cases e
 |own D C=>cases e
 |zow B=>cases e
def QB.frz(s:QB K D F Z O H)(e:Z[i]?=some (some t))(h:∀v p,Zy K F H v t p->Zy K (frF F H p) H v t' []):
 ∃p,(∀a∈p,F a=none/\H a≠none/\D a=none)/\QB K D (frF F H p) (Z.set i<|some t') O H:=by
 refine RC (s.chg e) λv p A q j k=>#[p,λa f=>#[(j a f).2.1,(j a f).2.2,(j a f).1],(k _ H t' [] (W8 λa f=>(j a f).2.1) (D9 s.sub) (λ_ _ _=>rfl) (λb m=>?_) (h v p q)<|by rintro b ⟨⟩).1]
 by_cases z:b∈p
 .exact .inr (.inr z)
 .rw[J4 z]at m;exact .inl m
def QB.freezeG(s:QB K D F Z O H)(e:Z[i]?=some (some t))(h:Bw t=some d):
 ∃p,(∀a∈p,F a=none/\H a≠none/\D a=none)/\QB K D (frF F H p) (Z.set i<|zf d) O H:=s.frz e λv p f=>#[rfl,f.frz h]
def Ul(m:∀a∈p,F a=none/\H a≠none)(x:Q1 (frF F H p) H F' J):Q1 F H (λb=>if b∈p then none else F' b) J:=
 #[x.hh,λb h f=>by
  have j:b∉p:=λz=>by rw[(m b z).1]at f;cases f
  simp only[Xg j];exact x.ff b h<|by rw[J4 j];exact f,λb h f=>by
  by_cases z:b∈p
  .simp_all
  .simp only[Xg z]at f;exact x.fh b h f,λb f=>by
  by_cases z:b∈p
  .simp_all
  .simp only[Xg z]at f;rcases x.fr b f with y|y
   .rw[J4 z]at y;exact .inl y
   .exact .inr y]
def ZsI(i:Nat){b:Bool}(e:Z[i]?=some (some r))(s:Bw r=some d0)(h:QZ K t (Z.set i<|zf d0) b):QZ K t Z b:=λD F O H Q m q=>by
 exact I0 (m.freezeG e s) λp f A=>h D _ O H Q A λB J x=>q _ J (Ul (λa j=>#[(f a j).1,(f a j).2.1]) x)
def Jx(ds:Qd):Prop := ∀d∈ds,∃w,V1 d=some w
theorem Zt.flats{F j:Hp}:∀{xs:List V} {ds:Qd},Jx ds->Zt F xs ds->Zt j xs ds
 |_,_,_,.nil=>.nil
 |_::_,d::_,h,.cons r t=>by
  obtain⟨w,e⟩:=h d Xb;refine .cons ?_ (Zt.flats (λc f=>h c<|Xf _ f) t);cases r<;>simp[V1]at e
  .exact .non
  .exact .bl _
  .exact .int _
  .exact .str _
end L2
namespace L2
theorem Vb.snoc{F H:Hp}{b:Addr}{ds:Qd}:∀{as:Qg} {f:List (Qd)},Vb F H as f->Yz F H b ds->Vb F H (as++[b]) (f++[ds])
 |[],[],_,h=>⟨h,trivial⟩
 |_::_,_::_,h,j=>⟨h.1,Vb.snoc h.2 j⟩
 |[],_::_,h,_=>False.elim h
 |_::_,[],h,_=>False.elim h
theorem Vb.length{F H:Hp}:∀{as:Qg} {f:List (Qd)},Vb F H as f->as.length=f.length
 |[],[],_=>rfl
 |_::_,_::_,h=>by simp[Vb.length h.2]
 |[],_::_,h=>False.elim h
 |_::_,[],h=>False.elim h
def TR{w:Type}{f:List (Option Nat)}{N:TI}{g:CIn->TG}{l:CIn->TE}{xs:List w}{enc:w->PyData}{h:w->Qd}(hi:EvI K N Z (xs.map enc))(hl:xs.length<=1000)
(hs:∀x∈xs,∀c,∃C,GTo K (g c) (enc x) (JY f Z) C/\EvO K (l c) C (.ol<|h x)):EvO K (tLC f N g (λ_=>G3) l) Z (.oll<|xs.map h):=λD F O H Q U q=>
 hi D F O H _ U λF1 E H' k W c=>by
  have hn:=Wd (Vz hl);refine#[λi m ys H=>m=xs.length-i/\i<=xs.length/\∃t B,Q1 F1 E t H/\ys=B.map V.ref/\B.Nodup/\(∀a∈B,E a=none)/\Vb t H B ((xs.take i).map h),#[xs.length,by simp,XA _,F1,[],Q1.refl k.fh,rfl,by simp,λa X=>(nomatch X),trivial],?_];rintro i m ys J ⟨rfl,hle,t,B,s,rfl,R,n,M⟩;obtain⟨w1,w2⟩:=W t J s.ff s.fh
  by_cases A:i<xs.length
  .have e:(xs.map enc)[i]?=some (enc xs[i]):=by simp[A]
   obtain⟨go,yl⟩:=w2 i _ e;refine .inr #[go,λv I y=>I0 (yl v I y) λF3 Y r3=>I0 (hs xs[i] (XX A) c) λC k1 k2=>?_];have tk:xs.take (i+1)=xs.take i++[xs[i]]:=by rw[Uu];simp[A]
   refine k1 D F3 _ I v _ ((U.ext<|k.trans<|s.trans Y).inner f) r3 λu S4=>?_;dsimp only[G3];refine k2 D F3 u I _ S4 λF5 H5 z p L T ok=>#[?_,xs.length-(i+1),#[],rfl,A,F5,B++[?_],s.trans<|Y.trans L,?_,?_,?_,?_]
   .rw[Xe,M.length,Xe,MC];lia
   .exact(match z with|.ref b=>b|_=>0)
   all_goals apply L3 ok;rintro b rfl rfl o1
   .simp
   .rw[MD];refine#[R,by simp,λr j d hd=>?_];have G:=by simpa using hd
    subst G;intro z;subst z;have P:=T r Xb;have:=(M.mem r j).2;obtain⟨o,ho⟩:=Nt this;rw[Y.hh _ _ ho]at P;cases P
   .intro r j;rcases Xu.mp j with j|j
    .exact n r j
    .have:=by simpa using j
     subst this;exact(s.trans Y).hh.free (T r Xb)
   .rw[tk,Xv];exact(M.ext<|Y.trans L).snoc o1
  .have e:i=xs.length:=#[]
   subst e;refine .inl #[by simpa using w1,λa X=>?_];rw[JE]at M;have S:=λz=>(M.mem a z).2 X;refine q t _ _ (a::B) ((k.trans s).trans (Q1.own s.fh X)) (λb P=>?_) #[a,B,rfl,rfl,XN.mpr #[S,R],s.fh.free X,QF,M.other S]
   rcases Xc.mp P with rfl|P
   .exact(k.trans s).hh.free X
   .exact k.hh.free (n b P)
end L2
namespace L2
def Vn{a b c}:starEach (.Constant a b c::es) env=(false,eval (.Constant a b c) env)::starEach es env:=by rfl
def DR{a b c d}:starEach (.BinOp a b c d::es) env=(false,eval (.BinOp a b c d) env)::starEach es env:=by rfl
def IY{a b}:starEach (.List a b::es) env=(false,eval (.List a b) env)::starEach es env:=by rfl
structure PAb(X:Cx)(es:Qi)(t:TA):Prop where
 h:PA X es t
section
variable {e:Expr}{t:TA}
def BD:PAb X [] QH:=#[Qp]
def ZS(j:PE X e te)(h:PAb X es t)(f:zs X e es):PAb X (e::es) (Q3 te t):=#[Qs j h.h f]
def BZ(h:PAb X es t):PE X (.List es pos) (Y1 t):=Zk h.h
end
end L2
namespace PySem
section
variable {w:World}{K:Type} [DecidableEq K] (knd:KeyKind prog w K)
def YA(h:Heap)(f:List K×List K)(a:Addr):Prop := ∃o n p q,h.get? a=some o/\o.cls=.type "tuple" /\ o.data=.seq (List.toArray [.ref p,.ref q]) n/\IsTupleKey knd h f.1 p/\IsTupleKey knd h f.2 q
variable {knd}
def YA.typeIs  (x:YA knd s.heap ks a):s.TypeIs (.ref a) "tuple" := let ⟨o,_,_,_,ho,hc,_⟩:=x;#[o,ho,hc]
def YA.inj{y:List K×List K}(B:YA knd h x a)(A:YA knd h y a):x=y:=by
 obtain⟨o,n,p,q,C,_,D,U,M⟩:=B;obtain⟨X,Y,W,P,j,_,f,s,m⟩:=A;cases Option.some.inj (C.symm.trans j);rw[D]at f;injection f with z _;have w:=Xz Array.toList z;simp at w;obtain⟨rfl,rfl⟩:=w;exact Prod.ext (U.inj s) (M.inj m)
def YA.keeps{es ep}(x:YA knd h ks a)(w:h.get? d=some o)(A:o.data=.dict es ep)(f:Heap.SameBut d h h'):YA knd h' ks a:=by
 obtain⟨B,n,p,q,j,C,s,U,D⟩:=x;have m:a≠d:=λz=>by
  grind
 exact#[B,n,p,q,(f.2 a m).trans j,C,s,U.keeps w A f,D.keeps w A f]
noncomputable def NN(knd:KeyKind prog w K)(f:List K×List K):Int:=reduceHash (Builtin.Tuple.tupleHashOf [tupleKeyHash knd f.1,tupleKeyHash knd f.2])
variable {H1:Qb}
def ZgD(X:A.units+5<cLine)(D:YA knd s.heap ks a)(h:Q (NN knd ks) { s with toks:=s.toks+(ks.1.length+ks.2.length+3) }):
 wpAny (model prog w) A (pyHash<|.ref a) Q H1 s:=by
 have hT:=D.typeIs;refine aO D λo n p q K _ M U P=>Xa (wpAny_cRoomFor_or (.inr<|#[]) (Xa (wpAny_specialOf hT F.slot_tuple_hash.lookup (Xa (wpAny_specialOf hT F.slot_tuple_hash.lookup (Xa (wpAny_callSpecialIfBoundUnlessNone?_slot hT F.slot_tuple_hash<|wpAny_call_entry F.slot_tuple_hash hT F.entry_tuple_hash ?_<|F.args_tuple_hash_1 _)))))));show wpAny _ _ (Builtin.Tuple.tupleItemsOf (.ref a) >>= _) _ _ s;refine Xa (wpAny_tupleItemsOf K M (Xa ?_))
 rw[<- Array.forIn_toList];refine wpAny_forIn_list _
  (λrest (b) j=>(rest=[.ref p,.ref q]/\b.toList=[]/\j=s)\/(rest=[.ref q]/\b.toList=[tupleKeyHash knd ks.1]/\j={ s with toks:=s.toks+(ks.1.length+1) }) \/
   (rest=[]/\b.toList=[tupleKeyHash knd ks.1,tupleKeyHash knd ks.2]/\j={ s with toks:=s.toks+(ks.1.length+1)+(ks.2.length+1) }))
  _ ?_ ?_ _ _ (.inl #[rfl,rfl,rfl])
 .rintro x rest b j (⟨f,m,rfl⟩|⟨f,m,rfl⟩|⟨f,_⟩)
  .injection f with C B;subst C B;refine Xa (wpAny_pyHash_tuple ?hu1 U ?_)
   case hu1=>show A.units+1<cLine;lia
   exact Xl (.inr<|.inl #[rfl,by simp[m],rfl])
  .injection f with C B;subst C B;refine Xa (wpAny_pyHash_tuple ?hu2 P ?_)
   case hu2=>show A.units+1<cLine;lia
   exact Xl (.inr<|.inr #[rfl,by simp[m],rfl])
  .cases f
 .rintro b j (⟨f,_⟩|⟨f,_⟩|⟨_,m,rfl⟩)
  .cases f
  .cases f
  show wpAny _ _ (retInt<|Builtin.Tuple.tupleHashOf b.toList) _ _ _;rw[m];refine wpAny_ret_mkInt ?_;show wpAny _ _ (if _=true then _ else _) Q H1 _;unfold NN reduceHash at h;have W:s.toks+(ks.1.length+ks.2.length+3)=s.toks+(ks.1.length+1)+(ks.2.length+1)+1:=#[]
  rw[W]at h;split
  .rename_i f;rw[Xi f]at h;exact Xl h
  .rename_i f;rw[Xg f]at h;exact Xa (wpAny_rule<|Xl h)
def ZkP{y:List K×List K}{b:Addr}{P:Fin->Shared->Prop}(S:A.units+1<cLine)(z:YA knd s.heap x a)(n:YA knd s.heap y b)(h:P (.done<|.ret<|.bool<|decide (x=y)) s):
 wpAny (model prog w) A (Builtin.«tuple.__eq__» #[[.ref a,.ref b],[]]) P H1 s:=by
 refine aO z λO R p q X _ Z i g=>aO n λN Q u l W _ Y d c=>?_;show wpAny _ _ (isInstance (.ref b) (.type "tuple") >>= _) _ _ s;refine Xa (wpAny_isInstance n.typeIs isSubtype_tuple_tuple (Xa (wpAny_tupleItemsOf X Z (Xa (wpAny_tupleItemsOf W Y (Xa ?_))))))
 have t:decide (x=y)=(decide (x.1=y.1)&&decide (x.2=y.2)):=by
  obtain⟨I,H⟩:=x;obtain⟨G,F⟩:=y;simp
 refine wpAny_forIn_list _
  (λrest r M=>r.1=none/\M=s/\((rest=[(.ref p,.ref u),(.ref q,.ref l)])\/(rest=[(.ref q,.ref l)]/\x.1=y.1)\/(rest=[]/\x=y)))
  _ ?_ ?_ _ _ #[rfl,rfl,.inl rfl]
 .rintro⟨T,v⟩ rest r M ⟨o,rfl,(f|⟨f,E⟩|⟨f,_⟩)⟩
  .injection f with D C;injection D with B m;subst C B m;refine Xa (wpAny_eqBool_tuple #[] i d ?_)
   by_cases j:x.1=y.1
   .rw[Yx j];simp only[ if_false];exact Xl #[rfl,rfl,.inr<|.inl #[trivial,j]]
   .rw[XU j];rw[t,XU j]at h;exact Xa (Xl<|Xl<|Xl h)
  .injection f with D C;injection D with B m;subst C B m;refine Xa (wpAny_eqBool_tuple #[] g c ?_)
   by_cases j:x.2=y.2
   .rw[Yx j];simp only[ if_false];exact Xl #[rfl,rfl,.inr<|.inr #[trivial,Prod.ext E j]]
   .rw[XU j];rw[t,XU j,Bool.and_false]at h;exact Xa (Xl<|Xl<|Xl h)
  .cases f
 .rintro⟨L,J⟩ M ⟨rfl,rfl,(f|⟨f,_⟩|⟨_,e⟩)⟩
  .cases f
  .cases f
  refine Xl ?_;rwa[Yx e]at h
def ZgI{y:List K×List K}{b:Addr}(q:A.units+5<cLine)(j:YA knd s.heap x a)(m:YA knd s.heap y b)(h:Q (decide (x=y)) s):
 wpAny (model prog w) A (eqBool (.ref a)<|.ref b) Q H1 s:=by
 unfold eqBool;try with_reducible refine wpAny_holding ?_
 by_cases f:(Value.ref a==Value.ref b)=true
 .rw[Xi f];have e:=by have:=eq_of_beq f;injection this
  subst e;cases j.inj m;exact Xa (wpAny_rule<|Xl<|by simpa using h)
 .rw[Xg f];exact Xa (wpAny_richCompare_same_room j.typeIs m.typeIs F.slot_tuple_eq
   (wpAny_call_entry F.slot_tuple_eq j.typeIs F.entry_tuple_eq (ZkP (by simp;lia) j m #[_,rfl,(by rintro⟨⟩),wpAny_truthy_bool h])<|F.args_tuple_eq_2 _ _) #[])
def Zm9(n:Nat)(D:IsTupleKey knd s.heap ks a)(h:Q true s):wpAny (model prog w) A (eqIsQuiet (n+1)<|.ref a) Q H1 s:=by
 apply Ps D;rintro o q m K _⟨P,M⟩;unfold eqIsQuiet;refine Xa (wpAny_specialOf D.typeIs F.slot_tuple_eq.lookup (Xa (wpAny_isInstance D.typeIs isSubtype_tuple_tuple (Xa (wpAny_seqItems K P (Xa ?_))))));rw[<- Array.forIn_toList];refine wpAny_forIn_list _ (λrest r j=>r.1=none/\j=s/\∀v∈rest,carriedByValue v=true) _ ?_ ?_ _ _ #[rfl,rfl,M.byValue]
 .rintro v rest r j ⟨C,rfl,f⟩;rw[eqIsQuiet_byValue _<|f v Xb];exact Xl #[rfl,rfl,λW B=>f W<|Xf _ B]
 .rintro⟨Y,X⟩ j ⟨rfl,rfl,_⟩;exact Xl h
def Zfo(K:YA knd s.heap ks a)(h:Q true s):wpAny (model prog w) A (eqIsQuiet 8<|.ref a) Q H1 s:=by
 apply aO K;intro o n p q P _ W U X;unfold eqIsQuiet;refine Xa (wpAny_specialOf K.typeIs F.slot_tuple_eq.lookup (Xa (wpAny_isInstance K.typeIs isSubtype_tuple_tuple (Xa (wpAny_seqItems P W (Xa ?_))))));rw[<- Array.forIn_toList];refine wpAny_forIn_list _ (λrest r m=>r.1=none/\m=s/\∀v∈rest,∃z C,v=.ref z/\IsTupleKey knd s.heap C z) _ ?_ ?_ _ _ #[rfl,rfl,λv j=>?_]
 .rintro v rest r m ⟨D,rfl,f⟩;apply L0 (f v Xb);rintro z C rfl M;exact Xa (Zm9 6 M (Xl #[rfl,rfl,λY B=>f Y<|Xf _ B]))
 .rintro⟨b,Z⟩ m ⟨rfl,rfl,_⟩;exact Xl h
 .rcases Xc.mp j with rfl|j
  .exact#[p,_,rfl,U]
  .rcases Xc.mp j with rfl|j
   .exact#[q,_,rfl,X]
   .cases j
end
noncomputable def NE{prog:Program}{w:World}{K:Type}[DecidableEq K](f:KeyKind prog w K):HeapKind prog w (List K×List K) where
 is:=YA f
 hash:=NN f
 draws:=λB=>B.1.length+B.2.length+3
 room:=λA=>A.units+5<cLine
 inj:=λm j=>m.inj j
 keeps:=λx D hd C=>x.keeps D hd C
 pyHash:=λq s h=>ZgD q s h
 eqBool:=λq m j h=>ZgI q m j h
 quiet:=λs h=>Zfo s h
section
variable {w:World}{K:Type} [DecidableEq K] {knd:HeapKind prog w K}{H1:Qb}
def ZdH{d a:Addr}{xs:List (K×Addr×Value)}{k:K}{h:Value}{Q:Qb}(Y:knd.room A)(f:knd.is s.heap k a)(c:s.heap.DictOfH knd d xs)
(m:∀p,atKey xs k=some p->Q p.2 { s with toks:=s.toks+knd.draws k })
(M:atKey xs k=none->∀h',h'.DictOfH knd d (xs++[(k,a,h)])->Heap.SameBut d s.heap h'->Q h { s with heap:=h',toks:=s.toks+knd.draws k })
(hsz:xs.length<=sizeLine):
 wpAny (model prog w) A (dictSetDefault d (.ref a) h) Q H1 s:=by
 apply aK c;rintro o es i C g q W⟨P,X⟩;unfold dictSetDefault;try with_reducible refine wpAny_holding ?_;refine Xa (knd.pyHash Y f (Xa (wpAny_dictFind_heap Y f C q W P X ?_ ?_)))
 .intro D;have Z:=not_mem_keys_of_get D;refine Xa (wpAny_rule (Xa (wpAny_updateDictKeys (hz:=by have e:=size_of_entries W;lia) C q (Xl (M (atKey_none_of_get D) _ #[_,_,i+1,X9 _ C<|Obj.isFreed_of_dict<|Obj.data_mapDictKeys q _,
   g.mapDictKeys _,Obj.data_mapDictKeys q _,?_,?_,?_]<|Heap.SameBut.update ..)))))
  .simp[W,entryOfKey]
  .intro x B;rcases Xu.mp B with B|B
   .exact knd.keeps (P x B) C q (Heap.SameBut.update ..)
   .simp only[Xj]at B;subst B;exact knd.keeps f C q (Heap.SameBut.update ..)
  .rw[Xv,MD];refine#[X,by simp,?_]
   grind
 .refine λj p b=>Xa (wpAny_dictEntries C q ?_);rw[entry_at W j,b];exact Xa (wpAny_rule<|Xl<|m _<|atKey_of_get X b)
def Ze0(knd:HeapKind prog w K)(d a:Addr)(P:(d==sysModules)=false)(f:Value):
 MeetsIn prog w (Builtin.«dict.setdefault» #[[.ref d,.ref a,f],[]]) (λA R s=>knd.room A.in1/\∃k xs,knd.is s.heap k a/\s.heap.DictOfH knd d xs/\xs.length<=sizeLine/\
  (∀p,atKey xs k=some p->R (.ok<|.ret p.2) { s with toks:=s.toks+knd.draws k })/\
  (atKey xs k=none->∀h',h'.DictOfH knd d (xs++[(k,a,f)])->Heap.SameBut d s.heap h'->R (.ok<|.ret f) { s with heap:=h',toks:=s.toks+knd.draws k })):=
 .of_wp λA R s ⟨C,k,xs,h,q,B,U,W⟩=>by
  refine Xa<|Xa (wpAny_notOrdered_dict q.typeIs (Xl ?_));show wpAny _ _ (if _=true then _ else _) _ _ s;rw[Xg<|by exact P▸XF];exact Xa (ZdH C h q (λp D=>Xl #[p.2,rfl,U p D]) (λM h' m j=>Xl #[f,rfl,W M h' m j]) B)
end
end PySem
namespace L2
section
variable {κ:Type} [DecidableEq κ]
noncomputable def Z7(kvs:List (κ×V))(k:κ):Option V:=(kvs.find? λf=>decide (f.1=k)).map (·.2)
noncomputable def Yo(kvs:List (κ×V))(k:κ)(v:V):List (κ×V):=
 if (kvs.any λf=>decide (f.1=k))=true then kvs.map (λf=>if f.1=k then (f.1,v) else f) else kvs++[(k,v)]
def Wm{p:κ×V}(e:p.1=k):Z7 (p::r) k=some p.2:=by simp[Z7, e]
def Wk{p:κ×V}(e:¬p.1=k):Z7 (p::r) k=Z7 r k:=by simp[Z7, e]
theorem Ff(k:κ):∀kvs:List (κ×V),(kvs.any λf=>decide (f.1=k))=(Z7 kvs k).isSome
 |[]=>rfl
 |p::r=>by
  rw[List.any_cons];by_cases e:p.1=k
  .simp only[Wm e,Yx e,Bool.true_or,Option.isSome_some]
  .rw[Wk e,XU e];exact Ff k r
theorem C0(k j:κ)(y:V):∀kvs:List (κ×V),Z7 kvs k=none->Z7 (kvs++[(k,y)]) j=if j=k then some y else Z7 kvs j
 |[],_=>by
  by_cases e:k=j
  .rw[Xi e.symm];exact Wm e
  .rw[Xg λz=>e z.symm];exact Wk e
 |p::r,f=>by
  rw[JD];have h:¬p.1=k:=λz=>by rw[Wm z]at f;cases f
  rw[Wk h]at f;have m:=C0 k j y r f
  by_cases e:p.1=j
  .rw[Wm e,Wm e,Xg λz=>h<|e.trans z]
  .rw[Wk e,Wk e,m]
def C5(kvs:List (κ×V))(k:κ)(v:V):(Yo kvs k v).length<=kvs.length+1:=by
 unfold Yo;split
 .simp_all
 .simp_all
def Vj.isSome_eq(r:Vj o dx):o.isSome=dx.isSome:=by
 cases o with
 |none=>cases dx with
  |none=>rfl
  |some _=>exact(r).elim
 |some _=>cases dx with
  |none=>exact(r).elim
  |some _=>rfl
def Vj.getD(r:Vj o dx)(f:QO d d'):QO (o.getD d) (dx.getD d'):=by
 cases o with
 |none=>cases dx with
  |none=>exact f
  |some _=>exact(r).elim
 |some _=>cases dx with
  |none=>exact(r).elim
  |some _=>exact r
def KV.val(r:KV kvs vs)(k:κ):Vj (Z7 kvs k) (valueAt vs k):=by
 induction r with
 |nil=>exact True.intro
 |@cons p q ps f h t m=>
  obtain⟨U,s⟩:=h
  by_cases e:p.1=k
  .have j:=U.symm.trans e;have b:valueAt (q::f) k=some q.2:=by simp[valueAt, j]
   rw[Wm e,b];exact s
  .have j:¬q.1=k:=λz=>e (U.trans z)
   have b:valueAt (q::f) k=valueAt f k:=by simp[valueAt, j]
   rw[Wk e,b];exact m
def KV.any(r:KV kvs vs)(k:κ):(kvs.any λf=>decide (f.1=k))=vs.any λf=>decide (f.1=k):=by
 induction r with
 |nil=>rfl
 |cons h t j=>rw[List.any_cons,List.any_cons,j,h.1]
def KV.repl(r:KV kvs vs)(k:κ)(j:QO y dx):
 KV (kvs.map λf=>if f.1=k then (f.1,y) else f) (vs.map λf=>if f.1=k then (f.1,dx) else f):=by
 induction r with
 |nil=>exact .nil
 |@cons p q ps A h t m=>
  rw[Xy,Xy];refine .cons ?_ m;obtain⟨U,s⟩:=h
  by_cases e:p.1=k
  .rw[Xi e,Xi<|U.symm.trans e];exact#[U,j]
  .rw[Xg e,Xg λz=>e<|U.trans z];exact#[U,s]
def KV.put(r:KV kvs vs)(k:κ)(f:QO y dx):KV (Yo kvs k y) (stored vs k dx):=by
 unfold Yo stored;rw[r.any k];by_cases e:(vs.any λh=>decide (h.1=k))=true
 .rw[Xi e,Xi e];exact r.repl k f
 .rw[Xg e,Xg e];exact Paired.snoc r #[rfl,f]
def KV.keys{kvs:List (κ×V)}{vs:List (κ×Value)}(r:KV kvs vs):kvs.map (·.1)=vs.map (·.1):=by
 induction r with
 |nil=>rfl
 |cons h t f=>rw[Xy,Xy,f,h.1]
def KV.length{kvs:List (κ×V)}{vs:List (κ×Value)}(r:KV kvs vs):kvs.length=vs.length:=Paired.length r
end
def GF(r:QO (kV k) dx):(VH P w).is k dx=true:=by
 cases k with
 |inl i=>obtain⟨t,e⟩:=(r);subst e;exact ZlX P w i t
 |inr x=>obtain⟨t,e⟩:=(r);subst e;exact Zmb P w x t
theorem Cq{P:Program}{w:World}:∀{f:List Key} {us:Qe},QW (f.map kV) us->ItemsAre (VH P w) f us
 |[],_,r=>by rw[List.map_nil]at r;cases r;exact .nil
 |k::f,_,r=>by
  cases r with
  |cons h t=>exact .cons (GF h) (Cq t)
abbrev KT(H:Hp):List (List Key×V)->List (List Key×Addr×Value)->Prop:=Paired λp q=>p.1=q.1/\H q.2.1=some (.tup<|p.1.map kV)/\QO p.2 q.2.2
def KT.val{xs:List (List Key×Addr×Value)}(r:KT H kvs xs)(k:List Key):Vj (Z7 kvs k) ((atKey xs k).map (·.2)):=by
 induction r with
 |nil=>exact True.intro
 |@cons p q ps f h t m=>
  apply KE h;intro U _ s
  by_cases e:p.1=k
  .have j:=U.symm.trans e;have b:atKey (q::f) k=some q.2:=by simp[atKey, j]
   rw[Wm e,b];exact s
  .have j:¬q.1=k:=λz=>e (U.trans z)
   have b:atKey (q::f) k=atKey f k:=by simp[atKey, j]
   rw[Wk e,b];exact m
def KT.repl{xs:List (List Key×Addr×Value)}(r:KT H kvs xs)(k:List Key)(m:QO y dx):
 KT H (kvs.map λf=>if f.1=k then (f.1,y) else f) (xs.map<|putAt k dx):=by
 induction r with
 |nil=>exact .nil
 |@cons p q ps B h t s=>
  rw[Xy];refine .cons ?_ s;apply KE h;intro U j A;unfold putAt;by_cases e:p.1=k
  .rw[Xi e,Xi<|U.symm.trans e];exact#[U,j,m]
  .rw[Xg e,Xg λz=>e<|U.trans z];exact#[U,j,A]
def KT.put{xs:List (List Key×Addr×Value)}(r:KT H kvs xs)(k:List Key){b:Addr}(j:H b=some (.tup<|k.map kV))(f:QO y dx):
 KT H (Yo kvs k y) (storedH xs k b dx):=by
 have e:(kvs.any λh=>decide (h.1=k))=(atKey xs k).isSome:=by
  rw[Ff,(r.val k).isSome_eq,Uw]
 unfold Yo storedH;rw[e];by_cases q:(atKey xs k).isSome=true
 .rw[Xi q,Xi q];exact r.repl k f
 .rw[Xg q,Xg q];exact Paired.snoc r #[rfl,j,f]
def KT.keeps{xs:List (List Key×Addr×Value)}(r:KT H kvs xs)(f:∀b ys,H b=some (.tup ys)->J b=some (.tup ys)):KT J kvs xs:=
 Paired.mapP r λ_ _ z=>#[z.1,f _ _ z.2.1,z.2.2]
section
variable {w:World}{H:Hp}{a:Addr}
def Pq(f:HOk P w H h)(e:Rd H a dx):ZV P w H h a dx:=e.ok f
def Ua(f:HOk P w H h)(e:Rd H a (.dK kvs)):kvs.length<=sizeLine/\(a==sysModules)=false/\∃vs,KV kvs vs/\h.DictOf (VH P w) a vs:=
 show ZV P w H h a _ from Pq f e
def A7(f:HOk P w H h)(e:H a=some (.dK kvs)):kvs.length<=sizeLine/\(a==sysModules)=false/\∃vs,KV kvs vs/\h.DictOf (VH P w) a vs:=Ua f (.inl e)
def WR(j:HOk P w H h)(e:H a=some (.tup<|ks.map kV)):(tupleKind<|VH P w).is h ks a:=by
 apply aT ((j a _ e));intro _ f r o U q n m
 exact#[o,f.toArray,n,U,q,m,by simpa using Cq r]
def UJ(s:HOk P w H h)(e:Rd H a (.dT kvs)):kvs.length<=sizeLine/\(a==sysModules)=false/\
 ∃xs,KT H kvs xs/\h.DictOfH (tupleKind<|VH P w) a xs:=by
 apply Do ((Pq s e));rintro z y xs r o es W U⟨M,K,D,C⟩;refine#[z,y,xs,r,o,es,W,U,M,K,D,λx f=>?_,C];have j:∀{l:List _} {m:List _},KT H l m->∀x∈m,(tupleKind<|VH P w).is h x.1 x.2.1:=by
  intro l m q;induction q with
  |nil=>intro x f;exact nomatch f
  |@cons p q ps X A t B=>
   intro x f;rcases Xc.mp f with e|f
   .subst e;exact WR s (by exact A.1▸A.2.1)
   .exact B x f
 exact j r x f
def Kz(f:HOk P w H h)(e:H a=some (.dT kvs)):kvs.length<=sizeLine/\(a==sysModules)=false/\
 ∃xs,KT H kvs xs/\h.DictOfH (tupleKind<|VH P w) a xs:=UJ f (.inl e)
end
def V8(H:Hp)(a:Addr)(y:V)(r:Option V):Prop:=
 (∃f k,Rd H a (.dK f)/\y=kV k/\r=Z7 f k)\/∃f k b,Rd H a (.dT f)/\y=.ref b/\H b=some (.tup<|k.map kV)/\r=Z7 f k
def JT(H:Hp)(a:Addr)(y v:V)(J:Hp):Prop:=
 (∃f k,H a=some (.dK f)/\y=kV k/\f.length<sizeLine/\J=upd H a (.dK<|Yo f k v)) \/
 ∃f k b,H a=some (.dT f)/\y=.ref b/\H b=some (.tup<|k.map kV)/\f.length<sizeLine/\J=upd H a (.dT<|Yo f k v)
def V8.zk{H:Hp}{a:Addr}{kvs:List (Key×V)}{k:Key}(e:H a=some (.dK kvs)):V8 H a (kV k) (Z7 kvs k):=.inl #[kvs,k,.inl e,rfl,rfl]
def V8.t{b:Addr}{kvs:List (List Key×V)}{k:List Key}(e:H a=some (.dT kvs))(f:H b=some (.tup<|k.map kV)):V8 H a (.ref b) (Z7 kvs k):=.inr #[kvs,k,b,.inl e,rfl,f,rfl]
def JT.k{H:Hp}{a:Addr}{kvs:List (Key×V)}{k:Key}{v:V}(e:H a=some (.dK kvs))(f:kvs.length<sizeLine):JT H a (kV k) v (upd H a<|.dK<|Yo kvs k v):=.inl #[kvs,k,e,rfl,f,rfl]
def JT.t{b:Addr}{kvs:List (List Key×V)}{k:List Key}(e:H a=some (.dT kvs))(h:H b=some (.tup<|k.map kV))(f:kvs.length<sizeLine):
 JT H a (.ref b) v (upd H a<|.dT<|Yo kvs k v):=.inr #[kvs,k,b,e,rfl,h,f,rfl]
section
variable {O:St}{H:Hp}{a:Addr}{y v:V}{dx r:Value}{o:Option V}{H1:Qb}
def Qt.big(I:Qt X Y O H s):sysModules<s.heap.objs.size:=by
 exact Nat.lt_trans (by decide) ((I.mod.glob.keeps I.bk).lt)
def ZrA(K:A.units+1<cLine)(I:Qt X Y O H s)(g:V8 H a y (some v))(D:QO y dx)(h:∀m C,Qt X Y O H C->QO v m->Q m C):
 wpAny (model X.prog X.w) A (getItem (.ref a) dx) Q H1 s:=by
 rcases g with ⟨o,k,e,rfl,l⟩|⟨o,k,b,e,rfl,W,l⟩
 .exact aI (Ua I.hok e) λz P Z j dd=>I0 (Vj.some_of (by rw[l];exact j.val k)) λm q f=>wpAny_getItem_of (GF D) dd.mapOf q (h m _ (I.tok _) f)
 .cases (D);refine aI (UJ I.hok e) λz P xs j dd=>I0 (Vj.some_of (by rw[l];exact j.val k)) λm q f=>I0 (HA.mp q) λp M r=>wpAny_getItem_heap (tupleKind_room_in1 K) (WR I.hok W) dd M ?_;rw[r];exact h m _ (I.tok _) f
def Z0k(C:A.units+1<cLine)(I:Qt X Y O H s)(g:V8 H a y o)(B:QO y dx)(h:∀v,Qt X Y O H v->Q (.bool o.isSome) v):
 wpAny (model X.prog X.w) A (compareOp .In dx<|.ref a) Q H1 s:=by
 rcases g with ⟨j,k,e,rfl,l⟩|⟨j,k,b,e,rfl,D,l⟩
 .refine aI (Ua I.hok e) λz m K f dd=>wpAny_in_of (GF B) m dd.mapOf ?_;rw[<- (f.val k).isSome_eq,<- l];exact h _ (I.tok _)
 .cases (B);refine aI (UJ I.hok e) λz m xs f dd=>wpAny_in_heap (tupleKind_room_in1 C) (WR I.hok D) m dd ?_;have q:=(f.val k).isSome_eq;rw[Uw]at q;rw[<- q,<- l];exact h _ (I.tok _)
def Od(C:A.units+1<cLine)(I:Qt X Y O H s)(g:V8 H a y o)(B:QO y dx)(h:∀v,Qt X Y O H v->Q (.bool<|!o.isSome) v):
 wpAny (model X.prog X.w) A (compareOp .NotIn dx<|.ref a) Q H1 s:=by
 rcases g with ⟨j,k,e,rfl,l⟩|⟨j,k,b,e,rfl,D,l⟩
 .refine aI (Ua I.hok e) λz m K f dd=>wpAny_notIn_of (GF B) m dd.mapOf ?_;rw[<- (f.val k).isSome_eq,<- l];exact h _ (I.tok _)
 .cases (B);refine aI (UJ I.hok e) λz m xs f dd=>wpAny_notIn_heap (tupleKind_room_in1 C) (WR I.hok D) m dd ?_;have q:=(f.val k).isSome_eq;rw[Uw]at q;rw[<- q,<- l];exact h _ (I.tok _)
def BY(I:Qt X Y O H s)(h:Mut (H a))(j:Heap.SameBut a s.heap h')(he:∃q,h'.get? a=some q)(f:ZV X.prog X.w (upd H a ob) h' a ob):
 Qt X Y O (upd H a ob) { s with heap:=h',toks:=t' }:=
 I.write h (.inl rfl) (λb q m z=>(j.2 b m).trans z) he f
def T7(z:kvs.length<=sizeLine)(h:(a==sysModules)=false)(f:KV kvs vs)(dd:h'.DictOf (VH P w) a vs):
 ZV P w J h' a (.dK kvs):=#[z,h,vs,f,dd]
def ZqI(t:A.units+1<cLine)(I:Qt X Y O H s)(g:JT H a y v J)(W:QO y dx)(Z:QO v r)(h:∀P,Qt X Y O J P->Q () P):
 wpAny (model X.prog X.w) A (setItem (.ref a) dx r) Q H1 s:=by
 rcases g with ⟨j,k,e,K,l,M⟩|⟨j,k,b,e,K,i,l,M⟩
 .subst K M;apply aI (A7 I.hok e);intro z D n f dd;have p:n.length<=sizeLine:=by rw[<- f.length];exact z
  have C:(Yo j k v).length<=sizeLine:=by have:=C5 j k v;lia
  refine wpAny_setItem_pairs (GF W) dd λh' m B=>h _ ?_;have u:∃q,h'.get? a=some q:=let ⟨q,_,_,o,_⟩:=m;#[q,o];exact BY I (by rw[e];exact True.intro) B u (T7 C D (f.put k Z) m)
 .subst K M;cases (W);apply aI (Kz I.hok e);intro z D xs f dd;have p:xs.length<=sizeLine:=by rw[<- Paired.length f];exact z
  have C:(Yo j k v).length<=sizeLine:=by have:=C5 j k v;lia
  refine wpAny_setItem_heap (tupleKind_room_in1 t) (WR I.hok i) dd λh' m B=>h _ ?_;apply aK m;rintro q es G o F E x⟨_,w⟩;refine BY I (by rw[e];exact True.intro) B #[q,o] #[C,D,_,(f.put k i Z).keeps λc ys d=>?_,q,es,G,o,F,E,x,w];rw[Qv<|A9 d e λz=>nomatch z];exact d
end
def HQ(i:Expr):Prop := ∀f h,subscripted i false f h=operate [f,h] (getItem f h)
def Ll{w:World}{m:Qb}{j f:Expr}{T M:String}{Q:Qb}
(W:typeLookup (.type T) "__getitem__"=pure (some<|.builtin M))(P:HQ f)
(h:wpAny (model prog w) A (eval j env) (λo K=>wpAny (model prog w) A (eval f env) (λi B=>B.TypeIs o T/\wpAny (model prog w) A (getItem o i) Q m B) m K) m s):
 wpAny (model prog w) A (eval (.Subscript j f pos) env) Q m s:=by
 refine Subscript_ (wpAny_mono h (λo K Y=>wpAny_mono Y (λi B C=>Xa (Xa (wpAny_specialOf C.1 W ?_))) λ_ _ x=>x) λ_ _ x=>x);have q:wpAny (model prog w) A (subscripted f false o i) (λr D=>wpAny (model prog w) A (letTemporaryGo j o r >>= λ_=>pure r) Q m D) m B:=by
  rw[P o i];exact wpAny_operating (wpAny_mono C.2 (λr D X=>Xa<|wpAny_letTemporaryGo<|Xl X) λ_ _ x=>x)
 first
  |exact Xl (Xa q)
  |exact Xa _
  |exact Xa q
def ZlU  {O:St}{H:Hp}{a:Addr}{y:V}{o:Option V}(I:Qt X Y O H s)(g:V8 H a y o):s.TypeIs (.ref a) "dict" := by
 rcases g with ⟨f,k,e,_,_⟩|⟨f,k,b,e,_,_,_⟩
 .exact aI (Ua I.hok e) λ_ _ h _ dd=>dd.typeIs
 .exact aI (UJ I.hok e) λ_ _ xs _ dd=>dd.typeIs
def PL(td h:TE):TE:=λO H Q=>td O H λx E=>h O E λy f=>∃a v,x=.ref a/\V8 f a y (some v)/\Q v f
def MX(h td:TE):TE:=λO H Q=>h O H λy E=>td O E λx f=>∃a o,x=.ref a/\V8 f a y o/\Q (.bl o.isSome) f
def LQ(h td:TE):TE:=λO H Q=>h O H λy E=>td O E λx f=>∃a o,x=.ref a/\V8 f a y o/\Q (.bl<|!o.isSome) f
def Ki(td h tv:TE):TS:=λH0 O H=>tv O H λv E=>td O E λx m=>h O m λy j=>∃a f,x=.ref a/\JT j a y v f/\H0.nx O f
section
variable {o i value:Expr}{ty:TE}
def Lu(D:X.A.units+1<cLine)(M:PE X o td)(P:PE X i ty)(K:HQ i):PE X (.Subscript o i pos) (PL td ty):=by
 refine λY s O H Q I h=>Ll PySem.F.slot_dict_getitem.lookup K (Q7 (M Y s O H _ I h) ?_);rintro n m ⟨x,E,b,A,C⟩;refine Q7 (P Y m O E _ b C) ?_;rintro l k ⟨y,c,j,q,a,v,rfl,g,B⟩;obtain rfl:=A;exact#[ZlU j g,ZrA D j g q λd e Z f=>#[v,c,Z,f,B]]
def KJ(C:X.A.units+1<cLine)(K:PE X i ty)(D:PE X o td):PC X .In i o (MX ty td):=by
 refine λY s O H Q I h=>Q7 (K Y s O H _ I h) ?_;rintro e f ⟨y,E,Z,j,A⟩;refine Q7 (D Y f O E _ Z A) ?_;rintro k d ⟨x,b,W,m,a,B,rfl,g,q⟩;obtain rfl:=m;exact Z0k C W g j λc P=>#[.bl B.isSome,b,P,rfl,q]
def ZoX(B:X.A.units+1<cLine)(D:PE X i ty)(C:PE X o td):PC X .NotIn i o (LQ ty td):=by
 refine λY s O H Q I h=>Q7 (D Y s O H _ I h) ?_;rintro e f ⟨y,E,W,j,A⟩;refine Q7 (C Y f O E _ W A) ?_;rintro k c ⟨x,Z,P,m,a,d,rfl,g,q⟩;obtain rfl:=m;exact Od B P g j λb M=>#[.bl _,Z,M,rfl,q]
def Ly(M:X.A.units+1<cLine)(W:PE X o td)(Z:PE X i ty)(K:PE X value tv)(P:swapsWith value (some<|.Subscript o i pos') pos.line X.env=pure false):
 PS X (.Assign [.Subscript o i pos'] value pos) (Ki td ty tv):=by
 refine λY s O H H0 I h=>wpAny_Assign_Subscript (Q7 (K Y s O H _ I h) ?_) P;rintro r j ⟨v,E,k,A,D⟩;refine Q7 (W Y j O E _ k D) ?_;rintro w f ⟨x,n,e,q,C⟩;refine Q7 (Z Y f O n _ e C) ?_;rintro u t ⟨y,z,d,m,a,l,rfl,g,B⟩;obtain rfl:=q;exact ZqI M d g m A λp c=>#[O,l,c,B]
end
def ZsZ  (h:Heap)(f:sysModules<h.objs.size):ZV P w H (h.push { cls:=.type "dict",data:=.dict (List.toArray []) }) h.objs.size (.dK []):=
 #[XA _,beq_eq_false_iff_ne.mpr<|Ne.symm<|Xq f,[],.nil,Heap.DictOf.new h]
def FO  (h:Heap)(f:sysModules<h.objs.size):ZV P w H (h.push { cls:=.type "dict",data:=.dict (List.toArray []) }) h.objs.size (.dT []):=
 #[XA _,beq_eq_false_iff_ne.mpr<|Ne.symm<|Xq f,[],.nil,_,(List.toArray []),0,Xn _ rfl,#[rfl,rfl,rfl],rfl,rfl,MA]
def T2:TE:=λ_ H Q=>∀p,H p=none->Q (.ref p) (upd H p<|.dK [])
def Ef:TE:=λ_ H Q=>∀p,H p=none->Q (.ref p) (upd H p<|.dT [])
def Fj:PE X (.Dict [] [] pos) T2:=λY s O H Q I h=>
 wpAny_Dict_empty #[.ref s.heap.objs.size,_,I.laid (λ_ _ q=>Xd _ q) (Xm _)<|ZsZ s.heap I.big,rfl,h _<|I.hok.fresh<|Xm _]
def ZsK:PE X (.Dict [] [] pos) Ef:=λY s O H Q I h=>
 wpAny_Dict_empty #[.ref s.heap.objs.size,_,I.laid (λ_ _ q=>Xd _ q) (Xm _)<|FO s.heap I.big,rfl,h _<|I.hok.fresh<|Xm _]
structure M1(X:Cx)(o:Expr)(m:Str)(X3:Pos)(e:Expr)(XM:Pos):Prop where
 base:attributeBase o m X.env (eval o X.env)=eval o X.env
 few:((backTo XM<|starEach [e] X.env).all (λx => !x.1)&&(backToKw XM<|keywordEach [] X.env).all (λx=>x.1.isSome)
  && decide (([e]:Qi).length+([]:List Keyword).length+(if ([]:List Keyword).isEmpty then 0 else 1)<30))=true
 line:(X3.endLine==XM.line)=true
 trees:backTo XM (starEach [e] X.env)=[(false,eval e X.env)]
structure M2(X:Cx)(o:Expr)(m:Str)(X3:Pos)(e f:Expr)(XM:Pos):Prop where
 base:attributeBase o m X.env (eval o X.env)=eval o X.env
 few:((backTo XM<|starEach [e,f] X.env).all (λx => !x.1)&&(backToKw XM<|keywordEach [] X.env).all (λx=>x.1.isSome)
  && decide (([e,f]:Qi).length+([]:List Keyword).length+(if ([]:List Keyword).isEmpty then 0 else 1)<30))=true
 line:(X3.endLine==XM.line)=true
 trees:backTo XM (starEach [e,f] X.env)=[(false,eval e X.env),(false,eval f X.env)]
def IsD(H:Hp)(a:Addr):Prop:=(∃f,Rd H a<|.dK f)\/∃f,Rd H a (.dT f)
def TW{O:St}{H:Hp}{a:Addr}(I:Qt X Y O H s)(d:IsD H a):
 s.TypeIs (.ref a) "dict" /\ (∀b,Value.ref a=.ref b->∃f,s.heap.get? b=some f/\f.dict=none)/\(a==sysModules)=false:=by
 rcases d with ⟨h,e⟩|⟨h,e⟩
 .refine aI (Ua I.hok e) λ_ j A _ dd=>#[dd.typeIs,λb q=>?_,j];cases q;exact Ps dd λf _ _ U m _=>#[f,U,m.2.1]
 .refine aI (UJ I.hok e) λ_ j xs _ dd=>#[dd.typeIs,λb q=>?_,j];cases q;exact Ps dd λf _ _ U m _=>#[f,U,m.2.1]
section
variable {O:St}{H:Hp}{a:Addr}{y d:V}{dx r:Value}{o:Option V}{H1:Qb}
def E3(M:A.units+1<cLine)(I:Qt X Y O H s)(g:V8 H a y o)(D:QO y dx)(K:QO d r)(h:∀B C,Qt X Y O H C->QO (o.getD d) B->Q B C):
 wpAny (model X.prog X.w) A (call (.builtin "dict.get") [.ref a,dx,r]) Q H1 s:=by
 rcases g with ⟨j,k,e,rfl,l⟩|⟨j,k,b,e,rfl,P,l⟩
 .refine aI (Ua I.hok e) λz m W f dd=>call_meetsIn PySem.F.slot_dict_get dd.typeIs PySem.F.entry_dict_get (PySem.F.args_dict_get_3 _ _ _) (meets_dict_get_default _ a (GF D) m r) #[_,dd.mapOf,h _ _ (I.tok _) ?_];rw[l];exact(f.val k).getD K
 .cases (D);refine aI (UJ I.hok e) λz m xs f dd=>call_meetsIn PySem.F.slot_dict_get dd.typeIs PySem.F.entry_dict_get (PySem.F.args_dict_get_3 _ _ _) (meetsH_dict_get_default _ a b m r) #[tupleKind_room_in1 M,k,xs,WR I.hok P,dd,h _ _ (I.tok _) ?_];rw[l];exact(f.val k).getD K
end
def T3(td h tx:TE):TE:=λO H Q=>td O H λx E=>∃a,x=.ref a/\IsD E a/\h O E λy j=>tx O j λz f=>∃o,V8 f a y o/\Q (o.getD z) f
section
variable {o e f:Expr}{ty:TE}
def Zte(c:X.A.units+1<cLine)(i:PE X o td)(he:PE X e ty)(k:PE X f tx)(m:M2 X o "get" X3 e f XM):PE X (.Call (.Attribute o "get" X3) [e,f] [] XM) (T3 td ty tx):=by
 refine λY s O H Q I h=>wpAny_Call_method m.base m.few m.line PySem.F.plainAttrs_dict PySem.F.slot_dict_get PySem.F.type_dict_get (Q7 (i Y s O H _ I h) ?_);rintro N D ⟨x,E,q,P,a,rfl,d,b⟩;obtain rfl:=P;refine KE (TW q d) λB A _=>#[B,A,?_];rw[m.trees];refine Calls.callWith_builtin rfl (Calls.evalArgs_plain (Calls.spliced_cons (Q7 (he Y D O E _ q b) λJ C ⟨y,u,r,M,Z⟩=>
  Calls.spliced_cons (Q7 (k Y C O u _ r Z) λL F ⟨z,t,p,K,G,g,W⟩=>Calls.spliced_nil ?_))))
 exact E3 c p g M K λv w n j=>#[_,t,n,j,W]
end
section
variable {O:St}{H:Hp}{a:Addr}{kvs:List (Key×V)}{H1:Qb}
def ZsV(I:Qt X Y O H s)(e:Rd H a (.dK kvs))(h:∀p m,H p=none->Qt X Y O (upd H p<|.dK kvs) m->Q (.ref p) m):wpAny (model X.prog X.w) A (call (.type "dict") [.ref a]) Q H1 s:=by
 refine aI (Ua I.hok e) λz D K f dd=>kt_call_dict D dd (by exact f.length▸z) λh' j C=>h _ _ (I.hok.fresh<|Xm _) (I.laid (λb q B=>?_) (Xm _)<|T7 z (beq_eq_false_iff_ne.mpr<|Ne.symm<|Xq I.big) f j)
 exact(C.2 b<|Xq<|Xk B).trans (Xd _ B)
end
end L2
namespace L2
def Zy.keep(k:∀b∈p,J b=H b)(h:Zy K F H v t p):Zy K F J v t p:=h.move (Q4.refl _) (λa f=>(h.there a f).1) k
def QB.writeOwn(s:QB K D F Z O H)(e:zg Z i<|zo v Φ):
 O[i]?=some (some v)/\∃p,Φ.ok K F H v p/\(∀a∈p,D a=none/\F a=none/\H a≠none)/\
  ∀(J:Hp) (f:OwnP) (j:Qg),Q4 F J->(∀b,b∉p->H b≠none->J b=H b)->(∀b,H b≠none->J b≠none)->f.ok K F J v j->(∀a∈j,a∈p\/(H a=none/\D a=none))->
   QB K D F (Z.set i<|zo v f) O J:=by
 apply RC (s.chg e);rintro W p P⟨rfl,B⟩M k;exact#[P,p,B,M,λJ f j A C _ q m=>(k F J (.own _ f) j (Q4.refl _) A C (λb h=>.inl h) #[rfl,q] m).1]
end L2
namespace L2
def JM:Key->PyData
 |.inl i=>.int i
 |.inr x=>.str x
def Zd(k:List Key):PyData:=.tuple (k.map JM)
def ND(r:Rep F y (JM k)):y=kV k:=by
 cases k with
 |inl i=>cases r;rfl
 |inr x=>cases r;rfl
def Zqc{k:List Key}(h:Zt F ys (k.map JM)):ys=k.map kV:=DO (λ_ _ r=>ND r) h
def WX(r:Rep F y (Zd k)):∃b,y=.ref b/\F b=some (.tup<|k.map kV):=by
 cases r with
 |tup h f=>exact#[_,rfl,by rw[h,Zqc f]]
abbrev Yf:=List (List Key×PyData)
noncomputable def Y4(kvs:Yf)(k:List Key):Option PyData:=(kvs.find? λf=>decide (f.1=k)).map (·.2)
noncomputable def Bx(kvs:Yf)(k:List Key)(d:PyData):Yf:=if (kvs.any λf=>decide (f.1=k))=true then kvs.map (λf=>if f.1=k then (f.1,d) else f) else kvs++[(k,d)]
inductive PairD(F:Hp):List (List Key×V)->Yf->Prop
 |nil:PairD F [] []
 |cons {k:List Key}{x:V}{d:PyData}{xs:List (List Key×V)}{kvs:Yf}:Rep F x d->PairD F xs kvs->PairD F ((k,x)::xs) ((k,d)::kvs)
def PairD.mono(s:Q4 F F'):∀{xs:List (List Key×V)} {kvs:Yf},PairD F xs kvs->PairD F' xs kvs:=by
 intro xs kvs h;induction h with
 |nil=>exact .nil
 |cons r _ f=>exact .cons (r.mono s) f
def PairD.length:∀{xs:List (List Key×V)} {kvs:Yf},PairD F xs kvs->xs.length=kvs.length:=by
 intro xs kvs h;induction h with
 |nil=>rfl
 |cons _ _ f=>exact Xz Nat.succ f
theorem PairD.val{F:Hp}(k:List Key):∀{xs:List (List Key×V)} {kvs:Yf},PairD F xs kvs->(Z7 xs k=none/\Y4 kvs k=none)\/∃x d,Z7 xs k=some x/\Y4 kvs k=some d/\Rep F x d
 |_,_,.nil=>.inl #[rfl,rfl]
 |_,_,.cons (k:=k') (x:=x) (d:=d) (kvs:=kvs) r t=>by
  by_cases e:k'=k
  .exact .inr #[x,d,Wm e,by simp[Y4, e],r]
  .have q:Y4 ((k',d)::kvs) k=Y4 kvs k:=by simp[Y4, e]
   rw[Wk e,q];exact t.val k
theorem PairD.any{F:Hp}(k:List Key):∀{xs:List (List Key×V)} {kvs:Yf},PairD F xs kvs->(xs.any λf=>decide (f.1=k))=(kvs.any λf=>decide (f.1=k))
 |_,_,.nil=>rfl
 |_,_,.cons _ t=>by simp[t.any k]
theorem PairD.mapP{F:Hp}(k:List Key){y:V}{d:PyData}(r:Rep F y d):∀{xs:List (List Key×V)} {kvs:Yf},PairD F xs kvs->PairD F (xs.map λf=>if f.1=k then (f.1,y) else f) (kvs.map λf=>if f.1=k then (f.1,d) else f)
 |_,_,.nil=>.nil
 |_,_,.cons (k:=k') h t=>by
  rw[Xy,Xy];by_cases e:k'=k
  .simp only[e];exact .cons r (t.mapP k r)
  .simp only[e];exact .cons h (t.mapP k r)
theorem PairD.snoc{F:Hp}(k:List Key){y:V}{d:PyData}(r:Rep F y d):∀{xs:List (List Key×V)} {kvs:Yf},PairD F xs kvs->PairD F (xs++[(k,y)]) (kvs++[(k,d)])
 |_,_,.nil=>.cons r .nil
 |_,_,.cons f t=>.cons f (t.snoc k r)
def PairD.put(k:List Key)(r:Rep F y d){xs:List (List Key×V)}(t:PairD F xs kvs):PairD F (Yo xs k y) (Bx kvs k d):=by
 unfold Yo Bx;rw[t.any k];split
 .exact t.mapP k r
 .exact t.snoc k r
def VM(kvs:Yf):OwnP where
 ok K F H v p := ∃a xs,v=.ref a/\p=[a]/\F a=none/\H a=some (.dT xs)/\PairD F xs kvs
 there:=by
  rintro K F H v p ⟨a,xs,rfl,rfl,U,f,h⟩ b m;cases Xj.mp m;exact#[U,ZE f]
 mono:=by
  rintro K F C H J v p s B A ⟨a,xs,rfl,rfl,U,f,h⟩;exact#[a,xs,rfl,rfl,B a Xb,by rw[A a Xb];exact f,h.mono s]
 uniq:=by
  rintro K F H v p q ⟨a,xs,rfl,rfl,_⟩ ⟨b,ys,e,rfl,_⟩ c j;cases e;exact j
section
variable {ty:TE}{i:Nat}{v:V}{kvs:Yf}{k:List Key}{d:PyData}
def QB.dct(j:QB K D F Z O H)(e:zg Z i<|zo v<|VM kvs):
 ∃a xs,v=.ref a/\O[i]?=some (some<|.ref a)/\F a=none/\D a=none/\H a=some (.dT xs)/\PairD F xs kvs:=by
 apply aV (j.writeOwn e);rintro k p⟨a,xs,rfl,rfl,U,h,f⟩d _;exact#[a,xs,rfl,k,U,(d a Xb).1,h,f]
def R5{xs:List (List Key×V)}(t:PairD F xs kvs):(Z7 xs k).isSome=(Y4 kvs k).isSome:=by
 rcases t.val k with ⟨f,d⟩|⟨x,h,f,d,_⟩<;>rw[f,d]<;>rfl
def Il(j:Qr K ty Z (Zd k))(e:zg Z i<|zo v<|VM kvs):Qr K (MX ty<|Q5 i) Z (.bool (Y4 kvs k).isSome):=λD F O H Q f q=>
 j D F O H _ f λC E y d h=>by
  apply aN ((f.ext d).dct e);rintro a xs rfl B _ _ A s;apply I0 (WX h);rintro b rfl m;exact#[_,B,a,_,rfl,V8.t A<|d.fh _ _ m,q C E _ d<|by rw[R5 s];exact .bl _]
def Zow(j:Qr K ty Z (Zd k))(e:zg Z i<|zo v<|VM kvs):Qr K (LQ ty<|Q5 i) Z (.bool<|!(Y4 kvs k).isSome):=λD F O H Q f q=>
 j D F O H _ f λC E y d h=>by
  apply aN ((f.ext d).dct e);rintro a xs rfl B _ _ A s;apply I0 (WX h);rintro b rfl m;exact#[_,B,a,_,rfl,V8.t A<|d.fh _ _ m,q C E _ d<|by rw[R5 s];exact .bl _]
def ZrX(e:zg Z i<|zo v<|VM kvs)(n:Qr K tv Z d)(l:Qr K ty Z (Zd k))(hz:kvs.length<sizeLine)(hn:H0.nx (Z.set i<|zo v<|VM<|Bx kvs k d)):QE K (Ki (Q5 i) ty tv) Z H0:=λF0 D F O H T x m C=>
 n D F O H _ m λJ E Q j Y=>by
  apply SF ((m.ext j).dct e);rintro a xs rfl u _;refine#[_,u,l D J O E _ (m.ext j) λI S y h X=>?_];have B:=m.ext (j.trans h);apply aN (B.dct e);intro R W A _ s t r P;cases A;apply I0 (WX X);rintro b rfl o;refine#[a,_,rfl,JT.t r (h.fh _ _ o)<|by rw[P.length];exact hz,?_];apply aV (B.writeOwn e);intro _ p g L w;apply aU g;rintro G M A rfl _ N _;cases A;refine C.nx I O _ _ ((x.trans<|j.trans h).wr t s) (w _ (VM _) [a] (B.sub.upd s) (λc f _=>Qv λz=>f<|by exact z▸Xb) (λc f=>?_) #[a,_,rfl,rfl,s,QF,P.put k<|Y.mono h.ff] λc f=>.inl f) hn
  by_cases z:c=a
  .subst z;rw[QF];rintro⟨⟩
  .rw[Qv z];exact f
def EvX(K:W.Frag)(t:TE)(Z:ZbB)(Φ:OwnP):Prop := ∀(D F:Hp) (O:St) (H:Hp) (Q:VK),QB K D F Z O H->(∀d J v p,Q1 F H d J->(∀a∈p,H a=none)->Φ.ok K d J v p->Q v J)->t O H Q
def Ni(h:EvX K te Z Φ)(hn:∀v,H0.nx<|Z.set i<|zo v Φ):QE K (ZM te<|Vk i) Z H0:=λF0 D F O H r x m C=>
 h D F O H _ m λg J v p d s M=>by
  refine C.nx g _ J _ (x.trans d) ((m.ext d).set (t:=.own v Φ) #[rfl,M] (λa k=>x.hh.free<|s a k) (hn:=λa k j w B q e c f=>L3 m.fp λo X n W=>I0 (X j B e) λl A b=>?_)) (hn v);intro P;rw[c]at A;cases A;exact(W j a<|Mh (b.ext d) f a P).2 (s a k)
end
end L2
namespace Mir
theorem FV{g:Qn}{l:Nat}(h:∀c,c<=l->g c=0):∀m,QD g (l+1+m)=QD (λj=>g<|l+1+j) m
 |0=>by
  show QD g _=0;rw[Z4 λk f=>h k<|#[],Yu]
 |m+1=>by
  show QD g (l+1+m)+g _=_;rw[FV h m];rfl
theorem CV(y:Yd)(b own:Qn)(l:Nat):∀m,Uq y b own l m=QD (λj=>if Zn y (l+1+j)=some l then passes y b own (l+1+j) else 0) m
 |0=>rfl
 |m+1=>by simp only[Uq,QD];rw[CV y b own l m]
def GE{y:Yd}(f:y.Ok){c:Nat}(h:c<y.ls.length)(e:Zn y c=some l):l<c:=by
 by_cases j:c=0
 .subst j;rw[f.up0]at e;cases e
 .obtain _:=f.ups c #[] h;simp_all
def FR{y:Yd}(f:y.Ok)(b own:Qn)(j:l<y.ls.length):YU y b own l=own l+QD (λc=>if Zn y c=some l then passes y b own c else 0) y.ls.length:=by
 rw[ZrQ f,CV];have e:y.ls.length=l+1+(y.ls.length-1-l):=#[]
 have h:=FV (g:=λc=>if Zn y c=some l then passes y b own c else 0) (l:=l) (λc m=>Xg λz=>by
  have:=GE f #[] z;lia) (y.ls.length-1-l)
 rw[<- e]at h;rw[h]
section
variable {y:Yd}
def Fd(f:y.Ok):upL y 0=[0]:=by
 have:=f.l1;rw[TM f<|#[],Xi rfl]
end
end Mir
namespace Mir
noncomputable def ind(p:Prop)[Decidable p]:Int:=if p then 1 else 0
theorem FN{y:Yd}(f:y.Ok)(l:Nat)(M:l<y.ls.length):∀n j,j<n->j<y.ls.length->
 ind (l∈upL y j)=ind (j=l)+QD (λc=>if Zn y c=some l then ind (c∈upL y j) else 0) y.ls.length
 |0,j,h,_=>#[]
 |n+1,j,h,s=>by
  by_cases e:j=l
  .subst e;have z:QD (λc=>if Zn y c=some j then ind (c∈upL y j) else 0) y.ls.length=0:=by
    rw[Z4 λc A=>?_,Yu]
    by_cases m:Zn y c=some j
    .have:=GE f A m;have w:¬c∈upL y j:=λz=>by have:=TY y j c z;lia
     simp[m,ind,w]
    .simp[m]
   rw[z];simp[ind,N8]
  .by_cases D:j=0
   .subst D;have w:¬l∈upL y 0:=λz=>by rw[Fd f]at z;simp at z;exact e z.symm
    have z:QD (λc=>if Zn y c=some l then ind (c∈upL y 0) else 0) y.ls.length=0:=by
     rw[Z4 λc A=>?_,Yu]
     by_cases m:Zn y c=some l
     .have X:¬c∈upL y 0:=λz=>by
       rw[Fd f]at z;simp at z;subst z;rw[f.up0]at m;cases m
      simp[m,ind,X]
     .simp[m]
    rw[z];simp[ind,w,e]
   .obtain⟨a,B,Z⟩:=f.ups j #[] s;have K:=FN f l M n a #[] #[];have C:=K4 f #[] s B l (λz=>e z.symm);have W:ind (l∈upL y j)=ind (l∈upL y a):=by unfold ind;simp only[C]
    have P:∀c,c<y.ls.length->(if Zn y c=some l then ind (c∈upL y j) else 0)=(if Zn y c=some l then ind (c∈upL y a) else 0)+(if c=j then ind (a=l) else 0):=by
     intro c A;by_cases z:c=j
     .subst z;have w:¬c∈upL y a:=λq=>by have:=TY y a c q;lia
      rw[B];by_cases q:a=l
      . simp[ind,N8,w]
      .simp[ind,q]
     .have Y:=K4 f #[] s B c z;simp_all
    rw[W,K,Z4 P,Mn,GT,Xi s];have:ind (j=l)=0:=by unfold ind;rw[Xg e]
    lia
noncomputable def Vw(y:Yd)(m:Nat)(ln:Nat->Nat)(f:Qn)(l:Nat):Int:=QD (λk=>f k*ind (l∈upL y (ln k))) m
def Mi{y:Yd}(q:y.Ok){m:Nat}(j:∀k,k<m->ln k<y.ls.length)(f:Qn)(s:l<y.ls.length):
 Vw y m ln f l=QD (λk=>f k*ind (ln k=l)) m+QD (λc=>if Zn y c=some l then Vw y m ln f c else 0) y.ls.length:=by
 unfold Vw;have U:∀k,k<m->f k*ind (l∈upL y (ln k))=f k*ind (ln k=l)+QD (λc=>if Zn y c=some l then f k*ind (c∈upL y (ln k)) else 0) y.ls.length:=by
  intro k A;rw[FN q l s _ (ln k) (JF _)<|j k A,Int.mul_add,<- DJ];congr 1;refine Z4 λc _=>?_
  by_cases h:Zn y c=some l
  .rw[Xi h,Xi h]
  .simp_all
 rw[Z4 U,Mn,Hl];congr 1;refine Z4 λc _=>?_
 by_cases h:Zn y c=some l
 .simp_all
 .simp only[Xg h];rw[Yu]
theorem no_more{y:Yd}(s:y.Ok){m:Nat}{ln:Nat->Nat}(j:∀k,k<m->ln k<y.ls.length){f:Qn}{b own:Qn}(B:∀l,l<y.ls.length->QD (λk=>f k*ind (ln k=l)) m<=own l)(D:∀l,l<y.ls.length->Vw y m ln f l<=b l):
 ∀n l,y.ls.length<=l+n->l<y.ls.length->Vw y m ln f l<=passes y b own l
 |0,l,h,q=>#[]
 |n+1,l,h,q=>by
  have U:Vw y m ln f l<=YU y b own l:=by
   rw[Mi s j f q,FR s b own q];refine Int.add_le_add (B l q) (Jc λc C=>?_)
   by_cases A:Zn y c=some l
   .rw[Xi A,Xi A];have:=GE s C A;exact no_more s j B D n c #[] C
   .simp_all
  have K:=D l q;unfold passes;lia
end Mir
namespace Mir
def LG{y:Yd}{m:Nat}{f g:Qn}(h:∀k,k<m->f k<=g k)(l:Nat):Vw y m ln f l<=Vw y m ln g l:=
 Jc λk j=>by
  unfold ind;split
  .simp_all
  .lia
def Ii{y:Yd}{m:Nat}{f:Qn}(h:∀k,k<m->0<=f k)(l:Nat):0<=Vw y m ln f l:=
 Ie λk j=>by
  unfold ind;split
  .simp_all
  .lia
structure Shut(y:Yd)(m:Nat)(ln:Nat->Nat)(f mo:Qn)(b:Qn)(gs R:Qm):Prop where
 nn:∀k,k<m->0<=f k
 full:∀k,k<m->gs k=true->R (ln k)=false->f k=mo k
 none:∀k,k<m->gs k=false->R (ln k)=true->f k=0
 top:R 0=true->Vw y m ln f 0=b 0
 out:∀c a,c<y.ls.length->Zn y c=some a->R c=true->R a=false->Vw y m ln f c=b c
 inn:∀c a,c<y.ls.length->Zn y c=some a->R c=false->R a=true->Vw y m ln f c=0
def Z0(h:Qm)(f:Qn):Qn:=λk=>if h k=true then f k else 0
def NP{f:Qn}(h:0<=f k):Z0 gs f k<=f k:=by
 unfold Z0;split<;>lia
def Zt1{f:Qn}(h:0<=f k):0<=Z0 gs f k:=by
 unfold Z0;split<;>lia
theorem Shut.alike{y:Yd}(B:y.Ok){m:Nat}{ln:Nat->Nat}(j:∀k,k<m->ln k<y.ls.length){f P b:Qn}{q R:Qm}(h:Shut y m ln f P b q R):
 ∀n l,y.ls.length<=l+n->l<y.ls.length->R l=true->Vw y m ln f l=Vw y m ln (Z0 q f) l
 |0,l,W,D,_=>#[]
 |n+1,l,W,D,M=>by
  rw[Mi B j f D,Mi B j _ D];congr 1
  .refine Z4 λk A=>?_
   by_cases e:ln k=l
   .have:f k=Z0 q f k:=by
     unfold Z0;cases s:q k with
     |true=>simp
     |false=>simp;exact h.none k A s (by rw[e];exact M)
    rw[this]
   .simp[ind,e]
  .refine Z4 λc K=>?_
   by_cases C:Zn y c=some l
   .rw[Xi C,Xi C];have:=GE B K C;cases r:R c with
    |true=>exact Shut.alike B j h n c #[] K r
    |false=>
     have e:=h.inn c l K C r M;have Y:=LG (y:=y) (ln:=ln) (f:=Z0 q f) (λk A=>NP<|h.nn k A) c;have X:=Ii (y:=y) (ln:=ln) (f:=Z0 q f) (λk A=>Zt1<|h.nn k A) c;lia
   .simp_all
theorem Shut.all{y:Yd}(C:y.Ok){m:Nat}{ln:Nat->Nat}(j:∀k,k<m->ln k<y.ls.length){f D b own:Qn}{q R:Qm}(h:Shut y m ln f D b q R)
(K:∀l,l<y.ls.length->own l=QD (λk=>Z0 q D k*ind (ln k=l)) m):
 ∀n l,y.ls.length<=l+n->l<y.ls.length->(R l=true->l=0\/∃a,Zn y l=some a/\R a=false)->passes y b own l<=Vw y m ln (Z0 q f) l
 |0,l,P,A,_=>#[]
 |n+1,l,P,A,Y=>by
  cases r:R l with
  |true=>
   have e:Vw y m ln f l=b l:=by
    rcases Y r with z|⟨a,B,W⟩
    .subst z;exact h.top r
    .exact h.out l a A B r W
   rw[<- h.alike C j (n+1) l P A r,e];unfold passes;lia
  |false=>
   have U:YU y b own l<=Vw y m ln (Z0 q f) l:=by
    rw[Mi C j _ A,FR C b own A];refine Int.add_le_add ?_ (Jc λc M=>?_)
    .rw[K l A];refine Jc λk X=>?_
     by_cases e:ln k=l
     .have:Z0 q D k=Z0 q f k:=by
       unfold Z0;cases s:q k with
       |true=>simp;exact(h.full k X s<|by rw[e];exact r).symm
       |false=>simp
      rw[this];exact Gk _
     .simp[ind,e]
    .by_cases B:Zn y c=some l
     .rw[Xi B,Xi B];have:=GE C M B;exact Shut.all C j h K n c #[] M (λ_=>.inr #[l,B,r])
     .simp_all
   unfold passes;lia
end Mir
namespace Mir
section
variable {ν:Type} [DecidableEq ν]
abbrev Lay(ν:Type):=List (ν×ν×Int)
abbrev Zl(ν:Type):=ν->ν->Int
def WM(L:Lay ν):List ν:=L.flatMap λx=>[x.2.1,x.1]
def Yk(L:Lay ν)(φ:Zl ν):Ql:=L.flatMap λx=>[x.2.2-φ x.1 x.2.1,φ x.1 x.2.1]
def Dis(L:Lay ν):Prop:=(L.map λx=>(x.1,x.2.1)).Nodup
noncomputable def Yb(φ:Zl ν)(s e:ν)(a:Int):Zl ν:=λp q=>if p=s/\q=e then φ p q+a else φ p q
theorem KQ{j m:Type}(f g:j->m):∀(L:List j) (e:Nat),(L.flatMap λx=>[f x,g x])[e]?=L[e/2]?.map (if e%2=0 then f else g)
 |[],e=>by simp
 |x::L,0=>by simp
 |x::L,1=>by simp
 |x::L,e+2=>by
  have h:=KQ f g L e;simpa using h
noncomputable def hdE(L:Lay ν)(e:Nat):Option ν:=L[e/2]?.map λx=>if e%2=0 then x.2.1 else x.1
noncomputable def tlE(L:Lay ν)(e:Nat):Option ν:=L[e/2]?.map λx=>if e%2=0 then x.1 else x.2.1
noncomputable def rmE(L:Lay ν)(φ:Zl ν)(e:Nat):Option Int:=L[e/2]?.map λx=>if e%2=0 then x.2.2-φ x.1 x.2.1 else φ x.1 x.2.1
def Nj(L:Lay ν)(e:Nat):(WM L)[e]?=hdE L e:=by
 unfold WM hdE;rw[KQ];congr 1;split<;>rfl
def GY(L:Lay ν)(φ:Zl ν)(e:Nat):(Yk L φ)[e]?=rmE L φ e:=by
 unfold Yk rmE;rw[KQ];congr 1;split<;>rfl
noncomputable def Zhu(e:Nat):Nat:=if e%2=0 then e+1 else e-1
def Zp3(L:Lay ν)(e:Nat):(WM L)[Zhu e]?=tlE L e:=by
 rw[Nj];unfold hdE tlE Zhu;by_cases h:e%2=0
 .have U:(e+1)/2=e/2:=#[]
  have f:¬(e+1)%2=0:=#[]
  simp_all
 .have U:(e-1)/2=e/2:=#[]
  have f:(e-1)%2=0:=#[]
  simp_all
def Vs(L:Lay ν)(F:ν->ν->Int):Int:=(L.map λx=>F x.1 x.2.1).sum
noncomputable def VL(L:Lay ν)(φ:Zl ν)(n:ν):Int:=Vs L λs e=>φ s e*(ind (s=n)-ind (e=n))
def ZnV{s:ν}(h:(s,e)∉L.map λx=>(x.1,x.2.1))(G:Int->ν->ν->Int):
 Vs L (λp q=>G (Yb φ s e a p q) p q)=Vs L λp q=>G (φ p q) p q:=by
 unfold Vs;congr 1;refine Ux λx m=>?_
 have:¬(x.1=s/\x.2.1=e):=by rintro⟨j,f⟩;exact h (Xs.mpr #[x,m,by rw[j,f]])
 unfold Yb;dsimp only;rw[Xg this]
theorem Cu{φ:Zl ν}{a:Int}(G:Int->ν->ν->Int):∀{L:Lay ν},Dis L->∀{x:ν×ν×Int},x∈L->
 Vs L (λp q=>G (Yb φ x.1 x.2.1 a p q) p q)=Vs L (λp q=>G (φ p q) p q)-G (φ x.1 x.2.1) x.1 x.2.1+G (φ x.1 x.2.1+a) x.1 x.2.1
 |[],_,_,h=>by cases h
 |y::L,f,x,h=>by
  unfold Dis at f;rw[Xy,XN]at f;rcases Xc.mp h with rfl|h
  .have:=ZnV (φ:=φ) (a:=a) f.1 G;have e:Yb φ x.1 x.2.1 a x.1 x.2.1=φ x.1 x.2.1+a:=by unfold Yb;rw[Xi #[rfl,rfl]]
   unfold Vs at this ⊢;rw[Xy,Gp,Xy,Gp,this];dsimp only;rw[e];lia
  .have j:=Cu (φ:=φ) (a:=a) G f.2 h;have A:¬(y.1=x.1/\y.2.1=x.2.1):=λ⟨s,m⟩=>f.1 (Xs.mpr #[x,h,by rw[s,m]]);have e:Yb φ x.1 x.2.1 a y.1 y.2.1=φ y.1 y.2.1:=by unfold Yb;rw[Xg A]
   unfold Vs at j ⊢;rw[Xy,Gp,Xy,Gp,j];dsimp only;rw[e];lia
noncomputable def YG(L:Lay ν)(a:Int)(φ:Zl ν)(e:Nat):Zl ν:=
 match L[e/2]? with
 |some x=>Yb φ x.1 x.2.1 (if e%2=0 then a else -a)
 |none=>φ
def Zqj(B:Dis L){s:ν}(f:hdE L e=some t)(h:tlE L e=some s)(n:ν):
 VL L (YG L a φ e) n=VL L φ n+a*(ind (s=n)-ind (t=n)):=by
 unfold hdE at f;unfold tlE at h;cases j:L[e/2]? with
 |none=>rw[j]at f;cases f
 |some x=>
  rw[j]at f h;have A:YG L a φ e=Yb φ x.1 x.2.1 (if e%2=0 then a else -a):=by unfold YG;rw[j]
  rw[A];unfold VL;rw[Cu (λv p q=>v*(ind (p=n)-ind (q=n))) B (List.mem_of_getElem? j)];simp only[WE,Option.some.injEq]at f h;by_cases z:e%2=0
  .rw[Xi z]at f h ⊢;subst f h;rw[Int.add_mul];lia
  .rw[Xg z]at f h ⊢;subst f h;rw[Int.add_mul,Int.neg_mul,Bu a,Bu a];lia
inductive Chain(L:Lay ν)(s:ν):ν->Qk->Prop
 |nil:Chain L s s []
 |cons {n m:ν}{e:Nat}{w:Qk}(h:hdE L e=some n)(t:tlE L e=some m)(c:Chain L s m w):Chain L s n (e::w)
noncomputable def Wx(L:Lay ν)(a:Int)(φ:Zl ν)(w:Qk):Zl ν:=w.foldl (YG L a) φ
theorem N5{L:Lay ν}(f:Dis L){s:ν}{a:Int}(p:ν):∀{w:Qk} {n:ν} {φ:Zl ν},Chain L s n w->VL L (Wx L a φ w) p=VL L φ p+a*(ind (s=p)-ind (n=p))
 |_,_,φ,.nil=>by
  show VL L φ p=_
  simp_all
 |e::w,n,φ,.cons h t c=>by
  show VL L (Wx L a _ w) p=_;rw[N5 f p c,Zqj f h t,Bu,Bu,Bu];lia
def Within(L:Lay ν)(φ:Zl ν):Prop := ∀x∈L,0<=φ x.1 x.2.1/\φ x.1 x.2.1<=x.2.2
def No:∀{L:Lay ν},Dis L->∀{i j:Nat} {x y:ν×ν×Int},L[i]?=some x->L[j]?=some y->x.1=y.1->x.2.1=y.2.1->i=j:=λ{L} q {i j x y} m h A s=>by
 have a:(L.map λx=>(x.1,x.2.1))[i]?=some (x.1,x.2.1):=by rw[XG,m];rfl
 have b:(L.map λx=>(x.1,x.2.1))[j]?=some (x.1,x.2.1):=by rw[XG,h,A,s];rfl
 exact(List.getElem?_inj ((Xh.mp a).1) q).mp (a.trans b.symm)
def Zl8{L:Lay ν}(D:Dis L){φ:Zl ν}(h:Within L φ){a:Int}(M:0<=a){e:Nat}{r:Int}(he:rmE L φ e=some r)(K:a<=r):Within L (YG L a φ e):=by
 unfold rmE at he;cases f:L[e/2]? with
 |none=>rw[f]at he;cases he
 |some x=>
  rw[f]at he;simp only[WE,Option.some.injEq]at he;intro y A;have m:=h y A;have C:YG L a φ e=Yb φ x.1 x.2.1 (if e%2=0 then a else -a):=by unfold YG;rw[f]
  rw[C];unfold Yb;by_cases z:y.1=x.1/\y.2.1=x.2.1
  .rw[Xi z];obtain⟨j,s⟩:=List.mem_iff_getElem?.mp A;have B:=No D s f z.1 z.2;subst B;rw[f]at s;cases s
   by_cases q:e%2=0
   .rw[Xi q]at he ⊢;lia
   .rw[Xg q]at he ⊢;lia
  .rw[Xg z];exact m
def Zr8{L:Lay ν}(s:Dis L){φ:Zl ν}{a:Int}(D:0<=a){e f:Nat}(B:f≠e){r:Int}(he:rmE L φ f=some r):∃m,rmE L (YG L a φ e) f=some m/\r<=m:=by
 unfold rmE at he ⊢;cases j:L[f/2]? with
 |none=>rw[j]at he;cases he
 |some y=>
  rw[j]at he;simp only[WE]at he ⊢;refine#[_,rfl,?_];unfold YG;cases A:L[e/2]? with
  |none=>simp only[];lia
  |some x=>
   simp only[];unfold Yb;by_cases z:y.1=x.1/\y.2.1=x.2.1
   .rw[Xi z];have C:=No s j A z.1 z.2
    by_cases q:e%2=0
    .have h:¬f%2=0:=#[]
     rw[Xg h]at he ⊢;rw[Xi q];lia
    .have h:f%2=0:=#[]
     rw[Xi h]at he ⊢;rw[Xg q];lia
   .rw[Xg z];lia
theorem CM{L:Lay ν}(j:Dis L){a:Int}(m:0<=a):∀{w:Qk} {φ:Zl ν},Within L φ->w.Nodup->(∀e∈w,∃r,rmE L φ e=some r/\a<=r)->Within L (Wx L a φ w)
 |[],_,h,_,_=>h
 |e::w,φ,h,D,A=>by
  obtain⟨U,K⟩:=XN.mp D;obtain⟨r,M,C⟩:=A e Xb;show Within L (Wx L a _ w);refine CM j m (Zl8 j h m M C) K λW f=>?_;obtain⟨X,s,B⟩:=A W (Xf _ f);obtain⟨q,P,Y⟩:=Zr8 j m (e:=e) (λz=>U<|z▸f) s
  exact#[q,P,#[]]
abbrev Got(ν:Type):=List (ν×Option Nat)
def Za(es:Got ν):List ν:=es.map (·.1)
inductive Tree(L:Lay ν)(φ:Zl ν)(s:ν):Got ν->Prop
 |root:Tree L φ s [(s,none)]
 |add {es:Got ν}{e:Nat}{n m:ν}{r:Int}(t:Tree L φ s es)(hn:n∉Za es)(hh:hdE L e=some n)(ht:tlE L e=some m)(hm:m∈Za es)(hr:rmE L φ e=some r)(h0:0<r):Tree L φ s (es++[(n,some e)])
noncomputable def JZ(es:Got ν)(n:ν):Option (Option Nat):=es.lookup n
def ZlF{es:Got ν}:n∉Za es->es.lookup n=none:=by
 induction es with
 |nil=>intro _;rfl
 |cons p es f=>
  intro h;rw[X4];have:(n==p.1)=false:=by rw[beq_eq_false_iff_ne];exact (λz=>h (by exact z▸Xb))
  rw[this];exact f (λz=>h (Xf _ z))
def R6{es f:Got ν}:(es++f).lookup n=(es.lookup n).or (f.lookup n):=by
 grind
inductive Back(L:Lay ν)(es:Got ν):ν->Qk->Prop
 |nil {n:ν}(h:JZ es n=some none):Back L es n []
 |cons {n m:ν}{e:Nat}{w:Qk}(h:JZ es n=some (some e))(t:tlE L e=some m)(b:Back L es m w):Back L es n (e::w)
theorem Back.app{L:Lay ν}{es f:Got ν}:∀{w:Qk} {n:ν},Back L es n w->Back L (es++f) n w
 |_,_,.nil h=>.nil (by unfold JZ at h ⊢;rw[R6,h];rfl)
 |_,_,.cons h t b=>.cons (by unfold JZ at h ⊢;rw[R6,h];rfl) t b.app
structure WayOk(L:Lay ν)(φ:Zl ν)(s:ν)(es:Got ν)(n:ν)(w:Qk):Prop where
 back:Back L es n w
 chain:Chain L s n w
 nodup:w.Nodup
 room:∀e∈w,∃r,rmE L φ e=some r/\0<r
 heads:∀e∈w,∃m,hdE L e=some m/\m∈Za es
theorem Tree.way{L:Lay ν}{φ:Zl ν}{s:ν}:∀{es:Got ν},Tree L φ s es->∀n∈Za es,∃w,WayOk L φ s es n w
 |_,.root,n,D=>by
  have e:=by simpa [Za] using D
  subst e;exact#[[],.nil<|by simp[JZ],.nil,MA,(by rintro e ⟨⟩),(by rintro e ⟨⟩)]
 |_,.add (es:=es) (e:=e) (n:=k) (m:=m) t W K M Y X Z,n,D=>by
  have j:n∈Za es\/n=k:=by simpa [Za] using D
  have A:∀p,p∈Za es->p∈Za (es++[(k,some e)]):=λp P=>by
   unfold Za at P ⊢;rw[Xv];exact Gj _ P
  rcases j with j|rfl
  .obtain⟨w,q⟩:=t.way n j;exact#[w,q.back.app,q.chain,q.nodup,q.room,λB f=>let ⟨C,a,b⟩:=q.heads B f;#[C,a,A _ b]]
  .obtain⟨w,q⟩:=t.way m Y;refine#[e::w,.cons ?_ M q.back.app,.cons K M q.chain,XN.mpr #[λz=>?_,q.nodup],λB f=>?_,λB f=>?_]
   .unfold JZ;rw[R6,ZlF W];simp
   .obtain⟨C,a,b⟩:=q.heads e z;rw[K]at a;cases a;exact W b
   .rcases Xc.mp f with rfl|f
    .exact#[_,X,Z]
    .exact q.room B f
   .rcases Xc.mp f with rfl|f
    .exact#[n,K,by simp[Za]]
    .obtain⟨C,a,b⟩:=q.heads B f;exact#[C,a,A _ b]
theorem Tree.nodup{L:Lay ν}{φ:Zl ν}{s:ν}:∀{es:Got ν},Tree L φ s es->(Za es).Nodup
 |_,.root=>by simp[Za]
 |_,.add (n:=k) t f _ _ _ _ _=>by
  have:=t.nodup;unfold Za at this f ⊢;rw[Xv,MD];refine#[this,by simp,λa j b h=>?_];have e:=by simpa using h
  exact λz=>f (e▸z▸j)
theorem Tree.start{L:Lay ν}{φ:Zl ν}{s:ν}:∀{es:Got ν},Tree L φ s es->s∈Za es
 |_,.root=>by simp[Za]
 |_,.add t _ _ _ _ _ _=>by
  have:=t.start;unfold Za at this ⊢;rw[Xv];exact Gj _ this
theorem Tree.sub{L:Lay ν}{φ:Zl ν}{s:ν}:∀{es:Got ν},Tree L φ s es->∀n∈Za es,n∈s::WM L
 |_,.root,n,h=>by
  have e:=by simpa [Za] using h
  rw[e];exact Xb
 |_,.add (es:=es) (n:=k) t m j _ _ _ _,n,h=>by
  have f:n∈Za es\/n=k:=by simpa [Za] using h
  rcases f with f|rfl
  .exact t.sub n f
  .exact Xf _ (List.mem_of_getElem?<|(Nj L _).trans j)
theorem Rm{f:Type}[DecidableEq f]:∀{xs ys:List f},xs.Nodup->(∀x∈xs,x∈ys)->xs.length<=ys.length
 |[],_,_,_=>XA _
 |x::xs,ys,A,h=>by
  obtain⟨U,B⟩:=XN.mp A;have m:=h x Xb;have:=Rm B λz j=>by
   have s:z≠x:=λq=>U (q▸j)
   exact(List.mem_erase_of_ne s).mpr (h z<|Xf _ j)
  rw[List.length_erase_of_mem m]at this;have:=List.length_pos_of_mem m;rw[XY];lia
def Tree.len{s:ν}{es:Got ν}(t:Tree L φ s es):es.length<=(WM L).length+1:=by
 have:=Rm t.nodup t.sub;simpa [Za] using this
def Y5(L:Lay ν)(φ:Zl ν)(es:Got ν):Prop := ∀e m n r,tlE L e=some m->hdE L e=some n->rmE L φ e=some r->0<r->m∈Za es->n∈Za es
end
end Mir
namespace Mir
inductive Nd where
 |start|fin
 |guest (k:Nat)
 |line (l t:Nat)
deriving DecidableEq
structure Gv where
 m:Nat
 ln:Nat->Nat
 wa:Qn
 mo:Qn
 th:Nat->Qm
def upN(y:Yd)(l:Nat):Nat:=(Zn y l).getD 0
noncomputable def Vo(y:Yd)(G:Gv)(k:Nat):Lay Nd:=(.start,.guest k,G.wa k)::(List.range y.T).flatMap λt=>if G.th k t=true then [(.guest k,.line (G.ln k) t,G.mo k)] else []
noncomputable def Ye(y:Yd)(t:Nat):Lay Nd:=(.line 0 t,.fin,ZU y 0 t)::(List.range<|y.ls.length-1).flatMap λi=>[(.line (i+1) t,.line (upN y<|i+1) t,ZU y (i+1) t)]
noncomputable def Zr(y:Yd)(G:Gv):Lay Nd:=(List.range G.m).flatMap (Vo y G)++(List.range y.T).flatMap (Ye y)
def Fc(A B:Lay Nd)(F:Nd->Nd->Int):Vs (A++B) F=Vs A F+Vs B F:=by
 unfold Vs;simp_all
theorem M0(f:Nat->Lay Nd)(F:Nd->Nd->Int):∀n,Vs ((List.range n).flatMap f) F=QD (λk=>Vs (f k) F) n
 |0=>rfl
 |n+1=>by
  rw[WF,MI,Fc,M0 f F n];simp[QD]
def Fv(x:Nd×Nd×Int)(F:Nd->Nd->Int):Vs [x] F=F x.1 x.2.1:=by simp[Vs]
def FY(x:Nd×Nd×Int)(L:Lay Nd)(F:Nd->Nd->Int):Vs (x::L) F=F x.1 x.2.1+Vs L F:=by simp[Vs]
def Zqr(y:Yd)(G:Gv)(F:Nd->Nd->Int)(k:Nat):Vs (Vo y G k) F=F .start (.guest k)+QD (λt=>if G.th k t=true then F (.guest k) (.line (G.ln k) t) else 0) y.T:=by
 unfold Vo;rw[FY,M0];congr 1;refine Z4 λt _=>?_
 split
 .rw[Fv]
 .rfl
def Zp4(y:Yd)(F:Nd->Nd->Int)(t:Nat):Vs (Ye y t) F=F (.line 0 t) .fin+QD (λi=>F (.line (i+1) t)<|.line (upN y<|i+1) t) (y.ls.length-1):=by
 unfold Ye;rw[FY,M0];congr 1;refine Z4 λt _=>?_;rw[Fv]
def Rp(y:Yd)(G:Gv)(F:Nd->Nd->Int):Vs (Zr y G) F =
 QD (λk=>F .start (.guest k)+QD (λt=>if G.th k t=true then F (.guest k) (.line (G.ln k) t) else 0) y.T) G.m +
 QD (λt=>F (.line 0 t) .fin+QD (λi=>F (.line (i+1) t)<|.line (upN y<|i+1) t) (y.ls.length-1)) y.T:=by
 unfold Zr;rw[Fc,M0,M0];congr 1
 .exact Z4 λk _=>Zqr y G F k
 .exact Z4 λt _=>Zp4 y F t
def WA{y:Yd} : x∈Vo y G k↔x=(.start,.guest k,G.wa k)\/∃t,t<y.T/\G.th k t=true/\x=(.guest k,.line (G.ln k) t,G.mo k):=by
 unfold Vo;simp_all
def J6{y:Yd} : x∈Ye y t↔x=(.line 0 t,.fin,ZU y 0 t)\/∃i,i<y.ls.length-1/\x=(.line (i+1) t,.line (upN y<|i+1) t,ZU y (i+1) t):=by
 unfold Ye;simp_all
def Bb{y:Yd} : x∈Zr y G↔(∃k,k<G.m/\x∈Vo y G k)\/∃t,t<y.T/\x∈Ye y t:=by
 unfold Zr;simp_all
def DW(n:Nat):(List.range n).Pairwise (· ≠ ·):=List.nodup_range
def DS(y:Yd)(G:Gv):Dis (Zr y G):=by
 unfold Dis List.Nodup;rw[List.pairwise_map];unfold Zr;rw[List.pairwise_append];refine#[?_,?_,?_]
 .rw[Hz];refine#[λk _=>?_,(DW _).imp λ{k j} s x f z h=>?_]
  .unfold Vo;rw[List.pairwise_cons];refine#[λx f=>?_,?_]
   .grind
   .rw[Hz];refine#[λt _=>?_,(DW _).imp λ{t B} m x f z h=>?_]
    .split
     .exact List.pairwise_singleton _ _
     .exact List.Pairwise.nil
    .split at f
     .split at h
      .rw[Xj.mp f,Xj.mp h];intro q;simp at q;exact m q
      .cases h
     .cases f
  .rcases WA.mp f with rfl|⟨t,_,_,rfl⟩<;>rcases WA.mp h with rfl|⟨B,_,_,rfl⟩<;>intro q<;>simp at q
   .exact s q
   .exact s q.1
 .rw[Hz];refine#[λt _=>?_,(DW _).imp λ{t B} m x f z h=>?_]
  .unfold Ye;rw[List.pairwise_cons];refine#[λx f=>?_,?_]
   .grind
   .rw[Hz];refine#[λt _=>List.pairwise_singleton _ _,(DW _).imp λ{i j} A x f z h=>?_];rw[Xj.mp f,Xj.mp h];intro q;simp at q;exact A q.1
  .rcases J6.mp f with rfl|⟨i,_,rfl⟩<;>rcases J6.mp h with rfl|⟨j,_,rfl⟩<;>intro q<;>simp at q
   .exact m q
   .exact m q.1.2
 .refine λx f z h=>I0 (HD.mp f) λk _ f=>I0 (HD.mp h) λt _ h=>?_;rcases WA.mp f with rfl|⟨C,_,_,rfl⟩<;>rcases J6.mp h with rfl|⟨j,_,rfl⟩<;>intro q<;>simp at q
end Mir
namespace Mir
noncomputable def Zv(G:Gv)(φ:Zl Nd)(t k:Nat):Int:=if G.th k t=true then φ (.guest k) (.line (G.ln k) t) else 0
noncomputable def upF(y:Yd)(φ:Zl Nd)(t l:Nat):Int:=if l=0 then φ (.line 0 t) .fin else φ (.line l t) (.line (upN y l) t)
theorem Rk(f:Qn):∀n,QD f (n+1)=f 0+QD (λi=>f<|i+1) n
 |0=>by simp[QD]
 |n+1=>by
  show QD f _+f _=_;rw[Rk f n];simp[QD]
  lia
def VD[Decidable p](h:¬p):ind p=0:=Xg h
def N0{q:Prop}[Decidable p][Decidable q](h:p↔q):ind p=ind q:=by unfold ind;simp only[h]
def ZnT(y:Yd)(G:Gv)(φ:Zl Nd){k0:Nat}(h:k0<G.m):VL (Zr y G) φ (.guest k0)=QD (λt=>Zv G φ t k0) y.T-φ .start (.guest k0):=by
 unfold VL;rw[Rp];have j:QD (λt=>φ (.line 0 t) .fin*(ind (Nd.line 0 t=.guest k0)-ind (Nd.fin=.guest k0))+QD (λi=>φ (.line (i+1) t) (.line (upN y<|i+1) t)*(ind (Nd.line (i+1) t=.guest k0)-ind (Nd.line (upN y<|i+1) t=.guest k0))) (y.ls.length-1)) y.T=0:=by
  rw[Z4 λt _=>?_,Yu];rw[VD (by rintro⟨⟩),VD (by rintro⟨⟩),Z4 λi _=>?_,Yu]
  .simp
  . simp
 rw[j,Int.add_zero];rw[Z4 λk _=>?_,GT,Xi h];rw[VD λz=>nomatch z]
 by_cases e:k=k0
 .subst e;have:QD (λt=>if G.th k t=true then φ (.guest k) (.line (G.ln k) t)*(ind (Nd.guest k=.guest k)-ind (Nd.line (G.ln k) t=.guest k)) else 0) y.T=QD (λt=>Zv G φ t k) y.T:=by
   refine Z4 λt _=>?_;unfold Zv;split
   .simp[ind]
   .rfl
  rw[this];simp[ind];lia
 .have f:¬Nd.guest k=.guest k0:=λz=>e (by injection z)
  rw[Xg e,VD f,Z4 λt _=>?_,Yu]
  .simp
  .rw[VD λz=>nomatch z];simp
def NC{y:Yd}(f:y.Ok){c:Nat}(j:0<c)(h:c<y.ls.length):upN y c=l↔Zn y c=some l:=by
 apply I0 (f.ups c j h);intro a m _;unfold upN;rw[m];simp
def ZpW{y:Yd}(f:y.Ok)(G:Gv)(φ:Zl Nd)(s:l<y.ls.length)(h:t0<y.T):VL (Zr y G) φ (.line l t0) =
 upF y φ t0 l-QD (λk=>Zv G φ t0 k*ind (G.ln k=l)) G.m-QD (λc=>if Zn y c=some l then upF y φ t0 c else 0) y.ls.length:=by
 unfold VL;rw[Rp];have U:QD (λk=>φ .start (.guest k)*(ind (Nd.start=.line l t0)-ind (Nd.guest k=.line l t0))+QD (λt=>if G.th k t=true then φ (.guest k) (.line (G.ln k) t)*(ind (Nd.guest k=.line l t0)-ind (Nd.line (G.ln k) t=.line l t0)) else 0) y.T) G.m = - QD (λk=>Zv G φ t0 k*ind (G.ln k=l)) G.m:=by
  rw[show-QD (λk=>Zv G φ t0 k*ind (G.ln k=l)) G.m=(-1)*QD (λk=>Zv G φ t0 k*ind (G.ln k=l)) G.m by lia,<- DJ];refine Z4 λk _=>?_;rw[VD (by rintro⟨⟩),VD λz=>nomatch z];rw[Z4 (g:=λt=>if t=t0 then-(Zv G φ t0 k*ind (G.ln k=l)) else 0) λt _=>?_,GT,Xi h]
  .simp
  .by_cases e:t=t0
   .subst e;rw[Xi rfl,N0 (q:=G.ln k=l)<|by simp];unfold Zv;split
    .rw[Int.zero_sub,Int.mul_neg]
    .simp
   .rw[Xg e,VD λz=>e<|by injection z];simp
 rw[U];have A:QD (λt=>φ (.line 0 t) .fin*(ind (Nd.line 0 t=.line l t0)-ind (Nd.fin=.line l t0))+QD (λi=>φ (.line (i+1) t) (.line (upN y<|i+1) t)*(ind (Nd.line (i+1) t=.line l t0)-ind (Nd.line (upN y<|i+1) t=.line l t0))) (y.ls.length-1)) y.T
  = upF y φ t0 l-QD (λc=>if Zn y c=some l then upF y φ t0 c else 0) y.ls.length:=by
  rw[Z4 λt _=>?_,GT,Xi h];rw[VD (p:=Nd.fin=.line l t0) λz=>nomatch z]
  by_cases e:t=t0
  .subst e;rw[Xi rfl,N0 (q:=0=l)<|by simp];have j:y.ls.length=(y.ls.length-1)+1:=#[]
   have D:upF y φ t l=QD (λc=>if c=l then upF y φ t l else 0) y.ls.length:=by rw[GT,Xi s]
   have C:∀c,c<y.ls.length->(if c=l then upF y φ t l else 0)=upF y φ t c*ind (c=l):=λc _=>by
    by_cases q:c=l
    .subst q;simp[ind]
    .simp[ind,q]
   rw[D,Z4 C,j,Rk,Rk];have m:¬Zn y 0=some l:=λz=>by rw[f.up0]at z;cases z
   have f0:upF y φ t 0=φ (.line 0 t) .fin:=by unfold upF;rw[Xi rfl]
   rw[Xg m,f0,<- j];have B:QD (λi=>φ (.line (i+1) t) (.line (upN y<|i+1) t)*(ind (Nd.line (i+1) t=.line l t)-ind (Nd.line (upN y<|i+1) t=.line l t))) (y.ls.length-1)
    = QD (λi=>upF y φ t (i+1)*ind (i+1=l)) (y.ls.length-1)+QD (λi => -1*(if Zn y (i+1)=some l then upF y φ t (i+1) else 0)) (y.ls.length-1):=by
    rw[<- Mn];refine Z4 λi K=>?_;rw[ N0 (p:=Nd.line (upN y<|i+1) t=.line l t) (q:=Zn y (i+1)=some l) (by rw[<- NC f #[] #[]];simp)]
    have:upF y φ t (i+1)=φ (.line (i+1) t) (.line (upN y<|i+1) t):=by unfold upF;rw[Xg<|#[]]
    rw[this,Bu];by_cases q:Zn y (i+1)=some l
    . simp[ind,q];lia
    . simp[ind,q]
   rw[B,DJ];simp only[Int.sub_zero];lia
  .rw[Xg e,VD (λz=>e<|by injection z),Z4 λi _=>?_,Yu]
   .simp
   .rw[VD (λz=>e<|by injection z),VD λz=>e<|by injection z];simp
 rw[A];lia
end Mir
namespace Mir
section
variable {ν:Type} [DecidableEq ν]
def Y5.fwd(hw:Within L φ){es:Got ν}(m:Y5 L φ es){x:ν×ν×Int}(j:x∈L)(U:x.1∈Za es)(q:x.2.1∉Za es):φ x.1 x.2.1=x.2.2:=by
 obtain⟨i,f⟩:=List.mem_iff_getElem?.mp j;have e:(2*i)/2=i:=#[]
 have h:(2*i)%2=0:=#[]
 by_cases z:φ x.1 x.2.1=x.2.2
 .exact z
 .have:=hw x j;exact Xo (m _ x.1 x.2.1 (x.2.2-φ x.1 x.2.1) (by unfold tlE;rw[e,f,h];rfl) (by unfold hdE;rw[e,f,h];rfl) (by unfold rmE;rw[e,f,h];rfl) #[] U) q
def Y5.bwd(hw:Within L φ){es:Got ν}(m:Y5 L φ es){x:ν×ν×Int}(j:x∈L)(U:x.1∉Za es)(q:x.2.1∈Za es):φ x.1 x.2.1=0:=by
 obtain⟨i,f⟩:=List.mem_iff_getElem?.mp j;have e:(2*i+1)/2=i:=#[]
 have h:¬(2*i+1)%2=0:=#[]
 by_cases z:φ x.1 x.2.1=0
 .exact z
 .have:=hw x j;exact Xo (m _ x.2.1 x.1 (φ x.1 x.2.1) (by unfold tlE;rw[e,f];simp[h]) (by unfold hdE;rw[e,f];simp[h]) (by unfold rmE;rw[e,f];simp[h]) #[] q) U
end
structure Flow(y:Yd)(G:Gv)(φ:Zl Nd):Prop where
 wi:Within (Zr y G) φ
 kp:∀n,n≠.start->n≠.fin->VL (Zr y G) φ n=0
def Lk{y:Yd}(f:k<G.m):((.start,.guest k,G.wa k):Nd×Nd×Int)∈Zr y G:=Bb.mpr (.inl #[k,f,WA.mpr<|.inl rfl])
def DF{y:Yd}(j:k<G.m)(f:t<y.T)(h:G.th k t=true):((.guest k,.line (G.ln k) t,G.mo k):Nd×Nd×Int)∈Zr y G:=Bb.mpr (.inl #[k,j,WA.mpr<|.inr #[t,f,h,rfl]])
def Ti{y:Yd}(f:t<y.T):((.line 0 t,.fin,ZU y 0 t):Nd×Nd×Int)∈Zr y G:=Bb.mpr (.inr #[t,f,J6.mpr<|.inl rfl])
def Ku{y:Yd}(f:t<y.T)(j:0<l)(h:l<y.ls.length):((.line l t,.line (upN y l) t,ZU y l t):Nd×Nd×Int)∈Zr y G:=
 Bb.mpr (.inr #[t,f,J6.mpr<|.inr #[l-1,#[],by rw[show l-1+1=l by lia]]])
noncomputable def moT(G:Gv)(t k:Nat):Int:=if G.th k t=true then G.mo k else 0
section
variable {y:Yd}{G:Gv}{φ:Zl Nd}(F:Flow y G φ)
include F
theorem Flow.tak(h:k<G.m)(f:t<y.T):0<=Zv G φ t k/\Zv G φ t k<=moT G t k:=by
 unfold Zv moT;by_cases c:G.th k t=true
 .rw[Xi c,Xi c];exact F.wi _ (DF h f c)
 .simp_all
theorem Flow.total(f:k<G.m):QD (λt=>Zv G φ t k) y.T=φ .start (.guest k):=by
 have:=F.kp (.guest k) (by rintro⟨⟩) (by rintro⟨⟩);rw[ZnT y G φ f]at this;lia
theorem Flow.want(f:k<G.m):0<=φ .start (.guest k)/\φ .start (.guest k)<=G.wa k:=F.wi _ (Lk f)
theorem Flow.up(m:y.Ok)(f:∀k,k<G.m->G.ln k<y.ls.length){t:Nat}(s:t<y.T):∀n l,y.ls.length<=l+n->l<y.ls.length->upF y φ t l=Vw y G.m G.ln (Zv G φ t) l
 |0,l,h,q=>#[]
 |n+1,l,h,q=>by
  have z:=F.kp (.line l t) (by rintro⟨⟩) (by rintro⟨⟩);rw[ZpW m G φ q s]at z;have e:QD (λc=>if Zn y c=some l then upF y φ t c else 0) y.ls.length=QD (λc=>if Zn y c=some l then Vw y G.m G.ln (Zv G φ t) c else 0) y.ls.length:=by
   refine Z4 λc A=>?_
   by_cases j:Zn y c=some l
   .rw[Xi j,Xi j];have:=GE m A j;exact Flow.up m f s n c #[] A
   .rw[Xg j,Xg j]
  rw[Mi m f _ q,<- e];lia
theorem Flow.up_ok(j:y.Ok)(f:t<y.T)(h:l<y.ls.length):0<=upF y φ t l/\upF y φ t l<=ZU y l t:=by
 unfold upF;by_cases z:l=0
 .subst z;exact F.wi _ (Ti f)
 .rw[Xg z];exact F.wi _ (Ku f #[] h)
theorem Flow.load(h:y.Ok)(f:∀k,k<G.m->G.ln k<y.ls.length)(j:t<y.T)(m:l<y.ls.length):Vw y G.m G.ln (Zv G φ t) l<=ZU y l t:=by
 rw[<- F.up h f j y.ls.length l #[] m];exact(F.up_ok h j m).2
def Yg(es:Got Nd)(k:Nat):Bool:=decide (Nd.guest k∈Za es)
def Z0l(es:Got Nd)(t l:Nat):Bool:=decide (Nd.line l t∈Za es)
omit F in
theorem not_of[Decidable p](h:decide p=false):¬p:=MG h
theorem Flow.shut(ok:y.Ok)(h:∀k,k<G.m->G.ln k<y.ls.length){es:Got Nd}(j:Y5 (Zr y G) φ es)(s:Nd.fin∉Za es)(f:t<y.T):
 Shut y G.m G.ln (Zv G φ t) (moT G t) (λl=>ZU y l t) (Yg es) (Z0l es t) where
 nn k hk:=(F.tak hk f).1
 full k hk hS hR:=by
  unfold Zv moT;by_cases c:G.th k t=true
  .rw[Xi c,Xi c];exact j.fwd F.wi (DF hk f c) (Wq hS) (not_of hR)
  .rw[Xg c,Xg c]
 none k hk hS hR:=by
  unfold Zv;by_cases c:G.th k t=true
  .rw[Xi c];exact j.bwd F.wi (DF hk f c) (not_of hS) (Wq hR)
  .rw[Xg c]
 top hR:=by
  have A:=ok.l1;exact (F.up ok h f y.ls.length 0 #[] #[])▸(j.fwd F.wi (Ti f) (Wq hR) s)
 out c a hcl dx U h2:=by
  have q:c≠0:=λz=>by subst z;rw[ok.up0]at dx;cases dx
  have m:=(NC ok #[] hcl).mpr dx;rw[<- F.up ok h f y.ls.length c #[] hcl];unfold upF;rw[Xg q];exact j.fwd F.wi (Ku f #[] hcl) (Wq U) (by rw[m];exact not_of h2)
 inn c a hcl dx U h2:=by
  have q:c≠0:=λz=>by subst z;rw[ok.up0]at dx;cases dx
  have m:=(NC ok #[] hcl).mpr dx;rw[<- F.up ok h f y.ls.length c #[] hcl];unfold upF;rw[Xg q];exact j.bwd F.wi (Ku f #[] hcl) (not_of U) (by rw[m];exact Wq h2)
theorem Flow.filled{es:Got Nd}(j:Y5 (Zr y G) φ es)(h:Nd.start∈Za es)(f:k<G.m)(m:Yg es k=false):QD (λt=>Zv G φ t k) y.T=G.wa k:=by
 rw[F.total f];exact j.fwd F.wi (Lk f) h (not_of m)
noncomputable def U6(G:Gv)(f:Qm)(t l:Nat):Int:=QD (λk=>Z0 f (moT G t) k*ind (G.ln k=l)) G.m
omit F in
theorem LE{y:Yd}(f:y.Ok):∀n j,j<n->j<y.ls.length->0∈upL y j
 |0,j,h,_=>#[]
 |n+1,j,h,m=>by
  by_cases z:j=0
  .subst z;exact N8 y 0
  .obtain⟨a,s,A⟩:=f.ups j #[] m;exact(K4 f #[] m s 0 λq=>z q.symm).mpr (LE f n a #[]<|#[])
omit F in
theorem FQ(j:y.Ok){m:Nat}(h:∀k,k<m->ln k<y.ls.length)(f:Qn):Vw y m ln f 0=QD f m:=
 Z4 λk q=>by
  unfold ind;rw[Xi<|LE j _ _ (JF _)<|h k q,Int.mul_one]
theorem Flow.no_more(j:y.Ok)(h:∀k,k<G.m->G.ln k<y.ls.length)(A:Qm)(m:t<y.T):QD (Z0 A<|Zv G φ t) G.m<=passes y (λl=>ZU y l t) (U6 G A t) 0:=by
 have D:=j.l1;rw[<- FQ j h];refine Mir.no_more j h (λl B=>?_) (λl B=>?_) y.ls.length 0 #[] #[]
 .refine Jc λk s=>?_
  have q:=F.tak s m
  by_cases e:G.ln k=l
  .unfold Z0 ind;split<;>lia
  .rw[VD e];lia
 .have q:=F.load j h m B;have C:=LG (y:=y) (ln:=G.ln) (f:=Z0 A _) (λk s=>NP (F.tak s m).1) l;lia
theorem Flow.meet(h:y.Ok)(f:∀k,k<G.m->G.ln k<y.ls.length){es:Got Nd}(q:Y5 (Zr y G) φ es)(m:Nd.fin∉Za es)(j:t<y.T):
 passes y (λl=>ZU y l t) (U6 G (Yg es) t) 0=QD (Z0 (Yg es)<|Zv G φ t) G.m:=by
 have s:=h.l1;have a:=F.no_more h f (Yg es) j;have b:=(F.shut h f q m j).all h f (own:=U6 G _ t) (λl A=>rfl) y.ls.length 0 #[] #[] (λ_=>.inl rfl);rw[FQ h f]at b;lia
omit F in
theorem NF(f g:Qn):∀n,QD (λk=>f k-g k) n=QD f n-QD g n
 |0=>rfl
 |n+1=>by
  simp only[QD];rw[NF f g n];lia
theorem Flow.lack(j:y.Ok)(f:∀k,k<G.m->G.ln k<y.ls.length){es:Got Nd}(h:Y5 (Zr y G) φ es)(q:Nd.start∈Za es)(B:Nd.fin∉Za es):
 QD (λk=>G.wa k-QD (λt=>Zv G φ t k) y.T) G.m=QD (Z0 (Yg es) G.wa) G.m-QD (λt=>passes y (λl=>ZU y l t) (U6 G (Yg es) t) 0) y.T:=by
 rw[Z4 λt m=>F.meet j f h B m,Hl,<- NF];refine Z4 λk A=>?_
 cases s:Yg es k with
 |true=>
  have:QD (λt=>Z0 _ (Zv G φ t) k) y.T=QD _ y.T:=Z4 λt _=>by unfold Z0;rw[Xi s]
  rw[this];unfold Z0;rw[Xi s]
 |false=>
  have:QD (λt=>Z0 (Yg es) (Zv G φ t) k) y.T=0:=by
   rw[Z4 λt _=>?_,Yu];unfold Z0;simp_all
  rw[this,F.filled h q A s];unfold Z0;simp_all
omit F in
theorem Zoz(y:Yd)(G:Gv)(φ:Zl Nd):VL (Zr y G) φ .start=QD (λk=>φ .start<|.guest k) G.m:=by
 unfold VL;rw[Rp];have f:QD (λt=>φ (.line 0 t) .fin*(ind (Nd.line 0 t=.start)-ind (Nd.fin=.start))+QD (λi=>φ (.line (i+1) t) (.line (upN y<|i+1) t)*(ind (Nd.line (i+1) t=.start)-ind (Nd.line (upN y<|i+1) t=.start))) (y.ls.length-1)) y.T=0:=by
  rw[Z4 λt _=>?_,Yu];rw[VD (by rintro⟨⟩),VD (by rintro⟨⟩),Z4 λi _=>?_,Yu]
  .simp
  . simp
 rw[f,Int.add_zero];refine Z4 λk _=>?_;rw[VD (p:=Nd.guest k=.start) (by rintro⟨⟩),Z4 λt _=>?_,Yu]
 .simp[ind]
 .rw[VD λz=>nomatch z];simp
theorem Flow.push(j:0<=a){w:Qk}(hw:Chain (Zr y G) .start .fin w)(hn:w.Nodup)(h:∀e∈w,∃r,rmE (Zr y G) φ e=some r/\a<=r):
 Flow y G (Wx (Zr y G) a φ w)/\VL (Zr y G) (Wx (Zr y G) a φ w) .start=VL (Zr y G) φ .start+a:=by
 refine#[#[CM (DS y G) j F.wi hn h,λn U f=>?_],?_]
 .rw[N5 (DS y G) n hw,F.kp n U f,VD λz=>U z.symm,VD λz=>f z.symm];simp
 .rw[N5 (DS y G) .start hw];simp[ind]
theorem Flow.most:VL (Zr y G) φ .start<=QD G.wa G.m:=by
 rw[Zoz];exact Jc λk f=>(F.want f).2
end
def AQ{y:Yd}(h:∀x∈Zr y G,0<=x.2.2):Flow y G (λ_ _=>0):=by
 refine#[λx j=>#[Gk _,h x j],λn _ _=>?_];have:∀L:Lay Nd,(L.map λx=>(0)*(ind (x.1=n)-ind (x.2.1=n))).sum=0:=λL=>by
  induction L with
  |nil=>rfl
  |cons x L f=>rw[Xy,Gp,f];simp
 exact this _
end Mir
namespace Mir
def ZnW(e:Nat):Builtin.bitAnd (e:Int) 1=((e%2:Nat):Int):=by
 show((((e:Int).toNat &&& (1:Int).toNat)):Int)=_
 simp_all
def E5(e:Nat):e ||| 1=e+1-e%2:=by
 apply Nat.eq_of_testBit_eq;intro i;rw[Nat.testBit_or];have f:e%2=0\/e%2=1:=#[]
 cases i with
 |zero=>
  rw[Nat.testBit_zero,Nat.testBit_zero,Nat.testBit_zero];grind
 |succ i=>
  rw[Nat.testBit_succ,Nat.testBit_succ,Nat.testBit_succ];have:(e+1-e%2)/2=e/2:=#[]
  rw[this];simp
def ZqW(e:Nat):Builtin.bitOr (e:Int) 1=((e+1-e%2:Nat):Int):=by
 unfold Builtin.bitOr;have a:Builtin.bitNot (e) = -(e)-1:=rfl;have b:Builtin.bitNot 1 = -2:=rfl;have c:Builtin.bitAnd (Builtin.bitNot<|e) (Builtin.bitNot 1)=Builtin.bitNot (((e ||| 1:Nat))):=by
  rw[a];unfold Builtin.bitAnd;rw[XU #[]];show Builtin.bitNot ((((Builtin.bitNot _).toNat ||| (Builtin.bitNot (-2)).toNat)))=_;have h:(Builtin.bitNot (-(e)-1)).toNat=e:=by show(-_-1).toNat=e;lia
  have f:(Builtin.bitNot (-2)).toNat=1:=rfl;rw[h,f]
 rw[c,E5];show -(-_-1)-1=_
 lia
def RY(e:Nat):Builtin.bitXor (e:Int) 1=(Zhu e:Int):=by
 unfold Builtin.bitXor;rw[ZnW,ZqW];unfold Zhu;split<;>lia
end Mir
namespace L2
abbrev KK:=List Key×List Key
def JO(P:Program)(w:World)(a:Addr)(xs:List (KK×Addr×V))(h:Heap):Prop:=xs.length<=sizeLine/\(a==sysModules)=false/\∃f:List (KK×Addr×Value),
 Paired (λ(x:KK×Addr×V) (y:KK×Addr×Value)=>x.1=y.1/\x.2.1=y.2.1/\QO x.2.2 y.2.2) xs f/\
 ∃o es j,h.get? a=some o/\o.ExactDict/\o.data=.dict es j/\es.toList=f.map (entryOfKey<|NE<|VH P w)/\(f.map (·.1)).Nodup
def pdO(P:Program)(w:World)(a:Addr)(xs:List (KK×Addr×V)):HO:=.ext (JO P w a xs)
def JO.move{xs:List (KK×Addr×V)}(x:JO P w a xs U)(k:∀o,U.get? a=some o->h2.get? a=some o):JO P w a xs h2:=by
 apply Do x;rintro z y f r o es h A⟨s,q,m,j⟩;exact#[z,y,f,r,o,es,h,k _ A,s,q,m,j]
def JO.ok{xs:List (KK×Addr×V)}(x:JO P w a xs h):ZV P w H h a (pdO P w a xs):=by
 exact#[x,Do x λz y j r o es q f _=>#[o,f],λU m y k=>y.move k]
def Vv(H:Hp)(k:KK)(b:Addr):Prop := ∃p q,H b=some (.tup [.ref p,.ref q])/\H p=some (.tup<|k.1.map kV)/\H q=some (.tup<|k.2.map kV)
def Vv.mono(s:∀b ys,H b=some (.tup ys)->J b=some (.tup ys)){b:Addr}(x:Vv H k b):Vv J k b:=by
 exact SF x λp q U h f=>#[p,q,s _ _ U,s _ _ h,s _ _ f]
section
variable {w:World}{H:Hp}{a b:Addr}
def DT(a:HOk P w H h)(x:Vv H k b):(NE<|VH P w).is h k b:=by
 refine SF x λp q U A s=>aT ((a b _ U)) λ_ m r o D C n B=>?_
 cases r with
 |cons j r=>
  cases r with
  |cons f r=>
   cases r;cases (j);cases (f);exact#[o,n,p,q,D,C,B,WR a A,WR a s]
def Kq{xs:List (KK×Addr×V)}(j:HOk P w H h)(e:H a=some (pdO P w a xs))(m:∀x∈xs,Vv H x.1 x.2.1):xs.length<=sizeLine/\(a==sysModules)=false/\∃vs,
 Paired (λ(x:KK×Addr×V) (y:KK×Addr×Value)=>x.1=y.1/\x.2.1=y.2.1/\QO x.2.2 y.2.2) xs vs/\h.DictOfH (NE<|VH P w) a vs:=by
 obtain⟨⟨z,y,vs,r,o,es,D,W,M,K,A,s⟩,f⟩:=(j a _ e);refine#[z,y,vs,r,o,es,D,W,M,K,A,?_,s];clear s A z e f;induction r with
 |nil=>intro x b;exact nomatch b
 |@cons p q ps X Y t B=>
  intro x b;rcases Xc.mp b with rfl|b
  .have:=DT j (m p Xb);simp_all
  .exact B (λz C=>m z<|Xf _ C) x b
end
noncomputable def YE(xs:List (KK×Addr×V))(k:KK):Option V:=(xs.find? λx=>decide (x.1=k)).map (·.2.2)
abbrev RPD:=Paired (λ(x:KK×Addr×V) (y:KK×Addr×Value)=>x.1=y.1/\x.2.1=y.2.1/\QO x.2.2 y.2.2)
def RPD.val(k:KK){xs:List (KK×Addr×V)}(r:RPD xs vs):Vj (YE xs k) ((atKey vs k).map (·.2)):=by
 induction r with
 |nil=>exact True.intro
 |@cons p q ps f h t s=>
  by_cases e:p.1=k
  .have m:YE (p::ps) k=some p.2.2:=by simp[YE, e]
   have j:(atKey (q::f) k).map (·.2)=some q.2.2:=by simp[atKey, <- h.1,e]
   rw[m,j];exact h.2.2
  .have m:YE (p::ps) k=YE ps k:=by simp[YE, e]
   have j:(atKey (q::f) k).map (·.2)=(atKey f k).map (·.2):=by simp[atKey, <- h.1,e]
   simp_all
noncomputable def JU(xs:List (KK×Addr×V))(k:KK)(b:Addr)(v:V):List (KK×Addr×V):=if (YE xs k).isSome=true then xs.map (λx=>if x.1=k then (x.1,x.2.1,v) else x) else xs++[(k,b,v)]
def RPD.repl(k:KK)(h:QO v dx){xs:List (KK×Addr×V)}(r:RPD xs vs):RPD (xs.map λx=>if x.1=k then (x.1,x.2.1,v) else x) (vs.map<|putAt k dx):=by
 induction r with
 |nil=>exact .nil
 |@cons p q ps m f t j=>
  rw[Xy];refine .cons ?_ j;unfold putAt;by_cases e:p.1=k
  .rw[Xi e,Xi<|f.1▸e];exact#[f.1,f.2.1,h]
  .rw[Xg e,Xg<|f.1▸e];exact f
theorem Vj.some_eq:∀{x:Option V} {y:Qf},Vj x y->x.isSome=y.isSome
 |none,none,_=>rfl
 |some _,some _,_=>rfl
 |none,some _,h=>by cases h
 |some _,none,h=>by cases h
def RPD.put(k:KK)(b:Addr)(f:QO v dx){xs:List (KK×Addr×V)}(r:RPD xs vs):RPD (JU xs k b v) (storedH vs k b dx):=by
 have e:=Vj.some_eq (r.val k);rw[Uw]at e;unfold JU storedH;rw[e];split
 .exact r.repl k f
 .exact Paired.snoc r #[rfl,rfl,f]
def ZlL(xs:List (KK×Addr×V))(k:KK)(b:Addr)(v:V):(JU xs k b v).length<=xs.length+1:=by
 unfold JU;split<;>simp
section
variable {O:St}{H:Hp}{a b:Addr}{v:V}{r:Value}{H1:Qb}{xs:List (KK×Addr×V)}{k:KK}
def Zr9(o:A.units+6<cLine)(I:Qt X Y O H s)(e:H a=some (pdO X.prog X.w a xs))(M:∀x∈xs,Vv H x.1 x.2.1)(W:Vv H k b)(l:xs.length<sizeLine)(D:QO v r)
(h:∀m,Qt X Y O (upd H a<|pdO X.prog X.w a<|JU xs k b v) m->Q () m):wpAny (model X.prog X.w) A (setItem (.ref a) (.ref b) r) Q H1 s:=by
 apply aI (Kq I.hok e M);intro z P C f dd;have n:C.length<=sizeLine:=by rw[<- Paired.length f];exact z
 refine wpAny_setItem_heap (show A.units+1+5<cLine by lia) (DT I.hok W) dd λh' j K=>h _ ?_;apply aK j;rintro q es i B g d c⟨_,Z⟩;exact BY I (by rw[e];exact True.intro) K #[q,B] (JO.ok #[by have:=ZlL xs k b v;lia,P,_,RPD.put k b D f,q,es,i,B,g,d,c,Z])
def Zrv(M:A.units+6<cLine)(I:Qt X Y O H s)(e:H a=some (pdO X.prog X.w a xs))(D:∀x∈xs,Vv H x.1 x.2.1)(K:Vv H k b)(C:YE xs k=some v)
(h:∀r q,Qt X Y O H q->QO v r->Q r q):wpAny (model X.prog X.w) A (getItem (.ref a)<|.ref b) Q H1 s:=by
 apply aI (Kq I.hok e D);intro z P B j dd;have f:=RPD.val k j;rw[C]at f;cases m:atKey B k with
 |none=>rw[m]at f;cases f
 |some p=>
  rw[m]at f;exact wpAny_getItem_heap (show A.units+1+5<cLine by lia) (DT I.hok K) dd m (h _ _ (I.tok _) f)
def EZ(C:A.units+6<cLine)(I:Qt X Y O H s)(e:H a=some (pdO X.prog X.w a xs))(q:∀x∈xs,Vv H x.1 x.2.1)(v:Vv H k b)
(h:∀j,Qt X Y O H j->Q (.bool<|!(YE xs k).isSome) j):wpAny (model X.prog X.w) A (compareOp .NotIn (.ref b)<|.ref a) Q H1 s:=by
 apply aI (Kq I.hok e q);intro z r B f dd;have m:=Vj.some_eq (RPD.val k f);rw[Uw]at m;exact wpAny_notIn_heap (show A.units+1+5<cLine by lia) (DT I.hok v) r dd<|m▸(h _ (I.tok _))
end
end L2
namespace L2
section
variable {O:St}{H:Hp}{a b:Addr}{d:V}{r:Value}{H1:Qb}{kvs:List (List Key×V)}{k:List Key}
def OX(g:A.units+1<cLine)(I:Qt X Y O H s)(e:H a=some (.dT kvs))(M:H b=some (.tup<|k.map kV))(l:kvs.length<sizeLine)(W:QO d r)
(U:∀v P m,Z7 kvs k=some v->Qt X Y O H m->QO v P->Q P m)(t:Z7 kvs k=none->∀m,Qt X Y O (upd H a<|.dT<|kvs++[(k,d)]) m->Q r m):
 wpAny (model X.prog X.w) A (call (.builtin "dict.setdefault") [.ref a,.ref b,r]) Q H1 s:=by
 apply aI (Kz I.hok e);intro z K xs h dd;have Z:xs.length<=sizeLine:=by rw[<- Paired.length h];exact z
 have f:=h.val k;refine call_meetsIn PySem.F.slot_dict_setdefault dd.typeIs PySem.F.entry_dict_setdefault (PySem.F.args_dict_setdefault_3 _ _ _) (Ze0 _ a b K r)
  #[tupleKind_room_in1 g,k,xs,WR I.hok M,dd,Z,λp n=>?_,λo h' C i=>?_]
 .rw[n]at f;cases j:Z7 kvs k with
  |none=>rw[j]at f;cases f
  |some v=>rw[j]at f;exact U v _ _ j (I.tok _) f
 .have j:Z7 kvs k=none:=by
   rw[o]at f;cases j:Z7 kvs k with
   |none=>rfl
   |some v=>rw[j]at f;cases f
  refine t j _ ?_;apply aK C;rintro q es E D y x w⟨_,u⟩;refine BY I (by rw[e];exact True.intro) i #[q,D] #[by simp;lia,K,_,(show KT H _ _ from Paired.snoc h #[rfl,M,W]).keeps λc ys B=>?_,q,es,E,D,y,x,w,u];rw[Qv λz=>by subst z;rw[e]at B;cases B];exact B
end
def TL(td j tx:TE):TE:=λO H Q=>td O H λx E=>∃a,x=.ref a/\IsD E a/\j O E λy m=>tx O m λz h=>∃f k b,y=.ref b/\h a=some (.dT f)/\h b=some (.tup<|k.map kV)/\f.length<sizeLine/\
 (∀v,Z7 f k=some v->Q v h)/\(Z7 f k=none->Q z (upd h a<|.dT<|f++[(k,z)]))
section
variable {o e f value:Expr}{ty:TE}
def ZtE(t:X.A.units+1<cLine)(u:PE X o td)(he:PE X e ty)(w:PE X f tx)(m:M2 X o "setdefault" X3 e f XM):PE X (.Call (.Attribute o "setdefault" X3) [e,f] [] XM) (TL td ty tx):=by
 refine λY s O H Q I h=>wpAny_Call_method m.base m.few m.line PySem.F.plainAttrs_dict PySem.F.slot_dict_setdefault PySem.F.type_dict_setdefault (Q7 (u Y s O H _ I h) ?_);rintro N M ⟨x,E,B,Z,a,rfl,d,p⟩;obtain rfl:=Z;refine KE (TW B d) λD C _=>#[D,C,?_];rw[m.trees];refine Calls.callWith_builtin rfl (Calls.evalArgs_plain (Calls.spliced_cons (Q7 (he Y M O E _ B p) λiv K ⟨y,U,S,W,n⟩=>
  Calls.spliced_cons (Q7 (w Y K O U _ S n) λfv s3 ⟨z,T,R,A,r,k,b,F,L,J,l,i,g⟩=>Calls.spliced_nil ?_))))
 subst F;cases (W);exact OX t R L J l A (λv N P j q c=>#[v,T,q,c,i v j]) (λj P q=>#[z,_,q,A,g j])
def P3(P:Program)(w:World)(td ty:TE):TE:=λO H Q=>td O H λx E=>ty O E λy e=>∃a b xs k v,x=.ref a/\y=.ref b/\e a=some (pdO P w a xs)/\(∀x∈xs,Vv e x.1 x.2.1)/\Vv e k b/\YE xs k=some v/\Q v e
def LO(P:Program)(w:World)(ty td:TE):TE:=λO H Q=>ty O H λy E=>td O E λx e=>∃a b xs k,x=.ref a/\y=.ref b/\e a=some (pdO P w a xs)/\(∀x∈xs,Vv e x.1 x.2.1)/\Vv e k b/\Q (.bl<|!(YE xs k).isSome) e
def Py(P:Program)(w:World)(td ty tv:TE):TS:=λH0 O H=>tv O H λv E=>td O E λx f=>ty O f λy e=>∃a b xs k,x=.ref a/\y=.ref b/\e a=some (pdO P w a xs)/\(∀x∈xs,Vv e x.1 x.2.1)/\Vv e k b/\xs.length<sizeLine/\
 H0.nx O (upd e a<|pdO P w a<|JU xs k b v)
def Zph{O:St}{H:Hp}{a:Addr}{xs:List (KK×Addr×V)}(I:Qt X Y O H s)(e:H a=some (pdO X.prog X.w a xs)):s.TypeIs (.ref a) "dict" := by
 obtain⟨⟨_,_,j,_,o,es,m,h,f,_⟩,_⟩:=(I.hok a _ e)
 exact#[o,h,f.1]
def Oc(K:X.A.units+6<cLine)(P:PE X o td)(W:PE X e ty)(M:HQ e):PE X (.Subscript o e pos) (P3 X.prog X.w td ty):=by
 refine λY s O H Q I h=>Ll PySem.F.slot_dict_getitem.lookup M (Q7 (P Y s O H _ I h) ?_);rintro z q ⟨x,E,n,B,D⟩;refine Q7 (W Y q O E _ n D) ?_;rintro w u ⟨y,p,m,A,a,b,xs,k,v,c,Z,j,i,g,d,C⟩;subst c Z;obtain rfl:=B;obtain rfl:=A;exact#[Zph m j,Zrv K m j i g d λr t l f=>#[v,p,l,f,C]]
def Zqs(B:X.A.units+6<cLine)(D:PE X e ty)(C:PE X o td):PC X .NotIn e o (LO X.prog X.w ty td):=by
 refine λY s O H Q I h=>Q7 (D Y s O H _ I h) ?_;rintro p f ⟨y,E,g,j,A⟩;refine Q7 (C Y f O E _ g A) ?_;rintro r n ⟨x,i,d,m,a,b,xs,k,M,K,Z,W,P,q⟩;subst M K;obtain rfl:=m;obtain rfl:=j;exact EZ B d Z W P λl c=>#[.bl _,i,c,rfl,q]
def IC(M:X.A.units+6<cLine)(W:PE X o td)(Z:PE X e ty)(K:PE X value tv)(P:swapsWith value (some<|.Subscript o e pos') pos.line X.env=pure false):
 PS X (.Assign [.Subscript o e pos'] value pos) (Py X.prog X.w td ty tv):=by
 refine λY s O H H0 I h=>wpAny_Assign_Subscript (Q7 (K Y s O H _ I h) ?_) P;rintro r j ⟨v,E,w,A,D⟩;refine Q7 (W Y j O E _ w D) ?_;rintro L f ⟨x,z,u,q,C⟩;refine Q7 (Z Y f O z _ u C) ?_;rintro J G ⟨y,N,t,m,a,b,xs,k,d,c,n,i,g,l,B⟩;subst d c;obtain rfl:=q;obtain rfl:=m;exact Zr9 M t n i g l A λF p=>#[O,_,p,B]
end
end L2
namespace L2
def AV(P:Program)(w:World):TE:=λ_ H Q=>∀p,H p=none->Q (.ref p) (upd H p<|pdO P w p [])
def ZrW : PE X (.Dict [] [] pos) (AV X.prog X.w):=λY s O H Q I h=>
 wpAny_Dict_empty #[.ref s.heap.objs.size,_,I.laid (λ_ _ q=>Xd _ q) (Xm _)
  (JO.ok #[XA _,beq_eq_false_iff_ne.mpr<|Ne.symm<|Xq I.big,[],.nil,_,(List.toArray []),0,Xn _ rfl,#[rfl,rfl,rfl],rfl,rfl,MA]),rfl,h _<|I.hok.fresh<|Xm _]
structure QC where
 ends:List (List Key)
 rooms:Ql
 leav:List (List Key×Ql)
 laid:List (KK×Int)
inductive LaidD(F:Hp):List (KK×Addr×V)->List (KK×Int)->Prop
 |nil:LaidD F [] []
 |cons {k:KK}{b:Addr}{n:Int}{xs:List (KK×Addr×V)}{ls:List (KK×Int)}:Vv F k b->LaidD F xs ls->LaidD F ((k,b,.int n)::xs) ((k,n)::ls)
def LaidD.mono(s:Q4 F F'):∀{xs:List (KK×Addr×V)} {ls:List (KK×Int)},LaidD F xs ls->LaidD F' xs ls:=by
 intro xs ls h;induction h with
 |nil=>exact .nil
 |cons h _ f=>exact .cons (h.mono λb ys e=>s _ _ e) f
def LaidD.at(s:Q4 F H):∀{xs:List (KK×Addr×V)} {ls:List (KK×Int)},LaidD F xs ls->∀x∈xs,Vv H x.1 x.2.1:=by
 intro xs ls h;induction h with
 |nil=>rintro x ⟨⟩
 |cons h _ f=>exact List.forall_mem_cons.mpr #[h.mono λb ys e=>s _ _ e,f]
inductive LeavD(F H:Hp):List (List Key×V)->List (List Key×Ql)->Qg->Prop
 |nil:LeavD F H [] [] []
 |cons {k:List Key}{a:Addr}{ns:Ql}{xs:List (List Key×V)}{ls:List (List Key×Ql)}{as:Qg}:Yz F H a (ns.map PyData.int)->LeavD F H xs ls as->LeavD F H ((k,.ref a)::xs) ((k,ns)::ls) (a::as)
def LeavD.mem:∀{xs:List (List Key×V)} {ls:List (List Key×Ql)} {as:Qg},LeavD F H xs ls as->∀a∈as,F a=none/\H a≠none:=by
 intro xs ls as h;induction h with
 |nil=>rintro x ⟨⟩
 |cons h _ f=>
  exact By h λU xs m _=>List.forall_mem_cons.mpr #[#[U,ZE m],f]
def LeavD.mono(s:Q4 F F'):∀{xs:List (List Key×V)} {ls:List (List Key×Ql)} {as:Qg},(∀a∈as,F' a=none)->(∀a∈as,J a=H a)->LeavD F H xs ls as->LeavD F' J xs ls as:=by
 intro xs ls as m j h;induction h with
 |nil=>exact .nil
 |cons h _ q=>
  obtain⟨U,xs,B,A⟩:=h;exact .cons #[m _ Xb,xs,by rw[j _ Xb];exact B,A.mono s] (q (λa f=>m a<|Xf _ f) λa f=>j a<|Xf _ f)
def LeavD.addrs:∀{xs:List (List Key×V)} {ls f:List (List Key×Ql)} {as bs:Qg},LeavD F H xs ls as->LeavD F' J xs f bs->as=bs:=by
 intro xs ls f as bs h k;induction h generalizing f bs with
 |nil=>cases k;rfl
 |cons _ _ j=>
  cases k with
  |cons _ t=>rw[j t]
structure NetOk(P:Program)(w:World)(C:Addr)(N:QC)(F H:Hp)(a u e r l d:Addr)(xs:List (List Key×V))(ys:List (KK×Addr×V))(as:Qg):Prop where
 nd:(a::u::e::r::l::d::as).Nodup
 ins:F a=none/\H a=some (.ins C u [("ends",.ref e),("rooms",.ref r),("leaving",.ref l),("laid",.ref d)])
 own:F u=none/\H u=some (.own a)
 ends:Yz F H e (N.ends.map Zd)
 rooms:Yz F H r (N.rooms.map PyData.int)
 leav:F l=none/\H l=some (.dT xs)/\LeavD F H xs N.leav as
 laid:F d=none/\H d=some (pdO P w d ys)/\LaidD F ys N.laid
def Zo(P:Program)(w:World)(C:Addr)(N:QC):OwnP where
 ok K F H v p := ∃a u e r l d xs ys B,v=.ref a/\p=a::u::e::r::l::d::B/\NetOk P w C N F H a u e r l d xs ys B
 there:=by
  rintro K F H v p ⟨a,u,e,r,l,d,xs,ys,B,rfl,rfl,o⟩ b f;obtain⟨_,⟨D,A⟩,⟨n,W⟩,⟨t,ex,Y,_⟩,⟨k,g,M,_⟩,⟨l1,l2,l3⟩,⟨x,Z,_⟩⟩:=o;simp only[Xc]at f;rcases f with rfl|rfl|rfl|rfl|rfl|rfl|f
  .exact#[D,ZE A]
  .exact#[n,ZE W]
  .exact#[t,ZE Y]
  .exact#[k,ZE M]
  .exact#[l1,ZE l2]
  .exact#[x,ZE Z]
  .exact l3.mem b f
 mono:=by
  rintro K F F' H J v p s m h ⟨a,u,e,r,l,d,xs,ys,B,rfl,rfl,o⟩;obtain⟨nd,⟨D,A⟩,⟨n,W⟩,⟨t,ex,Y,I⟩,⟨k,g,M,E⟩,⟨l1,l2,l3⟩,⟨x,Z,O⟩⟩:=o;refine#[a,u,e,r,l,d,xs,ys,B,rfl,rfl,nd,#[m _<|by simp,by rw[h _<|by simp];exact A],#[m _<|by simp,by rw[h _<|by simp];exact W],#[m _<|by simp,ex,by rw[h _<|by simp];exact Y,I.mono s],
   #[m _<|by simp,g,by rw[h _<|by simp];exact M,E.mono s],#[m _<|by simp,by rw[h _<|by simp];exact l2,l3.mono s (λb f=>m b<|by simp[f]) λb f=>h b<|by simp[f]],#[m _<|by simp,by rw[h _<|by simp];exact Z,O.mono s]]
 uniq:=by
  rintro K F H v p q ⟨a,u,e,r,l,d,xs,ys,B,rfl,rfl,o⟩ ⟨a',L,T,R,S,U,z,y,Q,ev,rfl,X⟩ c G;cases ev;have i:=o.ins.2.symm.trans X.ins.2;injection i with i;injection i with _ D A;subst D;simp only[List.cons.injEq,Prod.mk.injEq,true_and,and_true,V.ref.injEq]at A;obtain⟨rfl,rfl,rfl,rfl⟩:=A;have j:=o.leav.2.1.symm.trans X.leav.2.1;injection j with j;injection j with j;subst j;rw[o.leav.2.2.addrs X.leav.2.2];exact G
end L2
namespace L2
structure NetC(K:W.Frag)(C:Addr):Prop where
 cl:Cls K C
 ends:Ve K C "ends"
 rooms:Ve K C "rooms"
 leav:Ve K C "leaving"
 laid:Ve K C "laid"
section
variable {tb:TE}{i:Nat}{v:V}{w:World}{N:QC}
def QB.net(g:QB K D F Z O H)(e:zg Z i<|zo v<|Zo P w C N):
 ∃a u el r l d xs ys as,v=.ref a/\O[i]?=some (some<|.ref a)/\NetOk P w C N F H a u el r l d xs ys as/\(∀b∈a::u::el::r::l::d::as,D b=none/\F b=none/\H b≠none)/\
  ∀(J:Hp) (s:QC) (m:List (List Key×V)) (j:List (KK×Addr×V)) (f:Qg),Q4 F J->(∀b,b∉a::u::el::r::l::d::as->H b≠none->J b=H b)->(∀b,H b≠none->J b≠none)->
   NetOk P w C s F J a u el r l d m j f->(∀b∈f,b∈as\/(H b=none/\D b=none))->QB K D F (Z.set i<|zo v<|Zo P w C s) O J:=by
 apply aV (g.writeOwn e);rintro k p⟨a,u,el,r,l,d,xs,ys,as,rfl,rfl,B⟩M A;refine#[a,u,el,r,l,d,xs,ys,as,rfl,k,B,M,λJ s m j f U c Y X W=>A J _ _ U c Y #[a,u,el,r,l,d,m,j,f,rfl,rfl,X] λb q=>?_];simp only[Xc]at q ⊢;rcases q with h|h|h|h|h|h|q
 .exact .inl (.inl h)
 .exact .inl (.inr<|.inl h)
 .exact .inl (.inr<|.inr<|.inl h)
 .exact .inl (.inr<|.inr<|.inr<|.inl h)
 .exact .inl (.inr<|.inr<|.inr<|.inr<|.inl h)
 .exact .inl (.inr<|.inr<|.inr<|.inr<|.inr<|.inl h)
 .rcases W b q with z|z
  .exact .inl (.inr<|.inr<|.inr<|.inr<|.inr<|.inr z)
  .exact .inr z
def LeavD.other{b:Addr}{xs:List (List Key×V)}(h:LeavD F H xs ls as)(n:b∉as):LeavD F (upd H b o) xs ls as:=
 h.mono (Q4.refl _) (λa f=>(h.mem a f).1) (λa f=>Qv λz=>n<|z▸f)
def NetOk.setRooms{xs:List (List Key×V)}{ys:List (KK×Addr×V)}(j:NetOk P w C N F H a u el r l d xs ys as){ns:Ql}(K:Zt F za (ns.map PyData.int)):
 NetOk P w C { N with rooms:=ns } F (upd H r<|.lst za) a u el r l d xs ys as:=by
 obtain⟨h,⟨D,B⟩,⟨q,m⟩,⟨c,Y,b,Z⟩,⟨i,t,y,x⟩,⟨A,v,s⟩,⟨k,g,e⟩⟩:=j;have f:=h;simp only[XN,Xc,not_or]at f;apply Hs f;rintro⟨G,E,p,_⟩⟨z,o,_⟩⟨n,_⟩⟨X,W,M⟩_;exact#[h,#[D,by rw[Qv p];exact B],#[q,by rw[Qv o];exact m],#[c,Y,by rw[Qv n];exact b,Z],#[i,za,QF,K],#[A,by rw[Qv<|Ne.symm X];exact v,s.other M],#[k,by rw[Qv<|Ne.symm W];exact g,e]]
def YN : ∀b,H b≠none->upd H a o b≠none:=λb f=>by
 by_cases z:b=a
 .subst z;rw[QF];rintro⟨⟩
 .rw[Qv z];exact f
def Ca{f:Int->Int->Int}(c:NetC K C)(e:zg Z i<|zo v<|Zo P w C N){m:Int}(hi:Qr K tb Z (.int k))(R:0<=k)(Q:N.rooms[k.toNat]?=some m)(h:Qr K te Z (.int n))
(hn:H0.nx (Z.set i<|zo v<|Zo P w C { N with rooms:=N.rooms.set k.toNat (f m n) })):QE K (Dm (Va K (Q5 i) "rooms") tb te (Dj K) (ipI f) UF) Z H0:=λF0 D F O H H1 x M C'=>by
 apply aY (M.net e);rintro a u el r l d xs ys as rfl e1 o _;refine#[_,e1,a,C,u,_,.ref r,rfl,o.ins.2,c.cl,c.rooms,rfl,hi D F O H _ M λF1 E y j r1=>?_];cases r1;apply By o.rooms;intro _ rx r2 r3;have p:(N.rooms.map PyData.int)[k.toNat]?=some (.int m):=by rw[XG,Q];rfl
 refine I0 ((r3.mono j.ff).get p) λz U T=>#[r,rx,k,z,rfl,rfl,SqL.of<|j.hh _ _ r2,R,U,h D F1 O E _ (M.ext j) λS H2 dx W g=>?_];cases g;cases T;refine#[m,n,rfl,rfl,?_];apply aY ((M.ext<|j.trans W).net e);rintro a' dx' el' I l' d' Y X G ea g1 q⟨hp,wr⟩;cases ea;have A:=q.ins.2.symm.trans ((j.trans W).hh _ _ o.ins.2);injection A with A;injection A with _ _ B;simp only[List.cons.injEq,Prod.mk.injEq,true_and,and_true,V.ref.injEq]at B;apply aF B;rintro rfl rfl rfl rfl;apply By q.rooms;intro q1 J q2 L;have hlt:=(Xh.mp Q).1;have hr:Zt S (J.set k.toNat<|.int<|f m n) ((N.rooms.set k.toNat<|f m n).map PyData.int):=by
  rw[List.map_set];exact L.set (.int _) _
 refine#[I,J,k,k.toNat,rfl,rfl,q2,?_,?_]
 .rw[L.length,Xe];unfold ixN;rw[Xi R,Xi<|#[]]
 .have s:=hp I (by simp);exact C'.nx S O _ _ ((x.trans<|j.trans W).wr s.1 s.2.1) (wr _ { N with rooms:=N.rooms.set k.toNat (f m n) } Y X G ((M.ext<|j.trans W).sub.upd s.2.1) (λb t _=>Qv λz=>t<|by rw[z];simp) YN (q.setRooms hr) λb t=>.inl t) hn
end
end L2
namespace L2
section
variable {i:Nat}{v:V}{w:World}{N:QC}
def NetOk.same{xs:List (List Key×V)}{ys:List (KK×Addr×V)}
(i:NetOk P w C N F H a u el r l d xs ys as)(f:NetOk P w C N' F' J a dx' el' r' l' d' xs' ys' as')(s:J a=H a):dx'=u/\el'=el/\r'=r/\l'=l/\d'=d:=by
 have h:=f.ins.2;rw[s,i.ins.2]at h;grind
def NetOk.setEnds{xs:List (List Key×V)}{ys:List (KK×Addr×V)}(s:NetOk P w C N F H a u el r l d xs ys as){ns:List (List Key)}(X:Zt F za (ns.map Zd)):
 NetOk P w C { N with ends:=ns } F (upd H el<|.lst za) a u el r l d xs ys as:=by
 obtain⟨h,⟨W,M⟩,⟨A,v⟩,⟨Y,t,y,x⟩,⟨q,i,m,j⟩,⟨K,D,B⟩,⟨c,b,Z⟩⟩:=s;have f:=h;simp only[XN,Xc,not_or]at f;obtain⟨⟨G,p,E,_⟩,⟨o,z,_⟩,⟨n,k,g,e⟩,_⟩:=f;exact#[h,#[W,by rw[Qv p];exact M],#[A,by rw[Qv o];exact v],#[Y,za,QF,X],#[q,i,by rw[Qv<|Ne.symm n];exact m,j],#[K,by rw[Qv<|Ne.symm k];exact D,B.other e],#[c,by rw[Qv<|Ne.symm g];exact b,Z]]
def ZoM(c:NetC K C)(e:zg Z i<|zo v<|Zo P w C N)(h:Qr K te Z (.int n))(T:N.rooms.length<1000)
(hn:H0.nx (Z.set i<|zo v<|Zo P w C { N with rooms:=N.rooms++[n] })):QE K (Vq<|tBM K "list" VI (Va K (Q5 i) "rooms")<|Q3 te QH) Z H0:=λF0 D F O H H1 x s Q=>by
 apply aY (s.net e);rintro a u el r l d xs ys as rfl I m _;refine#[_,I,a,C,u,_,.ref r,rfl,m.ins.2,c.cl,c.rooms,rfl,.inl #[rfl,_,SqL.of m.rooms.2.choose_spec.1],h D F O H _ s λL E dx q k=>?_];cases k;apply aY ((s.ext q).net e);rintro a' J y X S d' B A W G U f⟨t,g⟩;cases G;apply Hs (m.same f ((q.hh _ _ m.ins.2).trans m.ins.2.symm));rintro rfl rfl rfl rfl rfl;apply By f.rooms;intro R o p Y;have j:=t X (by simp);exact#[X,o,.int n,rfl,rfl,p,by rw[Y.length,Xe];exact Vz<|#[],Q.nx L O _ _ ((x.trans q).wr j.1 j.2.1) (g _ { N with rooms:=N.rooms++[n] } B A W ((s.ext q).sub.upd j.2.1) (λb M _=>Qv λz=>M<|by rw[z];simp) YN (f.setRooms<|by rw[Xv];exact Y.snoc<|.int n) λb M=>.inl M) hn]
def Zog(c:NetC K C)(e:zg Z i<|zo v<|Zo P w C N)(h:Qr K te Z (Zd n))(hl:N.ends.length<1000)
(hn:H0.nx (Z.set i<|zo v<|Zo P w C { N with ends:=N.ends++[n] })):QE K (Vq<|tBM K "list" VI (Va K (Q5 i) "ends")<|Q3 te QH) Z H0:=λF0 D F O H H1 x A R=>by
 apply aY (A.net e);rintro a u y r l d xs ys as rfl I m _;refine#[_,I,a,C,u,_,.ref y,rfl,m.ins.2,c.cl,c.ends,rfl,.inl #[rfl,_,SqL.of m.ends.2.choose_spec.1],h D F O H _ A λQ E L s k=>?_];apply aY ((A.ext s).net e);rintro a' J q S U d' M B X G g1 f⟨t,g⟩;cases G;apply Hs (m.same f ((s.hh _ _ m.ins.2).trans m.ins.2.symm));rintro rfl rfl rfl rfl rfl;apply By f.ends;intro T o p Y;have j:=t q (by simp);exact#[q,o,L,rfl,rfl,p,by rw[Y.length,Xe];exact Vz<|#[],R.nx Q O _ _ ((x.trans s).wr j.1 j.2.1) (g _ { N with ends:=N.ends++[n] } M B X ((A.ext s).sub.upd j.2.1) (λb W _=>Qv λz=>W<|by rw[z];simp) YN (f.setEnds<|by rw[Xv];exact Y.snoc k) λb W=>.inl W) hn]
def Cz(c:NetC K C)(e:zg Z i<|zo v<|Zo P w C N):Qr K (tCB (U8 K)<|Q3 (Va K (Q5 i) "ends") QH) Z (.int (N.ends.length:Int)):=λD F O H Q h q=>by
 apply aY (h.net e);rintro a u m r l d xs ys M rfl B f _;refine By f.ends λ_ j A s=>#[_,B,a,C,u,_,.ref m,rfl,f.ins.2,c.cl,c.ends,rfl,m,j,rfl,.inl<|SqL.of A,?_];have:j.length=N.ends.length:=by rw[s.length,Xe]
 rw[this];exact q F H _ (Q1.refl h.sub) (.int _)
end
end L2
namespace L2
def Vc(ls:List (KK×Int))(k:KK):Option Int:=(ls.find? λx=>decide (x.1=k)).map (·.2)
noncomputable def YT(ls:List (KK×Int))(k:KK)(n:Int):List (KK×Int):=if (Vc ls k).isSome=true then ls.map (λx=>if x.1=k then (x.1,n) else x) else ls++[(k,n)]
theorem LaidD.val{F:Hp}(k:KK):∀{xs:List (KK×Addr×V)} {ls:List (KK×Int)},LaidD F xs ls->YE xs k=(Vc ls k).map V.int
 |_,_,.nil=>rfl
 |_,_,.cons (k:=k') h t=>by
  by_cases e:k'=k
  .simp[YE,Vc, e]
  .have:=t.val k;simpa [YE,Vc, e] using this
theorem LaidD.length{F:Hp}:∀{xs:List (KK×Addr×V)} {ls:List (KK×Int)},LaidD F xs ls->xs.length=ls.length
 |_,_,.nil=>rfl
 |_,_,.cons h t=>by simp[t.length]
theorem LaidD.repl{F:Hp}(k:KK)(n:Int):∀{xs:List (KK×Addr×V)} {ls:List (KK×Int)},LaidD F xs ls->LaidD F (xs.map λx=>if x.1=k then (x.1,x.2.1,.int n) else x) (ls.map λx=>if x.1=k then (x.1,n) else x)
 |_,_,.nil=>.nil
 |_,_,.cons (k:=k') h t=>by
  rw[Xy,Xy];by_cases e:k'=k
  .simp only[e];exact .cons (e▸h) (t.repl k n)
  .simp only[e];exact .cons h (t.repl k n)
theorem LaidD.snoc{F:Hp}{k:KK}{b:Addr}(n:Int)(f:Vv F k b):∀{xs:List (KK×Addr×V)} {ls:List (KK×Int)},LaidD F xs ls->LaidD F (xs++[(k,b,.int n)]) (ls++[(k,n)])
 |_,_,.nil=>.cons f .nil
 |_,_,.cons h t=>.cons h (t.snoc n f)
def LaidD.put{b:Addr}(n:Int)(f:Vv F k b){xs:List (KK×Addr×V)}(t:LaidD F xs ls):LaidD F (JU xs k b<|.int n) (YT ls k n):=by
 unfold JU YT;rw[t.val k,Uw];split
 .exact t.repl k n
 .exact t.snoc n f
def NT{k1 k2:List Key}(r:Rep F y (.tuple [Zd k1,Zd k2])):∃b,y=.ref b/\Vv F (k1,k2) b:=by
 cases r with
 |tup h f=>
  cases f with
  |cons m f=>
   cases f with
   |cons j f=>
    cases f;apply I0 (WX m);rintro p rfl A;apply I0 (WX j);rintro q rfl s;exact#[_,rfl,p,q,h,A,s]
section
variable {ty:TE}{i:Nat}{v:V}{w:World}{N:QC}{k1 k2:List Key}
def NetOk.setLaid{xs:List (List Key×V)}{ys:List (KK×Addr×V)}(s:NetOk P w C N F H a u el r l d xs ys as)(X:LaidD F ys' ls):
 NetOk P w C { N with laid:=ls } F (upd H d<|pdO P w d ys') a u el r l d xs ys' as:=by
 obtain⟨h,⟨W,M⟩,⟨A,v⟩,⟨g,b,e,c⟩,⟨q,i,m,j⟩,⟨K,D,B⟩,⟨k,E,z⟩⟩:=s;have f:=h;simp only[XN,Xc,not_or]at f;obtain⟨⟨a1,T,S,R,p,_⟩,⟨Q,O,L,o,_⟩,⟨J,I,n,G⟩,⟨y,Y,x⟩,⟨U,t⟩,Z,_⟩:=f;exact#[h,#[W,by rw[Qv p];exact M],#[A,by rw[Qv o];exact v],#[g,b,by rw[Qv n];exact e,c],#[q,i,by rw[Qv Y];exact m,j],#[K,by rw[Qv U];exact D,B.other Z],#[k,QF,X]]
def ZqH(c:NetC K C)(e:zg Z i<|zo v<|Zo P w C N)(I:Qr K tv Z (.int n))(G:Qr K ty Z (.tuple [Zd k1,Zd k2]))(hl:N.laid.length<1000)
(hn:H0.nx (Z.set i<|zo v<|Zo P w C { N with laid:=YT N.laid (k1,k2) n })):QE K (Py P w (Va K (Q5 i) "laid") ty tv) Z H0:=λF0 D F O H H1 x s C'=>
 I D F O H _ s λF1 E dx m t=>by
  cases t;apply aY ((s.ext m).net e);rintro a u el r l d xs ys as rfl S q _;refine#[_,S,a,C,u,_,.ref d,rfl,q.ins.2,c.cl,c.laid,rfl,G D F1 O E _ (s.ext m) λF2 H2 y W p=>?_];have A:=s.ext (m.trans W);apply aY (A.net e);rintro a' T Q r' l' k M B Y R g1 f⟨J,o⟩;cases R;apply Hs (q.same f ((W.hh _ _ q.ins.2).trans q.ins.2.symm));rintro rfl rfl rfl rfl rfl;apply I0 (NT p);rintro b rfl g;refine KE f.laid λd1 U X=>#[k,b,B,(k1,k2),rfl,rfl,U,X.at A.sub,g.mono λc' z L=>A.sub _ _ L,by rw[X.length];exact Vz<|#[],?_];have h:=J k (by simp);exact C'.nx F2 O _ _ ((x.trans<|m.trans W).wr h.1 h.2.1) (o _ { N with laid:=YT N.laid _ n } M _ Y (A.sub.upd h.2.1) (λb' j _=>Qv λz=>j<|by rw[z];simp) YN (f.setLaid<|X.put n g) λb' j=>.inl j) hn
end
end L2
namespace L2
def QV(ls:List (List Key×Ql))(k:List Key):Option (Ql):=(ls.find? λx=>decide (x.1=k)).map (·.2)
noncomputable def Yc:List (List Key×Ql)->List Key->Int->List (List Key×Ql)
 |[],_,_=>[]
 |(f,h)::r,k,n=>if f=k then (f,h++[n])::r else (f,h)::Yc r k n
def LeavD.val(k:List Key):∀{xs:List (List Key×V)} {ls:List (List Key×Ql)} {as:Qg},LeavD F H xs ls as->(Z7 xs k=none/\QV ls k=none) \/
 ∃a ns,Z7 xs k=some (.ref a)/\QV ls k=some ns/\a∈as/\Yz F H a (ns.map PyData.int):=by
 intro xs ls as h;induction h with
 |nil=>exact .inl #[rfl,rfl]
 |@cons j a ns xs ls as h t C=>
  by_cases e:j=k
  .exact .inr #[a,ns,Wm e,by simp[QV,e],Xb,h]
  .have q:QV ((j,ns)::ls) k=QV ls k:=by simp[QV,e]
   rw[Wk e,q];rcases C with z|⟨D,f,B,A,s,m⟩
   .exact .inl z
   .exact .inr #[D,f,B,A,Xf _ s,m]
theorem LeavD.app{F H:Hp}(k:List Key){a:Addr}{n:Int}{m:List V}:∀{xs:List (List Key×V)} {ls:List (List Key×Ql)} {as:Qg} {ns:Ql},LeavD F H xs ls as->as.Nodup->Z7 xs k=some (.ref a)->QV ls k=some ns->
 Zt F m ((ns++[n]).map PyData.int)->LeavD F (upd H a<|.lst m) xs (Yc ls k n) as
 |_,_,_,_,.nil,_,h,_,_=>by cases h
 |_,_,_,ns,.cons (k:=k') (a:=a') (ns:=ns') (ls:=ls) (as:=as) h t,K,f,j,B=>by
  obtain⟨A,M⟩:=XN.mp K;unfold Yc;by_cases e:k'=k
  .rw[Wm e]at f;have q:QV ((k',ns')::ls) k=some ns':=by simp[QV, e]
   rw[q]at j;cases f;cases j;rw[Xi e];exact .cons #[h.1,m,QF,B] (t.other A)
  .rw[Wk e]at f;have q:QV ((k',ns')::ls) k=QV ls k:=by simp[QV, e]
   rw[q]at j;rw[Xg e];have P:a∈as:=by
    rcases t.val k with z|⟨d,C,c,b,Z,Y⟩
    .grind
    .grind
   refine .cons ?_ (t.app k M f j B);obtain⟨U,s,X,W⟩:=h;have D:a'≠a:=λz=>A (by rw[z];exact P)
   exact#[U,s,by rw[Qv D];exact X,W]
def LeavD.snoc(k:List Key)(o:Yz F H a []):∀{xs:List (List Key×V)} {ls:List (List Key×Ql)} {as:Qg},LeavD F H xs ls as->LeavD F H (xs++[(k,.ref a)]) (ls++[(k,[])]) (as++[a]):=by
 intro xs ls as h;induction h with
 |nil=>exact .cons o .nil
 |cons h _ f=>exact .cons h f
def LeavD.length:∀{xs:List (List Key×V)} {ls:List (List Key×Ql)} {as:Qg},LeavD F H xs ls as->xs.length=ls.length:=by
 intro xs ls as h;induction h with
 |nil=>rfl
 |cons _ _ f=>exact Xz Nat.succ f
noncomputable def Yn(ls:List (List Key×Ql))(k:List Key):List (List Key×Ql):=if (QV ls k).isSome=true then ls else ls++[(k,[])]
section
variable {w:World}{N:QC}{k:List Key}
def NetOk.appLeav{xs:List (List Key×V)}{ys:List (KK×Addr×V)}(D:NetOk P w C N F H a u el r l d xs ys as){b:Addr}
(e:Z7 xs k=some (.ref b))(he:QV N.leav k=some ns)(i:b∈as)(g:Zt F za ((ns++[n]).map PyData.int)):NetOk P w C { N with leav:=Yc N.leav k n } F (upd H b<|.lst za) a u el r l d xs ys as:=by
 obtain⟨m,⟨c,Z⟩,⟨M,K⟩,⟨I,y,G,E⟩,⟨B,q,A,s⟩,⟨Y,X,W⟩,⟨O,L,J⟩⟩:=D;have j:=m;simp only[XN,Xc,not_or]at j;obtain⟨⟨a1,a2,a3,a4,a5,S⟩,⟨b1,b2,b3,b4,R⟩,⟨c1,c2,c3,Q⟩,⟨g1,T,p⟩,⟨U,o⟩,v,t⟩:=j;have f:∀{x:Addr},x∉as->x≠b:=λh z=>h (by exact z▸i)
 exact#[m,#[c,by rw[Qv<|f S];exact Z],#[M,by rw[Qv<|f R];exact K],#[I,y,by rw[Qv<|f Q];exact G,E],#[B,q,by rw[Qv<|f p];exact A,s],#[Y,by rw[Qv<|f o];exact X,W.app k t e he g],#[O,by rw[Qv<|f v];exact L,J]]
end
end L2
namespace L2
section
variable {ty:TE}{i:Nat}{v:V}{w:World}{N:QC}{k:List Key}
def La(c:NetC K C)(e:zg Z i<|zo v<|Zo P w C N)(h:Qr K te Z (.int n))(he:QV N.leav k=some ns)(hz:ns.length<1000)
(hn:H0.nx (Z.set i<|zo v<|Zo P w C { N with leav:=Yc N.leav k n }))(x:Q1 F0 D F H)(o:QB K D F Z O H)(C':Cnv K F0 D H0 H1)
{xs:List (List Key×V)}{ys:List (KK×Addr×V)}(q:NetOk P w C N F H a u el r l d xs ys as)(S:v=.ref a)(B:Z7 xs k=some (.ref al)):
 tyV K "list" (.ref al) H/\Q3 te QH O H λvs H2=>VI (.ref al) vs H2 λ_ H3=>H1.nx O H3:=by
 have m:∀{F H:Hp} {a u el r l d:Addr} {xs:List _} {ys:List _} {as:Qg},NetOk P w C N F H a u el r l d xs ys as->Z7 xs k=some (.ref al)->al∈as/\Yz F H al (ns.map PyData.int):=λq B=>by
  rcases q.leav.2.2.val k with z|⟨a2,L,z1,z2,z3,z4⟩
  .grind
  .grind
 refine aI (m q B) λ_ _ za Y _=>#[.inl #[rfl,_,SqL.of Y],h D F O H _ o λF1 E dx A J=>?_];cases J;apply aY ((o.ext A).net e);rintro a' U T r' l' d' G W p y g1 j⟨R,I⟩;rw[S]at y;cases y;apply Hs (q.same j ((A.hh _ _ q.ins.2).trans q.ins.2.symm));rintro rfl rfl rfl rfl rfl;have f:=j.leav.2.1.symm.trans (A.hh _ _ q.leav.2.1);injection f with f;injection f with f;subst f;apply aI (m j B);intro X m2 M Q t;have s:=R al (by simp[X]);exact#[al,M,.int n,rfl,rfl,Q,by rw[t.length,Xe];exact Vz<|#[],C'.nx F1 O _ _ ((x.trans A).wr s.1 s.2.1) (I _ { N with leav:=Yc N.leav k n } _ W p ((o.ext A).sub.upd s.2.1) (λb g _=>Qv λz=>g<|by rw[z];simp[X]) YN
  (j.appLeav B he X<|by rw[Xv];exact t.snoc<|.int n) (λb g=>.inl g)) hn]
def Cv(ls:List (List Key×Ql))(h:QV ls k=none):QV (ls++[(k,[])]) k=some []:=by
 induction ls with
 |nil=>simp[QV]
 |cons x ls m=>
  obtain⟨f,i⟩:=x
  by_cases e:f=k
  .simp[QV, e]at h
  .have q:QV ((f,i)::ls) k=QV ls k:=by simp[QV, e]
   rw[q]at h;have j:QV ((f,i)::ls++[(k,[])]) k=QV (ls++[(k,[])]) k:=by simp[QV, e]
   rw[j];exact m h
def Zos(c:NetC K C)(e:zg Z i<|zo v<|Zo P w C N)(hy:Qr K ty Z (Zd k))(hl:N.leav.length<1000)(hz:∀ns,QV (Yn N.leav k) k=some ns->ns.length<1000)
(h:Qr K te (Z.set i<|zo v<|Zo P w C { N with leav:=Yn N.leav k }) (.int n))(hn:H0.nx (Z.set i<|zo v<|Zo P w C { N with leav:=Yc (Yn N.leav k) k n })):
 QE K (Vq<|tBM K "list" VI (TL (Va K (Q5 i) "leaving") ty<|Y1 QH)<|Q3 te QH) Z H0:=λF0 D F O H H1 x gs C'=>by
 apply aY (gs.net e);rintro a u el r l d xs ys as rfl e1 ok⟨hp0,_⟩;refine#[_,e1,a,C,u,_,.ref l,rfl,ok.ins.2,c.cl,c.leav,rfl,l,rfl,.inr #[xs,Rd.of ok.leav.2.1],hy D F O H _ gs λF1 E y x1 r1=>#[XA _,λp g=>?_]];have S:=gs.ext x1;have x2:Q1 F1 E F1 (upd E p<|.lst []):=Q1.own S.sub g;apply aY (S.net e);rintro a' A s I W R j X f ea g1 Y⟨hp',wr⟩;cases ea;apply Hs (ok.same Y ((x1.hh _ _ ok.ins.2).trans ok.ins.2.symm));rintro rfl rfl rfl rfl rfl;have hlt:=(Xh.mp e).1;apply I0 (WX r1);rintro b rfl hb;apply KE Y.leav;intro l1 l2 l3;have np:∀q∈a::A::s::I::W::R::f,q≠p:=λq hq z=>by rw[z]at hq;exact(hp' p hq).2.2 g
 have lp:=np W (by simp);have bp:b≠p:=λz=>by rw[z]at hb;rw[S.sub _ _ hb]at g;cases g
 refine#[j,k,b,rfl,by rw[Qv lp];exact l2,by rw[Qv bp];exact S.sub _ _ hb,by rw[l3.length];exact Vz<|#[],λv0 B=>?_,λB=>?_]
 .rcases l3.val k with z|⟨al,ns,z1,o,z3,z4⟩
  .rw[B]at z;cases z.1
  .rw[B]at z1;cases z1;have L:Yn N.leav k=N.leav:=by unfold Yn;rw[o];rfl
   rw[L]at h hn hz;have M:NetOk P w C N F1 (upd E p<|.lst []) a A s I W R j X f:=by
    obtain⟨q0,q1,q2,q3,q4,q5,J⟩:=Y;exact By q3 λQ ex e2 e3=>By q4 λG rx r2 r3=>#[q0,#[q1.1,by rw[Qv<|np a<|by simp];exact q1.2],#[q2.1,by rw[Qv<|np A<|by simp];exact q2.2],#[Q,ex,by rw[Qv<|np s<|by simp];exact e2,e3],#[G,rx,by rw[Qv<|np I<|by simp];exact r2,r3],
     #[q5.1,by rw[Qv lp];exact q5.2.1,q5.2.2.other λz=>np p (by simp[z]) rfl],#[J.1,by rw[Qv<|np R<|by simp];exact J.2.1,J.2.2]]
   have S4:=wr _ N j X f (S.ext x2).sub (λT _ m=>Qv λz=>m<|by exact z▸g) YN M (λT m=>.inl m);exact La (N:=N) c (X6 hlt) h o (hz ns o) (by rw[List.set_set];exact hn) (x.trans<|x1.trans x2) S4 C' M rfl B
 .have o:QV N.leav k=none:=by
   rcases l3.val k with z|⟨al,ns,z1,o,z3,z4⟩
   .exact z.2
   .rw[B]at z1;cases z1
  have L:Yn N.leav k=N.leav++[(k,[])]:=by unfold Yn;rw[o];rfl
  rw[L]at h hn hz;have fp:=S.sub.free g;have M:NetOk P w C { N with leav:=N.leav++[(k,[])] } F1 (upd (upd E p<|.lst []) W<|.dT<|j++[(k,.ref p)]) a A s I W R (j++[(k,.ref p)]) X (f++[p]):=by
   obtain⟨q0,q1,q2,q3,q4,q5,J⟩:=Y;refine By q3 λQ ex e2 e3=>By q4 λG rx r2 r3=>?_;have nd':=q0;simp only[XN,Xc,not_or]at nd';apply aA nd';rintro⟨a1,a2,a3,a4,a5,a6⟩⟨b1,b2,b3,b4,b5⟩⟨c1,c2,c3,c4⟩⟨g1',g2,g3⟩⟨U,h2⟩⟨f1,f2⟩;have up:∀{q:Addr},q∈a::A::s::I::W::R::f->q≠W->upd (upd E p<|.lst []) W (.dT<|j++[(k,.ref p)]) q=E q:=λhq ne=>by rw[Qv ne,Qv<|np _ hq]
   refine#[?_,#[q1.1,by rw[up (by simp) a4];exact q1.2],#[q2.1,by rw[up (by simp) b3];exact q2.2],#[Q,ex,by rw[up (by simp) c2];exact e2,e3],#[G,rx,by rw[up (by simp) g1'];exact r2,r3],#[l1,QF,?_],#[J.1,by rw[up (by simp)<|Ne.symm U];exact J.2.1,J.2.2]]
   .have:(a::A::s::I::W::R::(f++[p]))=(a::A::s::I::W::R::f)++[p]:=by simp
    rw[this,MD];refine#[q0,by simp,λdx hu t ht=>?_];cases Xj.mp ht;exact np dx hu
   .exact LeavD.snoc k #[fp,[],by rw[Qv<|Ne.symm lp,QF],.nil]<|(l3.other λz=>np p (by simp[z]) rfl).other h2
  have S4:=
   wr _ _ _ X (f++[p]) ((S.sub.upd fp).upd l1) (λT hb1 hb2=>by rw[Qv (λz=>hb1<|by rw[z];simp),Qv λz=>hb2<|by exact z▸g]) (λT m=>YN T<|YN T m) M (λT m=>by
    rcases Xu.mp m with z|z
    .exact .inl z
    .cases Xj.mp z;exact .inr #[g,(x.trans x1).hh.free g])
  have hl0:=hp' W (by simp);exact La c (X6 hlt) h (Cv _ o) (hz []<|Cv _ o) (by rw[List.set_set];exact hn) ((x.trans<|x1.trans x2).wr hl0.1 hl0.2.1) S4 C' M rfl (by
   rw[C0 k k (.ref p) j B,Xi rfl])
end
end L2
namespace L2
structure KTup(K:W.Frag)(g:Addr)(x:Str):Prop where
 ex:∃(d:Qj) (t:Nat) (n:Nat) (sl:Array (Qf)),K.lookup g=some #[.type "tuple",d,.seq (List.toArray [.str x t]) n,sl]
def Zr3{f:Shared}
(KX:K.In f.heap)(O:f.heap.Ns mainGlobals mg)(B:f.heap.Ns builtinsNs mb)(hbb:∀x:Str,x ≠ "__name__" -> mb x=bootBuiltins x)(Q:f.heap.NoLimit)(hg:f.gens=(List.toArray []))
(t:f.heap.get? a=some { cls:=.type "list",data:=.seq vs.toArray })(hi:IntsAre vs ns)(hl:ns.length<=sizeLine)(hr:Room k callerA)(tS:KTup K gS "start")(tE:KTup K gE "end")
(F:∀base:Heap,K.In base->base.Ns mainGlobals mg->FnOk P w K mg base CX0 k fa fd [x] sp)(i:∀(s:Shared) (D:Value),BindsTo s fd #[[D],[]] [(x,D)])
(hsp:∀H:Hp,SqL K H a (ns.map V.int)->H gS=some (.tup [.str "start"])->H gE=some (.tup [.str "end"])->sp [.ref a] H (λv _=>v=.bl true) λ_ _ _=>False):
 codeAny (model P w) callerA (.call (.ref fa) #[[.ref a],[]]) (λr Z=>r=.ok (.ret<|.bool true)/\OldK f.heap Z.heap/\Z.os=f.os/\AllBare Z.gens) f:=by
 apply FB tS.ex;rintro dS kS cS⟨slS,lS⟩;apply FB tE.ex;rintro dE kE cE⟨slE,lE⟩;have l:=KX gS _ lS;have p:=KX gE _ lE;have naS:gS≠a:=λz=>by
  rw[z,t]at l;injection l with y;injection y with g;injection g with u;exact Xo u (by decide)
 have naE:gE≠a:=λz=>by
  rw[z,t]at p;injection p with y;injection y with g;injection g with u;exact Xo u (by decide)
 have nSE:gE≠gS:=λz=>by
  rw[z,lS]at lE;injection lE with y;injection y with _ _ g _;injection g with u _;have z4:=Xz Array.toList u;simp only[List.cons.injEq,Value.str.injEq,and_true]at z4;exact Xo z4.1 (by decide)
 have c:∀j:Hp,Z0s j->SqL K j a (ns.map V.int)->HOk P w j f.heap->(∀b,j b≠none->b=a)->(j a≠none->K.lookup a=none)->
  codeAny (model P w) callerA (.call (.ref fa) #[[.ref a],[]]) (λr Z=>r=.ok (.ret<|.bool true)/\OldK f.heap Z.heap/\Z.os=f.os/\AllBare Z.gens) f:=by
  intro j hO hSq N hA hK;have fS:j gS=none:=by
   cases q:j gS with
   |none=>rfl
   |some D=>exact Xo (hA gS<|by rw[q];simp) naS
  have fE:j gE=none:=by
   cases q:j gE with
   |none=>rfl
   |some D=>exact Xo (hA gE<|by rw[q];simp) naE
  have A:∀{b:Addr} {o:Obj},f.heap.get? b=some o->j b=none->(JS f.heap j).get? b=some o:=λe n=>Zs6 e n
  have noA:∀{b:Addr} {o:Obj} {es:Array DictEntry} {ep:Nat},f.heap.get? b=some o->o.data=.dict es ep->j b=none:=λ{b o es ep} e d=>by
   cases q:j b with
   |none=>rfl
   |some D=>
    have e':b=a:=hA b (by rw[q];simp);subst e';rw[t]at e;cases e;cases d
  have W:∀{b:Addr} {m:Str->Qf},f.heap.Ns b m->(JS f.heap j).Ns b m:=λ{b m} ⟨o,es,ep,e,d,r⟩=>#[o,es,ep,A e<|noA e d,d,r]
  have R:=λb o e=>A (KX b o e) (by
   cases q:j b with
   |none=>rfl
   |some D=>
     have e':b=a:=hA b (by rw[q];simp);subst e';rw[hK<|by rw[q];simp]at e;cases e)
  let H:Hp:=upd (upd j gS<|.tup [.str "start"]) gE (.tup [.str "end"])
  have X:H gS=some (.tup [.str "start"]):=by show upd _ _ _ gS=_;rw[Qv<|Ne.symm nSE,QF]
  have Y:H gE=some (.tup [.str "end"]):=QF;have M:∀b,b≠gS->b≠gE->H b=j b:=λb U C=>by show upd _ _ _ b=_;rw[Qv C,Qv U]
  have sm:Q4 j H:=λb D e=>by
   rw[M b (λz=>by rw[z,fS]at e;cases e) λz=>by rw[z,fE]at e;cases e];exact e
  have l1:∀x:Str,[V.str x].length<=sizeLine:=λ_=>Wd (Vz JN)
  have I:HOk P w H f.heap:=λb D e=>by
   by_cases U:b=gS
   .subst U;rw[X]at e;cases e;exact#[l1 _,[.str "start" kS],.cons #[kS,rfl] .nil,#[_,l,rfl,_,rfl]]
   .by_cases C:b=gE
    .subst C;rw[Y]at e;cases e;exact#[l1 _,[.str "end" kE],.cons #[kE,rfl] .nil,#[_,p,rfl,_,rfl]]
    .rw[M b U C]at e;rcases hO b with z|⟨o,xs,z⟩
     .rw[z]at e;cases e
     .rw[z]at e;cases e;obtain⟨q1,q2⟩:=N b _ z;exact#[q1,q2]
  have e0:Env0 P w K mg (JS f.heap j) callerA [] f H:=#[rfl,#[R,W O,#[mb,W B,hbb],let ⟨mc,U,C⟩:=Q;#[mc,W U,C]],λb o e=>by
   obtain⟨e1,e2⟩:=O0 e;refine#[e1,?_]
   by_cases U:b=gS
   .exact .inr #[_,by exact U▸X]
   .by_cases C:b=gE
    .exact .inr #[_,by exact C▸Y]
    .exact .inl (by rw[M b U C];exact e2),Nat.le_of_eq<|Zpm _ _,trivial,λb B=>Xo (show b∈([]:Qg) from B)<|by simp,I,.of_eq hg]
  refine codeAny_mono ((F _ R<|W O).run callerA [] f H #[[.ref a],[]] [.ref a] [.ref a] _ _ hr e0 (i f<|.ref a) (.cons rfl .nil) (hsp H (sm.seq hSq) X Y)) λr Z h=>?_
  cases r with
  |error e=>exact False.elim h
  |ok fl=>
   cases fl with
   |next=>exact False.elim h
   |brk=>exact False.elim h
   |cont=>exact False.elim h
   |ret D=>
    apply aN h;intro v J os S T L r' q;subst q;obtain rfl:D=Value.bool true:=r';refine#[rfl,OldK.of_keep λb o e=>?_,os,S]
    by_cases U:b=gS
    .subst U;exact T.tupo b _ o X e (by simp)
    .by_cases C:b=gE
     .subst C;exact T.tupo b _ o Y e (by simp)
     .rcases hO b with z|⟨ob,xs,z⟩
      .exact T.keep b o e (by rw[M b U C];exact z) (by exact λz=>Xo (show b∈([]:Qg) from z)<|by simp) (by simp)
      .obtain⟨e1,_⟩:=N b _ z;obtain⟨e2,_⟩:=L b _ (T.frzs b ob _ (by rw[M b U C];exact z));rw[e]at e1;cases e1;exact e2
 cases hk:K.lookup a with
 |some o=>
  have e:=KX a o hk;rw[t]at e;cases e;refine c (λ_=>none) (λ_=>.inl rfl) (.inr #[_,vs.toArray,_,hk,rfl,rfl,rfl,by rw[Xw,hi.length];exact hl,by simpa using (C4 hi)]) (λb D z=>by have E:(none:Option HO)=some D:=z;cases E) (λb z=>Xo rfl z) λz=>Xo rfl z
 |none=>
  refine c (λb=>if b=a then some (.frz { cls:=.type "list",data:=.seq vs.toArray }<|.lst<|ns.map V.int) else none) (λb=>?_) (.inl<|.inr #[{ cls:=.type "list",data:=.seq vs.toArray },Xi rfl]) (λb D z=>?_) (λb z=>?_) λ_=>hk
  .by_cases B:b=a
   .exact .inr #[_,_,Xi B]
   .exact .inl (Xg B)
  .by_cases B:b=a
   .have E:=(Xi B).symm.trans z;cases E;subst B;exact#[t,by rw[Xe];exact hl,vs,_,C4 hi,t]
   .have E:=(Xg B).symm.trans z;cases E
  .by_cases B:b=a
   .exact B
   .exact Xo (Xg B) z
def Zq5{l:W.OpenLaw}{q:Program}{K:Params->W.Frag}
(hn:l.most=some 63)(X:d.params.defaults=[])(p:Room k callerA)
(v:∀(w:World) (h:Heap),YP w h->(K w.params).In h)
(F:∀(w:World) (mg:Str->Qf) (M:Addr) (h:Heap),(K w.params).In h->h.Ns mainGlobals mg->mg d.name=some (.ref M)->
  (∃C D,W.nsIn (K w.params) mainGlobals "START"=some (some<|.ref C)/\W.nsIn (K w.params) mainGlobals "END"=some (some<|.ref D)/\KTup (K w.params) C "start" /\ KTup (K w.params) D "end")/\
  ∃fd:FuncData,(∀(s:Shared) (Z:Value),BindsTo s fd #[[Z],[]] [(x,Z)])/\
   ∀base:Heap,(K w.params).In base->base.Ns mainGlobals mg->FnOk l.prog w (K w.params) mg base CX0 k M fd [x] (Du<|K w.params)):
 W.WalkO q loose XP YP l.row.toRowW d [] (λf vs=>PySem.call f vs):=by
 refine Att.attach_callW hn X λw Y Q mg L M o J cd I a vs g G Xa6 N O t P B m j A r=>?_
 have b:=v w _ Xa6;apply By (F w mg M _ b G.T.g P);rintro⟨C,D,n,i,e,c⟩fd u z;exact Zr3 b G.T.g G.T.b G.T.builtins G.T.nolimit r B m (Xt j<|by decide) p e c z u (λH y U E=>#[a,g,rfl,.inr #[C,D,n,i,U,E],#[y,j,A],λ_=>rfl])
def NV  {g:Addr}(a:W.nsIn K mainGlobals "START"=some (some<|.ref g)):Qr K (tC<|.ref g) Z (Zd [.inr "start"]):=λD F O H Q f q=>by
 rcases f.kt with U|⟨s,A,U,m,h,j⟩<;>rw[U]at a<;>cases a
 exact q F H _ (Q1.refl f.sub) (.tup h<|.cons (.str _) .nil)
def TK  {g:Addr}(b:W.nsIn K mainGlobals "START"=some (some<|.ref g'))(a:W.nsIn K mainGlobals "END"=some (some<|.ref g)):Qr K (tC<|.ref g) Z (Zd [.inr "end"]):=λD F O H Q f q=>by
 rcases f.kt with U|⟨s,A,U,j,m,h⟩
 .grind
 .rw[j]at a;cases a;exact q F H _ (Q1.refl f.sub) (.tup h<|.cons (.str _) .nil)
end L2
namespace L2
def K5(f:Room k A):A.units+6<cLine:=Hx (Nat.add_le_add_left (by decide) _) f.units
def TU(h tv:TE):TE:=λO H Q=>∀p,H p=none->h O (upd H p<|.dT []) λx E=>tv O E λy f=>∃k b,x=.ref b/\f p=some (.dT [])/\f b=some (.tup<|k.map kV)/\Q (.ref p) (upd f p<|.dT [(k,y)])
def ZrV(N:X.A.units+1<cLine)(n:PE X ke tk)(g:PE X ve tv):PE X (.Dict [some ke] [ve] pos) (TU tk tv):=by
 refine λY s O H Q I q=>wpAny_Dict_any rfl rfl (by simp) (by simp) (pairTrees_cons_walk<|Q7 (n Y _ O _ _ (I.laid (t':=s.toks) (λ_ _ q=>Xd _ q) (Xm _) (FO s.heap I.big))<|q _ (I.hok.fresh (Xm s.heap.objs.size))) ?_);rintro L M ⟨x,E,F,W,a⟩;refine Q7 (g Y M O E _ F a) ?_;rintro K J ⟨y,D,m,P,k,b,rfl,e,C,Z⟩;refine pairTrees_nil_walk ?_;obtain rfl:=W;apply aI (Kz m.hok e);intro z o xs f dd;have d:xs=[]:=by cases f;rfl
 subst d;unfold storeAll;rw[List.forIn_cons];refine Xa (Xa<|wpAny_dictSet_heap (hsz:=XA _) (show X.A.units<cLine by lia) (WR m.hok C) dd λh' j i=>Xl ?_);apply aK j;rintro A es w B u t r⟨_,p⟩;refine Xl #[.ref s.heap.objs.size,upd D s.heap.objs.size<|.dT [(k,y)],BY m (by exact e▸True.intro) i #[A,B] #[Wd<|Vz<|by simp,o,_,(show KT D [_] [(k,b,K)] from .cons #[rfl,C,P] .nil).keeps λc ys h=>?_,A,es,w,B,u,t,r,p],rfl,Z];rw[Qv λz=>by subst z;rw[e]at h;cases h];exact h
def Zsm(W:Qr K tk Z (Zd k))(P:Qr K tv Z d):EvX K (TU tk tv) Z (VM [(k,d)]):=λD F O H Q j q=>λp h=>by
 have m:Q1 F H F (upd H p<|.dT []):=Q1.own j.sub h;refine W D F O _ _ (j.ext m) λi E x B M=>P D i O E _ (j.ext<|m.trans B) λg l y A C=>?_;apply I0 (WX M);rintro b rfl Y;have X:=B.trans A;have f:=X.free (j.sub.free h) (by rw[QF];rintro⟨⟩);refine#[k,b,rfl,X.hh _ _ QF,X.fh _ _<|A.ff _ _ Y,q g _ _ [p] ((m.trans X).wr h f) (λa c=>by cases Xj.mp c;exact h) #[p,_,rfl,rfl,f,QF,.cons C .nil]]
inductive LeavZ(F:Hp):List (List Key×V)->List (List Key×Ql)->Prop
 |nil:LeavZ F [] []
 |cons {k:List Key}{a:Addr}{ns:Ql}{za:List V}{xs:List (List Key×V)}{ls:List (List Key×Ql)}:F a=some (.lst za)->Zt F za (ns.map PyData.int)->LeavZ F xs ls->LeavZ F ((k,.ref a)::xs) ((k,ns)::ls)
def LeavZ.mono(s:Q4 F F'):∀{xs:List (List Key×V)} {ls:List (List Key×Ql)},LeavZ F xs ls->LeavZ F' xs ls:=by
 intro xs ls h;induction h with
 |nil=>exact .nil
 |cons h r _ f=>exact .cons (s _ _ h) (r.mono s) f
def LeavZ.val(k:List Key):∀{xs:List (List Key×V)} {ls:List (List Key×Ql)},LeavZ F xs ls->(Z7 xs k=none/\QV ls k=none)\/∃a ns f,Z7 xs k=some (.ref a)/\QV ls k=some ns/\F a=some (.lst f)/\Zt F f (ns.map PyData.int):=by
 intro xs ls h;induction h with
 |nil=>exact .inl #[rfl,rfl]
 |@cons j a ns f xs ls h r t m=>
  by_cases e:j=k
  .exact .inr #[a,ns,f,Wm e,by simp[QV,e],h,r]
  .have q:QV ((j,ns)::ls) k=QV ls k:=by simp[QV,e]
   rw[Wk e,q];exact m
def LeavD.fz(s:Q4 F F'):∀{xs:List (List Key×V)} {ls:List (List Key×Ql)} {as:Qg},LeavD F H xs ls as->(∀b∈as,F' b=H b)->LeavZ F' xs ls:=by
 intro xs ls as h f;induction h with
 |nil=>exact .nil
 |cons h _ j=>
  exact By h λU xs A q=>.cons (by rw[f _ Xb];exact A) (q.mono s) (j λb m=>f b<|Xf _ m)
structure NetFz(P:Program)(w:World)(C:Addr)(N:QC)(F:Hp)(a u e r l d:Addr)(xs:List (List Key×V))(ys:List (KK×Addr×V)):Prop where
 ins:F a=some (.ins C u [("ends",.ref e),("rooms",.ref r),("leaving",.ref l),("laid",.ref d)])
 ends:∃ex,F e=some (.lst ex)/\Zt F ex (N.ends.map Zd)
 rooms:∃rx,F r=some (.lst rx)/\Zt F rx (N.rooms.map PyData.int)
 leav:F l=some (.dT xs)/\LeavZ F xs N.leav
 laid:F d=some (pdO P w d ys)/\LaidD F ys N.laid
def NetFz.mono{xs:List (List Key×V)}{ys:List (KK×Addr×V)}(s:Q4 F F')(h:NetFz P w C N F a u e r l d xs ys):NetFz P w C N F' a u e r l d xs ys:=by
 obtain⟨U,⟨W,M,K⟩,⟨f,D,B⟩,⟨A,q⟩,⟨m,j⟩⟩:=h;exact#[s _ _ U,#[W,s _ _ M,K.mono s],#[f,s _ _ D,B.mono s],#[s _ _ A,q.mono s],#[s _ _ m,j.mono s]]
def Vg(P:Program)(w:World)(C:Addr)(N:QC):ZP where
 ok K F v := ∃a u e r l d xs ys,v=.ref a/\NetFz P w C N F a u e r l d xs ys
 mono:=by
  rintro K F f v s ⟨a,u,e,r,l,d,xs,ys,rfl,h⟩;exact#[a,u,e,r,l,d,xs,ys,rfl,h.mono s]
def NetOk.fz{xs:List (List Key×V)}{ys:List (KK×Addr×V)}(m:NetOk P w C N F H a u el r l d xs ys as)(s:Q4 F F')(he:∀b∈a::u::el::r::l::d::as,F' b=H b):
 NetFz P w C N F' a u el r l d xs ys:=by
 obtain⟨c,⟨g,B⟩,_,⟨i,K,W,M⟩,⟨Z,f,j,h⟩,⟨e,A,q⟩,⟨k,Y,X⟩⟩:=m;exact#[by rw[he _<|by simp];exact B,#[K,by rw[he _<|by simp];exact W,M.mono s],#[f,by rw[he _<|by simp];exact j,h.mono s],#[by rw[he _<|by simp];exact A,q.fz s λb D=>he b<|by simp[D]],#[by rw[he _<|by simp];exact Y,X.mono s]]
def Zo.fz(h:(Zo P w C N).ok K F H v p)(s:Q4 F F')(he:∀b∈p,F' b=H b):(Vg P w C N).ok K F' v:=by
 obtain⟨a,u,e,r,l,d,xs,ys,f,rfl,rfl,o⟩:=h;exact#[a,u,e,r,l,d,xs,ys,rfl,o.fz s he]
def G2(kvs:Yf):ZP where
 ok K F v := ∃a xs,v=.ref a/\F a=some (.dT xs)/\PairD F xs kvs
 mono:=by
  rintro K F h v s ⟨a,xs,rfl,U,f⟩;exact#[a,xs,rfl,s _ _ U,f.mono s]
def VM.fz(h:(VM kvs).ok K F H v p)(s:Q4 F F')(he:∀b∈p,F' b=H b):(G2 kvs).ok K F' v:=by
 apply aU h;rintro a xs rfl rfl U j f;exact#[a,xs,rfl,by rw[he a Xb];exact j,f.mono s]
def QB.freezeZ{Ψ:ZP}(s:QB K D F Z O H)(e:zg Z i<|zo v Φ)
(hz:∀{F h H:Hp} {f:V} {p:Qg},Φ.ok K F H f p->Q4 F h->(∀b∈p,h b=H b)->Ψ.ok K h f):
 ∃p,(∀a∈p,F a=none/\H a≠none/\D a=none)/\QB K D (frF F H p) (Z.set i<|zz Ψ) O H:=
 s.frz e λf p j=>#[rfl,hz j.2 (W8 λa q=>(Φ.there j.2 a q).1) λb m=>WT m]
def T5(i:Nat){Ψ:ZP}(e:zg Z i<|zo v Φ)(hz:∀{F j H:Hp} {q:V} {p:Qg},Φ.ok K F H q p->Q4 F j->(∀b∈p,j b=H b)->Ψ.ok K j q)
(h:QE K t (Z.set i<|zz Ψ) H0):QE K t Z H0:=λF0 D F O H B x A C=>by
 refine I0 (A.freezeZ e hz) λp m s=>h F0 D _ O H B #[x.hh,x.ff.trans<|W8 λa f=>(m a f).1,s.sub,λa f=>?_] s C
 by_cases z:a∈p
 .exact .inr (m a z).2.2
 .rw[J4 z]at f;exact x.fr a f
def ZtA(i:Nat)(e:zg Z i<|zo v<|Zo P w C N)(h:QE K t (Z.set i<|zz<|Vg P w C N) H0):QE K t Z H0:=T5 i e (λa b c=>Zo.fz a b c) h
def FF(i:Nat)(e:zg Z i<|zo v<|VM kvs)(h:QE K t (Z.set i<|zz<|G2 kvs) H0):QE K t Z H0:=T5 i e (λa b c=>VM.fz a b c) h
def Zz(K:W.Frag)(t:TE)(Z:ZbB)(Φ:OT->Prop):Prop := ∀(D F:Hp) (O:St) (H:Hp) (Q:VK),QB K D F Z O H->(∀f J v p r,Φ r->Q1 F H f J->(∀a∈p,H a=none)->Zy K f J v r p->Q v J)->t O H Q
def EvO.d(h:EvO K t Z r)(j:Φ r):Zz K t Z Φ:=λD F O H Q s q=>h D F O H Q s λA J v p x m f=>q A J v p r j x m f
def Zz.o(h:Zz K t Z (λf=>f=r)):EvO K t Z r:=λD F O H Q s q=>h D F O H Q s λA J v p f e x m j=>by subst e;exact q A J v p x m j
def WY(h:Zz K te Z Φ)(hn:∀r,Φ r->H0.nx (Z.set i<|some r)):QE K (ZM te<|Vk i) Z H0:=λF0 D F O H u x A C=>
 h D F O H _ A λl J v p r X f B W=>by
  refine C.nx l _ J _ (x.trans f) ((A.ext f).set W (λa s=>x.hh.free<|B a s) (hn:=λa s j w P q k g m=>L3 A.fp λt c o b=>I0 (c j P k) λn M e=>?_)) (hn r X);intro Y;rw[g]at M;cases M;exact(b j a<|Mh (e.ext f) m a Y).2 (B a s)
def Ng(h:Zz K te Z Φ)(m:∀r,Φ r->H0.rt r):QE K (VJ te) Z H0:=λF0 D F O H M x A C=>
 h D F O H _ A λB J v p r e f q j=>C.rt B J v r p (x.trans f) (λa s=>x.hh.free<|q a s) j (m r e)
def Lw(e:zg Z i<|zo v Φ)(f:H0.rt (.own v Φ)):QE K (VJ<|Q5 i) Z H0:=λF0 D F O H P x q C=>by
 exact L3 q.fp λM h _ m=>I0 (h i _ e) λB A s=>#[_,A,C.rt F H B _ _ x (λa j=>(m i a j).1) s f]
def JP(r:OT):Prop := ∀(K:W.Frag) (F f H:Hp) (v:V) (p:Qg),(∀a∈p,f a=none)->Zy K F H v r p->Zy K f H v r p
def Rep.thin{w:V}(r:Rep F v d)(h:V1 d=some w):Rep F' v d:=by
 cases r<;>simp[V1]at h
 .exact .non
 .exact .bl _
 .exact .int _
 .exact .str _
def Bf{w:V}(h:V1 d=some w):JP (.fz d):=λK F j H v p _ f=>#[f.1,f.2.thin h]
def N4(h:Jx ds):JP (.ol ds):=λK F s H v p j f=>by
 apply aW f;rintro a rfl rfl U xs q m;exact#[a,rfl,rfl,j a Xb,xs,q,m.flats h]
def KM(kvs:Yf):Prop := ∀x∈kvs,∃w,V1 x.2=some w
theorem PairD.flats{F j:Hp}:∀{xs:List (List Key×V)} {kvs:Yf},KM kvs->PairD F xs kvs->PairD j xs kvs
 |_,_,_,.nil=>.nil
 |_,_,h,.cons r t=>by
  obtain⟨w,e⟩:=h _ Xb;exact .cons (r.thin e) (t.flats λx f=>h x<|Xf _ f)
def Zsv(h:KM kvs):JP (.own v<|VM kvs):=λK F A H s p j f=>by
 apply At f;rintro e a xs rfl⟨rfl,U,q,m⟩;exact#[e,a,xs,rfl,rfl,j a Xb,q,m.flats h]
def Rb{Ψ:ZP}(i:Nat)(e:zg Z i<|zo v Φ0)(hz:∀{F j H:Hp} {f:V} {p:Qg},Φ0.ok K F H f p->Q4 F j->(∀b∈p,j b=H b)->Ψ.ok K j f)
(P:∀r,Φ r->JP r)(h:Zz K t (Z.set i<|zz Ψ) Φ):Zz K t Z Φ:=λD F O H Q W q=>by
 refine I0 (W.freezeZ e hz) λp M X=>h D _ O H Q X λj J f A r C x s B=>q _ J f A r C (Ul (λa m=>#[(M a m).1,(M a m).2.1]) x) s (P r C K j _ J f A (λa m=>?_) B)
 by_cases z:a∈p
 .rw[Xi z]
 .rw[Xg z];exact(B.there a m).1
def R3(i:Nat)(e:zg Z i<|zo v<|Zo P w C N)(f:∀r,Φ r->JP r)(h:Zz K t (Z.set i<|zz<|Vg P w C N) Φ):Zz K t Z Φ:=
 Rb i e (λa b c=>Zo.fz a b c) f h
def Zo9(i:Nat)(e:zg Z i<|zo v<|Zo P w C N)(j:V1 d=some dx)(h:Qr K t (Z.set i<|zz<|Vg P w C N) d):Qr K t Z d:=
 EvO.e (Zz.o<|R3 i e (λr f=>by subst f;exact Bf j)<|h.o.d rfl)
section
variable {tb ty:TE}{i:Nat}{w:World}{N:QC}{k:List Key}
def QB.netz(f:QB K D F Z O H)(e:zg Z i<|zz<|Vg P w C N):∃a u el r l d xs ys,O[i]?=some (some<|.ref a)/\NetFz P w C N F a u el r l d xs ys:=by
 apply I0 f.fp;intro k h _;apply aP (h i _ e);rintro v j _ a⟨u,el,r,l,d,xs,ys,rfl,U⟩;exact#[a,u,el,r,l,d,xs,ys,j,U]
def NO(c:NetC K C)(e:zg Z i<|zz<|Vg P w C N){k m:Int}(b:Qr K tb Z (.int k))(Y:atI (N.rooms.map PyData.int) k=some (.int m)):Qr K (tOp (rIx K) (Va K (Q5 i) "rooms") tb) Z (.int m):=λD F O H Q h q=>by
 apply aZ (h.netz e);rintro a u o r l d xs ys⟨g,j⟩;refine#[_,g,a,C,u,_,.ref r,rfl,h.sub _ _ j.ins,c.cl,c.rooms,rfl,b D F O H _ h λn E y f X=>?_];cases X;exact I0 j.rooms λB W M=>I0 (GZ (M.mono f.ff) Y) λz A s=>.inl #[r,B,k,z,rfl,rfl,SqL.of<|f.fh _ _<|f.ff _ _ W,A,q n E z f s]
def LA(c:NetC K C)(e:zg Z i<|zz<|Vg P w C N){k:Int}(b:Qr K tb Z (.int k))(Y:atI (N.ends.map Zd) k=some n):Qr K (tOp (rIx K) (Va K (Q5 i) "ends") tb) Z n:=λD F O H Q h q=>by
 apply aZ (h.netz e);rintro a u m r l d xs ys⟨g,j⟩;refine#[_,g,a,C,u,_,.ref m,rfl,h.sub _ _ j.ins,c.cl,c.ends,rfl,b D F O H _ h λo E y f X=>?_];cases X;exact I0 j.ends λB W M=>I0 (GZ (M.mono f.ff) Y) λz A s=>.inl #[m,B,k,z,rfl,rfl,SqL.of<|f.fh _ _<|f.ff _ _ W,A,q o E z f s]
def Zsn(c:NetC K C)(e:zg Z i<|zz<|Vg P w C N)(n:Qr K ty Z (Zd k)):Qr K (T3 (Va K (Q5 i) "leaving") ty<|Y1 QH) Z (.list<|((QV N.leav k).getD []).map PyData.int):=λD F O H Q h q=>by
 apply aZ (h.netz e);rintro a u J r l d xs ys⟨v,j⟩;refine#[_,v,a,C,u,_,.ref l,rfl,h.sub _ _ j.ins,c.cl,c.leav,rfl,l,rfl,.inr #[xs,Rd.of<|h.sub _ _ j.leav.1],n D F O H _ h λM E y B Y=>#[XA _,λp o=>?_]];apply I0 (WX Y);rintro b rfl t;have A:Q1 M E (upd M p<|.lst []) _:=Q1.new (h.ext B).sub o;have f:=B.trans A;refine#[Z7 xs k,V8.t (f.fh _ _ (f.ff _ _ j.leav.1)) (A.fh _ _ (A.ff _ _ t)),?_];rcases j.leav.2.val k with ⟨s,m⟩|⟨L,I,G,s,m,X,W⟩
 .rw[s];exact q _ _ _ f (by rw[m];exact .lst QF .nil)
 .rw[s];exact q _ _ _ f (by rw[m];exact .lst (f.ff _ _ X)<|W.mono f.ff)
def ZsH(c:NetC K C)(e:zg Z i<|zz<|Vg P w C N){k1 k2:List Key}(A:Qr K ty Z (.tuple [Zd k1,Zd k2]))(hn:Vc N.laid (k1,k2)=some n):Qr K (P3 P w (Va K (Q5 i) "laid") ty) Z (.int n):=λD F O H Q h q=>by
 apply aZ (h.netz e);rintro a u g r l d xs ys⟨W,j⟩;refine#[_,W,a,C,u,_,.ref d,rfl,h.sub _ _ j.ins,c.cl,c.laid,rfl,A D F O H _ h λY X y f s=>?_];apply I0 (NT s);rintro b rfl B;have m:=h.ext f;have k:=j.laid.2.mono f.ff;exact#[d,b,ys,_,.int n,rfl,rfl,f.fh _ _<|f.ff _ _ j.laid.1,k.at m.sub,B.mono λo z M=>m.sub _ _ M,by rw[k.val,hn];rfl,q Y X _ f<|.int n]
def ZqU(c:NetC K C){k1 k2:List Key}(A:Qr K ty Z (.tuple [Zd k1,Zd k2]))(e:zg Z i<|zz<|Vg P w C N):Qr K (LO P w ty<|Va K (Q5 i) "laid") Z (.bool<|!(Vc N.laid (k1,k2)).isSome):=λD F O H Q k q=>
 A D F O H _ k λY X y j s=>by
  have f:=k.ext j;apply aZ (f.netz e);rintro a u g r l d xs ys⟨W,h⟩;apply I0 (NT s);rintro b rfl B;refine#[_,W,a,C,u,_,.ref d,rfl,f.sub _ _ h.ins,c.cl,c.laid,rfl,d,b,ys,_,rfl,rfl,f.sub _ _ h.laid.1,h.laid.2.at f.sub,B.mono λn z M=>f.sub _ _ M,q Y X _ j ?_];rw[h.laid.2.val,Uw];exact .bl _
def QB.dctz(j:QB K D F Z O H)(e:zg Z i<|zz<|G2 kvs):∃a xs,O[i]?=some (some<|.ref a)/\F a=some (.dT xs)/\PairD F xs kvs:=by
 apply I0 j.fp;intro m h _;apply aP (h i _ e);rintro v k _ a⟨xs,rfl,U,f⟩;exact#[a,xs,k,U,f]
def LH(e:zg Z i<|zz<|G2 kvs)(M:Qr K ty Z (Zd k))(N:Y4 kvs k=some d):Qr K (PL (Q5 i) ty) Z d:=λD F O H Q j q=>by
 refine L0 (j.dctz e) λa xs s _=>#[_,s,M D F O H _ j λY E y h C=>?_];apply SF ((j.ext h).dctz e);intro g B f X W;rw[s]at f;cases f;apply I0 (WX C);rintro b rfl P;rcases W.val k with ⟨_,z⟩|⟨x,c,A,m,w⟩
 .grind
 .rw[N]at m;cases m;exact#[a,x,rfl,A▸V8.t (h.fh _ _ X) (h.fh _ _ P),q Y E x h w]
def E8(m:Qr K ty Z (Zd k))(e:zg Z i<|zz<|G2 kvs):Qr K (MX ty<|Q5 i) Z (.bool (Y4 kvs k).isSome):=λD F O H Q h q=>
 m D F O H _ h λC E y f j=>by
  apply SF ((h.ext f).dctz e);intro a xs B A w;apply I0 (WX j);rintro b rfl s;exact#[_,B,a,_,rfl,V8.t (f.fh _ _ A)<|f.fh _ _ s,q C E _ f<|by rw[R5 w];exact .bl _]
end
end L2
namespace L2
inductive SpD(K:W.Frag)(R:List OT->(OT->Prop)->Prop)(vs:List V)(H:Hp)(Q:VK):Prop
 |mk (F:Hp)(ts:List OT)(Φ:OT->Prop)(kt:KTs K F)(sm:Q4 F H)(ha:Args K F vs ts)(hR:R ts Φ)(k:∀F' J v p r,Φ r->Q1 F H F' J->(∀a∈p,H a=none)->Zy K F' J v r p->Q v J):SpD K R vs H Q
def Zm(K:W.Frag)(R:List OT->(OT->Prop)->Prop):Sp:=λf H Q _=>SpD K R f H Q
def MR(K:W.Frag)(t:TA)(Z:ZbB)(Φ:List OT->Prop):Prop := ∀(D F:Hp) (O:St) (H:Hp) (Q:List V->Hp->Prop),QB K D F Z O H->(∀h J f ts,Φ ts->Q1 F H h J->Args K h f ts->Q f J)->t O H Q
def YK(h:Zi K t Z ts)(P:R ts Φ):Zz K (Vd (Zm K R) [] H1 t) Z Φ:=λD F O H Q j q=>
 h D F O H _ j λY E b f s=>#[Y,ts,Φ,(j.ext f).kt,f.fh,by rw[Xp];exact s,P,λX W v p r B m C A=>q X W v p r B (f.trans m) (λa M=>f.hh.free<|C a M) A]
def J0(h:Zi K t Z ts)(j:Φ ts):MR K t Z Φ:=λD F O H Q m q=>h D F O H Q m λs J f x r=>q s J f ts j x r
def AX(h:Zz K ta Z Φ)(M:∀r,Φ r->∃ds,r=.ol ds/\Φ' [.fz<|.list ds]):MR K (Q3 ta QH) Z Φ':=λD F O H Q P q=>
 h D F O H _ P λW E v p r B x C A=>by
  apply I0 (M r B);rintro ds rfl f;apply aW A;rintro a rfl rfl j xs s m;exact q _ E [.ref a] _ f (x.freeze j s<|C a Xb) (.fz (.lst QF<|m.mono<|Q4.new j) .nil)
section
variable {w:World}{N:QC}{i:Nat}
def NoF(m:Str):Prop := ∀e r l d:Addr,([("ends",V.ref e),("rooms",V.ref r),("leaving",V.ref l),("laid",V.ref d)]:List (Str×V)).lookup m=none
def NY(c:NoF m)(e:zg Z i<|zz<|Vg P w C N)(h:Zi K t Z ts)(k:R (.zow (Vg P w C N)::ts) Φ):
 Zz K (ZY C m (Zm K R) [] H1 (Q5 i) t) Z Φ:=λD F O H Q j q=>by
 apply aZ (j.netz e);rintro a u n r l d xs ys⟨o,A⟩;refine#[_,o,a,u,_,rfl,j.sub _ _ A.ins,c _ _ _ _,h D F O H _ j λz E G f M=>#[z,_,Φ,(j.ext f).kt,f.fh,.zow (Ψ:=Vg P w C N) #[a,u,n,r,l,d,xs,ys,rfl,A.mono f.ff]<|by rw[Xp];exact M,k,λy x v p W X B Y s=>q y x v p W X (f.trans B) (λb g=>f.hh.free<|Y b g) s]]
def OV(J:NoF m)(U:Zz K ta Z Φ1)(hz:∀r,Φ1 r->∃v N,r=.own v (Zo P w C N)/\∃f,R (.zow (Vg P w C N)::ts) f/\∀r,f r->Φ r)
(h:Zi K t Z ts):Zz K (ZY C m (Zm K R) [] H1 ta t) Z Φ:=λD F O H Q c q=>
 U D F O H _ c λk E v p r G A I B=>by
  apply L0 (hz r G);rintro v0 N rfl⟨f,S,L⟩;obtain⟨rfl,B⟩:=B;have e:Q4 k (frF k E p):=W8 λa j=>((λa j=>(Zo P w C N).there B a j) a j).1
  have i:Q1 F H _ E:=#[A.hh,A.ff.trans e,D9 A.fh,λa j=>by
   by_cases z:a∈p
   .exact .inr (I a z)
   .rw[J4 z]at j;exact A.fr a j]
  apply aR B;rintro a u T r l d xs ys as rfl rfl o;exact#[a,u,_,rfl,o.ins.2,J _ _ _ _,h D _ O E _ (c.ext i) λF2 H2 vs s x=>#[F2,_,f,(c.ext<|i.trans s).kt,s.fh,.zow (Ψ:=Vg P w C N) #[a,u,T,r,l,d,xs,ys,rfl,(o.fz e (λb Y=>WT Y)).mono s.ff]<|by rw[Xp];exact x,S,λF3 H3 v y g W n X M=>q F3 H3 v y g (L g W) ((i.trans s).trans n) (λb Y=>(i.trans s).hh.free (X b Y)) M]]
structure ExtN(p:Qg)(F H F' J:Hp):Prop where
 hh:∀b o,b∉p->H b=some o->J b=some o
 ff:Q4 F F'
 fh:Q4 F' J
 fr:∀b,F' b≠none->F b≠none\/H b=none\/b∈p
inductive SpN(K:W.Frag)(P:Program)(w:World)(C:Addr)(R:QC->List OT->(QC->Prop)->Prop)(vs:List V)(H:Hp)(Q:VK):Prop
 |mk (F:Hp)(a:Addr)(vs':List V)(p:Qg)(ts:List OT)(N:QC)(Ψ:QC->Prop)(e:vs=.ref a::vs')(kt:KTs K F)(sm:Q4 F H)(ha:Args K F vs' ts)(ok:(Zo P w C N).ok K F H (.ref a) p)(hR:R N ts Ψ)
  (k:∀F' J p' N',Ψ N'->ExtN p F H F' J->(Zo P w C N').ok K F' J (.ref a) p'->(∀b∈p',b∈p\/H b=none)->Q .non J):SpN K P w C R vs H Q
def spN(K:W.Frag)(P:Program)(w:World)(C:Addr)(R:QC->List OT->(QC->Prop)->Prop):Sp:=λf H Q _=>SpN K P w C R f H Q
def Wc{g:Type}{v:V}{Φ:g->OwnP}{N:g}{F H:Hp}{O:St}(u:QB K D F Z O H)(x:Q1 F0 D F H)(e:zg Z i<|zo v<|Φ N):
 ∃p,O[i]?=some (some v)/\(Φ N).ok K F H v p/\∀m J s M,ExtN p F H m J->(Φ M).ok K m J v s->(∀b∈s,b∈p\/H b=none)->
  Q1 F0 D m J/\QB K D m (Z.set i<|zo v<|Φ M) O J/\∀(q:Qg),(∀b∈q,(b∈p\/H b=none)/\b∉s)->(∀b∈q,D b=none)/\∀b∈q,∀(j:Nat) (C:V) (t':OT) (P:Qg),(Z.set i<|zo v<|Φ M)[j]?=some (some t')->O[j]?=some (some C)->Zy K m J C t' P->b∉P:=by
 apply RC (u.chg e);rintro C p n⟨rfl,r⟩c k;refine#[p,n,r,λm J s M h A X=>?_];obtain⟨E,y⟩:=k m J (.own _ _) s h.ff h.fh (λb t f=>by
  obtain⟨o,l⟩:=Nt f;rw[h.hh b o t l,l]) h.fr #[rfl,A] (λb f=>(X b f).imp id λz=>#[z,x.hh.free z])
 refine#[#[λb o f=>h.hh b o (λz=>by rw[(c b z).1]at f;cases f)<|x.hh b o f,x.ff.trans h.ff,h.fh,λb f=>?_],E,λq a=>#[λb f=>(a b f).1.elim (λz=>(c b z).1) λz=>x.hh.free z,λb f j C t' P W Y w B=>?_]]
 .rcases h.fr b f with z|z|z
  .exact x.fr b z
  .exact .inr (x.hh.free z)
  .exact .inr (c b z).1
 .by_cases d:j=i
  .subst d;rw[X6 (Xh.mp e).1]at W;cases W;rw[n]at Y;cases Y;exact(a b f).2 ((Φ M).uniq A w.2 b B)
  .rw[X7<|Ne.symm d]at W;have z:=y j C t' P d W Y w b B;exact(a b f).1.elim z.1 z.2
def CU{j:Type}{Φ:j->OwnP}{N:j}{L:Qh}{vs:List V}{F H:Hp}{f:V}{p:Qg}(A:KTs K F)(w:Q4 F H)(s:Args K F vs ts)(m:(Φ N).ok K F H f p):
 QB K (λb=>if b∈p then none else H b) F (zr L<|(.own f<|Φ N)::ts) (start L (f::vs)) H:=
 FK (ts:=.own f (Φ N)::ts) (λ|0=>p|_=>[]) A w (Xz Nat.succ s.length) (λ|0,t,e=>by cases e;exact#[f,rfl,rfl,m]|i+1,t,e=>s.get i t e) (λ|0,0,_,_,_=>rfl|0,_+1,_,_,h=>(nomatch h)|_+1,_,_,h,_=>(nomatch h)) (λ|0,b,q=>⟨Xi q,((Φ N).there m b q).2⟩|_+1,_,h=>(nomatch h))
def FJ{Ψ:QC->Prop}(W:QB K D F Z O H)(x:Q1 F0 D F H)(e:zg Z i<|zo v<|Zo P w C N)(hn:∀f,Ψ f->H0.nx (Z.set i<|zo v<|Zo P w C f))(Y:Cnv K F0 D H0 H1):
 ∃a p,v=.ref a/\(Zo P w C N).ok K F H (.ref a) p/\∀h J j f,Ψ f->ExtN p F H h J->(Zo P w C f).ok K h J (.ref a) j->(∀b∈j,b∈p\/H b=none)->H1.nx O J:=by
 apply L3 (Wc W x e);intro p _ s k;apply aZ (id s);rintro a _ _ _ _ _ _ _⟨_,rfl,_⟩;exact#[a,p,rfl,s,λh J j f M A q m=>KE (k h J j f A q m) λB X _=>Y.nx h O J _ B X (hn f M)]
def Um(b:NoF m)(e:zg Z i<|zo v<|Zo P w C N)(g:MR K t Z ΦA)
(c:∀ts,ΦA ts->∃Ψ,R N ts Ψ/\∀A,Ψ A->H0.nx (Z.set i<|zo v<|Zo P w C A)):QE K (Vq<|ZY C m (spN K P w C R) [] E' (Q5 i) t) Z H0:=λF0 D F O H J x h y=>by
 apply aY (h.net e);rintro a u z r l d xs ys G rfl n W _;refine#[_,n,a,u,_,rfl,W.ins.2,b _ _ _ _,g D F O H _ h λo E B ts X f M=>I0 (c ts X) λΨ q Y=>SF (FJ (h.ext f) (x.trans f) e Y y) λI p k j s=>?_];cases k;exact#[o,a,B++[],p,ts,N,Ψ,rfl,(h.ext f).kt,f.fh,by rw[Xp];exact M,j,q,s]
def LZ(e:zg Z i<|zo v<|Zo P w C N)(Y:MR K t Z ΦA)
(X:∀ts,ΦA ts->∃Ψ,R N ts Ψ/\∀s,Ψ s->H0.nx (Z.set i<|zo v<|Zo P w C s)):QE K (Vq<|Vd (spN K P w C R) [] E'<|Q3 (Q5 i) t) Z H0:=λF0 D F O H G x h k=>by
 apply aY (h.net e);rintro a u o r l d xs ys y rfl c n _;refine#[_,c,Y D F O H _ h λg E A ts M f B=>I0 (X ts M) λΨ m W=>SF (FJ (h.ext f) (x.trans f) e W k) λz p b j q=>?_];cases b;exact#[g,a,A++[],p,ts,N,Ψ,rfl,(h.ext f).kt,f.fh,by rw[Xp];exact B,j,m,q]
def spI(P:Program)(w:World)(C:Addr):Sp:=λf H Q _=>∃x u,f=[.ref x]/\H x=some (.ins C u [])/\∀e r l d J,H e=none->H r=none->H l=none->H d=none->[x,e,r,l,d].Nodup->
 J x=some (.ins C u [("ends",.ref e),("rooms",.ref r),("leaving",.ref l),("laid",.ref d)])->J e=some (.lst [])->J r=some (.lst [])->J l=some (.dT [])->J d=some (pdO P w d [])->(∀b,b∉[x,e,r,l,d]->J b=H b)->Q .non J
def O2:EvX K (WL C (spI P w C) [] H1 QH) Z (Zo P w C #[[],[],[],[]]):=λD F O H Q t q=>λx u M s B=>by
 refine#[x,u,rfl,QF,λe r l d J R I L S X U h2 h3 h4 h5 p=>#[rfl,?_]];have A:∀{b:Addr},upd (upd H u<|.own x) x (.ins C u []) b=none->H b=none/\b≠x/\b≠u:=λ{b} f=>by
  have a:b≠x:=λz=>by rw[z,QF]at f;cases f
  rw[Qv a]at f;have Y:b≠u:=λz=>by rw[z,QF]at f;cases f
  rw[Qv Y]at f;exact#[f,a,Y]
 refine KE (A R) λy e2 v=>KE (A I) λW r2 N=>KE (A L) λk l2 g=>KE (A S) λG d2 E=>?_;have m:J u=some (.own x):=by
  rw[p u<|by simp only[Xc,XH,or_false,not_or];exact#[B,Ne.symm v,Ne.symm N,Ne.symm g,Ne.symm E],Qv B,QF]
 have n:∀b o,H b=some o->J b=some o:=λb o f=>by
  have i:∀{c:Addr},H c=none->b≠c:=λT z=>by rw[z,T]at f;cases f
  rw[p b<|by simp only[Xc,XH,or_false,not_or];exact#[i M,i y,i W,i k,i G],Qv<|i M,Qv<|i s];exact f
 have j:∀{b:Addr},H b=none->F b=none:=λf=>t.sub.free f;refine q F J (.ref x) [x,u,e,r,l,d] #[n,Q4.refl _,λb o f=>n b o<|t.sub b o f,λ_ h=>.inl h] (λb f=>?_) #[x,u,e,r,l,d,[],[],[],rfl,rfl,?_,#[j M,U],#[j s,m],#[j y,[],h2,.nil],#[j W,[],h3,.nil],#[j k,h4,.nil],#[j G,h5,.nil]]
 .grind
 .simp only[XN,Xc,XH,or_false,not_or]at X ⊢;apply aF X;rintro⟨a1,a2,a3,a4⟩b1 c1 f1;exact#[#[Ne.symm B,a1,a2,a3,a4],#[Ne.symm v,Ne.symm N,Ne.symm g,Ne.symm E],b1,c1,f1]
end
section
variable {w:World}{base:Heap}
def Fun.evD{x:Str}{st:Stmt}{f:Addr}{N:Qh}{k:Nat}{R:List OT->(OT->Prop)->Prop}(F:Fun K x qual st f fd)(n:Qo N ps (Q8 st))(m:∀ts Φ,R ts Φ->ts.length=ps.length)
(M:∀ts Φ,R ts Φ->∀H h,B0 P w K mg base N qual st k f H h λt=>QE K t (ini N ts) { nx:=λ_=>Φ<|.fz .none,rt:=Φ }):FnOk P w K mg base CX0 (k+1) f fd ps (Zm K R):=by
 refine F.ok n (by rintro a H Q h ⟨F,ts,Φ,_,_,B,C,_⟩;exact B.length.trans<|m ts Φ C) ?_;rintro a H Q h ⟨F,ts,Φ,d,X,B,C,q⟩ D A outer s g;exact I0 (M ts Φ C H h D A outer s g) λt U l=>#[t,U,l F H F _ H _ (Q1.refl X) (Gd d X B) #[λW Y J Z j _ e=>q W J _ [] _ e j (by rintro _ ⟨⟩) #[rfl,.non],λW J v b p j i c e=>q W J v p b e j i c,λ_ _ _ _ _ _ z=>False.elim z,λ_ _ _ _ _ _ z=>False.elim z]]
def Fun.evN{x:Str}{st:Stmt}{f:Addr}{N:Qh}{k:Nat}{R:QC->List OT->(QC->Prop)->Prop}(F:Fun K x qual st f fd)(S:Qo N ps (Q8 st))(Z:∀M ts Ψ,R M ts Ψ->ts.length+1=ps.length)
(i:∀v M ts Ψ,R M ts Ψ->∀H W,B0 P w K mg base N qual st k f H W λt=>QE K t (ini N (.own v (Zo P w C M)::ts)) { nx:=λm=>∃D,Ψ D/\m[0]?=some (zo v<|Zo P w C D),rt:=λ_=>False }):
 FnOk P w K mg base CX0 (k+1) f fd ps (spN K P w C R):=by
 refine F.ok S (by rintro E H Q W ⟨F,a,X,p,ts,M,Ψ,e,_,_,c,_,d,_⟩;rw[e,XY,c.length];exact Z _ _ _ d) ?_;rintro E H Q W ⟨F,a,X,p,ts,M,Ψ,rfl,G,l,c,n,d,q⟩ g A outer s I;apply I0 (i (.ref a) M ts Ψ d H W g A outer s I);intro t U O;have r:∀b,(λb=>if b∈p then none else H b:Hp) b=none->b∈p\/H b=none:=λb j=>by
  by_cases z:b∈p
  .exact .inl z
  .simp only[Xg z]at j;exact .inr j
 refine#[t,U,O F _ F _ H _ #[λb o j=>?_,Q4.refl _,l,λ_ h=>.inl h] (CU G l c n)
  #[λu y J m B S' ⟨D,L,e0⟩=>?_,λu J v r' p B hp n e=>False.elim e,λ_ _ _ _ _ _ z=>False.elim z,λ_ _ _ _ _ _ z=>False.elim z]]
 .grind
 .apply L3 S'.fp;intro fp g1 g2 T;apply L3 (g1 0 _ e0);rintro dx u1 rfl Y;refine q u J (fp 0) D L #[λb o nb j=>B.hh b o<|#[],B.ff,B.fh,λb j=>?_] Y (λb j=>r b (T 0 b j).1);rcases B.fr b j with z|z
  .exact .inl z
  .exact .inr ((r b z).symm)
structure Mf(K:W.Frag)(C:Addr)(m qual:Str)(st:Stmt)(ps:Qh):Prop where
 ex:∃f fd,Fun K m qual st f fd/\Meth K C m f/\ZW K fd ps []
def ZG(P:Program)(w:World)(K:W.Frag)(mg:Str->Qf)(base:Heap)(C:Addr)(m:Str)(ps:Qh)(k:Nat)(sp:Sp):Prop:=
 ∃f fd,Meth K C m f/\ZW K fd ps []/\FnOk P w K mg base CX0 k f fd ps sp
def Mf.go{j:CXT}{st:Stmt}{k:Nat}(H0:Mf K C m qual st ps)(h:∀f fd,Fun K m qual st f fd->FnOk P w K mg base j k f fd ps sp):∃f fd,Meth K C m f/\ZW K fd ps []/\FnOk P w K mg base j k f fd ps sp:=by
 exact SF H0.ex λf fd F q s=>#[f,fd,q,s,h f fd F]
def Mf.evD{st:Stmt}{N:Qh}{k:Nat}{R:List OT->(OT->Prop)->Prop}(H0:Mf K C m qual st ps)(s:Qo N ps (Q8 st))
(q:∀f ts Φ,R ts Φ->∀H A,B0 P w K mg base N qual st k f H A λt=>QE K t (ini N ts) { nx:=λ_=>Φ<|.fz .none,rt:=Φ })(j:∀ts Φ,R ts Φ->ts.length=ps.length:=by intro _ _ h;cases h<;>rfl):ZG P w K mg base C m ps (k+1) (Zm K R):=H0.go λf _ F=>F.evD s j (q f)
def Mf.evN{st:Stmt}{N:Qh}{k:Nat}{R:QC->List OT->(QC->Prop)->Prop}(H0:Mf K C m qual st ps)(B:Qo N ps (Q8 st))
(s:∀f v M ts Ψ,R M ts Ψ->∀H D,B0 P w K mg base N qual st k f H D λt=>QE K t (ini N (.own v (Zo P w C M)::ts)) { nx:=λj=>∃A,Ψ A/\j[0]?=some (zo v<|Zo P w C A),rt:=λ_=>False })(q:∀M ts Ψ,R M ts Ψ->ts.length+1=ps.length:=by intro _ _ _ h;cases h<;>rfl):ZG P w K mg base C m ps (k+1) (spN K P w C R):=H0.go λf _ F=>F.evN B q (s f)
def Df.evD{x:Str}{st:Stmt}{N:Qh}{k:Nat}{R:List OT->(OT->Prop)->Prop}(H0:Df K mg x st ps)(q:Qo N ps (Q8 st))
(m:∀f ts Φ,R ts Φ->∀H s,B0 P w K mg base N x st k f H s λt=>QE K t (ini N ts) { nx:=λ_=>Φ<|.fz .none,rt:=Φ })(j:∀ts Φ,R ts Φ->ts.length=ps.length:=by intro _ _ h;cases h<;>rfl):Q2 P w K mg base x ps (k+1) (Zm K R):=H0.go λf _ F=>F.evD q j (m f)
def Df.evN{x:Str}{st:Stmt}{N:Qh}{k:Nat}{R:QC->List OT->(QC->Prop)->Prop}(H0:Df K mg x st ps)(A:Qo N ps (Q8 st))
(q:∀f v M ts Ψ,R M ts Ψ->∀H B,B0 P w K mg base N x st k f H B λt=>QE K t (ini N (.own v (Zo P w C M)::ts)) { nx:=λj=>∃s,Ψ s/\j[0]?=some (zo v<|Zo P w C s),rt:=λ_=>False })(m:∀M ts Ψ,R M ts Ψ->ts.length+1=ps.length:=by intro _ _ _ h;cases h<;>rfl):Q2 P w K mg base x ps (k+1) (spN K P w C R):=H0.go λf _ F=>F.evN A m (q f)
def HZ(P:Program)(w:World)(K:W.Frag)(mg:Str->Qf)(base:Heap)(x:Str)(C:Addr)(k:Nat):Prop:=
 ∃f fd,Mk K C f/\mg x=some (.ref C)/\ZW K fd Zav []/\FnOk P w K mg base CX0 k f fd Zav (spI P w C)
end
def YZ  {o e:Expr}  {t:TA}{k:Nat}{q:Sem Bool}(M:ZG X.prog X.w X.K X.mg X.base C m ps j sp)(c:NetC X.K C)(A:Room k X.A)(he:PE X o ta)(P:PA X (e::es) t)(D:j<=k:=by walk_at"j")
(h:zs X e es:=by rfl)(hpl:zb X pos es:=by rfl)
(s:eval (.Call (.Attribute o m X3) (e::es) [] pos) X.env=(do
  let ov <- eval o X.env
  standAt X3.atName
  let (f,first) <- holding [ov] (getMethod ov m q)
  callWith pos f first (backTo pos<|starEach (e::es) X.env)<|backToKw pos<|keywordEach [] X.env):=by rfl):
 PE X (.Call (.Attribute o m X3) (e::es) [] pos) (ZY C m sp [] E0 ta t):=by
 exact SF M λf fd B K F=>Nw he c.cl B F (A.mono D) K .nil Js P h hpl s
def Os{x:Str}{p:Pos}{k:Nat}(M:HZ X.prog X.w X.K X.mg X.base x C j)(m:Room k X.A)(s:j+1<=k:=by walk_at"j")(hg:Gl X x:=by rfl)(h:(x==("__debug__" : Str))=false:=by decide +kernel):
 PE X (.Call (.Name x p) [] [] pos) (WL C (spI X.prog X.w C) [] E0 QH):=by
 exact RC M λf fd M q A F=>Zsu M F (m.mono s) hg q A .nil Js h
end L2
namespace Mir
open PySem L2
noncomputable def nk:Nd->List Key
 |.start=>[.inr "start"]
 |.fin=>[.inr "end"]
 |.guest k=>[.inr "guest",.inl (k:Int)]
 |.line l t=>[.inr "line",.inl (l:Int),.inl (t:Int)]
theorem US:∀{a b:Nd},nk a=nk b->a=b
 |.start,.start,_=>rfl
 |.fin,.fin,_=>rfl
 |.start,.fin,h=>Xo h (by decide)
 |.fin,.start,h=>Xo h (by decide)
 |.guest a,.guest b,h=>by
  injection h with _ h;injection h with h _;injection h with h;have:a=b:=#[]
  rw[this]
 |.line a b,.line c d,h=>by
  injection h with _ h;injection h with U h;injection h with f _;injection U with U;injection f with f;have m:a=c:=#[]
  have j:b=d:=#[]
  rw[m,j]
 |.start,.guest _,h=>by have q:=Xz List.length h;simp[nk]at q
 |.start,.line _ _,h=>by have q:=Xz List.length h;simp[nk]at q
 |.fin,.guest _,h=>by have q:=Xz List.length h;simp[nk]at q
 |.fin,.line _ _,h=>by have q:=Xz List.length h;simp[nk]at q
 |.guest _,.start,h=>by have q:=Xz List.length h;simp[nk]at q
 |.guest _,.fin,h=>by have q:=Xz List.length h;simp[nk]at q
 |.guest _,.line _ _,h=>by have q:=Xz List.length h;simp[nk]at q
 |.line _ _,.start,h=>by have q:=Xz List.length h;simp[nk]at q
 |.line _ _,.fin,h=>by have q:=Xz List.length h;simp[nk]at q
 |.line _ _,.guest _,h=>by have q:=Xz List.length h;simp[nk]at q
def EJ{b:Nd}:nk a=nk b↔a=b:=#[US,λh=>by rw[h]]
def Gx:Option Nat->PyData
 |none=>.none
 |some e=>.int (e:Int)
def kvG(es:Got Nd):Yf:=es.map λx=>(nk x.1,Gx x.2)
theorem NH(n:Nd):∀es:Got Nd,Y4 (kvG es) (nk n)=(JZ es n).map Gx
 |[]=>rfl
 |(k,v)::es=>by
  have f:=NH n es;unfold JZ at f ⊢;rw[X4];unfold kvG Y4 at f ⊢;rw[Xy,List.find?_cons];by_cases e:k=n
  .subst e;simp
  .have j:¬nk k=nk n:=λz=>e (US z)
   have h:(n==k)=false:=by rw[beq_eq_false_iff_ne];exact λz=>e z.symm
   rw[h];simp only[j,decide_false];exact f
def Zm4{es:Got Nd}:(es.lookup n).isSome=decide (n∈Za es):=by
 induction es with
 |nil=>rfl
 |cons p es f=>
  obtain⟨k,v⟩:=p;rw[X4];by_cases e:n=k
  .subst e;simp[Za]
  .have h:(n==k)=false:=by rw[beq_eq_false_iff_ne];exact e
   rw[h];have:decide (n∈Za ((k,v)::es))=decide (n∈Za es):=by
    apply decide_eq_decide.mpr;unfold Za;rw[Xy,Xc];exact#[λz=>z.resolve_left e,.inr]
   exact this▸f
def BP(n:Nd)(es:Got Nd):(Y4 (kvG es)<|nk n).isSome=decide (n∈Za es):=by
 rw[NH,Uw];exact Zm4
def ZsM(es:Got Nd):KM (kvG es):=λx f=>by
 apply I0 (Xs.mp f);rintro y _ rfl;cases h:y.2 with
 |none=>exact#[.non,by simp[h,Gx,V1]]
 |some e=>exact#[.int<|e,by simp[h,Gx,V1]]
def OS{es:Got Nd}{e:Nat}(h:n∉Za es):Bx (kvG es) (nk n) (.int (e:Int))=kvG (es++[(n,some e)]):=by
 unfold Bx;have:¬((kvG es).any λf=>decide (f.1=nk n))=true:=λz=>by
  apply I0 (List.any_eq_true.mp z);intro x s j;apply I0 (Xs.mp s);rintro y m rfl;exact h (by exact ((US (Wq j)))▸(Xs.mpr #[y,m,rfl]))
 rw[Xg this];unfold kvG;rw[Xv];rfl
structure NetR(N:QC)(L:Lay Nd)(φ:Zl Nd):Prop where
 ends:N.ends=(WM L).map nk
 rooms:N.rooms=Yk L φ
 leav:∀(n:Nd) (e:Int),e∈(QV N.leav<|nk n).getD [] ↔ ∃j:Nat,e=(j:Int)/\tlE L j=some n
 laid:∀(i:Nat) (x:Nd×Nd×Int),L[i]?=some x->Vc N.laid (nk x.1,nk x.2.1)=some ((2*i:Nat):Int)
 laid0:∀p q:Nd,(p,q)∉L.map (λx=>(x.1,x.2.1))->Vc N.laid (nk p,nk q)=none
 l1:N.leav.length<=2*L.length
 l2:N.laid.length<=L.length
 l3:∀k ns,QV N.leav k=some ns->ns.length<=2*L.length
theorem A4(φ:Zl Nd):NetR #[[],[],[],[]] [] φ where
 ends:=rfl
 rooms:=rfl
 leav n e:=by
  constructor
  .intro h;simp[QV]at h
  .rintro⟨j,_,h⟩;simp[tlE]at h
 laid i x h:=by simp at h
 laid0 p q _:=rfl
 l1:=XA _
 l2:=XA _
 l3 k ns h:=by simp[QV]at h
def Jd : QV ((k',ns)::ls) k=if k'=k then some ns else QV ls k:=by
 by_cases e:k'=k
 .simp[QV, e]
 .simp[QV, e]
theorem LU(k f:List Key)(x:Int):∀ls:List (List Key×Ql),QV (Yc ls k x) f=if f=k then (QV ls k).map (· ++ [x]) else QV ls f
 |[]=>by
  unfold Yc;by_cases e:f=k
  . simp[QV]
  .rw[Xg e]
 |(j,q)::ls=>by
  unfold Yc;have m:=LU k f x ls
  by_cases e:j=k
  .rw[Xi e,Jd,Jd,Jd,Xi e]
   by_cases h:f=k
   .simp_all
   .rw[Xg h,Xg λz=>h<|z.symm.trans e,Xg λz=>h<|z.symm.trans e]
  .rw[Xg e,Jd,Jd,Jd,Xg e,m]
   by_cases h:f=k
   .simp_all
   .simp_all
theorem DX(k:List Key)(x:Int):∀ls:List (List Key×Ql),(Yc ls k x).length=ls.length
 |[]=>rfl
 |(j,f)::ls=>by
  unfold Yc;split
  .simp
  .simp[DX k x ls]
theorem CT(k f:List Key):∀ls:List (List Key×Ql),QV ls k=none->QV (ls++[(k,[])]) f=if f=k then some [] else QV ls f
 |[],_=>by
  rw[List.nil_append,Jd];by_cases e:f=k
  .rw[Xi e,Xi e.symm]
  .rw[Xg e,Xg λz=>e z.symm]
 |(j,m)::ls,h=>by
  rw[Jd]at h;by_cases e:j=k
  .grind
  .rw[Xg e]at h;rw[JD,Jd,Jd,CT k f ls h];by_cases q:f=k
   .simp_all
   .simp_all
def Ra(ls:List (List Key×Ql))(k f:List Key):QV (Yn ls k) f=if f=k then some ((QV ls k).getD []) else QV ls f:=by
 unfold Yn;cases h:QV ls k with
 |some j=>
  simp_all
 |none=>
  rw[Xg<|by simp,CT k f ls h];rfl
def Nz(ls:List (List Key×Ql))(k:List Key):(Yn ls k).length<=ls.length+1:=by
 unfold Yn;split
 .lia
 .simp
noncomputable def G5(N:QC)(s e:List Key)(r:Int):QC:={ N with ends:=N.ends++[e],rooms:=N.rooms++[r],leav:=Yc (Yn N.leav s) s (N.ends.length:Int) }
noncomputable def G7(N:QC)(s e:List Key)(r:Int):QC:=G5 (G5 { N with laid:=YT N.laid (s,e) (N.ends.length:Int) } s e r) e s 0
def Bg(N:QC)(s e:List Key)(r:Int)(k:List Key):QV (G5 N s e r).leav k=if k=s then some ((QV N.leav s).getD []++[(N.ends.length:Int)]) else QV N.leav k:=by
 show QV (Yc _ s _) k=_;rw[LU,Ra, Ra];simp_all
def Jk : Vc ((k',n)::ls) k=if k'=k then some n else Vc ls k:=by
 by_cases e:k'=k
 .simp[Vc, e]
 .simp[Vc, e]
theorem FE(k f:KK)(n:Int):∀ls:List (KK×Int),Vc (ls.map λx=>if x.1=k then (x.1,n) else x) f=if f=k then (Vc ls k).map λ_=>n else Vc ls f
 |[]=>by
  by_cases e:f=k
  .rw[Xi e];rfl
  .rw[Xg e];rfl
 |(j,m)::ls=>by
  rw[Xy];have q:=FE k f n ls
  by_cases e:j=k
  .simp only[e,if_true];rw[Jk,Jk,Jk,q];by_cases h:f=k
   .simp[h]
   .have:¬k=f:=λz=>h z.symm
    simp[h,this]
  .simp only[e,if_false];rw[Jk,Jk,Jk,q];by_cases h:f=k
   .simp[h,e]
   .simp[h]
theorem FU(k f:KK)(n:Int):∀ls:List (KK×Int),Vc ls k=none->Vc (ls++[(k,n)]) f=if f=k then some n else Vc ls f
 |[],_=>by
  rw[List.nil_append,Jk];by_cases e:f=k
  .rw[Xi e,Xi e.symm]
  .rw[Xg e,Xg λz=>e z.symm]
 |(j,m)::ls,h=>by
  rw[Jk]at h;by_cases e:j=k
  .grind
  .rw[Xg e]at h;rw[JD,Jk,Jk,FU k f n ls h];by_cases q:f=k
   .simp_all
   .simp_all
def Fy(ls:List (KK×Int))(k f:KK)(n:Int):Vc (YT ls k n) f=if f=k then some n else Vc ls f:=by
 unfold YT;cases h:Vc ls k with
 |some m=>rw[Xi<|by rfl,FE,h];rfl
 |none=>rw[Xg<|by simp,FU k f n ls h]
def OQ(ls:List (KK×Int))(k:KK)(n:Int):(YT ls k n).length<=ls.length+1:=by
 unfold YT;split
 .simp
 .simp
def FS{f:Type}[DecidableEq f](L:Lay f):(WM L).length=2*L.length:=by
 unfold WM;induction L with
 |nil=>rfl
 |cons x L h=>rw[List.flatMap_cons,Xr,h];simp;lia
def NetR.elen(h:NetR N L φ):N.ends.length=2*L.length:=by rw[h.ends,Xe,FS]
def Rz{f:Type}[DecidableEq f](L:Lay f)(φ:Zl f):(Yk L φ).length=2*L.length:=by
 unfold Yk;induction L with
 |nil=>rfl
 |cons x L h=>rw[List.flatMap_cons,Xr,h];simp;lia
def DV{x:Nd×Nd×Int} : tlE (L++[x]) j=some n↔tlE L j=some n\/(j=2*L.length/\n=x.1)\/(j=2*L.length+1/\n=x.2.1):=by
 unfold tlE;by_cases h:j/2<L.length
 .rw[Bq h];constructor
  .exact .inl
  .rintro(z|⟨z,_⟩|⟨z,_⟩)
   .exact z
   .lia
   .lia
 .rw[M9<|#[],List.getElem?_eq_none_iff.mpr (show L.length<=j/2 by lia)]
  by_cases f:j/2=L.length
  .rw[f,Nat.sub_self];simp only[List.getElem?_cons_zero,WE, Option.some.injEq];by_cases p:j%2=0
   .rw[Xi p];constructor
    .exact λz=>.inr (.inl #[#[],z.symm])
    .rintro(z|⟨_,z⟩|⟨z,_⟩)
     .cases z
     .exact z.symm
     .lia
   .rw[Xg p];constructor
    .exact λz=>.inr (.inr #[#[],z.symm])
    .rintro(z|⟨z,_⟩|⟨_,z⟩)
     .cases z
     .lia
     .exact z.symm
  .have:([x])[j/2-L.length]?=none:=List.getElem?_eq_none_iff.mpr (by simp;lia);rw[this];constructor
   .simp_all
   .rintro(z|⟨z,_⟩|⟨z,_⟩)
    .cases z
    .lia
    .lia
theorem ZsC(h:NetR N L φ){s:Nd}(X:φ s e=0)(new:(s,e)∉L.map (λx=>(x.1,x.2.1))):NetR (G7 N (nk s) (nk e) r) (L++[(s,e,r)]) φ where
 ends:=by
  show(N.ends++[nk e])++[nk s]=_
  unfold WM;rw[MI,Xv,h.ends];simp[WM]
 rooms:=by
  show(N.rooms++[r])++[0]=_
  rw[ h.rooms];simp[Yk,X]
 leav n e':=by
  have l1:(G5 { N with laid:=YT N.laid (nk s,nk e) (N.ends.length) } (nk s) (nk e) r).ends.length=2*L.length+1:=by
   show(N.ends++[nk e]).length=_
   rw[Xr,h.elen];rfl
  have q:(QV (G7 N (nk s) (nk e) r).leav (nk n)).getD []=((QV N.leav<|nk n).getD []++(if n=s then [((2*L.length:Nat):Int)] else []))++(if n=e then [((2*L.length+1:Nat):Int)] else []):=by
   unfold G7;rw[Bg,l1,Bg,Bg];rw[h.elen];simp only[EJ];by_cases M:n=e
   .subst M
    by_cases f:n=s
    .subst f;simp
    .simp[f]
   .by_cases f:n=s
    .subst f;simp[M]
    .simp[M,f]
  rw[q,Xu,Xu,h.leav n e'];constructor
  .rintro((⟨j,rfl,D⟩|z)|z)
   .exact#[j,rfl,DV.mpr<|.inl D]
   .by_cases f:n=s
    .rw[Xi f]at z;exact#[2*L.length,Xj.mp z,DV.mpr<|.inr<|.inl #[rfl,f]]
    .rw[Xg f]at z;cases z
   .by_cases f:n=e
    .rw[Xi f]at z;exact#[2*L.length+1,Xj.mp z,DV.mpr<|.inr<|.inr #[rfl,f]]
    .rw[Xg f]at z;cases z
  .rintro⟨j,rfl,D⟩;rcases DV.mp D with z|⟨rfl,z⟩|⟨rfl,z⟩
   .exact .inl (.inl #[j,rfl,z])
   .exact .inl (.inr<|by rw[Xi z];exact Xj.mpr rfl)
   .exact .inr (by rw[Xi z];exact Xj.mpr rfl)
 laid i x hx:=by
  show Vc (YT N.laid (nk s,nk e)<|N.ends.length) (nk x.1,nk x.2.1)=_;rw[Fy,h.elen];by_cases hi:i<L.length
  .rw[Bq hi]at hx;have ne:¬(nk x.1,nk x.2.1)=(nk s,nk e):=λz=>new (by
    injection z with C B;exact Xs.mpr #[x,List.mem_of_getElem? hx,by rw[US C,US B]])
   rw[Xg ne];exact h.laid i x hx
  .rw[M9<|#[]]at hx;have K:i=L.length:=by
    have:=(Xh.mp hx).1;simp at this;lia
   subst K;rw[Nat.sub_self]at hx;cases hx;rw[Xi rfl]
 laid0 p q hn:=by
  show Vc (YT N.laid (nk s,nk e)<|N.ends.length) (nk p,nk q)=_;rw[Xv,Xu,not_or]at hn;rw[Fy,Xg λz=>?_]
  .exact h.laid0 p q hn.1
  .injection z with C B;exact hn.2 (by rw[US C,US B];simp)
 l1:=by
  have a:=h.l1;have b:(G7 N (nk s) (nk e) r).leav.length<=N.leav.length+2:=by
   show(Yc (Yn (Yc (Yn N.leav<|nk s) (nk s) _)<|nk e) (nk e) _).length<=_
   rw[DX];refine Xt (Nz _ _) ?_;rw[DX];have:=Nz N.leav (nk s);lia
  simp;lia
 l2:=by
  have a:=h.l2;have b:(G7 N (nk s) (nk e) r).laid.length<=N.laid.length+1:=OQ _ _ _;simp;lia
 l3 k ns hk:=by
  have g:∀A,((QV N.leav A).getD []).length<=2*L.length:=λA=>by
   cases z:QV N.leav A with
   |none=>exact XA _
   |some m=>exact h.l3 A m z
  have W:∀A,((QV (G5 { N with laid:=YT N.laid (nk s,nk e) (N.ends.length) } (nk s) (nk e) r).leav A).getD []).length<=2*L.length+1:=λA=>by
   rw[Bg];by_cases z:A=nk s
   .rw[Xi z];have:=g (nk s);simpa using this
   .rw[Xg z];have:=g A;lia
  unfold G7 at hk;rw[Bg]at hk;by_cases z:k=nk e
  .rw[Xi z]at hk;cases hk;have:=W (nk e);simp at this ⊢;lia
  .rw[Xg z]at hk;have:=W k;rw[hk]at this;simp at this ⊢;lia
def ZoB{L:Lay Nd}(b:Dis L){φ:Zl Nd}{a r A:Int}{e:Nat}(U:(Yk L φ)[e]?=some r)(h:(Yk L φ)[Zhu e]?=some A):Yk L (YG L a φ e)=((Yk L φ).set e (r-a)).set (Zhu e) (A+a):=by
 have B:Zhu e/2=e/2:=by unfold Zhu;split<;>lia
 rw[GY]at U h;unfold rmE at U h;rw[B]at h;cases f:L[e/2]? with
 |none=>rw[f]at U;cases U
 |some x=>
  rw[f]at U h;simp only[WE,Option.some.injEq]at U h;have Z:YG L a φ e=Yb φ x.1 x.2.1 (if e%2=0 then a else -a):=by unfold YG;rw[f]
  have D:Yb φ x.1 x.2.1 (if e%2=0 then a else -a) x.1 x.2.1=φ x.1 x.2.1+(if e%2=0 then a else -a):=by unfold Yb;rw[Xi #[rfl,rfl]]
  have g:=(Xh.mp f).1;have d:=Rz L φ;have m:e<(Yk L φ).length:=#[]
  refine List.ext_getElem? λi=>?_;rw[GY,List.getElem?_set,List.getElem?_set,GY,Z];by_cases j:Zhu e=i
  .subst j;rw[Xi rfl,Xi (show Zhu e<((Yk L φ).set e (r-a)).length by simpa using #[])];unfold rmE;rw[B,f];simp only[WE,Option.some.injEq];rw[D];have P:(Zhu e%2=0)=¬(e%2=0):=by
    unfold Zhu;split<;>lia
   by_cases p:e%2=0
   .simp_all
   .have W:Zhu e%2=0:=by rw[P];exact p
    rw[Xi W]at h ⊢;rw[Xg p];lia
  .rw[Xg j]
   by_cases C:e=i
   .subst C;rw[Xi rfl,Xi m];unfold rmE;rw[f];simp only[WE,Option.some.injEq];rw[D];by_cases p:e%2=0
    .rw[Xi p]at U ⊢;rw[Xi p];lia
    .rw[Xg p]at U ⊢;rw[Xg p];lia
   .rw[Xg C];unfold rmE;cases c:L[i/2]? with
    |none=>rfl
    |some y=>
     have X:¬(y.1=x.1/\y.2.1=x.2.1):=λ⟨M,K⟩=>by
      have q:=No b c f M K;unfold Zhu at j;split at j<;>lia
     have s:Yb φ x.1 x.2.1 (if e%2=0 then a else -a) y.1 y.2.1=φ y.1 y.2.1:=by unfold Yb;rw[Xg X]
     simp only[WE,s]
def U9(L:Lay Nd)(φ:Zl Nd)(es:Got Nd)(f:List Nd):Prop := ∀e m n r,tlE L e=some m->hdE L e=some n->rmE L φ e=some r->0<r->m∈Za es->m∉f->n∈Za es
def U9.closed{es:Got Nd}(h:U9 L φ es []):Y5 L φ es:=λe m n r U s q j f=>h e m n r U s q j f (by rintro⟨⟩)
def Up{es:Got Nd}{x:Nd×Option Nat}:n∈Za (es++[x])↔n∈Za es\/n=x.1:=by
 unfold Za;simp
def U9.add{es:Got Nd}{j V:List Nd}(h:U9 L φ es (j++V))(n:Nd)(o:Option Nat):U9 L φ (es++[(n,o)]) (j++(V++[n])):=λe m k r U C B A s f=>by
 rw[<- Uv,Xu,not_or]at f
 rcases Up.mp s with z|z
 .exact Up.mpr (.inl<|h e m k r U C B A z f.1)
 .exact Xo z (λz=>f.2 (by simp[z]))
theorem Tree.inClosed{L:Lay Nd}{φ:Zl Nd}{s:Nd}{h:Got Nd}(f:Y5 L φ h)(j:s∈Za h):∀{es:Got Nd},Tree L φ s es->∀n∈Za es,n∈Za h
 |_,.root,n,m=>by
  have e:=by simpa [Za] using m
  simp_all
 |_,.add t m D A C B K,n,q=>by
  rcases Up.mp q with z|z
  .exact t.inClosed f j n z
  .rw[z];exact f _ _ _ _ A D B K (t.inClosed f j _ C)
end Mir
namespace L2
theorem Ai{F m H:Hp}:∀{as:Qg} {f:List (Qd)},(∀ds∈f,Jx ds)->(∀a∈as,m a=none)->Vb F H as f->Vb m H as f
 |[],[],_,_,_=>trivial
 |a::as,ds::f,h,j,o=>by
  obtain⟨⟨_,xs,C,B⟩,q⟩:=o;exact#[#[j a Xb,xs,C,B.flats<|h ds Xb],Ai (λd s=>h d<|Xf _ s) (λb A=>j b<|Xf _ A) q]
 |[],_::_,_,_,o=>False.elim o
 |_::_,[],_,_,o=>False.elim o
def ZtI(h:∀ds∈T1,Jx ds):JP (.oll T1):=λK F C H v p f j=>by
 apply aN j;rintro a A rfl rfl U B s q;exact#[a,A,rfl,rfl,U,f a Xb,s,Ai h (λb m=>f b<|Xf _ m) q]
end L2
namespace L2
section
variable {w:World}{H1:Qb}{g:Array GenState}{d:Drawn}{t:Nat}{os:OsState}
variable {N:Addr}{bs:Qe}{sub:Qe}
noncomputable abbrev Tk(C a:Addr):Obj:={ cls:=.ref C,data:=.fields (List.toArray [.ref a,.none,.none,.none,.bool false,.none]) }
noncomputable abbrev Ep(vs:Qe):Obj:={ cls:=.type "tuple",data:=.seq vs.toArray }
noncomputable def Wt(h:Heap)(C:Addr)(vs:Qe):Heap:=(h.push<|Ep vs).push (Tk C h.objs.size)
def Im(F:ExcBaseFacts B newId initId UH)(T:OwnTail h UH bm){rest:Qe}{f:Addr}
(s:h.get? C=some (excClassObj nm q C N bs bm XD sn sub ab col dd k0 k1 k2 k3 k5 newId))(hn:h.Ns N mN)
(Z:mN "__init__"=some (.ref f))(a:h.get? f=some fo)(c:fo.cls=.type "function")(j:rest.length<=sizeLine)
(Y:wpAny (model prog w) A (call (.ref f) (.ref (h.objs.size+1)::rest)) (λr W=>r=.none/\Q (.done<|.ret<|.ref<|h.objs.size+1) W) H1 #[Wt h C rest,g,d,t,os]):
 wpAny (model prog w) A (Builtin.«type.__call__» #[.ref C::rest,[]]) Q H1 #[h,g,d,t,os]:=by
 have D:∀b o,h.get? b=some o->(Wt h C rest).get? b=some o:=λb o e=>Xd _ (Xd _ e)
 repeat (first
  |with_reducible refine wpAny_loadPart_at s ?_
  |with_reducible refine wpAny_madeBy_exc s ?_
  |wp_step)
 refine codeAny_call_builtin_code (Code.quiet_builtin _ F.quiet)
  (wpAny_check_new_subT F T s ?_)
 refine codeAny_exc_new_subT F T s ?_ j;show wpAny _ _ _ _ _ #[Wt h C rest,g,d,t,os];have X:(Wt h C rest).get? _=some _:=Hu (by rw[Yy]) rfl;have m:=D _ _ s;have K:(Value.ref C::bm).contains (.ref C)=true:=by simp
 repeat (first
  |with_reducible refine wpAny_loadPart_at X ?_
  |(with_reducible refine wpAny_isSubtype_exc m ?_;rw[K])
  |wp_step)
 refine wpAny_typeLookup_tail m (hn.keeps D) (T.keeps D) F.mroIs F.init.lookup ?_;rw[Z];refine wpAny_holding (Xa<|wpAny_bindSpecial_def (D _ _ a) c (Xa (wpAny_mono Y (λr W M=>?_) λ_ _ z=>z)));obtain⟨rfl,M⟩:=M
 wp_walk
 exact M
def EF(F:ExcBaseFacts B newId initId UH)(T:OwnTail h UH bm){rest:Qe}{f:Addr}
(m:h.get? C=some (excClassObj nm q C N bs bm XD sn sub ab col dd k0 k1 k2 k3 k5 newId))(hn:h.Ns N mN)
(D:mN "__init__"=some (.ref f))(K:h.get? f=some fo)(M:fo.cls=.type "function")(j:rest.length<=sizeLine)
(Y:wpAny (model prog w) (A.under<|.builtin "type.__call__" #[.ref C::rest,[]]) (call (.ref f) (.ref (h.objs.size+1)::rest)) (λr s=>r=.none/\Q (.ref<|h.objs.size+1) s) H1 #[Wt h C rest,g,d,t,os]):
 wpAny (model prog w) A (call (.ref C) rest) Q H1 #[h,g,d,t,os]:=by
 have X:=tc_lookup;have W:=tc_bind (.ref C);have P:(#[h,g,d,t,os]:Shared).TypeIs (.ref C) "type" := #[_,m,rfl];refine wpAny_call (codeAny_of_tree ?_)
 repeat (any_goals (first
  |assumption
  |with_reducible refine wpAny_loadPart_at m ?_
  |wp_step))
 refine#[rfl,codeAny_call_builtin_at (Code.quiet_builtin _<|by decide +kernel) entry_typeCall (wpAny_check_type_call_sub m (Im F T m hn D K M j ?_))];simp_all
end
end L2
namespace L2
def phX(C e:Addr)(f:Qj):Heap->Prop:=λh=>∃(t:Addr) (j:Array (Qf)),h.get? e=some { cls:=.ref C,dict:=f,data:=.fields (List.toArray [.ref t,.none,.none,.none,.bool false,.none]),slots:=j }
def Dq(p:phX C e dct h):ZV P w H h e (.ext<|phX C e dct):=#[p,by exact aL p λt f q=>#[_,q],λU m j k=>by exact aL j λt f q=>#[t,f,k _ q]]
section
variable {w:World}{H1:Qb}{g:Array GenState}{d:Drawn}{t:Nat}{os:OsState}
variable {N:Addr}{bs:Qe}{sub:Qe}
def E7(F:ExcBaseFacts B newId initId UH)(T:OwnTail h UH bm){v:Value}
(m:h.get? C=some (excClassObj nm q C N bs bm XD sn sub ab col dd k0 k1 k2 k3 k5 newId))
(he:h.get? e=some { cls:=.ref C,dict:=dct,data:=.fields (List.toArray [.ref a,.none,.none,.none,.bool false,.none]),slots:=sl })
(f:∀h',(∀b o,b≠e->h.get? b=some o->h'.get? b=some o)->phX C e dct h'->Q .none #[h',g,d,t,os]):
 wpAny (model prog w) A (call (.builtin initId) [.ref e,v]) Q H1 #[h,g,d,t,os]:=by
 refine wpAny_call (codeAny_call_builtin F.init.plain F.initEntry<|wpAny_check_init_subT F T m he rfl ?_)
 wp_walk using AutoSeq1.wpAny_loadPart' he
 refine f _ (λb o j z=>?_) #[h.objs.size,sl,?_]
 .rw[XT _ _<|Ne.symm j];exact Xd _ z
 .rw[X9 _ (Xd _ he) rfl];rfl
end
structure JI(K:W.Frag)(Xa6 C f:Addr):Prop where
 ga:W.specialIn K (.ref Xa6) "__getattribute__"=some (some<|.builtin "type.__getattribute__")
 rd:W.readsIn K Xa6 (.type "type")=true
 ini:W.findCls K (.ref Xa6) (.type "type") "__init__"=some (.val<|.builtin "ValueError.__init__")
 cls:∀h:Heap,K.In h->∃(UH bm:Qe) (nm q:Str) (N:Addr) (bs:Qe) (XD:Bool) (sn:Qh) (sub:Qe) (ab:Bool) (col:Option Bool) (dd:Qj) (k0 k1 k2 k3 k5:Qf),
  ExcBaseFacts "ValueError" "ValueError.__new__" "ValueError.__init__" UH/\OwnTail h UH bm/\h.get? C=some (excClassObj nm q C N bs bm XD sn sub ab col dd k0 k1 k2 k3 k5 "ValueError.__new__")/\
  ∃(mN:Str->Qf) (fo:Obj),h.Ns N mN/\mN "__init__"=some (.ref f)/\h.get? f=some fo/\fo.cls=.type "function"
def tXI(C:Addr)(i:Nat):TE:=λO H Q=>∃e f,O[i]?=some (some<|.ref e)/\H e=some (.ext<|phX C e f)/\Q .non H
def N6{f:Addr}(c:JI X.K Xa6 C f){x y:Str}{i:Nat}{P M D B m:Pos}{j:Str}{K:Nat}(hg:Gl X x)(S:X.mg x=some (.ref Xa6))(hN:X.N[i]?=some y)(L:Vis X.env.scope y)
(Z:(x==("__debug__" : Str))=false:=by decide)(hd:(y==("__debug__" : Str))=false:=by decide)(a:(y==("__classdict__" : Str))=false:=by decide){v:Sem Bool}
(R:eval (.Call (.Attribute (.Name x P) "__init__" M) [.Name y D,.Constant (.str j) K B] [] m) X.env=(do
  let ov <- eval (.Name x P) X.env
  standAt M.atName
  let (f,first) <- holding [ov] (getMethod ov "__init__" v)
  callWith m f first (backTo m<|starEach [.Name y D,.Constant (.str j) K B] X.env)<|backToKw m<|keywordEach [] X.env):=by rfl):
 PE X (.Call (.Attribute (.Name x P) "__init__" M) [.Name y D,.Constant (.str j) K B] [] m) (tXI C i):=by
 refine λY s O H Q I h=>SF h λe g e1 d q=>W.methodCall_KW (WZ I hg S (W.method_cls I.kIn c.ga (W.cls_value I.kIn c.rd c.ini rfl (PyProof.Rows.callWith_builtin1 (Q7 ((Qs (Tz hN L hd a) (Qs QG Qp)) m Y _ O H (λl E=>l=[.ref e,.str j]/\E=H) (I.tok (s.toks+1)) #[_,e1,rfl,rfl]) ?_) rfl rfl))) Z) R;rintro us t ⟨l,E,k,r,ev,eH⟩;subst ev eH;cases r with
 |cons u r=>
 cases r with
 |cons r2 r=>
 cases r;cases u;apply KE (k.hok e _ d);rintro⟨ta,sl,U⟩_ _;apply aa (c.cls _ k.kIn);rintro UH bm nm qn N bs XD sn p ab col dd k0 k1 k2 k3 k5⟨F,T,hC,_⟩;refine E7 F T hC U λh' G n=>?_;have w:Mut (E e):=by rw[d];trivial
 have eu:upd E e (.ext<|phX C e g)=E:=by
  funext b
  by_cases o:b=e
  .subst o;simp[upd,d]
  .simp[upd,o]
 exact#[.non,E,(eu▸(k.write (t':=t.toks) w Qa G (by exact aL n λ_ _ z=>#[_,z]) (Dq n))),rfl,q]
end L2
namespace L2
noncomputable def W1:Qe->Bool
 |.ref _::r=>W1 r
 |l=>l==[.type "ValueError",.type "Exception",.type "BaseException",.type "object"]
theorem Ci(f:Value):∀{l:Qe},W1 l=true->refuseLoop f "__setattr__" l=pure ()
 |.ref c::r,e=>by rw[refuseLoop_ref];exact Ci f (by simpa [W1] using e)
 |[],e=>by cases e
 |.type n::r,e=>by rw[show _=_ from beq_iff_eq.mp e];exact PySem.F.store_ValueError.passes f
theorem Tc:∀{l:Qe},W1 l=true->l.contains (.type "object")=true
 |.ref c::r,e=>by rw[List.contains_cons,Tc<|by simpa [W1] using e,Bool.or_true]
 |[],e=>by cases e
 |.type n::r,e=>by rw[show _=_ from beq_iff_eq.mp e];decide
section
open PySem.W
variable {w:World}{R:Result->Shared->Prop}{K:Frag}{x:Addr}
def AR{v:Value}(X:K.In s.heap)(I:W.InstAt s.heap x ox C od)(d:((clsIn K C).any λcd=>W1 cd.mro)=true)(c:takerIn K C name=some r)
(h:∀b,wpAny (model prog w) A.in1 (match r with|some a=>Builtin.ObjectAttr.setByDescriptor a (.ref x) v|none=>Builtin.ObjectAttr.storeInOwnDict (.ref x) (.ref C) (.str name tk) name v b)
  (λfin B=>match fin with|.done f=>R (.ok f) B|.again c'=>c'.quiet=true/\codeAny (model prog w) A c' R B) (λe B=>R (.error e) B) s):
 codeAny (model prog w) A (.call (.builtin "object.__setattr__") #[[.ref x,.str name tk,v],[]]) R s:=by
 have m:=PySem.F.store_object;apply I0 (any_some d);intro cd Y D;have Z:cd.mro.isEmpty=false:=by cases q:cd.mro with|nil=>rw[q]at D;cases D|cons _ _=>rfl
 refine codeAny_call_builtin m.slot.plain m.entry (@check_slot _ _ _ s "object.__setattr__" "object" "__setattr__" _ [.str name tk,v] [] _ m.kind m.split (I.type.andThen (looks_mroIn X<|by unfold mroIn;rw[Y,Option.bind_some,Xg<|by rw[Z];decide,Tc D])) (m.args _ _ v) ?_);apply I0 (Option.bind_eq_some_iff.mp c);intro j k P;have g:Looks (model prog w) s.heap (mroOf<|.ref C) cd.mro:=(looks_clsIn X Y).andThen .now;have l:Looks (model prog w) s.heap (Builtin.ObjectAttr.storeTaker? j) r:=by
  cases j with
  |none=>cases P;exact .now
  |some a=>
   apply I0 (HA.mp P);rintro b i rfl;refine(looks_takesIn X i).andThen ?_;cases b<;>exact .now
 rw[osa_eq,refuse_eq];refine Xa (Xa<|I.type.here<|Xa<|g.here ?_);rw[Ci _ D];exact Xl (Xa<|I.type.here<|Xa<|(looks_findIn X k).here (Xa<|l.here (h _)))
def AN{v:Value}(X:K.In s.heap)
(q:findIn K (.ref C) "__setattr__"=some (some<|.builtin "object.__setattr__"))(i:((clsIn K C).any λcd=>W1 cd.mro)=true)(g:takerIn K C name=some none)(k:hasDictIn K C=true)
(m:s.heap.get? x=some { cls:=.ref C,dict:=none,data:=.fields fs,slots:=sl })
(h:∀h' t',(∀b o,b≠x->s.heap.get? b=some o->h'.get? b=some o)->h'.get? x=some { cls:=.ref C,dict:=some s.heap.objs.size,data:=.fields fs,slots:=sl }->
  h'.Ns1 s.heap.objs.size (λy=>if y=name then some v else none)->Q () { s with heap:=h',toks:=t' }):
 wpAny (model prog w) A (setAttr (.ref x) name v) Q H1 s:=by
 have d:W.InstAt s.heap x _ C none:=#[m,rfl,rfl,trivial];refine W.set_plain X d q (AR X d i g λb=>I0 (W.any_some k) λcd n R=>Xa (Xl<|Xa<|Xa<|wpAny_loadPart m<|Xa<|W.Looks.here (W.looks_clsIn X n) ?_));rw[R];have f:=Xq (Xk m);dsimp only;refine Xa (wpAny_alloc' (Xa (wpAny_update' (Xd _ m) (Xl ?_))));have M:((s.heap.push { cls:=.type "dict",data:=.dict (List.toArray []) }).update x λo=>{ cls:=o.cls,dict:=some s.heap.objs.size,data:=o.data,slots:=o.slots }).get? s.heap.objs.size
  = some { cls:=.type "dict",data:=.dict (List.toArray []) }:=
  (Heap.get?_update_ne _ _ _ _ f.symm).trans (Hu rfl rfl)
 have D:((s.heap.push { cls:=.type "dict",data:=.dict (List.toArray []) }).update x λo=>{ cls:=o.cls,dict:=some s.heap.objs.size,data:=o.data,slots:=o.slots }).Ns s.heap.objs.size (λ_=>none):=
  #[_,(List.toArray []),_,M,rfl,λe l=>Xo l<|by simp,λ_=>rfl]
 exact Xa (Xl<|Xa<|wpAny_nsSet1 (Heap.Ns1.of_empty D) λh' j q=>Ps (j.count (Within.cons name v Within.nil)) λu p r B P Y=>Xa (wpAny_lookBehind B (by rw[P];exact pastItsLine_dict<|Xt Y<|by simp) (Xl (h _ _ (λb t Z a=>((q.2 b<|Xq<|Xk a).trans ((Heap.get?_update_ne _ _ _ _ Z).trans (Xd _ a)))) ((q.2 x f).trans (X9 _ (Xd _ m) rfl)) j))))
end
end L2
namespace L2
structure HG(K:W.Frag)(C:Addr):Prop where
 sa:W.findIn K (.ref C) "__setattr__"=some (some<|.builtin "object.__setattr__")
 ov:((W.clsIn K C).any λcd=>W1 cd.mro)=true
 hd:W.hasDictIn K C=true
def sXF(C:Addr)(ta tv:TE)(f:Str):TS:=λH0 O H=>tv O H λy E=>ta O E λx h=>∃e,x=.ref e/\h e=some (.ext<|phX C e none)/\
 ∀u,h u=none->u≠e->H0.nx O (upd (upd h e<|.ext<|phX C e<|some u) u<|.xd [(f,y)])
section
variable {o value:Expr}
def Nr(c:HG X.K C)(t:W.takerIn X.K C f=some none)(J:PE X o ta)(D:PE X value tv)(u:swapsWith value (some<|.Attribute o f pos') pos.line X.env=pure false):PS X (.Assign [.Attribute o f pos'] value pos) (sXF C ta tv f):=by
 refine λY s O H H0 I h=>plainObj_wpAny_Assign_Attribute (Q7 (D Y s O H _ I h) ?_) u;rintro U d ⟨y,E,N,i,q⟩;refine Q7 (J Y d O E _ N q) ?_;rintro S R ⟨x,Q,j,k,e,rfl,a,l⟩;obtain rfl:=k;apply KE (j.hok e _ a);rintro⟨ta,b,Z⟩_ _;refine AN j.kIn c.sa c.ov t c.hd Z λh' t' r P F=>?_;have n:Mut (Q e):=by rw[a];trivial
 have m:=(Xq<|Xk Z).symm;refine#[O,_,(j.write (t':=t') n Qa r #[_,P] (Dq #[ta,b,P])).track (o:=.xd [_]) (by rw[Qv m];exact j.fresh) j.sz (VZ j.lt) (λz c G B=>?_) (λp w B=>?_) #[_,F,λg=>?_],l _ j.fresh m]
 .obtain⟨v,D⟩:=j.cell z c G;subst B;exact I0 D λT M _=>Xo (Xk M) (Ym _)
 .have:=(j.pin p w).1;rw[B]at this;exact Xo (Xk this) (Ym _)
 .by_cases K:g=f
  .subst K;simp[List.lookup];exact i
  .rw[Xg K];have:(g==f)=false:=by simpa using K
   simp[List.lookup,this];trivial
end
def MO(C:Addr)(sp:Sp)(j:XK)(t:TA):TE:=λO H Q=>t O H λf E=>f.length<=1000/\∀x,E x=none->
 sp (.ref x::f) (upd E x<|.ext<|phX C x none) (λv h=>v=.non/\Q (.ref x) h) j
section
variable {CX:CXT}{k:Nat}{f:Addr}{H1:XK}{x:Str}{p:Pos}{e:Expr}{t:TA}
def Zpy{O:St}{H:Hp}{Q:VK}{us:Qe}{vs:List V}(c:JI X.K Xa6 C f)(F:FnOk X.prog X.w X.K X.mg X.base CX k f fd ps sp)(n:Room (k+1) X.A)(y:ZW X.K fd ps [])
(l:VR CX X H1)(I:Qt X Y O H s)(r:QW vs us)(hl:vs.length<=1000)
(h:∀x,H x=none->sp (.ref x::vs) (upd H x<|.ext<|phX C x none) (λv S=>v=.non/\Q (.ref x) S) H1):
 wpAny (model X.prog X.w) X.A (call (.ref C) us) (EP X Y O Q) X.xe s:=by
 apply aa (c.cls _ I.kIn);rintro UH bm nm qn N bs XD sn M ab col dd k0 k1 k2 k3 k5⟨U,T,E,mN,fo,z,u,w,A⟩;have D:=h (s.heap.objs.size+1) (I.hok.fresh<|Gn _);obtain⟨m,g,d,K,os⟩:=s;have i:∀b o,m.get? b=some o->(Wt m C us).get? b=some o:=λb o e=>Xd _ (Xd _ e);have p:=I.laid (t':=K) i (Gn _) (Dq #[_,_,Hu (by rw[Yy]) rfl]);have B:QW (V.ref (m.objs.size+1)::vs) (Value.ref (m.objs.size+1)::us):=.cons rfl r
 have t:(Value.ref (m.objs.size+1)::us++[]).length=ps.length:=by
  have e:=B.length;rw[F.len _ _ _ _ D]at e;simpa using e.symm
 refine EF U T E z u w A (by rw[<- r.length,sizeLine_eq];lia)<|wpAny_call (codeAny_mono (F.run _ X.stack _ _ _ (Value.ref (m.objs.size+1)::us) _ _ H1 (n.make C us []) (p.env0.make C us []) (by simpa using y _ (Value.ref (m.objs.size+1)::us) p.kIn t) B D) λr P j=>?_);cases r with
 |error e=>exact l Y O _ _ e P p j
 |ok G=>
  cases G with
  |ret dx=>
   apply RC (p.after j);intro v J R W L Z;subst L;exact#[W,#[V.ref<|m.objs.size+1,J,R,rfl,Z]]
  |next=>exact False.elim j
  |brk=>exact False.elim j
  |cont=>exact False.elim j
def OJ(c:JI X.K Xa6 C f)(A:W.keepIn X.K (.ref C)=true)(F:FnOk X.prog X.w X.K X.mg X.base CX k f fd ps sp)(D:Room (k+1) X.A)(hg:Gl X x)(K:X.mg x=some (.ref C))(M:ZW X.K fd ps [])(B:VR CX X H1)
(P:PA X (e::es) t)(j:(x==("__debug__" : Str))=false:=by decide)(he:zs X e es:=by rfl)(hpl:zb X pos es:=by rfl):
 PE X (.Call (.Name x p) (e::es) [] pos) (MO C sp H1 t):=by
 refine λY s O H Q I h=>wpAny_Call_Name_kw (WZ I hg K (W.callWith_K I.ok.mod.kin A (Q7 (P pos Y s O H _ I h) ?_) he hpl) j);rintro a b ⟨Z,E,m,r,q⟩;exact#[m.kIn,Zpy c F D M B m r q.1 q.2]
end
def sXR(C:Addr)(te:TE)(R:Addr->Qj->Hp->Prop):TS:=λH0 O H=>te O H λv E=>∃e f,v=.ref e/\E e=some (.ext<|phX C e f)/\R e f E
section
variable {H1:Qb}
variable {N:Addr}{bs:Qe}{sub:Qe}
def Le(P:A.handled=none)
(h:wpAny M A x (λv m=>∃e t j D bm nm q N bs XD sn sub ab col dd k0 k1 k2 k3 k5 newId,v=.ref e/\bm.contains (Value.type "BaseException")=true/\m.heap.get? C=some (excClassObj nm q C N bs bm XD sn sub ab col dd k0 k1 k2 k3 k5 newId)/\
  m.heap.get? e=some { cls:=.ref C,dict:=j,data:=.fields (List.toArray [.ref t,.none,.none,.none,.bool false,.none]),slots:=D }/\H1 (.ref e) m) H1 s):
 wpAny M A (raiseStmt env (some x) none) Q H1 s:=by
 refine Xa (wpAny_mono h (λv m Y=>?_) λ_ _ x=>x);apply aa Y;rintro e t j D bm nm q N bs XD sn sub ab col dd k0 k1⟨k2,k3,k5,newId,rfl,f,K,W,X⟩;have B:(Value.ref C::bm).contains (.type "BaseException")=true:=by rw[List.contains_cons,f,Bool.or_true]
 repeat (first|with_reducible refine wpAny_loadPart_at W ?_|with_reducible refine wpAny_loadPart_at K ?_|(with_reducible refine wpAny_isSubtype_exc K ?_;rw[B])|wp_step)
 exact wpAny_raiseNew_none P X
end
end L2
namespace L2
section
variable {H1:Qb}
structure Leaves(l:List Env)(e:Addr)(oe:Obj)(h h':Heap)(T:Addr):Prop where
 keep:∀b o,b∉l.filterMap (·.frame)->b≠e->h.get? b=some o->h'.get? b=some o
 slot:∀b o,b∈l.filterMap (·.frame)->h.get? b=some o->∃sl,h'.get? b=some { o with slots:=sl }
 new:h.objs.size<=T
 exc:h'.get? e=some (Obj.mapFields (·.setIfInBounds 1 (Value.ref T)) oe)
 tb:∃oT ts,h'.get? T=some oT/\oT.data=.fields ts/\ts[3]?=some .none
def Cy
(c:A.frames=some (env::outer))(i:s.heap.FunFrames base (env::outer))(y:env.frame=some L)
(he:s.heap.get? e=some oe)(d:oe.data=.fields vs)(hsz:1<vs.size)
(h:∀h' T,Leaves (env::outer) e oe s.heap h' T->Q () { s with heap:=h' }):
 wpAny M A (do let a <- frameOf env;let m <- entryPlaceOf L hadNext;let b <- EntryCells.newEntry head a .none (rawInt L) .none m;setField (.ref e) 1 b) (λ_ u=>wpAny M A (setFlight (.ref e) none) Q H1 u) H1 s:=by
 have D:e∉(env::outer).filterMap (·.frame):=λw=>by
  apply By (i.mem w);intro _ o C Z;rw[he]at C;injection C with C;subst C;exact Z vs d
 refine Xa (wpAny_frameOf_fun c i y λj Y=>Xa (wpAny_entryPlaceOf λm W=>Xa (wpAny_newObj_type ?_<|W.sizeOk5 _ _ _ _ _)));have r:=(Y.2.1 e D).trans he;have p:=Xd { cls:=.type "traceback",dict:=none,data:=.fields ([head,.ref L,.none,rawInt L,.none]++(if m.isEmpty then List.replicate 6 Value.none else m)).toArray } r;refine wpAny_setField p d hsz ?_;have X:=VZ (Xk r);have n:=Obj.data_mapFields d (·.setIfInBounds 1 (Value.ref j.objs.size));have l:=X9 (Obj.mapFields (·.setIfInBounds 1 (Value.ref j.objs.size))) p (Obj.isFreed_of_fields n);have k:=(XT (j.push { cls:=.type "traceback",dict:=none,data:=.fields ([head,.ref L,.none,rawInt L,.none]++(if m.isEmpty then List.replicate 6 Value.none else m)).toArray })
  (Obj.mapFields (·.setIfInBounds 1 (Value.ref j.objs.size))) (Ne.symm X)).trans (Xn j rfl)
 refine Xa (VY l n (x:=.ref j.objs.size) (by simp[hsz]) (wpAny_setField k rfl (by simp only[Xw,Xr,XY,List.length_nil]<;>lia) (h _ j.objs.size ?_)));have B:∀b o,b≠e->j.get? b=some o->
  (((j.push { cls:=.type "traceback",dict:=none,data:=.fields ([head,.ref L,.none,rawInt L,.none]++(if m.isEmpty then List.replicate 6 Value.none else m)).toArray }).update e (Obj.mapFields (·.setIfInBounds 1 (Value.ref j.objs.size)))).update j.objs.size
    (Obj.mapFields (·.setIfInBounds 3 ((none:Qj).elim Value.none λf=>rawInt f)))).get? b=some o:=λb o K P=>by
  rw[XT _ _ (VZ (Xk P)),XT _ _<|Ne.symm K];exact Xd _ P
 refine#[λb o P K C=>B b o K<|(Y.2.1 b P).trans C,λb o P C=>?_,?_,?_,?_]
 .obtain⟨t,v⟩:=Y.2.2 b o C;exact#[t,B b _ (λq=>D<|q▸P) v]
 .exact Nat.le_of_eq Y.1.symm
 .rw[XT _ _ X];exact l
 .exact#[_,_,X9 _ k<|Obj.isFreed_of_fields<|Obj.data_mapFields rfl _,Obj.data_mapFields rfl _,by first|(simp;done)|(rcases W with rfl|⟨_,_,_,_,_,_,_,rfl⟩<;>simp)]
def Zmg
(f:A.frames=some (env::outer))(q:s.heap.FunFrames base (env::outer))(j:env.frame=some L)
(he:s.heap.get? e=some oe)(m:oe.data=.fields vs)(U:vs[1]?=some .none)
(h:∀h' T,Leaves (env::outer) e oe s.heap h' T->Q () { s with heap:=h' }):wpAny M A (leaving env<|.ref e) Q H1 s:=by
 unfold leaving noteFrame;simp only[j];exact Xa (Xa<|VY he m U (Cy f q j he m (Array.getElem?_eq_some_iff.mp U).1 h))
def RX{ts:Array Value}
(X:A.frames=some (env::outer))(n:s.heap.FunFrames base (env::outer))(Z:env.frame=some L)
(he:s.heap.get? e=some oe)(a:oe.data=.fields vs)(U:vs[1]?=some (.ref T0))(p:T0≠e)(hT:s.heap.get? T0=some oT)(f:oT.data=.fields ts)(K:ts[3]?=some .none)
(h:∀h' T,Leaves (env::outer) e oe s.heap h' T->Q () { s with heap:=h' }):wpAny M A (noteFrame (.ref e) env) (λ_ k=>wpAny M A (setFlight (.ref e) none) Q H1 k) H1 s:=by
 unfold noteFrame;simp only[Z];refine Xa (VY he a U (Xa (VY hT f K (Xa (wpAny_setField hT f (Array.getElem?_eq_some_iff.mp K).1 ?_)))));have C:=(Array.getElem?_eq_some_iff.mp K).1;have B:Obj.mapFields (·.setIfInBounds 3 Value.none) oT=oT:=by
  obtain⟨c,d,t,r⟩:=oT;subst f;have:ts.setIfInBounds 3 Value.none=ts:=by
   apply Array.ext_getElem?;intro i;rw[Array.getElem?_setIfInBounds];by_cases Y:3=i
   .subst Y;rw[Xi rfl,Xi C,K]
   .rw[Xg Y]
  unfold Obj.mapFields;simp[this]
 have j:∀b o,s.heap.get? b=some o->(s.heap.update T0 _).get? b=some o:=λb o D=>by
  by_cases q:b=T0
  .subst q;rw[hT]at D;cases D;rw[X9 _ hT<|Obj.isFreed_of_fields<|Obj.data_mapFields f _,B]
  .rw[XT _ _<|Ne.symm q];exact D
 refine Cy X (n.of_keeps λb o D l=>#[o,j b o D,rfl]) Z (j e _ he) a (Array.getElem?_eq_some_iff.mp U).1 λh' T m=>h h' T ?_
 exact#[λb o W P g=>m.keep b o W P<|j b o g,λb o W P=>m.slot b o W<|j b o P,by have:=m.new;simpa only [Heap.size_update] using this,m.exc,m.tb]
def Zop{ts:Array Value}
(f:A.frames=some (env::outer))(q:s.heap.FunFrames base (env::outer))(B:env.frame=some L)
(he:s.heap.get? e=some oe)(C:oe.data=.fields vs)(U:vs[1]?=some (.ref T0))(m:T0≠e)(hT:s.heap.get? T0=some oT)(j:oT.data=.fields ts)(D:ts[3]?=some .none)
(h:∀h' T,Leaves (env::outer) e oe s.heap h' T->Q () { s with heap:=h' }):wpAny M A (leaving env<|.ref e) Q H1 s:=Xa (RX f q B he C U m hT j D h)
end
end L2
namespace L2
def phT(T:Addr):Heap->Prop:=λh=>∃f ts,h.get? T=some f/\f.data=.fields ts/\ts[3]?=some .none
def phF(C e:Addr)(j:Qj)(T:Addr):Heap->Prop:=λh=>∃(f:Array Value) (m:Array (Qf)),h.get? e=some { cls:=.ref C,dict:=j,data:=.fields f,slots:=m }/\f[1]?=some (.ref T)/\f[2]?=some .none
def AW(p:phT T h):ZV P w H h T (.ext<|phT T):=#[p,by exact L0 p λo _ q _=>#[_,q],λU j f k=>by exact L0 f λo ts q r=>#[o,ts,k _ q,r]]
def ED(p:phF C e dct T h):ZV P w H h e (.ext<|phF C e dct T):=#[p,by exact L0 p λo _ q _=>#[_,q],λU j f k=>by exact L0 f λo ts q r=>#[o,ts,k _ q,r]]
noncomputable abbrev left(C e:Addr)(dct:Qj)(T:Addr)(H:Hp):Hp:=upd (upd H e<|.ext<|phF C e dct T) T (.ext<|phT T)
section
variable {O:St}{H:Hp}
def Hb(I:Qt X Y O H s)(W:Mut (H e))
(he:s.heap.get? e=some { cls:=.ref C,dict:=dct,data:=.fields vs,slots:=i })(hsz:1<vs.size)(g:vs[2]?=some .none)
(j:Leaves X.stack e { cls:=.ref C,dict:=dct,data:=.fields vs,slots:=i } s.heap h' T):Qt X Y O (left C e dct T H) { s with heap:=h' }:=by
 have m:∀b,H b=none->b≠e:=λb f q=>by subst q;rwa[f]at W
 have A:∀b o,H b=some o->b≠e->left C e dct T H b=some o:=λb o f q=>by
  unfold left;rw[Qv<|(λb o f=>Xq (XI (I.hok.lt f) j.new)) b o f,Qv q];exact f
 have D:∀b o,H b=some o->b∉frs X.stack:=λb o f q=>by rw[I.stkFree b q]at f;cases f
 have h:∀b o,H b=some o->¬Mut (some o)->b≠e:=λb o f n q=>by subst q;exact n (f▸W)
 have p:Un (frs X.stack) [] H (left C e dct T H) s.heap h':=
  { keep:=λb o B f M _=>j.keep b o M (m b f) B
    slot:=λb o B f M _=>j.slot b o M B
    free:=λb o B f _=>by
     unfold left;rw[Qv<|Xq<|XI (Xk B) j.new,Qv<|m b f];exact f
    there:=λb o B _=>by
     by_cases M:b∈frs X.stack
     .obtain⟨i,z⟩:=j.slot b o M B;exact#[_,z]
     .by_cases q:b=e
      .subst q;exact#[_,j.exc]
      .exact#[_,j.keep b o M q B]
    tups:=λb xs f=>A b _ f (h b _ f λz=>z)
    frzs:=λb o l f=>A b _ f (h b _ f λz=>z)
    tupo:=λb xs o f B _=>j.keep b o (D b _ f) (h b _ f λz=>z) B
    tbls:=λb ps f=>#[(List.toArray []),by rw[A b _ f<|h b _ f λz=>z];simp] }
 have a:HOk X.prog X.w (left C e dct T H) h':=λb l f=>by
  by_cases q:b=T
  .subst q;unfold left at f;rw[QF]at f;cases f;exact AW j.tb
  .by_cases Z:b=e
   .subst Z;unfold left at f;rw[Qv q,QF]at f;cases f;exact ED #[_,_,j.exc,by simp[hsz],by rw[Array.getElem?_setIfInBounds_ne<|by decide];exact g]
   .have P:=by unfold left at f;rw[Qv q,Qv Z]at f;exact f
    refine(I.hok b l P).stay (λc v K k=>?_) (λc K=>?_) λc xs K=>?_
    .rcases K with z|z
     .subst z;exact j.keep c v (D c _ P) Z k
     .exact j.keep c v (D c _ z) (h c _ z λz=>z) k
    .exact A c _ K (h c _ K λz=>z)
    .exact A c _ K (h c _ K λz=>z)
 exact I.call p a I.bare<|by rintro b ⟨⟩
end
end L2
namespace L2
def Fly(C e:Addr)(f:Qj)(H:Hp):Prop := ∃T,T≠e/\H e=some (.ext<|phF C e f T)/\H T=some (.ext<|phT T)
def XE(C:Addr)(R:Addr->Qj->Hp->Prop):XK:=λv f H=>∃e,v=.ref e/\Fly C e f H/\R e f H
def CX1(P:Program)(w:World):CXT:=λouter H s j v f=>∃h J,f.os=s.os/\AllBare f.gens/\Un (frs outer) [] H J s.heap f.heap/\HOk P w J f.heap/\j v h J
def ZN(C:Addr)(R:Addr->Qj->Hp->Prop):Prop := ∀e f H T,R e f H->H T=none->T≠e->R e f (left C e f T H)
section
variable {w:World}{base:Heap}{N:Qh}{f:Addr}{R:Addr->Qj->Hp->Prop}
noncomputable abbrev cx1(P:Program)(w:World)(K:W.Frag)(mg:Str->Qf)(base:Heap)(N:Qh)(qual:Str)(scope:Scope)(f:Addr)(cd:Value)(A:Around)(outer:List Env)(s0:Shared)(D:Hp)(H1:XK):Cx:=Jo (CX1 P w) P w K mg base N qual scope f cd A outer s0 D H1
variable {O:St}{H:Hp}
def ZrZ(h:T≠e):Fly C e dct (left C e dct T H):=#[T,h,by unfold left;rw[Qv<|Ne.symm h,QF],by unfold left;rw[QF]]
def Tf(j:ZN C R)(I:Qt (cx1 P w K mg base N qual scope f cd A outer s0 D<|XE C R) Y O (left C e dct T H) { s with heap:=h' })(hT:H T=none)(h:T≠e)(r:R e dct H):
 CX1 P w outer D s0 (XE C R) (.ref e) { s with heap:=h' }:=#[dct,_,I.os,I.bare,I.base,I.hok,e,rfl,ZrZ h,j e dct H T r hT h]
def FI(m:ZN C R)(I:Qt (cx1 P w K mg base N qual scope f cd A outer s0 D<|XE C R) Y O H s)(he:H e=some (.ext<|phX C e dct))(r:R e dct H):
 (cx1 P w K mg base N qual scope f cd A outer s0 D<|XE C R).xe (.ref e) s:=by
 apply KE (I.hok e _ he);rintro⟨t,q,j⟩_ _;exact Zmg I.ok.frames I.stack rfl j rfl rfl λh' T h=>Tf m (Hb I (by rw[he];trivial) j (by simp) rfl h) (I.hok.fresh h.new) (VZ<|XI (Xk j) h.new) r
def V2(o:ZN C R):VR (CX1 P w) (cx1 P w K mg base N qual scope f cd A outer s0 D<|XE C R) (XE C R):=by
 intro Y O H s v i I h;apply aU h;rintro x J l m c W⟨e,rfl,⟨y,X,a,hT⟩,r⟩;obtain⟨n,g,d,t,k⟩:=i;obtain rfl:=l;have j:=I.call (h':=n) (g':=g) (d':=d) (t':=t) c W m (by rintro b ⟨⟩);apply KE (j.hok e _ a);rintro⟨E,F,M,U,Z⟩_ _;apply KE (j.hok y _ hT);rintro⟨G,ts,B,u,p⟩_ _;exact Zop j.ok.frames j.stack rfl M rfl U X B u p λh' T q=>Tf o (Hb j (by rw[a];trivial) M (Array.getElem?_eq_some_iff.mp U).1 Z q) (j.hok.fresh q.new) (VZ<|XI (Xk M) q.new) r
end
end L2
namespace L2
section
variable {f:Addr}{e:Expr}{R:Addr->Qj->Hp->Prop}
def ZsX(c:JI X.K Xa6 C f)(m:X.calm=true)(Z:PE X e te)(W:∀Y O H s a j,Qt X Y O H s->H a=some (.ext<|phX C a j)->R a j H->X.xe (.ref a) s):PS X (.Raise (some e) none pos) (sXR C te R):=by
 refine λY s O H H0 I h=>Xa (wpAny_standAt<|Le (C:=C) (I.ok.hd m)<|Xa<|Q7 (Z Y s O H _ I h) ?_);rintro l k ⟨v,E,D,r,a,j,rfl,K,q⟩;refine Xa<|wpAny_standAt<|Xl ?_;obtain rfl:=r;apply KE (D.hok a _ K);rintro⟨t,M,B⟩_ _;apply aa (c.cls _ D.kIn);rintro UH bm nm P N g XD sn A ab col dd k0 k1 k2 k3 k5⟨i,T,b,_⟩
 exact#[a,t,j,M,bm,nm,P,N,g,XD,sn,A,ab,col,dd,k0,k1,k2,k3,k5,_,rfl,T.hasType i.hasBase,b,B,W _ _ _ _ _ _ D K q]
end
end L2
namespace L2
inductive Lefts(C e:Addr)(dct:Qj):Hp->Hp->Prop
 |nil {H}:Lefts C e dct H H
 |step {H J T}:Lefts C e dct H J->J T=none->T≠e->Lefts C e dct H (left C e dct T J)
def Lefts.head(hT:H T=none)(he:T≠e)(h:Lefts C e dct (left C e dct T H) J):Lefts C e dct H J:=by
 induction h with
 |nil=>exact .step .nil hT he
 |step _ a b f=>exact .step f a b
noncomputable abbrev WD(X:Cx)(e:Addr)(pn:Qc):Cx:={ X with pn:=pn,A:=X.A.mark (some<|.ref e),calm:=false,xe:=λ_ _=>False }
section
variable {O:St}{H:Hp}{H0:Ends}
def Qt.toPn(I:Qt X Y O H s):Qt { X with pn:=X.pn++Y } [] O H s:=
 #[#[I.ok.mod,I.ok.kind,I.ok.glob,I.ok.blt,I.ok.above,I.ok.inj,I.ok.has,I.ok.cab,I.ok.hd,I.ok.frames,I.ok.stk,I.ok.exf,I.ok.bs,I.ok.bsz,I.ok.noex,I.ok.exfs,I.ok.funs,I.ok.frf],I.os,I.bare,I.base,I.loc,I.cell,I.free,I.freeC,λp f=>I.pin p<|by simpa using f,I.hok,I.len]
def Qt.ofPn(I:Qt { X with pn:=X.pn++Y } pins' O H s):Qt X Y O H s:=
 #[#[I.ok.mod,I.ok.kind,I.ok.glob,I.ok.blt,I.ok.above,I.ok.inj,I.ok.has,I.ok.cab,I.ok.hd,I.ok.frames,I.ok.stk,I.ok.exf,I.ok.bs,I.ok.bsz,I.ok.noex,I.ok.exfs,I.ok.funs,I.ok.frf],I.os,I.bare,I.base,I.loc,I.cell,I.free,I.freeC,λp f=>I.pin p<|Gj _ f,I.hok,I.len]
def Qt.toHandler(I:Qt { X with pn:=pn } Y O H s):Qt (WD X e pn) Y O H s:=
 #[#[I.ok.mod,I.ok.kind,I.ok.glob,I.ok.blt,I.ok.above,I.ok.inj,I.ok.has,I.ok.cab,(λz=>by cases z),I.ok.frames,I.ok.stk,I.ok.exf,I.ok.bs,I.ok.bsz,I.ok.noex,I.ok.exfs,I.ok.funs,I.ok.frf],I.os,I.bare,I.base,I.loc,I.cell,I.free,I.freeC,I.pin,I.hok,I.len]
def Qt.ofHandler(f:X.Ok)(I:Qt (WD X e pn) Y O H s):Qt { X with pn:=pn } Y O H s:=
 #[#[I.ok.mod,I.ok.kind,I.ok.glob,I.ok.blt,I.ok.above,I.ok.inj,I.ok.has,I.ok.cab,f.hd,f.frames,I.ok.stk,I.ok.exf,I.ok.bs,I.ok.bsz,I.ok.noex,I.ok.exfs,I.ok.funs,I.ok.frf],I.os,I.bare,I.base,I.loc,I.cell,I.free,I.freeC,I.pin,I.hok,I.len]
def SP.ofPn{f:Flow}(h:SP { X with pn:=X.pn++Y,xe:=H1 } pins' H0 f s'):SP X Y H0 f s':=by
 have o:∀{j J},Qt { X with pn:=X.pn++Y,xe:=H1 } pins' j J s'->Qt X Y j J s':=λI=>Qt.ofPn (I.unwish)
 cases f with
 |next=>obtain⟨j,J,I,q⟩:=h;exact#[j,J,o I,q]
 |brk=>obtain⟨j,J,I,q⟩:=h;exact#[j,J,o I,q]
 |cont=>obtain⟨j,J,I,q⟩:=h;exact#[j,J,o I,q]
 |ret m=>obtain⟨v,j,J,I,r,q⟩:=h;exact#[v,j,J,o I,r,q]
end
def Ab(he:phF C e dct T s.heap)(hT:phT T s.heap)
(h:∀h',(∀b o,s.heap.get? b=some o->h'.get? b=some o)->Q () { s with heap:=h' }):wpAny M A (setFlight (.ref e) none) Q H1 s:=by
 refine SF he λZ X Y U _=>SF hT λD ts j m W=>?_;have f:=(Array.getElem?_eq_some_iff.mp W).1;have B:Obj.mapFields (·.setIfInBounds 3 Value.none) D=D:=by
  obtain⟨c,d,a,X⟩:=D;subst m;have:ts.setIfInBounds 3 Value.none=ts:=by
   apply Array.ext_getElem?;intro i;rw[Array.getElem?_setIfInBounds];by_cases P:3=i
   .subst P;rw[Xi rfl,Xi f,W]
   .rw[Xg P]
  unfold Obj.mapFields;simp[this]
 refine wpAny_setFlight_none Y rfl U j m f (h _ λb o K=>?_)
 by_cases q:b=T
 .subst q;rw[j]at K;cases K;rw[X9 _ j<|Obj.isFreed_of_fields<|Obj.data_mapFields m _,B]
 .rw[XT _ _<|Ne.symm q];exact K
def Gy(f:Ends->TS):TS:=λH0 O H=>f H0 H0 O H
end L2
namespace L2
open PySem PySem.Spec PyProof.Rows PySem.W
noncomputable abbrev MU:Qe:=[.type "ValueError",.type "Exception",.type "BaseException",.type "object"]
def Zo4{K:Frag}{v:Value}(X:K.In h)(G:h.Ns N mg)(e:nsIn K N n=some (some v)):mg n=some v:=by
 apply Ps G;rintro o es D f m⟨_,j⟩;unfold nsIn at e;split at e
 .rename_i c d s B A q;have:=X _ _ q;rw[f]at this;cases this;cases m;split at e
  .rename_i C;cases e;rw[<- j];unfold nsFind findBy;simp_all
  .lia
 .cases e
noncomputable def BH(K:Frag)(C f:Addr):Bool:=match K.lookup C with
 |some #[.type "type",_,.cls cd,h]=>(match cd.mro,h.toList with
   |.ref j::bm,[_,_,_,_,some<|.builtin n,_]=>j==C&&n == "ValueError.__new__" && !cd.hasDel&&tailIn K MU bm&&nsOkIn K cd.ns&&nsIn K cd.ns "__init__" == some (some<|.ref f)
   |_,_=>false)
 |_=>false
theorem KY{K:Frag}{f:Addr}(q:BH K C f=true)(P:K.lookup f=some fo)(Z:fo.cls=.type "function")
(ga:specialIn K (.ref Xa6) "__getattribute__"=some (some<|.builtin "type.__getattribute__"))(rd:readsIn K Xa6 (.type "type")=true)(ini:findCls K (.ref Xa6) (.type "type") "__init__"=some (.val<|.builtin "ValueError.__init__")):JI K Xa6 C f where
 ga:=ga
 rd:=rd
 ini:=ini
 cls:=λh X=>by
  unfold BH at q;split at q
  .rename_i dd cd A Y;split at q
   .rename_i c bm k0 k1 k2 k3 n k5 B b;simp only[XS,beq_iff_eq,HF]at q;obtain⟨⟨⟨⟨⟨rfl,rfl⟩,j⟩,W⟩,hok⟩,m⟩:=q;obtain⟨nm,bs,M,ns,D,hd,sn,sub,ab,col,a⟩:=cd;dsimp only at B j hok m;subst B j;have s:A=(List.toArray [k0,k1,k2,k3,some<|.builtin "ValueError.__new__",k5]):=by
     obtain⟨l⟩:=A;simp_all
    subst s;have G:h.Ns ns _:=.of_isNs (isNs_of_in X hok);exact#[MU,bm,nm,D,ns,bs,hd,sn,sub,ab,col,dd,k0,k1,k2,k3,k5,PySem.F.excBase_ValueError,tail_of_in X W,X _ _ Y,_,fo,G,Zo4 X G m,X _ _ P,Z]
   .cases q
  .cases q
end L2
namespace L2
def ZI(P:Program)(w:World)(K:W.Frag)(mg:Str->Qf)(base:Heap)(x:Str)(ps:Qh)(k:Nat)(sp:Sp):Prop:=
 ∃f fd,mg x=some (.ref f)/\W.keepIn K (.ref f)=true/\ZW K fd ps []/\FnOk P w K mg base (CX1 P w) k f fd ps sp
section
variable {w:World}{base:Heap}
def B1(P:Program)(w:World)(K:W.Frag)(mg:Str->Qf)(base:Heap)(N:Qh)(q:Str)(st:Stmt)(k:Nat)(f:Addr)(H:Hp)(j:XK)(G:TS->Prop):Prop := ∀(h:Value) (A:Around) (outer:List Env) (s:Shared),Room k (A.deeper<|envOfC q (Q8 st) s.heap.objs.size f h)->∃t,PSs (cx1 P w K mg base N q (Q8 st) f h A outer s H j) (VG st) t/\G t
def Fun.okX{x:Str}{st:Stmt}{f:Addr}{N:Qh}{k:Nat}(F:Fun K x qual st f fd)(X:Qo N ps (Q8 st))(j:∀vs H Q h,sp vs H Q h->vs.length=ps.length)
(C:∀vs H Q h,sp vs H Q h->B1 P w K mg base N qual st k f H h (Rn N vs H Q)):FnOk P w K mg base (CX1 P w) (k+1) f fd ps sp:=by
 apply aR F.ex;rintro b a kV Y Z d B c D rfl M q;exact Pv M q X j λA outer s H vs Q h W m=>C vs H Q h m B A outer s W
end
def VV{x:Str}{p:Pos}{e:Expr}{t:TA}{k:Nat}{m:XK}(C:ZI X.prog X.w X.K X.mg X.base x ps j sp)(s:Room k X.A)(q:VR (CX1 X.prog X.w) X m)(M:PA X (e::es) t)(D:j<=k:=by walk_at"j")(hg:Gl X x:=by rfl)
(h:(x==("__debug__" : Str))=false:=by decide +kernel)
(he:zs X e es:=by rfl)(hpl:zb X pos es:=by rfl):PE X (.Call (.Name x p) (e::es) [] pos) (Vd sp [] m t):=by
 exact RC C λf fd A B K F=>LC F (s.mono D) hg A B K .nil q M h he hpl
def BX(K:W.Frag)(C:Addr)(f:Str):Sp:=λh H Q _=>∃(e p:Addr) (xs:List V),h=[.ref e,.ref p]/\H e=some (.ext<|phX C e none)/\SqL K H p xs/\
 ∀q u,H q=none->H u=none->u≠q->u≠e->q≠e->Q .non (upd (upd (upd H q<|.lst xs) e<|.ext<|phX C e<|some u) u<|.xd [(f,.ref q)])
def Zsx(h:BX K C f vs H Q H1):
 Vh (Vq<|tXI C 0) (sXF C (Q5 0) (tCB (Lp K)<|Q3 (Q5 1) QH) f) { nx:=λ_ J=>Q .non J,rt:=Q } (vs.map some++List.replicate n none) H:=by
 apply Ps h;rintro e p xs rfl B⟨P,M⟩;refine#[e,none,rfl,B,#[.ref p,rfl,#[p,xs,rfl,.inl P,λq m=>?_]]];have s:q≠e:=λz=>by subst z;rw[B]at m;cases m
 refine#[.ref e,rfl,e,rfl,by rw[Qv<|Ne.symm s];exact B,λu j D=>?_];have A:u≠q:=λz=>by subst z;rw[QF]at j;cases j
 exact M q u m (by rwa[Qv A]at j) A D s
end L2
namespace L2
structure FldL(f:Str)(e:Addr)(F H D:Hp)(ds:Qd)(u q:Addr)(xs:List V):Prop where
 hd:H u=some (.xd [(f,.ref q)])
 hq:H q=some (.lst xs)
 fq:F q=none
 rp:Zt F xs ds
 nd:u≠e
 nq:q≠e
 dq:u≠q
 fe:F e=none
 fd:F u=none
 q0:D q=none
 d0:D u=none
def Fld(f:Str)(e:Addr)(F H D:Hp)(h:Qj)(ds:Qd):Prop := ∃u q xs,h=some u/\FldL f e F H D ds u q xs
def Fld.back(h:Fld f e F H E dct ds)(s:Q4 D E):Fld f e F H D dct ds:=by
 exact L1 h λu q xs a b=>#[u,q,xs,a,b.hd,b.hq,b.fq,b.rp,b.nd,b.nq,b.dq,b.fe,b.fd,s.free b.q0,s.free b.d0]
def Zg(K:W.Frag)(C:Addr){δ:Type}(FL:Addr->Hp->Hp->Hp->Qj->δ->Prop)(R:List OT->(OT->Prop)->Prop)(s:List OT->(δ->Prop)->Prop):Sp:=λq H Q A=>∃F ts,KTs K F/\Q4 F H/\Args K F q ts/\∃RR,A=XE C RR/\ZN C RR/\
 ((∃m,R ts m/\∀j J v p r,m r->Q1 F H j J->(∀a∈p,H a=none)->Zy K j J v r p->Q v J)\/(∃f,s ts f/\∀j J e h d,f d->Q1 F H j J->H e=none->FL e j J H h d->RR e h J))
abbrev spX(K:W.Frag)(C:Addr)(f:Str)(R:List OT->(OT->Prop)->Prop)(Rx:List OT->(Qd->Prop)->Prop):Sp:=Zg K C (Fld f) R Rx
def EvZ(K:W.Frag)(F0 D:Hp)(t:TS)(Z:ZbB):Prop := ∀(F:Hp) (O:St) (H:Hp) (f:Ends),Q1 F0 D F H->QB K D F Z O H->t f O H
section
variable {w:World}{base:Heap}
def ZR(P:Program)(w:World)(K:W.Frag)(mg:Str->Qf)(base:Heap)(N:Qh)(q:Str)(st:Stmt)(k:Nat)(C:Addr)(R:List OT->(OT->Prop)->Prop)(f:Addr):Prop := ∀H RR ts h,ZN C RR->R ts h->B1 P w K mg base N q st k f H (XE C RR) λt=>QE K t (ini N ts) { nx:=λ_=>h<|.fz .none,rt:=h }
def ZX{δ:Type}(P:Program)(w:World)(K:W.Frag)(mg:Str->Qf)(base:Heap)(N:Qh)(q:Str)(st:Stmt)(k:Nat)(C:Addr)(FL:Addr->Hp->Hp->Hp->Qj->δ->Prop)(s:List OT->(δ->Prop)->Prop)(f:Addr):Prop := ∀F H RR ts h,ZN C RR->(∀m J e j d,h d->Q1 F H m J->H e=none->FL e m J H j d->RR e j J)->s ts h->B1 P w K mg base N q st k f H (XE C RR) λt=>EvZ K F H t (ini N ts)
def Fun.evZ{x qual:Str}{f:Addr}{fd:FuncData}{st:Stmt}{N ps:Qh}{k:Nat}{C:Addr}{δ:Type}{FL:Addr->Hp->Hp->Hp->Qj->δ->Prop}{R:List OT->(OT->Prop)->Prop}{b:List OT->(δ->Prop)->Prop}(F:Fun K x qual st f fd)(E:Qo N ps (Q8 st))(Z:∀ts Φ,R ts Φ->ts.length=ps.length)(j:∀ts Φ,b ts Φ->ts.length=ps.length)(m:ZR P w K mg base N qual st k C R f)(B:ZX P w K mg base N qual st k C FL b f):FnOk P w K mg base (CX1 P w) (k+1) f fd ps (Zg K C FL R b):=by
 refine F.okX E (λn H Q I ⟨F,ts,_,_,D,RR,_,_,q⟩=>?_) λn H Q I ⟨F,ts,d,W,D,RR,G,st,q⟩ M A outer s g=>?_
 .rcases q with ⟨r,h,_⟩|⟨r,h,_⟩
  .exact D.length.trans (Z ts r h)
  .exact D.length.trans (j ts r h)
 .subst G;rcases q with ⟨Φ,h,q⟩|⟨X,h,q⟩
  .refine I0 (m H RR ts Φ st h M A outer s g) λt U a=>#[t,U,a F H F _ H _ (Q1.refl W) (Gd d W D) #[λc i J l Y _ e=>?_,λc J v o p Y y u e=>?_,λ_ _ _ _ _ _ z=>False.elim z,λ_ _ _ _ _ _ z=>False.elim z]]
   .exact q c J _ [] _ e Y (by rintro _ ⟨⟩) #[rfl,.non]
   .exact q c J v p o e Y y u
  .exact I0 (B F H RR ts X st q h M A outer s g) λt U a=>#[t,U,a F _ H _ (Q1.refl W)<|Gd d W D]
def Df.evZ{x:Str}{st:Stmt}{N ps:Qh}{k:Nat}{C:Addr}{δ:Type}{FL:Addr->Hp->Hp->Hp->Qj->δ->Prop}{R:List OT->(OT->Prop)->Prop}{A:List OT->(δ->Prop)->Prop}(H0:Df K mg x st ps)(B:Qo N ps (Q8 st))(m:∀f,ZR P w K mg base N x st k C R f)(q:∀f,ZX P w K mg base N x st k C FL A f)(s:∀ts Φ,R ts Φ->ts.length=ps.length:=by intro _ _ h;cases h<;>rfl)(j:∀ts Φ,A ts Φ->ts.length=ps.length:=by intro _ _ h;cases h<;>rfl):ZI P w K mg base x ps (k+1) (Zg K C FL R A):=H0.go λf _ F=>F.evZ B s j (m f) (q f)
end
end L2
namespace L2
section
variable {H1:XK}
def Zsh{Φx:Qd->Prop}(h:Qr K ta Z (.list ds))(Q:Φx ds)(N:∀t J e Y d,Φx d->Q1 F0 D t J->D e=none->Fld f e t J D Y d->RR e Y J):EvZ K F0 D (sXR C (MO C (BX K C f) H1<|Q3 ta QH) RR) Z:=by
 refine λF O H H0 x R=>h D F O H _ R λT E v g w=>#[by simp,λe c=>?_]
 cases w with
 |@lst a xs _ G y=>
 have n:=g.fh a _ G;have l:a≠e:=λz=>by subst z;rw[c]at n;cases n
 refine#[e,a,xs,rfl,QF,SqL.of<|by rw[Qv l];exact n,λq u P X W A m=>#[rfl,e,some u,rfl,?_,?_]]
 .rw[Qv<|Ne.symm A,QF]
 .have s:=by rw[Qv m]at P;exact P
  have B:=by rw[Qv A]at X;exact X
  have p:Q4 E (upd (upd (upd (upd E e<|.ext<|phX C e none) q<|.lst xs) e<|.ext<|phX C e<|some u) u<|.xd [(f,.ref q)]):=λb o j=>by
   have r:b≠e:=λz=>by subst z;rw[c]at j;cases j
   have L:b≠q:=λz=>by subst z;rw[s]at j;cases j
   have I:b≠u:=λz=>by subst z;rw[B]at j;cases j
   rw[Qv I,Qv r,Qv L,Qv r];exact j
  have M:=x.trans g;have i:upd (upd (upd (upd E e<|.ext<|phX C e none) q<|.lst xs) e<|.ext<|phX C e<|some u) u (.xd [(f,.ref q)]) q=some (.lst xs):=by
   rw[Qv<|Ne.symm W,Qv m,QF]
  exact N T _ e _ ds Q (M.trans #[p,Q4.refl _,M.fh.trans p,λb j=>.inl j]) (M.hh.free c) #[u,q,xs,rfl,QF,i,g.fh.free s,y,A,m,W,M.fh.free c,M.fh.free B,M.hh.free s,M.hh.free B]
def Ee(M:ZbB->Prop)(U:QE K t Z { nx:=M,rt:=λ_=>False })(m:∀f,M f->EvZ K F0 D dx f):EvZ K F0 D (Vh t dx) Z:=λF O H H1 x q=>
 U F0 D F O H _ x q #[λA h J f j s e=>m f e A h J H1 j s,λ_ _ _ _ _ _ _ _ z=>z.elim,λ_ _ _ _ _ _ z=>False.elim z,λ_ _ _ _ _ _ z=>False.elim z]
def AB(i:Nat)(e:Z[i]?=some (some<|.ol ds))(h:EvZ K F0 D t (Z.set i<|zf<|.list ds)):EvZ K F0 D t Z:=λF O H H1 x f=>by
 exact aN (f.freeze e) λa xs q m j _ _ s=>h _ O H H1 (x.freeze q m j) s
def WS(U:QE K t Z { nx:=λf=>f=ρ1,rt:=λ_=>False })(m:EvZ K F0 D dx ρ1):EvZ K F0 D (Vh t dx) Z:=λF O H H1 x q=>
 U F0 D F O H _ x q #[λA h J f j s e=>by subst e;exact m A h J H1 j s,λ_ _ _ _ _ _ _ _ z=>z.elim,λ_ _ _ _ _ _ z=>False.elim z,λ_ _ _ _ _ _ z=>False.elim z]
def Wj(h:EvZ K F0 D t Z):EvZ K F0 D (Vh t dx) Z:=λF O H H1 x f=>h F O H _ x f
def GB{b:Bool}(h:QZ K tA Z b)(U:b=true->EvZ K F0 D t Z)(q:b=false->EvZ K F0 D dx Z):EvZ K F0 D (Ws tA t dx) Z:=λF O H H1 x j=>
 h D F O H _ j λm J f=>by
  cases b with
  |true=>rw[Xi rfl];exact U rfl m O J H1 (x.trans f) (j.ext f)
  |false=>rw[Xg<|by decide];exact q rfl m O J H1 (x.trans f) (j.ext f)
def ZrS(Y:Zi K t Z ts)(X:Rx ts Φx)(st:ZN C RR)(B:∀m J e h d,Φx d->Q1 F0 D m J->D e=none->Fld f e m J D h d->RR e h J)(x:Q1 F0 D F H)(q:QB K H9 F Z O H):
 Vd (spX K C f R Rx) [] (XE C RR) t O H Q:=Y H9 F O H _ q λa E b j A=>
 #[a,ts,(q.ext j).kt,j.fh,by rw[Xp];exact A,RR,rfl,st,.inr #[Φx,X,λm J e h d W s P M=>B m J e h d W ((x.trans j).trans s) ((x.trans j).hh.free P)<|M.back (x.trans j).hh]]
def Ot(s:Zi K t Z ts)(q:Rx ts Φx)(st:ZN C RR)(m:∀j J e h d,Φx d->Q1 F0 D j J->D e=none->Fld f e j J D h d->RR e h J):
 EvZ K F0 D (Vq<|Vd (spX K C f R Rx) [] (XE C RR) t) Z:=λF O H H1 x A=>ZrS s q st m x A
def OG(X:Zi K t Z ts)(W:R ts Φ)(st:ZN C RR):Zz K (Vd (spX K C f R Rx) [] (XE C RR) t) Z Φ:=λD F O H Q j q=>
 X D F O H _ j λc E d h s=>
  #[c,ts,(j.ext h).kt,h.fh,by rw[Xp];exact s,RR,rfl,st,.inl #[Φ,W,λb Y v p r B m M A=>q b Y v p r B (h.trans m) (λa P=>h.hh.free<|M a P) A]]
def Ga(h:Zz K t Z Φ)(hn:H0.nx Z):QE K (Vq t) Z H0:=λF0 D F O H H1 x j c=>
 h D F O H _ j λm J v p r _ f _ _=>c.nx m O J Z (x.trans f) (j.ext f) hn
end
end L2
namespace L2
section
variable {tb:Ends->TS}
def CO(h:Lefts C e dct H J)(s:Q4 G H)(he:G e=none):Q4 G J:=by
 induction h with
 |nil=>exact s
 |@step E T U hT B A=>
  intro b o j;have q:b≠e:=λz=>by subst z;rw[he]at j;cases j
  have f:=A b o j;have m:b≠T:=λz=>by subst z;rw[hT]at f;cases f
  unfold left;rw[Qv m,Qv q];exact f
def L7(h:∀f,QE K (tb f) Z H0):QE K (Gy tb) Z H0:=λF0 D F O H f x j c=>h f F0 D F O H f x j c
end
end L2
namespace L2
structure XC(K:W.Frag)(mg:Str->Qf)(x:Str)(Xa6 C f:Addr):Prop where
 cl:JI K Xa6 C f
 kp:W.keepIn K (.ref C)=true
 m:mg x=some (.ref C)
def UB(P:Program)(w:World)(K:W.Frag)(mg:Str->Qf)(base:Heap)(f:Addr)(ps:Qh)(k:Nat)(sp:Sp):Prop := ∃fd,ZW K fd ps []/\FnOk P w K mg base CX0 k f fd ps sp
section
variable {w:World}{base:Heap}{N:Qh}{f:Addr}
def Gb{x:Str}{p:Pos}{e:Expr}{t:TA}{k:Nat}(c:XC K mg x Xa6 C f)(Z:UB P w K mg base f ps j sp)(h:ZN C RR)(q:Room k (cx1 P w K mg base N qual scope f0 cd A outer s0 D<|XE C RR).A)
(W:PA (cx1 P w K mg base N qual scope f0 cd A outer s0 D<|XE C RR) (e::es) t)(B:j+1<=k:=by walk_at"j")(hg:Gl (cx1 P w K mg base N qual scope f0 cd A outer s0 D<|XE C RR) x:=by rfl)
(m:(x==("__debug__" : Str))=false:=by decide)(he:starEach (e::es) (cx1 P w K mg base N qual scope f0 cd A outer s0 D<|XE C RR).env=(false,eval e (cx1 P w K mg base N qual scope f0 cd A outer s0 D<|XE C RR).env)::starEach es (cx1 P w K mg base N qual scope f0 cd A outer s0 D<|XE C RR).env:=by rfl)
(hpl:(backTo pos<|starEach es (cx1 P w K mg base N qual scope f0 cd A outer s0 D<|XE C RR).env).any (·.1)=false:=by rfl):
 PS (cx1 P w K mg base N qual scope f0 cd A outer s0 D<|XE C RR) (.Raise (some<|.Call (.Name x p) (e::es) [] pos) none pos') (sXR C (MO C sp E0 t) RR):=by
 exact I0 Z λfd M F=>ZsX c.cl rfl (OJ c.cl c.kp F (q.mono B) hg c.m M Js W m he hpl) (λY O H s a X I he r=>FI h I he r)
end
end L2
namespace L2
def Dh(H0:Ends)(j:Nat):Ends:={ nx:=λO H=>H0.nx (O.set j none) H,rt:=λ_ _=>False }
def XWg(X:Cx)(h:XK)(pn:Qc)(v:Value)(s:Shared):Prop := ∃(O:St) (H:Hp) (f:Qj),Qt { X with pn:=pn } [] O H s/\h v f H
noncomputable abbrev KF(X:Cx)(H1:XK)(pn:Qc):Cx:={ X with pn:=pn,xe:=XWg X H1 pn }
section
variable {O:St}{H:Hp}
def Gc : VR (CX1 X.prog X.w) (KF X H1 pn) H1:=by
 intro Y O H s v A I h;apply aU h;intro m J C f q j K;obtain⟨P,g,d,t,B⟩:=A;obtain rfl:=C;exact#[O,J,m,((I.call (d':=d) (t':=t) q j f (by rintro b ⟨⟩)).unwish).pins_of (λp D=>by cases D),K]
def ZpU(I:Qt X Y O H s)(Z:X.N.Nodup)(W:X.N[i]?=some x)(P:X.env.scope.names.lookup x=some .local)
(h:∀j,Qt X Y (O.set i none) H j->Q () j):wpAny M A (do bindName X.env x .none;unbindBehindTheSuite X.env x pos) Q H1 s:=by
 refine I0 (id I.loc) λm D K=>wpAny_nameGoes_keeps P D (by rw[I.ok.kind];rfl) λh' v f B=>h _ (I.poke Z W B I.ok.above I.free (.inl rfl) f K (by rintro _ ⟨⟩) λy a C q=>q.imp ?_<|by rintro⟨k,c,e,z⟩;exact#[k,c,e,z.sameBut B<|I.cne y c e]);rintro⟨k,e⟩;exact#[k,by simp[C,e]]
end
end L2
namespace L2
def QB.setN(C:Option V)(s:QB K D F Z O H):QB K D F (Z.set r none) (O.set r C) H:=by
 obtain⟨f,U,A,B,q,m,h⟩:=s;refine#[f,U,by simp[A],B,λj t e=>?_,m,h]
 by_cases z:r=j
 .subst z
  by_cases l:r<Z.length
  .simp_all
  .simp_all
 .rw[X7 z]at e ⊢;exact q j t e
end L2
namespace L2
section
open PySem.W
variable {w:World}{H1:Qb}{K:Frag}{x:Addr}{ox:Obj}{od:Option Obj}{name:Str}{tk:Tok}{fill expr:Bool}
structure Gr(K:Frag)(C:Addr):Prop where
 ga:findIn K (.ref C) "__getattribute__"=some (some<|.builtin "BaseException.__getattribute__")
 gt:findIn K (.ref C) "__getattr__"=some none
 mb:mroIn K C (.type "BaseException")=some true
def Cg  (c:Gr K C)(X:K.In s.heap)(I:InstAt s.heap x ox C od)(m:Q () s):wpAny M A (checkBuiltinCall "BaseException.__getattribute__" #[[.ref x,nameV],[]]) Q H1 s:=by
 have q:builtinKind "BaseException.__getattribute__"=some .slot:=by decide +kernel
 have f:splitId "BaseException.__getattribute__"=some ("BaseException","__getattribute__"):=by decide +kernel
 have h:=looks_mroIn (M:=M) X c.mb;refine Xa (((I.type (M:=M)).andThen h).at ?_)
 repeat (any_goals (first|assumption|wp_step))
def Fl(c:Gr K C)(X:K.In s.heap)(I:InstAt s.heap x ox C od)
(h:codeAny (model prog w) A (.call (.builtin "BaseException.__getattribute__") #[[.ref x,.str name tk],[]]) (λr q=>∃v,r=.ok (.ret v)/\wpAny (model prog w) A (handedOut v) Q H1 q) s):
 wpAny (model prog w) A (getAttrBy (.ref x) (.str name tk) fill expr) Q H1 s:=by
 have j:(expr&&onTheHeap (Value.builtin "BaseException.__getattribute__"))=false:=by cases expr<;>rfl
 have f:(Value.builtin "BaseException.__getattribute__" == Value.builtin "object.__getattribute__")=false:=by decide +kernel
 have B:(onTheHeap (Value.ref C)&&Value.builtin "BaseException.__getattribute__" == Value.builtin "object.__getattribute__")=false:=by rw[f];rfl
 refine wpAny_holding (Xa<|(I.type (M:=model prog w)).at<|Xa<|(looks_findIn (M:=model prog w) X c.ga).at (Xa ((looks_findIn (M:=model prog w) X c.gt).at (Xa (wpAny_attempt<|wpAny_holding ?_)))));unfold callGetattribute;rw[j];unfold boundAndCalled;rw[F.excAttr_ValueError.ga.bind (.ref x)];refine wpAny_call (codeAny_mono h λr q m=>?_);apply I0 m;rintro v rfl m;exact m
def Zqp{v:Value}(c:Gr K C)(X:K.In s.heap)(I:InstAt s.heap x ox C od)(j:findObj K C od name=some (.value v))(f:handedIn v=true)(h:Q v { s with toks:=s.toks+1 }):wpAny (model prog w) A (getAttr (.ref x) name expr) Q H1 s:=by
 refine Xa (wpAny_mkText<|Fl c X I<|codeAny_call_builtin F.excAttr_ValueError.ga.plain F.entry_bexc_ga<|Cg c X I (Xa (Xl<|Xa<|Xl<|Xa<|(I.type (M:=model prog w)).at<|Xa<|(looks_find (M:=model prog w) X I j).at (Xl #[v,rfl,?_]))));rw[handedOut_of f];exact Xl h
def Zru(c:Gr K C)(XD:hasDictIn K C=true)(P:findIn K (.ref C) "__class__"=some (some<|.builtin "object.__class__"))
(hn:specialIn K (.builtin "object.__class__") "__get__"=some (some<|.builtin "getset_descriptor.__get__"))(f:takesIn K (.builtin "object.__class__")=some true)(j:mroIn K C (.type "object")=some true)
(X:K.In s.heap)(I:InstAt s.heap x ox C od)(h:Q (some<|.ref C) { s with toks:=s.toks+1 }):wpAny (model prog w) A (getAttr? (.ref x) "__class__") Q H1 s:=by
 have m:findObj K C od "__class__"=some (.bind (.builtin "getset_descriptor.__get__")<|.builtin "object.__class__"):=by
  apply I0 (any_some XD);intro cd D _;unfold findObj;simp_all
 exact Xa (wpAny_mkText<|Xa<|wpAny_attempt<|Fl c X I<|codeAny_call_builtin F.excAttr_ValueError.ga.plain F.entry_bexc_ga<|Cg c X I (Xa (Xl<|Xa<|Xl<|Xa<|(I.type (M:=model prog w)).at<|Xa<|(looks_find (M:=model prog w) X I m).at (Xa (wpAny_holding<|wpAny_call<|class_get X I j (Xl #[_,rfl,Xl<|Xl h]))))))
theorem DL(c:Gr K C)(XD:hasDictIn K C=true)(P:findIn K (.ref C) "__class__"=some (some<|.builtin "object.__class__"))
(hn:specialIn K (.builtin "object.__class__") "__get__"=some (some<|.builtin "getset_descriptor.__get__"))(s:takesIn K (.builtin "object.__class__")=some true)(M:mroIn K C (.type "object")=some true):
 KitX K (.ref x) (.ref C) (λh=>InstAt h x ox C od) where
 ty:=λ_ _ _ I=>I.type
 it:=λ_ _ X _=>by
  apply I0 (any_some XD);intro A f _;unfold clsIn at f;split at f
  .rename_i Y W B j w;intro i d g b k q;exact Xa (wpAny_loadPart (k _ _<|X _ _ w)<|Xl q)
  .cases f
 ne:=λh Z dd D n a X m=>by
  refine I0 (any_some XD) λA f _=>Bool.eq_false_iff.mpr λq=>?_;have e:=Value.ref.inj (beq_iff_eq.mp q);subst e;unfold clsIn at f;split at f
  .rename_i Y W B j w;have z:=(X _ _ w).symm.trans m;cases z
  .cases f
 ca:=λX I k=>Zru c XD P hn s M X I k
end
def tXG(C:Addr)(ta:TE)(f:Str):TE:=λO H Q=>ta O H λx E=>∃e u T v,x=.ref e/\E e=some (.ext<|phF C e (some u) T)/\E u=some (.xd [(f,v)])/\Q v E
structure SU(K:W.Frag)(C:Addr):Prop where
 ga:Gr K C
 hd:W.hasDictIn K C=true
section
variable {e:Expr}
def K8{H:Hp}{O:St}(I:Qt X Y O H s){a u T:Addr}{j:List (Str×V)}(U:H a=some (.ext<|phF C a (some u) T))(D:H u=some (.xd j)):
 ∃(h:Str->Qf) (m od:Obj),W.InstAt s.heap a m C (some od)/\(∀e,W.lookIn e od=some (h e))/\∀f,Vj (j.lookup f) (h f):=by
 apply KE (I.hok a _ U);rintro⟨K,M,q,_⟩_ _;exact I0 ((I.hok u _ D)) λh n r=>I0 (Ce n) λod A B=>#[h,_,od,#[q,rfl,rfl,A],B,r]
def LN(c:SU X.K C)(n:Ve X.K C f)(he:PE X e ta)(K:attributeBase e f X.env (eval e X.env)=eval e X.env:=by rfl):PE X (.Attribute e f pos) (tXG C ta f):=by
 refine λY s O H Q I h=>Lg K (Q7 (he Y s O H _ I h) ?_);rintro b g ⟨x,E,j,A,a,u,T,v,rfl,Z,P,q⟩;obtain rfl:=A;exact Ps (K8 j Z P) λl i k d D r=>I0 (Vj.some_of (by have:=r f;simpa [List.lookup] using this)) λb B m=>Zqp c.ga j.kIn d (W.findObj_own c.hd n rfl (by rw[D,B])) (Cj m) #[v,E,j.tok _,m,q]
noncomputable def Bz:V->Qf
 |.ref a=>some (.ref a)
 |.ty t=>some (.type t)
 |_=>none
structure Gq(K:W.Frag)(C:Addr):Prop where
 ga:Gr K C
 hd:W.hasDictIn K C=true
 fc:W.findIn K (.ref C) "__class__"=some (some<|.builtin "object.__class__")
 sp:W.specialIn K (.builtin "object.__class__") "__get__"=some (some<|.builtin "getset_descriptor.__get__")
 tk:W.takesIn K (.builtin "object.__class__")=some true
 mo:W.mroIn K C (.type "object")=some true
def Y2(K:W.Frag)(C:Addr):List V->Hp->VK->Prop:=λxs H Q=>∃x c f b,xs=[x,c]/\Bz c=some f/\
 ((∃e u T h,x=.ref e/\H e=some (.ext<|phF C e (some u) T)/\H u=some (.xd h)/\W.kitOne K (.ref C) f=some b)\/(∃e T,x=.ref e/\H e=some (.ext<|phF C e none T)/\W.kitOne K (.ref C) f=some b)\/(x=.non/\W.kitOne K (.type "NoneType") f=some b))/\Q (.bl b) H
def EL(c:Gq X.K C):ZC X (.builtin "isinstance") (Y2 X.K C):=by
 intro Y s O H xs g Q I r h;apply aQ h;rintro x Z P b rfl f⟨D,q⟩;apply SF (UI r);rintro o w rfl B m;have M:w=P:=by
  cases Z<;>simp[Bz]at f
  .subst f;exact m
  .subst f;exact m
 subst M;rcases D with ⟨e,u,T,n,rfl,U,K,A⟩|⟨e,T,rfl,U,A⟩|⟨rfl,A⟩
 .obtain rfl:=B;exact L1 (K8 I U K) λl k od a _=>W.kia_one (DL c.ga c.hd c.fc c.sp c.tk c.mo) I.kIn a A #[] λj=>#[.bl b,H,I.tok j,rfl,q]
 .obtain rfl:=B;apply KE (I.hok e _ U);rintro⟨d,i,D,_⟩_ _;exact W.kia_one (DL (od:=none) c.ga c.hd c.fc c.sp c.tk c.mo) I.kIn #[D,rfl,rfl,trivial] A #[] λj=>#[.bl b,H,I.tok j,rfl,q]
 .obtain rfl:=B;exact W.kia_one W.kitx_none I.kIn trivial A #[] λj=>#[.bl b,H,I.tok j,rfl,q]
def HX(K:W.Frag)(C:Addr):List V->Hp->VK->Prop:=λxs H Q=>∃(e u T:Addr) (j:List (Str×V)) (f:Addr) (h:Qg) (b:Bool),xs=[.ref e,.ref f]/\H e=some (.ext<|phF C e (some u) T)/\H u=some (.xd j)/\SqT K H f (h.map V.ref)/\W.kitAny K (.ref C) (h.map Value.ref)=some b/\Q (.bl b) H
theorem Rt:∀{cs:Qg} {us:Qe},QW (cs.map V.ref) us->us=cs.map Value.ref
 |[],_,r=>by cases r;rfl
 |c::cs,_,r=>by
  rw[Xy]at r;cases r with
  |cons f e=>
   cases f;rw[Rt e];rfl
def Ey(c:Gq X.K C):ZC X (.builtin "isinstance") (HX X.K C):=by
 intro Y s O H xs p Q I r h;apply FB h;rintro e u T⟨F,B,J,b,rfl,U,g,Z,d,q⟩;apply SF (UI r);rintro i w rfl M f;obtain rfl:i=Value.ref e:=M;obtain rfl:w=Value.ref B:=f;refine L1 (K8 I U g) λy v x o _=>L3 (I.tuple Z) λP K j E=>?_;obtain rfl:=Rt K;apply aP (id j);rintro⟨l,k,G,t⟩a A n m;simp only at A m;subst A m;exact W.kia_tup (DL c.ga c.hd c.fc c.sp c.tk c.mo) I.kIn o a d (by intro z;cases z) λD=>#[.bl b,H,I.tok D,rfl,q]
end
def Z0t(C:Addr)(f:Str)(ds:Qd)(e u q:Addr):OwnP where
 ok:=λK F H v p=>p=[e,u,q]/\(F e=none/\F u=none/\F q=none)/\(∃T,H e=some (.ext<|phF C e (some u) T))/\H u=some (.xd [(f,.ref q)])/\∃xs,H q=some (.lst xs)/\Zt F xs ds
 there:=λ{K F H v p} h a j=>by
  obtain⟨rfl,⟨W,P,M⟩,⟨T,U⟩,D,xs,B,_⟩:=h;rcases Xc.mp j with rfl|j
  .exact#[W,ZE U]
  .rcases Xc.mp j with rfl|j
   .exact#[P,ZE D]
   .rcases Xc.mp j with rfl|j
    .exact#[M,ZE B]
    .cases j
 mono:=λ{K F Y H J v p} s A m h=>by
  apply Hs h;rintro rfl⟨W,P,M⟩⟨T,U⟩D⟨xs,B,r⟩;exact#[rfl,#[A _ Xb,A _ (Xf _ Xb),A _ (Xf _ (Xf _ Xb))],#[T,(m _ Xb).trans U],(m _ (Xf _ Xb)).trans D,xs,(m _ (Xf _ (Xf _ Xb))).trans B,r.mono s]
 uniq:=λ{K F H v p X} h h' a j=>by
  obtain⟨rfl,_⟩:=h;obtain⟨rfl,_⟩:=h';exact j
def Zsz(h:Lefts C e dct H J){b:Addr}(q:b≠e)(m:H b=some o):J b=some o:=by
 induction h with
 |nil=>exact m
 |@step E T U hT s f=>
  have j:b≠T:=λz=>by subst z;rw[hT]at f;cases f
  unfold left;rw[Qv j,Qv q];exact f
def G9:Qg->TA
 |[]=>QH
 |c::f=>Q3 (tC<|.ref c) (G9 f)
theorem Nc{O:St}{H:Hp}:∀{cs:Qg} {Q:List V->Hp->Prop},Q (cs.map V.ref) H->G9 cs O H Q
 |[],_,h=>h
 |_::cs,_,h=>Nc (cs:=cs) h
end L2
namespace L2
def QW.at(r:QW xs us):∀i:Nat,(xs[i]?=none/\us[i]?=none)\/∃x f,xs[i]?=some x/\us[i]?=some f/\QO x f:=by
 induction r with
 |nil=>intro i;exact .inl #[rfl,rfl]
 |cons a b h=>
  intro i;cases i with
  |zero=>exact .inr #[_,_,rfl,rfl,a]
  |succ i=>exact h i
end L2
set_option maxHeartbeats 8000000
set_option maxHeartbeats 8000000
set_option maxHeartbeats 8000000
set_option maxHeartbeats 8000000
set_option maxHeartbeats 8000000
namespace L2
def ZrD:bootBuiltins "sorted"=some (.builtin "sorted"):=by decide +kernel
end L2
namespace L2
def Al:bootBuiltins "ValueError"=some (.type "ValueError"):=by decide +kernel
def WO : VR (CX1 X.prog X.w) X (XE C λ_ _ _=>False):=λ_ _ _ _ _ _ _ h=>by
 apply aU h;rintro _ _ _ _ _ _⟨_,_,_,z⟩;exact z.elim
def Ja:ZN C λ_ _ _=>False:=λ_ _ _ _ z=>z.elim
end L2
namespace L2
abbrev Zs:=List (Key×PyData)
def Wf(kvs:Zs)(k:Key):Option PyData:=(kvs.find? λf=>decide (f.1=k)).map (·.2)
noncomputable def B5(kvs:Zs)(k:Key)(d:PyData):Zs:=if (kvs.any λf=>decide (f.1=k))=true then kvs.map (λf=>if f.1=k then (f.1,d) else f) else kvs++[(k,d)]
inductive PairK(F:Hp):List (Key×V)->Zs->Prop
 |nil:PairK F [] []
 |cons {k:Key}{x:V}{d:PyData}{xs:List (Key×V)}{kvs:Zs}:Rep F x d->PairK F xs kvs->PairK F ((k,x)::xs) ((k,d)::kvs)
def PairK.mono(s:Q4 F F'):∀{xs:List (Key×V)} {kvs:Zs},PairK F xs kvs->PairK F' xs kvs:=by
 intro xs kvs h;induction h with
 |nil=>exact .nil
 |cons r _ f=>exact .cons (r.mono s) f
def PairK.length:∀{xs:List (Key×V)} {kvs:Zs},PairK F xs kvs->xs.length=kvs.length:=by
 intro xs kvs h;induction h with
 |nil=>rfl
 |cons _ _ f=>exact Xz Nat.succ f
theorem PairK.val{F:Hp}(k:Key):∀{xs:List (Key×V)} {kvs:Zs},PairK F xs kvs->(Z7 xs k=none/\Wf kvs k=none)\/∃x d,Z7 xs k=some x/\Wf kvs k=some d/\Rep F x d
 |_,_,.nil=>.inl #[rfl,rfl]
 |_,_,.cons (k:=k') (x:=x) (d:=d) (kvs:=kvs) r t=>by
  by_cases e:k'=k
  .exact .inr #[x,d,Wm e,by simp[Wf, e],r]
  .have q:Wf ((k',d)::kvs) k=Wf kvs k:=by simp[Wf, e]
   rw[Wk e,q];exact t.val k
theorem PairK.any{F:Hp}(k:Key):∀{xs:List (Key×V)} {kvs:Zs},PairK F xs kvs->(xs.any λf=>decide (f.1=k))=(kvs.any λf=>decide (f.1=k))
 |_,_,.nil=>rfl
 |_,_,.cons _ t=>by simp[t.any k]
theorem PairK.mapP{F:Hp}(k:Key){y:V}{d:PyData}(r:Rep F y d):∀{xs:List (Key×V)} {kvs:Zs},PairK F xs kvs->PairK F (xs.map λf=>if f.1=k then (f.1,y) else f) (kvs.map λf=>if f.1=k then (f.1,d) else f)
 |_,_,.nil=>.nil
 |_,_,.cons (k:=k') h t=>by
  rw[Xy,Xy];by_cases e:k'=k
  .simp only[e];exact .cons r (t.mapP k r)
  .simp only[e];exact .cons h (t.mapP k r)
theorem PairK.snoc{F:Hp}(k:Key){y:V}{d:PyData}(r:Rep F y d):∀{xs:List (Key×V)} {kvs:Zs},PairK F xs kvs->PairK F (xs++[(k,y)]) (kvs++[(k,d)])
 |_,_,.nil=>.cons r .nil
 |_,_,.cons f t=>.cons f (t.snoc k r)
def PairK.put(k:Key)(r:Rep F y d){xs:List (Key×V)}(t:PairK F xs kvs):PairK F (Yo xs k y) (B5 kvs k d):=by
 unfold Yo B5;rw[t.any k];split
 .exact t.mapP k r
 .exact t.snoc k r
def dkP(kvs:Zs):OwnP where
 ok K F H v p := ∃a xs,v=.ref a/\p=[a]/\F a=none/\H a=some (.dK xs)/\PairK F xs kvs
 there:=by
  rintro K F H v p ⟨a,xs,rfl,rfl,U,f,h⟩ b m;cases Xj.mp m;exact#[U,ZE f]
 mono:=by
  rintro K F C H J v p s B A ⟨a,xs,rfl,rfl,U,f,h⟩;exact#[a,xs,rfl,rfl,B a Xb,by rw[A a Xb];exact f,h.mono s]
 uniq:=by
  rintro K F H v p q ⟨a,xs,rfl,rfl,_⟩ ⟨b,ys,e,rfl,_⟩ c j;cases e;exact j
section
variable {ty:TE}{i:Nat}{v:V}{kvs:Zs}{k:Key}{d:PyData}
def QB.dk(j:QB K D F Z O H)(e:zg Z i<|zo v<|dkP kvs):
 ∃a xs,v=.ref a/\O[i]?=some (some<|.ref a)/\F a=none/\D a=none/\H a=some (.dK xs)/\PairK F xs kvs:=by
 apply aV (j.writeOwn e);rintro k p⟨a,xs,rfl,rfl,U,h,f⟩d _;exact#[a,xs,rfl,k,U,(d a Xb).1,h,f]
def Zsi(e:zg Z i<|zo v<|dkP kvs)(l:Qr K tv Z d)(g:Qr K ty Z (JM k))(hz:kvs.length<sizeLine)(hn:H0.nx (Z.set i<|zo v<|dkP<|B5 kvs k d)):QE K (Ki (Q5 i) ty tv) Z H0:=λF0 D F O H R x j C=>
 l D F O H _ j λG E L h Y=>by
  apply SF ((j.ext h).dk e);rintro a xs rfl r _;refine#[_,r,g D G O E _ (j.ext h) λu Q y m X=>?_];have B:=j.ext (h.trans m);apply aN (B.dk e);intro N W A _ s o n P;cases A;rw[ND X];refine#[a,_,rfl,JT.k n<|by rw[P.length];exact hz,?_];apply aV (B.writeOwn e);intro _ p b I w;apply aU b;rintro t M A rfl _ J _;cases A;refine C.nx u O _ _ ((x.trans<|h.trans m).wr o s) (w _ (dkP _) [a] (B.sub.upd s) (λc f _=>Qv λz=>f<|by exact z▸Xb) (λc f=>?_) #[a,_,rfl,rfl,s,QF,P.put k<|Y.mono m.ff] λc f=>.inl f) hn
  by_cases z:c=a
  .subst z;rw[QF];rintro⟨⟩
  .rw[Qv z];exact f
def Zt6:EvX K T2 Z (dkP []):=λD F O H Q f q=>λp d=>by
 have i:F p=none:=by
  cases z:F p with
  |none=>rfl
  |some o=>rw[f.sub _ _ z]at d;cases d
 refine q F _ _ [p] (Q1.own f.sub d) (λa h=>by cases Xj.mp h;exact d) #[p,[],rfl,rfl,i,QF,.nil]
end
def DkZ(kvs:Zs):ZP where
 ok K F v := ∃a xs,v=.ref a/\F a=some (.dK xs)/\PairK F xs kvs
 mono:=by
  rintro K F h v s ⟨a,xs,rfl,U,f⟩;exact#[a,xs,rfl,s _ _ U,f.mono s]
def dkP.fz(h:(dkP kvs).ok K F H v p)(s:Q4 F F')(he:∀b∈p,F' b=H b):(DkZ kvs).ok K F' v:=by
 apply aU h;rintro a xs rfl rfl U j f;exact#[a,xs,rfl,by rw[he a Xb];exact j,f.mono s]
section
variable {i:Nat}
def QB.dkz(j:QB K D F Z O H)(e:zg Z i<|zz<|DkZ kvs):∃a xs,O[i]?=some (some<|.ref a)/\F a=some (.dK xs)/\PairK F xs kvs:=by
 apply I0 j.fp;intro q h _;apply aP (h i _ e);rintro v m _ a⟨xs,rfl,U,f⟩;exact#[a,xs,m,U,f]
end
end L2
namespace L2
structure HandS where
 yard:PyData
 now:Int
 known:Qd
 given:Ql
 gone:Zs
 made:List Zs
inductive MadeD(F H:Hp):Qg->List Zs->Prop
 |nil:MadeD F H [] []
 |cons {a:Addr}{xs:List (Key×V)}{kvs:Zs}{as:Qg}{ms:List Zs}:F a=none->H a=some (.dK xs)->PairK F xs kvs->MadeD F H as ms->MadeD F H (a::as) (kvs::ms)
def MadeD.mem:∀{as:Qg} {ms:List Zs},MadeD F H as ms->∀a∈as,F a=none/\H a≠none:=by
 intro as ms h;induction h with
 |nil=>rintro x ⟨⟩
 |cons U m _ _ f=>exact List.forall_mem_cons.mpr #[#[U,ZE m],f]
def MadeD.mono(s:Q4 F F'):∀{as:Qg} {ms:List Zs},(∀a∈as,F' a=none)->(∀a∈as,J a=H a)->MadeD F H as ms->MadeD F' J as ms:=by
 intro as ms m j h;induction h with
 |nil=>exact .nil
 |cons U B A _ q=>exact .cons (m _ Xb) (by rw[j _ Xb];exact B) (A.mono s) (q (λa f=>m a<|Xf _ f) λa f=>j a<|Xf _ f)
def MadeD.other{b:Addr}(h:MadeD F H as ms)(n:b∉as):MadeD F (upd H b o) as ms:=
 h.mono (Q4.refl _) (λa f=>(h.mem a f).1) (λa f=>Qv λz=>n<|z▸f)
inductive MadeZ(F:Hp):Qg->List Zs->Prop
 |nil:MadeZ F [] []
 |cons {a:Addr}{xs:List (Key×V)}{kvs:Zs}{as:Qg}{ms:List Zs}:F a=some (.dK xs)->PairK F xs kvs->MadeZ F as ms->MadeZ F (a::as) (kvs::ms)
def MadeZ.mono(s:Q4 F F'):∀{as:Qg} {ms:List Zs},MadeZ F as ms->MadeZ F' as ms:=by
 intro as ms h;induction h with
 |nil=>exact .nil
 |cons U j _ f=>exact .cons (s _ _ U) (j.mono s) f
def MadeD.fz(s:Q4 F F'):∀{as:Qg} {ms:List Zs},(∀a∈as,F' a=H a)->MadeD F H as ms->MadeZ F' as ms:=by
 intro as ms f h;induction h with
 |nil=>exact .nil
 |cons _ A q _ j=>exact .cons (by rw[f _ Xb];exact A) (q.mono s) (j λa m=>f a<|Xf _ m)
noncomputable abbrev hfs(y:V)(n:Int)(k g d m:Addr):List (Str×V):=[("yard",y),("present",.int n),("known",.ref k),("given",.ref g),("gone",.ref d),("made",.ref m)]
structure HandOk(C:Addr)(N:HandS)(F H:Hp)(a u k g d m:Addr)(y:V)(xs:List (Key×V))(as:Qg):Prop where
 nd:(a::u::k::g::d::m::as).Nodup
 ins:F a=none/\H a=some (.ins C u<|hfs y N.now k g d m)
 own:F u=none/\H u=some (.own a)
 yd:Rep F y N.yard
 known:Yz F H k N.known
 given:Yz F H g (N.given.map PyData.int)
 gone:F d=none/\H d=some (.dK xs)/\PairK F xs N.gone
 made:F m=none/\H m=some (.lst<|as.map V.ref)/\MadeD F H as N.made
def HandOk.mono{g m:Addr}{xs:List (Key×V)}(o:HandOk C N F H a u k g d m y xs as)(s:Q4 F F')(h:∀b∈a::u::k::g::d::m::as,F' b=none)(f:∀b∈a::u::k::g::d::m::as,J b=H b):HandOk C N F' J a u k g d m y xs as:=by
 obtain⟨B,⟨l,P⟩,⟨e,A⟩,q,⟨k1,M,k2,k3⟩,⟨n,W,Y,X⟩,⟨p,c,Z⟩,⟨i,K,D⟩⟩:=o;exact#[B,#[h _<|by simp,by rw[f _<|by simp];exact P],#[h _<|by simp,by rw[f _<|by simp];exact A],q.mono s,#[h _<|by simp,M,by rw[f _<|by simp];exact k2,k3.mono s],#[h _<|by simp,W,by rw[f _<|by simp];exact Y,X.mono s],
  #[h _<|by simp,by rw[f _<|by simp];exact c,Z.mono s],#[h _<|by simp,by rw[f _<|by simp];exact K,D.mono s (λb j=>h b<|by simp[j]) λb j=>f b<|by simp[j]]]
inductive HandPk(C:Addr)(N:HandS)(F H:Hp)(v:V)(p:Qg):Prop
 |mk (a u k g d m:Addr)(y:V)(xs:List (Key×V))(as:Qg)(e:v=.ref a)(ep:p=a::u::k::g::d::m::as)(o:HandOk C N F H a u k g d m y xs as):HandPk C N F H v p
def Zf(C:Addr)(N:HandS):OwnP where
 ok _ F H v p:=HandPk C N F H v p
 there:=by
  rintro K F H v p ⟨a,u,k,g,d,m,y,xs,B,rfl,rfl,o⟩ b h;obtain⟨_,⟨A,f⟩,⟨W,P⟩,_,⟨k1,E,k2,_⟩,⟨l,I,e,_⟩,⟨t,r,_⟩,⟨m1,m2,m3⟩⟩:=o;simp only[Xc]at h;rcases h with rfl|rfl|rfl|rfl|rfl|rfl|h
  .exact#[A,ZE f]
  .exact#[W,ZE P]
  .exact#[k1,ZE k2]
  .exact#[l,ZE e]
  .exact#[t,ZE r]
  .exact#[m1,ZE m2]
  .exact m3.mem b h
 mono:=by
  rintro K F R H J v p s Z Y ⟨a,u,k,g,d,m,y,xs,B,rfl,rfl,o⟩;exact#[a,u,k,g,d,m,y,xs,B,rfl,rfl,o.mono s Z Y]
 uniq:=by
  rintro K F H v p q ⟨a,u,k,g,d,m,y,xs,B,rfl,rfl,o⟩ ⟨Q,n,G,L,O,z,x,M,w,ev,rfl,D⟩ c X;cases ev;have i:=o.ins.2.symm.trans D.ins.2;injection i with i;injection i with _ A f;subst A;simp only[hfs,List.cons.injEq,Prod.mk.injEq,true_and,and_true,V.ref.injEq]at f;obtain⟨rfl,rfl,rfl,rfl,rfl⟩:=f;have j:=o.made.2.1.symm.trans D.made.2.1;injection j with j;injection j with j;rw[NW j];exact X
structure HandFz(C:Addr)(N:HandS)(F:Hp)(a u k g d m:Addr)(y:V)(ks S:List V)(xs:List (Key×V))(as:Qg):Prop where
 ins:F a=some (.ins C u<|hfs y N.now k g d m)
 yd:Rep F y N.yard
 known:F k=some (.lst ks)/\Zt F ks N.known
 given:F g=some (.lst S)/\Zt F S (N.given.map PyData.int)
 gone:F d=some (.dK xs)/\PairK F xs N.gone
 made:F m=some (.lst<|as.map V.ref)/\MadeZ F as N.made
def QY(C:Addr)(N:HandS):ZP where
 ok K F v := ∃a u k g d m y f S xs j,v=.ref a/\HandFz C N F a u k g d m y f S xs j
 mono:=by
  rintro K F X v s ⟨a,u,k,g,d,m,y,f,S,xs,j,rfl,⟨U,W,⟨P,M⟩,⟨h5,D⟩,⟨B,A⟩,⟨q,h⟩⟩⟩;exact#[a,u,k,g,d,m,y,f,S,xs,j,rfl,s _ _ U,W.mono s,#[s _ _ P,M.mono s],#[s _ _ h5,D.mono s],#[s _ _ B,A.mono s],#[s _ _ q,h.mono s]]
def Zf.fz(h:(Zf C N).ok K F H v p)(s:Q4 F F')(he:∀b∈p,F' b=H b):(QY C N).ok K F' v:=by
 obtain⟨a,u,k,g,d,m,y,xs,Z,rfl,rfl,o⟩:=h;obtain⟨c,⟨i,B⟩,_,f,⟨k1,A,k2,k3⟩,⟨l,M,W,P⟩,⟨n,Y,X⟩,⟨e,q,j⟩⟩:=o;exact#[a,u,k,g,d,m,y,A,M,xs,Z,rfl,by rw[he _<|by simp];exact B,f.mono s,#[by rw[he _<|by simp];exact k2,k3.mono s],#[by rw[he _<|by simp];exact W,P.mono s],#[by rw[he _<|by simp];exact Y,X.mono s],#[by rw[he _<|by simp];exact q,j.fz s λb D=>he b<|by simp[D]]]
structure HandC(K:W.Frag)(C:Addr):Prop where
 cl:Cls K C
 yd:Ve K C "yard"
 pr:Ve K C "present"
 kn:Ve K C "known"
 gv:Ve K C "given"
 go:Ve K C "gone"
 md:Ve K C "made"
def NoH(m:Str):Prop := ∀(y:V) (n:Int) (k g d e:Addr),(hfs y n k g d e).lookup m=none
section
variable {ty:TE}{i:Nat}{N:HandS}
def QB.hz(j:QB K D F Z O H)(e:zg Z i<|zz<|QY C N):∃a u k g d m y f S xs as,O[i]?=some (some<|.ref a)/\HandFz C N F a u k g d m y f S xs as:=by
 apply I0 j.fp;intro s h _;apply aP (h i _ e);rintro v q _ a⟨u,k,g,d,m,y,f,S,xs,as,rfl,U⟩;exact#[a,u,k,g,d,m,y,f,S,xs,as,q,U]
def J9(c:HandC K C)(e:zg Z i<|zz<|QY C N):Qr K (Va K (Q5 i) "yard") Z N.yard:=λD F O H Q f q=>by
 apply ac (f.hz e);rintro a u k g d m y j S xs s⟨h,o⟩;exact#[_,h,a,C,u,_,y,rfl,f.sub _ _ o.ins,c.cl,c.yd,rfl,q F H y (Q1.refl f.sub) o.yd]
def Mc(c:HandC K C)(e:zg Z i<|zz<|QY C N):Qr K (Va K (Q5 i) "present") Z (.int N.now):=λD F O H Q f q=>by
 apply ac (f.hz e);rintro a u k g d m y j S xs s⟨h,o⟩;exact#[_,h,a,C,u,_,.int N.now,rfl,f.sub _ _ o.ins,c.cl,c.pr,rfl,q F H _ (Q1.refl f.sub)<|.int _]
def M3(c:HandC K C)(e:zg Z i<|zz<|QY C N):Qr K (Va K (Q5 i) "known") Z (.list N.known):=λD F O H Q f q=>by
 apply ac (f.hz e);rintro a u k g d m y j S xs s⟨h,o⟩;exact#[_,h,a,C,u,_,.ref k,rfl,f.sub _ _ o.ins,c.cl,c.kn,rfl,q F H _ (Q1.refl f.sub)<|.lst o.known.1 o.known.2]
def Zoq(c:HandC K C)(e:zg Z i<|zz<|QY C N):Qr K (Va K (Q5 i) "given") Z (.list<|N.given.map PyData.int):=λD F O H Q f q=>by
 apply ac (f.hz e);rintro a u k g d m y j S xs s⟨h,o⟩;exact#[_,h,a,C,u,_,.ref g,rfl,f.sub _ _ o.ins,c.cl,c.gv,rfl,q F H _ (Q1.refl f.sub)<|.lst o.given.1 o.given.2]
def Zpr(c:HandC K C)(s:Qr K ty Z (JM k))(e:zg Z i<|zz<|QY C N):Qr K (MX ty<|Va K (Q5 i) "gone") Z (.bool (Wf N.gone k).isSome):=λD F O H Q h q=>
 s D F O H _ h λM E y f j=>by
  apply ac ((h.ext f).hz e);rintro a u b g d m X Y S xs n⟨B,o⟩;refine#[_,B,a,C,u,_,.ref d,rfl,f.fh _ _ o.ins,c.cl,c.go,rfl,?_];rw[ND j];refine#[d,_,rfl,V8.zk<|f.fh _ _ o.gone.1,?_];have A:(Z7 xs k).isSome=(Wf N.gone k).isSome:=by
   rcases o.gone.2.val k with _|⟨x,l,W,P,_⟩
   .simp_all
   .simp_all
  rw[A];exact q M E _ f (.bl _)
def NM(l:NoH m)(e:zg Z i<|zz<|QY C N)(h:Zi K t Z ts)(o:R (.zow (QY C N)::ts) Φ):
 Zz K (ZY C m (Zm K R) [] H1 (Q5 i) t) Z Φ:=λD F O H Q j q=>by
 apply ac (j.hz e);rintro a u k g d W y X S xs w⟨r,A⟩;exact#[_,r,a,u,_,rfl,j.sub _ _ A.ins,l _ _ _ _ _ _,h D F O H _ j λG E I f M=>#[G,_,Φ,(j.ext f).kt,f.fh,.zow ((QY C N).mono f.ff #[a,u,k,g,d,W,y,X,S,xs,w,rfl,A])<|by rw[Xp];exact M,o,λz x v p P Y B c s=>q z x v p P Y (f.trans B) (λb n=>f.hh.free<|c b n) s]]
def OU(f:NoH m)(e:zg Z i<|zz<|QY C N)(h:Zi K t Z ts)(j:R (.zow (QY C N)::ts) (λr=>r=.fz d)):Qr K (ZY C m (Zm K R) [] H1 (Q5 i) t) Z d:=EvO.e (Zz.o<|NM f e h j)
def Ml(i:Nat)(e:zg Z i<|zo v<|Zf C N)(f:∀r,Φ r->JP r)(h:Zz K t (Z.set i<|zz<|QY C N) Φ):Zz K t Z Φ:=
 Rb i e (λa b c=>Zf.fz a b c) f h
def NJ(i:Nat)(e:zg Z i<|zo v<|Zf C N)(j:V1 d=some dx)(h:Qr K t (Z.set i<|zz<|QY C N) d):Qr K t Z d:=
 EvO.e (Zz.o<|Ml i e (λr f=>by subst f;exact Bf j)<|h.o.d rfl)
def Fz{b:Bool}(i:Nat)(e:zg Z i<|zo v<|Zf C N)(h:QZ K t (Z.set i<|zz<|QY C N) b):QZ K t Z b:=λD F O H Q m q=>by
 exact I0 (m.freezeZ e (λa b c=>Zf.fz a b c)) λp f s=>h D _ O H Q s λA J x=>q _ J (Ul (λa j=>#[(f a j).1,(f a j).2.1]) x)
def QB.hand(l:QB K D F Z O H)(e:zg Z i<|zo v<|Zf C N):
 ∃a u k g d m y xs as,v=.ref a/\O[i]?=some (some<|.ref a)/\HandOk C N F H a u k g d m y xs as/\(∀b∈a::u::k::g::d::m::as,D b=none/\F b=none/\H b≠none)/\
  ∀(J:Hp) (A:HandS) (s:V) (j:List (Key×V)) (f:Qg),Q4 F J->(∀b,b∉a::u::k::g::d::m::as->H b≠none->J b=H b)->(∀b,H b≠none->J b≠none)->
   HandOk C A F J a u k g d m s j f->(∀b∈f,b∈as\/(H b=none/\D b=none))->QB K D F (Z.set i<|zo v<|Zf C A) O J:=by
 apply aV (l.writeOwn e);rintro n p⟨a,u,k,g,d,m,y,xs,as,rfl,rfl,M⟩P B;refine#[a,u,k,g,d,m,y,xs,as,rfl,n,M,P,λJ A s j f U c Y X W=>B J _ _ U c Y #[a,u,k,g,d,m,s,j,f,rfl,rfl,X] λb q=>?_];simp only[Xc]at q ⊢;rcases q with h|h|h|h|h|h|q
 .exact .inl (.inl h)
 .exact .inl (.inr<|.inl h)
 .exact .inl (.inr<|.inr<|.inl h)
 .exact .inl (.inr<|.inr<|.inr<|.inl h)
 .exact .inl (.inr<|.inr<|.inr<|.inr<|.inl h)
 .exact .inl (.inr<|.inr<|.inr<|.inr<|.inr<|.inl h)
 .rcases W b q with z|z
  .exact .inl (.inr<|.inr<|.inr<|.inr<|.inr<|.inr z)
  .exact .inr z
def HandOk.same{g m:Addr}{xs:List (Key×V)}
(i:HandOk C N F H a u k g d m y xs as)(f:HandOk C N' F' J a dx' k' g' d' m' y' xs' as')(s:J a=H a):dx'=u/\k'=k/\g'=g/\d'=d/\m'=m/\y'=y:=by
 have h:=f.ins.2;rw[s,i.ins.2]at h;grind
def HandOk.setKnown{g m:Addr}{xs:List (Key×V)}(j:HandOk C N F H a u k g d m y xs as)(P:Zt F za ns):
 HandOk C { N with known:=ns } F (upd H k<|.lst za) a u k g d m y xs as:=by
 obtain⟨h,⟨M,K⟩,⟨s,q⟩,i,⟨k1,v,k2,k3⟩,⟨Z,W,Y,X⟩,⟨e,c,b⟩,⟨D,B,A⟩⟩:=j;have f:=h;simp only[XN,Xc,not_or]at f;apply aF f;rintro⟨w,t,_⟩⟨r,_⟩⟨p,o,n,l⟩_;exact#[h,#[M,by rw[Qv t];exact K],#[s,by rw[Qv r];exact q],i,#[k1,za,QF,P],#[Z,W,by rw[Qv<|Ne.symm p];exact Y,X],#[e,by rw[Qv<|Ne.symm o];exact c,b],#[D,by rw[Qv<|Ne.symm n];exact B,A.other l]]
def HandOk.setGiven{g m:Addr}{xs:List (Key×V)}(j:HandOk C N F H a u k g d m y xs as){ns:Ql}(W:Zt F za (ns.map PyData.int)):
 HandOk C { N with given:=ns } F (upd H g<|.lst za) a u k g d m y xs as:=by
 obtain⟨h,⟨P,M⟩,⟨s,q⟩,i,⟨k1,K,k2,k3⟩,⟨X,r,v,t⟩,⟨l,e,c⟩,⟨D,B,A⟩⟩:=j;have f:=h;simp only[XN,Xc,not_or]at f;apply Hs f;rintro⟨z,x,p,_⟩⟨w,o,_⟩⟨n,_⟩⟨b,Z,Y⟩_;exact#[h,#[P,by rw[Qv p];exact M],#[s,by rw[Qv o];exact q],i,#[k1,K,by rw[Qv n];exact k2,k3],#[X,za,QF,W],#[l,by rw[Qv<|Ne.symm b];exact e,c],#[D,by rw[Qv<|Ne.symm Z];exact B,A.other Y]]
variable {v:V}
def ZrE(c:HandC K C)(e:zg Z i<|zo v<|Zf C N)(h:Qr K te Z n)(T:N.known.length<1000)
(hn:H0.nx (Z.set i<|zo v<|Zf C { N with known:=N.known++[n] })):QE K (Vq<|tBM K "list" VI (Va K (Q5 i) "known")<|Q3 te QH) Z H0:=λF0 D F O H H1 x A Q=>by
 apply aY (A.hand e);rintro a u k g d m y xs as rfl G q _;refine#[_,G,a,C,u,_,.ref k,rfl,q.ins.2,c.cl,c.kn,rfl,.inl #[rfl,_,SqL.of q.known.2.choose_spec.1],h D F O H _ A λL E J s o=>?_];apply aY ((A.ext s).hand e);rintro a' I X g' d' S Y B P w U f⟨t,l⟩;cases w;apply aA (q.same f ((s.hh _ _ q.ins.2).trans q.ins.2.symm));rintro rfl rfl rfl rfl rfl rfl;apply By f.known;intro R p r W;have j:=t X (by simp);exact#[X,p,J,rfl,rfl,r,by rw[W.length];exact Vz<|#[],Q.nx L O _ _ ((x.trans s).wr j.1 j.2.1) (l _ { N with known:=N.known++[n] } Y B P ((A.ext s).sub.upd j.2.1) (λb M _=>Qv λz=>M<|by rw[z];simp) YN (f.setKnown<|W.snoc o) λb M=>.inl M) hn]
def ZqQ(c:HandC K C)(e:zg Z i<|zo v<|Zf C N)(h:Qr K te Z (.int n))(U:N.given.length<1000)
(hn:H0.nx (Z.set i<|zo v<|Zf C { N with given:=N.given++[n] })):QE K (Vq<|tBM K "list" VI (Va K (Q5 i) "given")<|Q3 te QH) Z H0:=λF0 D F O H H1 x A Q=>by
 apply aY (A.hand e);rintro a u k g d m y xs as rfl G q _;refine#[_,G,a,C,u,_,.ref g,rfl,q.ins.2,c.cl,c.gv,rfl,.inl #[rfl,_,SqL.of q.given.2.choose_spec.1],h D F O H _ A λL E J s o=>?_];apply aY ((A.ext s).hand e);rintro a' I T X d' S Y B P w g1 f⟨t,l⟩;cases w;apply aA (q.same f ((s.hh _ _ q.ins.2).trans q.ins.2.symm));rintro rfl rfl rfl rfl rfl rfl;apply By f.given;intro R p r W;have j:=t X (by simp);exact#[X,p,J,rfl,rfl,r,by rw[W.length,Xe];exact Vz<|#[],Q.nx L O _ _ ((x.trans s).wr j.1 j.2.1) (l _ { N with given:=N.given++[n] } Y B P ((A.ext s).sub.upd j.2.1) (λb M _=>Qv λz=>M<|by rw[z];simp) YN (f.setGiven<|by rw[Xv];exact W.snoc o) λb M=>.inl M) hn]
end
end L2
namespace L2
inductive SpP(K:W.Frag){α:Type}(Φ:α->OwnP)(R:α->List OT->(OT->α->Prop)->Prop)(vs:List V)(H:Hp)(Q:VK):Prop
 |mk (F:Hp)(v0:V)(vs':List V)(p:Qg)(ts:List OT)(N:α)(Ψ:OT->α->Prop)(e:vs=v0::vs')(kt:KTs K F)(sm:Q4 F H)(ha:Args K F vs' ts)(ok:(Φ N).ok K F H v0 p)(hR:R N ts Ψ)
  (k:∀F' J p' N' v r q,Ψ r N'->ExtN p F H F' J->(Φ N').ok K F' J v0 p'->(∀b∈p',b∈p\/H b=none)->Zy K F' J v r q->(∀b∈q,(b∈p\/H b=none)/\b∉p')->Q v J):SpP K Φ R vs H Q
def spP(K:W.Frag){f:Type}(Φ:f->OwnP)(R:f->List OT->(OT->f->Prop)->Prop):Sp:=λh H Q _=>SpP K Φ R h H Q
abbrev spH(K:W.Frag)(C:Addr)(R:HandS->List OT->(OT->HandS->Prop)->Prop):Sp:=spP K (Zf C) R
def G6(K:W.Frag)(C CR:Addr){δ:Type}(FL:Addr->Hp->Hp->Hp->Qj->δ->Prop)(R:HandS->List OT->(OT->HandS->Prop)->Prop)(j:List OT->(δ->Prop)->Prop):Sp:=λh H Q f=>(∃RR,f=XE CR RR/\ZN CR RR/\spH K C R h H Q f)\/Zg K CR FL (λ_ _=>False) j h H Q f
abbrev Av(K:W.Frag)(C CR:Addr)(f:Str)(R:HandS->List OT->(OT->HandS->Prop)->Prop)(Rx:List OT->(Qd->Prop)->Prop):Sp:=G6 K C CR (Fld f) R Rx
def EvR(K:W.Frag)(t:TS)(Z:ZbB)(Ψ:OT->ZbB->Prop):Prop := ∀(F0 D F:Hp) (O:St) (H:Hp) (B:Ends),Q1 F0 D F H->QB K D F Z O H->
 (∀j h J f v r q,Q1 F0 D j J->QB K D j f h J->Zy K j J v r q->(∀a∈q,D a=none)->(∀a∈q,∀A m s,f[0]?=some (some m)->h[0]?=some (some A)->Zy K j J A m s->a∉s)->Ψ r f->B.rt v J)->t B O H
section
variable {t dx:TS}{Ψ:OT->ZbB->Prop}
def VQ(M:ZbB->Prop)(U:QE K t Z { nx:=M,rt:=λ_=>False })(m:∀f,M f->EvR K dx f Ψ):EvR K (Vh t dx) Z Ψ:=λF0 D F O H A x q k=>
 U F0 D F O H _ x q #[λB h J f j s e=>m f e F0 D B h J A j s k,λ_ _ _ _ _ _ _ _ z=>z.elim,λ_ _ _ _ _ _ z=>False.elim z,λ_ _ _ _ _ _ z=>False.elim z]
def W6(U:QE K t Z { nx:=λf=>f=e,rt:=λ_=>False })(j:EvR K dx e Ψ):EvR K (Vh t dx) Z Ψ:=VQ _ U λf h=>by exact h▸j
def UO(h:Qr K te Z d)(m:Ψ (.fz d) Z):EvR K (VJ te) Z Ψ:=λF0 D F O H s x j k=>
 h D F O H _ j λq J v f r=>k q O J Z v (.fz d) [] (x.trans f) (j.ext f) #[rfl,r] (by rintro _ ⟨⟩) (by rintro _ ⟨⟩) m
def AG{b:Bool}(h:QZ K tA Z b)(U:b=true->EvR K t Z Ψ)(s:b=false->EvR K dx Z Ψ):EvR K (Ws tA t dx) Z Ψ:=λF0 D F O H m x j k=>
 h D F O H _ j λq J f=>by
  cases b with
  |true=>rw[Xi rfl];exact U rfl F0 D q O J m (x.trans f) (j.ext f) k
  |false=>rw[Xg<|by decide];exact s rfl F0 D q O J m (x.trans f) (j.ext f) k
variable {α:Type}{Φ:α->OwnP}{N:α}
abbrev fiO{α:Type}(v:V)(Φ:α->OwnP)(Ψ:OT->α->Prop):OT->ZbB->Prop:=λr ρ'=>∃M',Ψ r M'/\ρ'[0]?=some (zo v<|Φ M')
def DK{R:α->List OT->(OT->α->Prop)->Prop}{Ψ:OT->α->Prop}
(h:EvR K t (ini L (.own v0 (Φ N)::ts)) (fiO v0 Φ Ψ))
(c:KTs K F)(D:Q4 F H)(g:Args K F vs ts)(a:(Φ N).ok K F H v0 p)
(q:∀m J B P v r q,Ψ r P->ExtN p F H m J->(Φ P).ok K m J v0 B->(∀b∈B,b∈p\/H b=none)->Zy K m J v r q->(∀b∈q,(b∈p\/H b=none)/\b∉B)->Q v J):
 t { nx:=q0,rt:=Q } (start L (v0::vs)) H:=by
 have C:∀b,(λb=>if b∈p then none else H b:Hp) b=none->b∈p\/H b=none:=λb f=>by
  grind
 refine h F _ F _ H _ #[λb o f=>?_,Q4.refl _,D,λ_ h=>.inl h] (CU c D g a) λm W J X v r Z s n A d e ⟨u,i,M⟩=>?_
 .grind
 .apply L3 n.fp;intro y l x k;apply L3 (l 0 _ M);rintro dx Y rfl j;refine q m J _ u v r Z i #[λb o w f=>s.hh b o<|#[],s.ff,s.fh,λb f=>?_] j (λb f=>C b (k 0 b f).1) A (λb f=>#[C b<|d b f,e b f _ _ _ M Y #[rfl,j]]);rcases s.fr b f with z|z
  .exact .inl z
  .exact .inr ((C b z).symm)
end
def ZH(P:Program)(w:World)(K:W.Frag)(mg:Str->Qf)(base:Heap)(C:Addr)(m:Str)(ps:Qh)(k:Nat)(sp:Sp):Prop:=
 ∃f fd,Meth K C m f/\ZW K fd ps []/\FnOk P w K mg base (CX1 P w) k f fd ps sp
section
variable {w:World}{base:Heap}{CR:Addr}
noncomputable def Mf.evHXn{m qual:Str}{st:Stmt}{L ps:Qh}{k:Nat}{δ:Type}{FL:Addr->Hp->Hp->Hp->Qj->δ->Prop}{R:HandS->List OT->(OT->HandS->Prop)->Prop}{n:List OT->(δ->Prop)->Prop}(H0:Mf K C m qual st ps)(E:Qo L ps (Q8 st))
(X:∀f H RR v M ts Ψ,ZN CR RR->R M ts Ψ->B1 P w K mg base L qual st k f H (XE CR RR) λt=>EvR K (Vh t<|VJ<|tC .non) (ini L (.own v (Zf C M)::ts))<|fiO v (Zf C) Ψ)
(Y:∀f,ZX P w K mg base L qual st k CR FL n f)(d:∀M ts Ψ,R M ts Ψ->ts.length+1=ps.length:=by intro _ _ _ h;cases h<;>rfl)(W:∀ts Φ,n ts Φ->ts.length=ps.length:=by intro _ _ h;cases h<;>rfl):ZH P w K mg base C m ps (k+1) (G6 K C CR FL R n):=by
 refine H0.go λf fd F=>F.okX E (λx H Q G h=>?_) λx H Q G h Z A outer s u=>?_
 .rcases h with ⟨RR,_,_,F,o,c,p,ts,M,Ψ,e,_,_,B,_,D,_⟩|⟨F,ts,_,_,B,RR,_,_,q⟩
  .rw[e,XY,B.length];exact d _ _ _ D
  .rcases q with ⟨_,z,_⟩|⟨r,D,_⟩
   .exact z.elim
   .exact B.length.trans (W ts r D)
 .rcases h with ⟨RR,l,j,F,o,c,p,ts,M,Ψ,e,g,a,B,y,D,q⟩|⟨F,ts,g,a,B,RR,rfl,j,q⟩
  .subst e l;exact I0 (X f H RR o M ts Ψ j D Z A outer s u) λt U i=>#[t,U,DK (R:=R) (q0:=λ_ _=>False) i g a B y q]
  .rcases q with ⟨_,z,_⟩|⟨b,D,q⟩
   .exact z.elim
   .exact I0 (Y f F H RR ts b j q D Z A outer s u) λt U i=>#[t,U,i F _ H _ (Q1.refl a)<|Gd g a B]
end
def Mp  {o:Expr}  {k:Nat}{h:Sem Bool}(M:ZG X.prog X.w X.K X.mg X.base C m ps j sp)(c:HandC X.K C)(s:Room k X.A)(he:PE X o ta)(B:j<=k:=by walk_at"j")
(q:eval (.Call (.Attribute o m X3) [] [] pos) X.env=(do
  let ov <- eval o X.env
  standAt X3.atName
  let (f,first) <- holding [ov] (getMethod ov m h)
  callWith pos f first (backTo pos<|starEach [] X.env)<|backToKw pos<|keywordEach [] X.env):=by rfl):
 PE X (.Call (.Attribute o m X3) [] [] pos) (ZY C m sp [] E0 ta QH):=by
 exact SF M λf fd A D F=>Fx he c.cl A F (s.mono B) D .nil Js q
def YO  {o e:Expr}  {t:TA}{k:Nat}{q:XK}{s:Sem Bool}(M:ZH X.prog X.w X.K X.mg X.base C m ps j sp)(c:HandC X.K C)(D:Room k X.A)(A:VR (CX1 X.prog X.w) X q)(he:PE X o ta)(Y:PA X (e::es) t)(P:j<=k:=by walk_at"j")
(h:zs X e es:=by rfl)(hpl:zb X pos es:=by rfl)
(B:eval (.Call (.Attribute o m X3) (e::es) [] pos) X.env=(do
  let ov <- eval o X.env
  standAt X3.atName
  let (f,first) <- holding [ov] (getMethod ov m s)
  callWith pos f first (backTo pos<|starEach (e::es) X.env)<|backToKw pos<|keywordEach [] X.env):=by rfl):
 PE X (.Call (.Attribute o m X3) (e::es) [] pos) (ZY C m sp [] q ta t):=by
 exact SF M λf fd K W F=>Nw he c.cl K F (D.mono P) W .nil A Y h hpl B
section
variable {v:V}{N:HandS}
def Zf.at(h:(Zf C N).ok K F H v p):∃a u y n k g d e,v=.ref a/\H a=some (.ins C u<|hfs y n k g d e):=by
 obtain⟨a,u,k,g,d,m,y,xs,f,rfl,_,o⟩:=h;exact#[a,u,y,_,k,g,d,m,rfl,o.ins.2]
end
def MY(C:Addr):Sp:=λf H Q _=>∃x u y,f=[.ref x,y]/\H x=some (.ins C u [])/\∀k g d m J,H k=none->H g=none->H d=none->H m=none->[x,k,g,d,m].Nodup->
 J x=some (.ins C u<|hfs y 0 k g d m)->J k=some (.lst [])->J g=some (.lst [])->J d=some (.dK [])->J m=some (.lst [])->(∀b,b∉[x,k,g,d,m]->J b=H b)->Q .non J
def Kp(P:Program)(w:World)(K:W.Frag)(mg:Str->Qf)(base:Heap)(x:Str)(C:Addr)(ps:Qh)(k:Nat):Prop:=
 ∃f fd,Mk K C f/\mg x=some (.ref C)/\ZW K fd ps []/\FnOk P w K mg base CX0 k f fd ps (MY C)
def ZsS  {x:Str}{p:Pos}{e:Expr}{t:TA}{k:Nat}(M:Kp X.prog X.w X.K X.mg X.base x C ps j)(m:Room k X.A)(B:PA X (e::es) t)(s:j+1<=k:=by walk_at"j")(hg:Gl X x:=by rfl)(h:(x==("__debug__" : Str))=false:=by decide +kernel)
(he:zs X e es:=by rfl)(hpl:zb X pos es:=by rfl):
 PE X (.Call (.Name x p) (e::es) [] pos) (WL C (MY C) [] E0 t):=by
 exact RC M λf fd M q A F=>Nk M F (m.mono s) hg q A .nil Js B h he hpl
def Zsc(h:Qr K ta Z yd):EvX K (WL C (MY C) [] H1<|Q3 ta QH) Z (Zf C #[yd,0,[],[],[],[]]):=λD F O H Q N q=>h D F O H _ N λR E Y P S=>λx u X B W=>by
 have w:=N.ext P;refine#[x,u,Y,rfl,QF,λe r l d J he T hl hd g U h2 h3 h4 h5 v=>#[rfl,?_]];have M:∀{b:Addr},upd (upd E u<|.own x) x (.ins C u []) b=none->E b=none/\b≠x/\b≠u:=λ{b} f=>by
  have k:b≠x:=λz=>by rw[z,QF]at f;cases f
  rw[Qv k]at f;have i:b≠u:=λz=>by rw[z,QF]at f;cases f
  rw[Qv i]at f;exact#[f,k,i]
 refine KE (M he) λG e2 y=>KE (M T) λs r2 a=>KE (M hl) λp l2 n=>KE (M hd) λL d2 I=>?_;have A:J u=some (.own x):=by
  rw[v u<|by simp only[Xc,XH,or_false,not_or];exact#[W,Ne.symm y,Ne.symm a,Ne.symm n,Ne.symm I],Qv W,QF]
 have t:∀b o,E b=some o->J b=some o:=λb o f=>by
  have j:∀{c:Addr},E c=none->b≠c:=λhc z=>by rw[z,hc]at f;cases f
  rw[v b<|by simp only[Xc,XH,or_false,not_or];exact#[j X,j G,j s,j p,j L],Qv<|j X,Qv<|j B];exact f
 have m:∀{b:Addr},E b=none->R b=none:=λf=>w.sub.free f;refine q R J (.ref x) [x,u,e,r,l,d] (P.trans #[t,Q4.refl _,λb o f=>t b o<|w.sub b o f,λ_ h=>.inl h]) (λb f=>?_) #[x,u,e,r,l,d,Y,[],[],rfl,rfl,?_,#[m X,U],#[m B,A],S,#[m G,[],h2,.nil],#[m s,[],h3,.nil],#[m p,h4,.nil],#[m L,h5,.nil]]
 .refine P.hh.free ?_
  grind
 .simp only[XN,Xc,XH,or_false,not_or]at g ⊢;apply aF g;rintro⟨a1,a2,a3,a4⟩b1 c1 f1;exact#[#[Ne.symm W,a1,a2,a3,a4],#[Ne.symm y,Ne.symm a,Ne.symm n,Ne.symm I],b1,c1,f1]
end L2
namespace L2
section
variable {O:St}{H:Hp}
def ZnY(l:Qt X Y O H s)(d:X.N.Nodup)(C:X.N[i]?=some x)(j:X.env.scope.names.lookup x=some .cell)(B:X.fn x=true)
(h:∀a,Qt X Y (O.set i none) H a->Q () a):wpAny M A (do bindName X.env x .none;unbindBehindTheSuite X.env x pos) Q H1 s:=by
 have W:i<O.length:=by rw[l.len];exact(Xh.mp C).1
 refine Xa (wpAny_bindName<|DQ (v:=.non) l d C (.inr j) rfl (λs I=>?_)<|.inl B);apply I0 (id I.loc);intro m r b;have u:=I.cne;obtain⟨c,f⟩:=I.ok.has x (.inl j);have D:s.heap.IsCell c (some .none):=by
  apply I0 (b i x .non C (by rw[X6 W]) (.inr<|.inl j));intro t o q;cases o;rcases q with ⟨k,_⟩|⟨k,g,e,z⟩
  .have z:=j.symm.trans k;cases z
  .rw[f]at e;cases e;exact z
 refine wpAny_onRaise<|Xa (wpAny_point<|Xa ?_);unfold deleteName;have P:X.env.kindOf x=some .cell:=j;simp only[P];refine Xa (wpAny_cellOf f<|Xa<|wpAny_cellGet D (wpAny_cellSet D λh' Z K=>wpAny_point (h _<|List.set_set .. ▸ I.poke (ov:=none) d C K (I.ok.cab x c B f) (I.freeC x c f) (.inr #[#[_,D],_,Z]) (r.sameBut K<|Ne.symm<|I.cne x c f) b (by rintro _ ⟨⟩) λy t p q=>q.imp id<|by rintro⟨k,g,e,n⟩;exact#[k,g,e,n.sameBut K λq=>p<|I.ok.inj _ _ _ (q▸e) f])))
end
def EHc(C:Addr)(th:Addr->TS)(H0:Ends)(n j:Nat):XK:=XE C λe f H=>∀(O:St) J T,O.length=n->Lefts C e f H J->J T=none->T≠e->th e (Dh H0 j) (O.set j<|some<|.ref e) (left C e f T J)
def Ge{H0:Ends}:ZN C λe f H=>∀(O:St) J T,O.length=n->Lefts C e f H J->J T=none->T≠e->th e (Dh H0 j) (O.set j<|some<|.ref e) (left C e f T J):=λ_ _ _ _ r hT h O J s m q=>r O J s m (.head hT h q)
section
variable {B:Addr}{tb:Ends->TS}{x n:Str}
def ZpI{O:St}{H0:Ends}(cm:W.exmOne X.K (.ref C) (.ref B)=some true)(m:X.Ok)(h:X.stack=X.env::X.outer)(c:X.env.frame=some X.env.locals)(hg:Gl X x)(hm:X.mg x=some (.ref B))
(k:X.N.Nodup)(b:X.N[j]?=some n)(A:X.env.scope.names.lookup n=some .local\/(X.env.scope.names.lookup n=some .cell/\X.fn n=true))
(hh:∀e pn,PSs (WD X e pn) (b0::suite)<|th e)(I:Qt { X with pn:=X.pn++Y } [] O H s)(i:T0≠e)(he:H e=some (.ext<|phF C e dct T0))(hT:H T0=some (.ext<|phT T0))
(hd:(x==("__debug__" : Str))=false)
(hq:∀T,H T=none->T≠e->th e (Dh H0 j) (O.set j<|some<|.ref e) (left C e dct T H))(t:∀f r,SP X Y H0 f r->Q f r):
 wpAny (model X.prog X.w) X.A (noteFrame (.ref e) X.env) (λ_ G=>wpAny (model X.prog X.w) X.A (setFlight (.ref e) none) (λ_ P=>wpAny (model X.prog X.w) X.A (handleBy (.ref e) X.env (.ExceptHandler (some<|.Name x np) (some n) (b0::suite) hpos::rest)) Q H1 P) H1 G) H1 s:=by
 apply KE (I.hok e _ he);rintro⟨vs,sl,a,U,l⟩_ _;apply KE (I.hok T0 _ hT);rintro⟨oT,ts,Z,u,h3⟩_ _
 have o:=I.stack;have o:s.heap.FunFrames X.base (X.env::X.outer):=by rw[<- h];exact o
 refine RX (by rw[m.frames,h]) o c a rfl U i Z u h3 λh' T K=>?_;have y:=Hb I (by rw[he];trivial) a (Array.getElem?_eq_some_iff.mp U).1 l (by exact h▸K);have D:=VZ (XI (Xk a) K.new);have M:Qt (WD X e<|X.pn++Y) [] O _ { s with heap:=h' }:=y.toHandler;refine wpAny_handleBy_cons (codeAny_handlers_test<|WZ M hg hm ((W.exm_one y.kIn ((W.Looks.ld K.exc).andThen .now) cm).here (codeAny_handlers_suite_as ?_)) hd) (by intro q;cases q);have S:left C e dct T H e=some (.ext<|phF C e dct T):=by unfold left;rw[Qv<|Ne.symm D,QF]
 have R:left C e dct T H T=some (.ext<|phT T):=by unfold left;rw[QF]
 refine KE (M.hok e _ S) λN _ _=>KE (M.hok T _ R) λL _ _=>Ab N L λu k2=>DQ (X:=WD X e (X.pn++Y)) (M.kept (t':=s.toks) k2) k b (A.imp id And.left) (v:=.ref e) rfl (λP J3=>wpAny_mono (hh e _ [] P _ _ (Dh H0 j) J3<|hq T (I.hok.fresh K.new) D) (λfl s4 z=>?_) λ_ _ z=>False.elim z) (A.symm.imp And.right id)
 cases fl with
 |next=>
  apply L0 z;intro E J w q;rcases A with A|⟨A,d⟩
  .exact ZpU (X:=WD X e (X.pn++Y)) w k b A λF p=>t _ _ #[_,J,(p.ofHandler m).ofPn,q]
  .exact ZnY (X:=WD X e (X.pn++Y)) w k b A d λF p=>t _ _ #[_,J,(p.ofHandler m).ofPn,q]
 |ret dx=>exact Ps z λ_ _ _ _ _ z=>False.elim z
 |brk=>exact L0 z λ_ _ _ z=>False.elim z
 |cont=>exact L0 z λ_ _ _ z=>False.elim z
def Bc(w:W.exmOne X.K (.ref C) (.ref B)=some true)(D:X.stack=X.env::X.outer)(K:X.env.frame=some X.env.locals)(hg:Gl X x)(g:X.mg x=some (.ref B))
(t:X.N.Nodup)(k:X.N[j]?=some n)(i:X.env.scope.names.lookup n=some .local\/(X.env.scope.names.lookup n=some .cell/\X.fn n=true))
(r:∀H0 A,PSs (KF X (EHc C th H0 X.N.length j) A) body<|tb H0)(l:∀e A,PSs (WD X e A) (b0::suite)<|th e)(p:(x==("__debug__" : Str))=false:=by decide):
 PS X (.Try body (.ExceptHandler (some<|.Name x np) (some n) (b0::suite) hpos::rest) [] [] pos) (Gy tb):=by
 intro Y s O H H0 I h;have y:Qt (KF X (EHc C th H0 X.N.length j)<|X.pn++Y) [] O H s:=I.toPn.wish _;refine wpAny_Try_except (wpAny_mono (r H0 _ [] s O H H0 y h) (λP c q=>?_) λv c q=>?_)
 .have f:=SP.ofPn q;cases P with
  |next=>exact wpAny_execs_nil f
  |ret G=>exact f
  |brk=>exact f
  |cont=>exact f
 .apply L1 q;rintro m E u Z⟨e,rfl,⟨J,M,o,hT⟩,d⟩;exact ZpI w I.ok D K hg g t k i l Z M o hT p (λT a b=>d m _ T Z.len .nil a b) λP F z=>z
end
end L2
namespace L2
def NZ(j:CXT)(X:Cx)(f:St->XK):Prop := ∀(Y:Qc) (O:St) (H:Hp) (s:Shared) (e:Value) (h:Shared),Qt X Y O H s->j X.stack H s (f O) e h->X.xe e h
def XWp(X:Cx)(h:St->XK)(pn:Qc)(v:Value)(s:Shared):Prop := ∃(O:St) (H:Hp) (f:Qj),Qt { X with pn:=pn } [] O H s/\h O v f H
noncomputable abbrev TC(X:Cx)(Eσ:St->XK)(pn:Qc):Cx:={ X with pn:=pn,xe:=XWp X Eσ pn }
def Zrl : NZ (CX1 X.prog X.w) (TC X Eσ pn) Eσ:=by
 intro Y O H s v A I h;apply aU h;intro m J C f q j K;obtain⟨P,g,d,t,B⟩:=A;obtain rfl:=C;exact#[O,J,m,((I.call (d':=d) (t':=t) q j f (by rintro b ⟨⟩)).unwish).pins_of (λp D=>by cases D),K]
end L2
namespace L2
section
variable {d:PyData}
def QB.freezeO(hz:∀{p:Qg},Φ.ok K F H v p->Rep (frF F H p) v d)(s:QB K D F Z O H)(e:zg Z i<|zo v Φ):
 ∃p,(∀a∈p,F a=none/\H a≠none/\D a=none)/\QB K D (frF F H p) (Z.set i<|zf d) O H:=
 s.frz e λh p f=>by
  obtain⟨rfl,f⟩:=f;exact#[rfl,hz f]
end
end L2
section
set_option maxHeartbeats 400000
namespace L2
def P4(X:Cx):List V->Hp->VK->Prop:=λxs H Q=>X.calm=true/\∃(x:V) (f:Ql) (M:Int),xs=[x]/\Rep H x (.list<|f.map PyData.int)/\M∈f/\(∀a∈f,a<=M)/\Q (.int M) H
def IL:ZC X (.builtin "max") (P4 X):=by
 intro Y s O H xs R Q I r h;apply ae h;rintro F x m M rfl u a B q;obtain⟨dx,rfl,g⟩:=VN r;cases u with
 |@lst l ys _ G o=>
  cases g;have L:=Hf o;subst L;apply L3 (I.list (SqL.of G));intro f n p T;have P:=p.isList;have Z:=Hi n;have c:=Z.length;have hpos:0<m.length:=Gh.mpr λz=>by rw[z]at a;cases a
  have C:l<s.heap.objs.size:=by exact I0 P λ_ e _=>Xk e
  refine call_max_walk (wpAny_pyIter_list P (#[s.heap.objs.size,[s.heap.objs.size,l],[s.heap.objs.size],f.toArray.size,_,_,_,rfl,Walks.list (A:=X.A.in1) (I.ok.hd F) _ l (Xq C) f.toArray,
   #[#[_,Xn _ rfl,rfl,rfl],P.push _],λb D=>?_,by simp only[Xw];lia,CmpOf.ints_gt (λi=>m.getD i 0) (λi v K=>Uk Z<|by simpa using K),λv h' S K y=>?_]))
  .rw[Yy];rcases Xc.mp D with rfl|D
   .exact JF _
   .rcases Xc.mp D with rfl|D
    .exact JG C
    .cases D
  .rw[List.getElem?_toArray]at K;obtain⟨t,rfl⟩:=Uk Z K;obtain⟨J,d⟩:=argBest_gt (λi=>m.getD i 0) (f.toArray.size-1);have w:f.toArray.size=f.length:=by simp
   generalize argBest _ (f.toArray.size-1)=k at J d ⊢;have W:k<m.length:=#[]
   have N:m.getD k 0=M:=by
    have U:m.getD k 0∈m:=by simp[W]
    have h2:=B _ U;obtain⟨j,E,e⟩:=Gi.mp a;have h3:=d j #[];have h4:m.getD j 0=M:=by simp[E,e]
    lia
   exact#[.int M,H,I.kept<|D7 y,#[t,by rw[N]],q]
def Oa{ns:Ql}{M:Int}(h:Qr K ta Z (.list<|ns.map PyData.int))(s:X.calm=true)(A:M∈ns)(m:∀a∈ns,a<=M):Qr K (tCB (P4 X)<|Q3 ta QH) Z (.int M):=λD F O H Q B q=>
 h D F O H _ B λC E v f j=>#[s,v,ns,M,rfl,j.mono f.fh,A,m,q C E _ f<|.int _]
def B4(m:ZbB->Prop)(h:QE K t Z { nx:=m,ct:=H0.ct,bk:=H0.bk,rt:=H0.rt })(k:∀f,m f->H0.nx f):QE K t Z H0:=λF0 D F O H M x A C=>
 h F0 D F O H M x A #[λP j J f q B s=>C.nx P j J f q B<|k f s,C.rt,C.bk,C.ct]
end L2
end
namespace L2
def olP(ds:Qd):OwnP where
 ok K F H v p := ∃a,v=.ref a/\p=[a]/\Yz F H a ds
 there:=by
  rintro K F H v p ⟨a,rfl,rfl,U,xs,h,_⟩ c f;cases Xj.mp f;exact#[U,ZE h]
 mono:=by
  rintro K F C H J v p s m j ⟨a,rfl,rfl,U,xs,h,A⟩;exact#[a,rfl,rfl,m _<|by simp,xs,by rw[j _<|by simp];exact h,A.mono s]
 uniq:=by
  rintro K F H v p q ⟨a,rfl,rfl,_⟩ ⟨B,e,rfl,_⟩ c f;cases e;exact f
def EvW(K:W.Frag)(t:TE)(Z:ZbB)(i:Nat)(Θ:Int->OT->Prop):Prop := ∀(F0 D F:Hp) (O:St) (H:Hp) (Q:VK),Q1 F0 D F H->QB K D F Z O H->
 (∀f J n o,Θ n o->Q1 F0 D f J->Q4 F f->QB K D f (Z.set i<|some o) O J->Q (.int n) J)->t O H Q
section
variable {tb:TE}{t:TA}{i:Nat}{v:V}
def olP.frz(f:(olP ds).ok K F H v p):Rep (frF F H p) v (.list ds):=by
 apply aW f;rintro a rfl rfl U xs m j;exact .lst (by rw[WT<|by simp];exact m) (j.mono (W8 λa i=>((olP ds).there f a i).1))
def FC(i:Nat)(e:zg Z i<|zo v<|olP ds)(m:V1 d=some dx)(h:Qr K te (Z.set i<|zf<|.list ds) d):Qr K te Z d:=λD F O H Q s q=>by
 exact I0 (s.freezeO olP.frz e) λp f t=>h D _ O H Q t λA J v x r=>q _ J v (Ul (λa j=>#[(f a j).1,(f a j).2.1]) x) (r.thin m)
def Rl(e:zg Z i<|zo v<|olP ds)(h:Qr K te Z d)(b:Qr K tb Z (.int k))(Y:ixN ds.length k=some j)(hn:H0.nx (Z.set i<|zo v<|olP<|ds.set j d)):
 QE K (ZM te<|MW (Q5 i) tb UF) Z H0:=λF0 D F O H S x m C=>
 h D F O H _ m λo E N f W=>by
  apply aV ((m.ext f).writeOwn e);rintro l p⟨a,rfl,rfl,J,xs,I,G⟩L _;refine#[_,l,b D o O E _ (m.ext f) λn R y q P=>?_];cases P;apply aV ((m.ext<|f.trans q).writeOwn e);rintro _ u⟨Q,g,rfl,r,ys,X,B⟩t w;cases g;exact KE (t a Xb) λM s _=>#[a,ys,k,j,rfl,rfl,X,by rw[B.length];exact Y,C.nx n O _ _ ((x.trans<|f.trans q).wr M s) (w _ (olP _) [a] ((m.ext<|f.trans q).sub.upd s) (λc A _=>Qv λz=>A<|by exact z▸Xb) YN #[a,rfl,rfl,s,_,QF,B.set (W.mono q.ff) j] λc A=>.inl A) hn]
def IV{f:Type}{Φ:f->OwnP}{N:f}{R:f->List OT->(OT->f->Prop)->Prop}{Ψ:OT->f->Prop}{w:XK}(e:zg Z i<|zo v<|Φ N)(k:Zi K t Z ts)(g:R N ts Ψ)(hn:∀r j,Ψ r j->∃n,r=.fz (.int n)/\Θ n (.own v<|Φ j)):
 EvW K (Vd (spP K Φ R) [] w<|Q3 (Q5 i) t) Z i Θ:=λF0 D F O H Q x m q=>by
 refine I0 (Wc m x e) λI s0 _=>#[_,s0,k D F O H _ m λu E Y h b=>L3 (Wc (m.ext h) (x.trans h) e) λp z B P=>#[u,v,Y++[],p,ts,N,Ψ,rfl,(m.ext h).kt,h.fh,by rw[Xp];exact b,B,g,λX J c j y r G d W C s A L=>?_]];apply I0 (hn r j d);rintro n rfl M;apply KE (P X J c j W C s);intro l o _;obtain⟨_,a⟩:=A;cases a;exact q X J n _ M l (h.ff.trans W.ff) o
def BA{s:TE->TS}(hw:EvW K te Z i Θ)(q:∀(D F:Hp) (O:St) (H:Hp) (f:Ends),QB K D F Z O H->(∀Q:VK,(∀n E,s (tC<|.int n) f O E->Q (.int n) E)->te O H Q)->s te f O H)
(hn:∀n o,Θ n o->QE K (s<|tC<|.int n) (Z.set i<|some o) H0):QE K (s te) Z H0:=λF0 D F O H f x j c=>
 q D F O H f j λQ t=>hw F0 D F O H Q x j λA J n o h m _ v=>t n J (hn n o h F0 D A O J f m v c)
def Cd(M:Qr K ta Z (.list ds))(hw:EvW K te Z i Θ)(hn:∀n o,Θ n o->∃d,atI ds n=some d/\H0.nx ((Z.set i<|some o).set j (zf d))):QE K (ZM (tOp (rIx K) ta te)<|Vk j) Z H0:=λF0 D F O H Y x s c=>
 M D F O H _ s λP E X m C=>hw F0 D P O E _ (x.trans m) (s.ext m) λW J n o f B q t=>by
  apply I0 (hn n o f);intro d e h;cases C with
  |@lst a xs _ k1 k2=>
   exact I0 (GZ (Zt.mono q k2) e) λz A v=>.inl #[a,xs,n,z,rfl,rfl,SqL.of<|t.sub _ _<|q _ _ k1,A,c.nx W _ J _ B (t.setF v) h]
end
section
variable {w:World}{base:Heap}
noncomputable def Df.evP{B:Type}{Φ:B->OwnP}{x:Str}{st:Stmt}{L:Qh}{k:Nat}{R:B->List OT->(OT->B->Prop)->Prop}(H0:Df K mg x st ps)(l:Qo L ps (Q8 st))
(j:∀f v M ts Ψ,R M ts Ψ->∀H m,B0 P w K mg base L x st k f H m λt=>EvR K t (ini L (.own v (Φ M)::ts))<|fiO v Φ Ψ)(D:∀M ts Ψ,R M ts Ψ->ts.length+1=ps.length:=by intro _ _ _ h;cases h<;>rfl):Q2 P w K mg base x ps (k+1) (spP K Φ R):=by
 refine H0.go λf fd F=>F.ok l (λa H Q m h=>?_) λa H Q m h Y A outer s g=>?_
 .obtain⟨F,Z,C,p,ts,M,Ψ,e,_,_,W,_,X,_⟩:=h;rw[e,XY,W.length];exact D _ _ _ X
 .obtain⟨F,Z,C,p,ts,M,Ψ,rfl,d,b,W,c,X,q⟩:=h;exact I0 (j f Z M ts Ψ X H m Y A outer s g) λt U i=>#[t,U,DK (R:=R) i d b W c q]
end
def Pm(X:Cx):List V->Hp->VK->Prop:=λxs H Q=>X.calm=true/\∃(x:V) (f:Ql) (M:Int),xs=[x]/\Rep H x (.tuple<|f.map PyData.int)/\M∈f/\(∀a∈f,a<=M)/\Q (.int M) H
def OD:ZC X (.builtin "max") (Pm X):=by
 intro Y s O H xs N Q I r h;apply ae h;rintro E x m M rfl p a B q;obtain⟨dx,rfl,g⟩:=VN r;cases p with
 |@tup l ys _ F o=>
  cases g;have J:=Hf o;subst J;apply L3 (I.tuple (SqT.of F));intro f n P S;have Z:=Hi n;have c:=Z.length;have hpos:0<m.length:=Gh.mpr λz=>by rw[z]at a;cases a
  have C:l<s.heap.objs.size:=by exact I0 P λ_ e _=>Xk e
  refine call_max_walk (wpAny_pyIter_tuple P (#[s.heap.objs.size,[s.heap.objs.size,l],[s.heap.objs.size],f.toArray.size,_,_,_,rfl,Walks.tuple (A:=X.A.in1) (I.ok.hd E) _ l (Xq C) f.toArray,
   #[#[_,Xn _ rfl,rfl,rfl],P.push _],λb D=>?_,by simp only[Xw];lia,CmpOf.ints_gt (λi=>m.getD i 0) (λi v K=>Uk Z<|by simpa using K),λv h' R K w=>?_]))
  .rw[Yy];rcases Xc.mp D with rfl|D
   .exact JF _
   .rcases Xc.mp D with rfl|D
    .exact JG C
    .cases D
  .rw[List.getElem?_toArray]at K;obtain⟨t,rfl⟩:=Uk Z K;obtain⟨G,d⟩:=argBest_gt (λi=>m.getD i 0) (f.toArray.size-1);have u:f.toArray.size=f.length:=by simp
   generalize argBest _ (f.toArray.size-1)=k at G d ⊢;have W:k<m.length:=#[]
   have L:m.getD k 0=M:=by
    have U:m.getD k 0∈m:=by simp[W]
    have h2:=B _ U;obtain⟨j,y,e⟩:=Gi.mp a;have h3:=d j #[];have T:m.getD j 0=M:=by simp[y,e]
    lia
   exact#[.int M,H,I.kept<|D7 w,#[t,by rw[L]],q]
def OB{ns:Ql}{M:Int}(h:Qr K ta Z (.tuple<|ns.map PyData.int))(s:X.calm=true)(A:M∈ns)(m:∀a∈ns,a<=M):Qr K (tCB (Pm X)<|Q3 ta QH) Z (.int M):=λD F O H Q B q=>
 h D F O H _ B λC E v f j=>#[s,v,ns,M,rfl,j.mono f.fh,A,m,q C E _ f<|.int _]
end L2
namespace L2
def Zje:entryFor table "proto.unchain"=some Builtin.«proto.unchain» := entryFor_of_tree (by kernel_rfl)
section
variable {w:World}{H1:Qb}
def Zod{x left step:Int}{B:Obj}{vs:Array Value}{Q:Qf->Shared->Prop}(P:A.handled=some (.ref e))(f:IsRangeIter s.heap it x left step)(h:left<=0)(he:s.heap.get? e=some B)(X:B.data=.fields vs)(Z:vs[2]?=some .none)
(Y:∀h',Heap.ExtBut it s.heap h'->Q none { s with heap:=h' }):wpAny (model prog w) A (pyNext<|.ref it) Q H1 s:=by
 refine Xa (wpAny_attempt (wpAny_callSpecial?_slot (#[_,f,rfl]) F.slot_range_iterator_next
  (wpAny_call_entry F.slot_range_iterator_next (#[_,f,rfl]) F.entry_range_iterator_next ?_<|F.args_range_iterator_next_1 _)))
 show wpAny _ _ (field _ 0 >>= _) _ _ s;refine Xa (VY f rfl (x:=rawInt x) rfl (Xa (VY f rfl (x:=rawInt left) rfl (Xa (VY f rfl (x:=rawInt step) rfl ?_)))));show wpAny _ _ (if left<=0 then _ else _) _ _ s;rw[Xi h];refine Xa (wpAny_rule (Xa<|Xa<|Xa (m:=firstArgMember _ _) (wpAny_of_eq (a:=Value.none) rfl (wpAny_newObj_type (Xa (wpAny_handled ?_)) (by size_fits)))))
 first|rw[show A.in1.handled=some _ from P]|rw[P]
 have C:(Value.ref e != Value.ref (s.heap.push { cls:=Value.type "tuple",data:=Data.seq (List.toArray []) }).objs.size)=true:=by
  rw[Yy _ _,bne_iff_ne];intro z;injection z with z;exact Xq (JG (Xk he)) z
 show wpAny _ _ (if _=true then _ else _) _ _ _;rw[Xi C];refine Xa (wpAny_holding<|wpAny_runValue<|codeAny_builtin Zje (Xa (VY (Xd _ (Xd _ he)) X Z (Xl<|Xa<|Xa (wpAny_load (Xn _ rfl) (wpAny_update (Xn _ rfl) (wpAny_throw (Xa (wpAny_isInstance #[_,X9 _ (Xn _ rfl) rfl,rfl] isSubtype_stop (Xl (Y _ λb o c W=>?_)))))))))))
 rw[XT _ _ (λz=>by
  have:=Xk W;rw[Yy _ _]at z;exact Xo this<|by rw[<- z];exact Nat.not_lt.mpr<|Gn _)]
 exact (Xd { cls:=Value.type "StopIteration",data:=Data.fields ((List.toArray [Value.ref s.heap.objs.size,Value.none,Value.none,Value.none,Value.bool false,Value.none])++ownMembersOf (Value.type "StopIteration") []) } (Xd { cls:=Value.type "tuple",data:=Data.seq (List.toArray []) } W))
end
def HN(C e:Addr)(lo:Int)(n:Nat):It where
 go:=(Itr lo n).go
 stop:=λi H=>(Itr lo n).stop i H/\∃dct T,H e=some (.ext<|phF C e dct T)
 yld:=(Itr lo n).yld
theorem ZlI(hh:X.A.handled=some (.ref e))(it:Addr)(lo:Int)(n:Nat):TurnX X tg (HN C e lo n) [it] it (λi h=>IsRangeIter h it (lo+(i:Nat)*1) ((n:Int)-(i:Nat)) 1) where
 mem:=by simp
 obj:=λi h f b j=>by
  simp_all
 keep:=λi h h' f k=>k it (by simp) _ f
 item:=by
  intro x l c p Z _ i Y s O H y I B f A;apply aA (B it (by simp));intro f0 W t P M K;have d:i<n:=A;refine wpAny_pyNext_range_item f #[] λh' q D=>?_;have w:lo+((i+1:Nat))*1=lo+(i)*1+1:=by push_cast;lia
  have v:(n:Int)-((i+1:Nat))=(n)-(i)-1:=by push_cast;lia
  have m:IsRangeIter h' it (lo+((i+1:Nat))*1) ((n)-((i+1:Nat))) 1:=by rw[w,v];exact q
  refine#[_,rfl,GD m rfl rfl (by decide) #[.int<|lo+i,H,I.turned (λb o j e=>(D.2 b j).trans e) f0 W P M K,?_,#[rfl,rfl],m,λb j=>(B b j).1]];have z:lo+(i)=lo+(i)*1:=#[]
  rw[z];exact#[_,rfl]
 done:=by
  intro x l c p Z _ i Y s O H y I B f A;apply aA (B it (by simp));intro f0 W t P M K;obtain⟨A,dct,T,g⟩:=A;apply KE (I.hok e _ g);rintro⟨E,F,a,U,r⟩_ _;exact Zod (by exact Z▸hh) f (by have:n<=i:=A;lia) a rfl r λh' u=>#[rfl,I.turned (λb o j e=>u b o j e) f0 W P M K]
 self:=λ_ _ _ _ _ f h=>wpAny_pyIter_rangeiter f h
def B3(C e:Addr)(ta:TA):TI:=λO H R=>ta O H λf E=>∃j:Int,f=[.int j] /\ -(2^62)<=j/\j<2^62/\R (HN C e 0 j.toNat) E
def ZqY{e:Addr}{O:St}{H:Hp}{R:It->Hp->Prop}{W:Qb}{lo f:Int}{t h v:Tok}{m:Nat}(A:X.A.handled=some (.ref e))(I:Qt X Y O H s)(U : -(2^62)<=lo)(K:lo<2^62)(h3 : -(2^62)<=f)(D:f<2^62)
(q:R (HN C e lo (f-lo).toNat) H):wpAny (model X.prog X.w) X.A (pyIter<|.ref s.heap.objs.size) (Pb X Y O tg R) W { s with heap:=s.heap.push { cls:=.type "range",data:=.fields (List.toArray [.int lo t,.int f h,.int 1 v]) },toks:=m }:=by
 refine wpAny_pyIter_range (IsRange.new ..) (small_one U K h3 D) ?_;have j:Qt X Y O H { s with heap:=s.heap.push { cls:=.type "range",data:=.fields (List.toArray [.int lo t,.int f h,.int 1 v]) },toks:=m }:=I.kept λb o e=>Xd _ e
 refine#[(s.heap.push { cls:=.type "range",data:=.fields (List.toArray [.int lo t,.int f h,.int 1 v]) }).objs.size,[(s.heap.push { cls:=.type "range",data:=.fields (List.toArray [.int lo t,.int f h,.int 1 v]) }).objs.size],_,_,H,rfl,
  j.kept λb o e=>Xd _ e,ZlI A _ lo (f-lo).toNat,?_,λb B=>?_,q]
 .have P:lo+((0:Nat))*1=lo:=by simp
  have M:(((f-lo).toNat))-((0:Nat))=Builtin.Range.rangeSize lo f 1:=by rw[rangeSize_one];split<;>lia
  rw[P,M];exact Xn _ rfl
 .have e:b=(s.heap.push { cls:=.type "range",data:=.fields (List.toArray [.int lo t,.int f h,.int 1 v]) }).objs.size:=by simpa using B
  subst e;exact j.fpOk (Xm _) (j.hok.fresh<|Xm _)
def Cl  {ta:TA}(M:X.A.handled=some (.ref e))(hg:Gl X "range")(K:X.mg "range"=none)(P:PA X [a] ta)(D:starEach [a] X.env=[(false,eval a X.env)]:=by rfl):PIH X tg (.Call (.Name "range" p) [a] [] pos) (B3 C e ta):=by
 refine λY s O H R I h=>Call_ (WW I hg K boot_range<|PyProof.Rows.callWith_type1 (Q7 (P pos Y s O H _ I h) ?_) D rfl);rintro b c ⟨Z,E,W,A,f⟩;obtain⟨j,rfl,f,B,q⟩:=f;cases A with
 |cons r m=>
  cases m;obtain⟨t,rfl⟩:=r;exact call_range_1 (ZqY M W #[] #[] f B<|by simpa using q)
section
variable {i:Nat}{e:Addr}
def QB.freezeZX{Ψ:ZP}(s:QB K D F Z O H)(e:zg Z i<|zo v Φ)
(hz:∀{F h H:Hp} {p:Qg},Φ.ok K F H v p->Q4 F h->(∀b∈p,h b=H b)->Ψ.ok K h v):
 ∃p,(∀a∈p,F a=none/\H a≠none/\D a=none)/\QB K D (frF F H p) (Z.set i<|zz Ψ) O H:=
 s.frz e λq p f=>by
  obtain⟨rfl,f⟩:=f;exact#[rfl,hz f (W8 λa m=>(Φ.there f a m).1) λb j=>WT j]
end
end L2
namespace L2
def Z0q:TE:=λ_ _ _=>False
def Dx : PE X e Z0q:=λ_ _ _ _ _ _ h=>h.elim
section
variable {i k:Nat}{r:R2}{c:V}{Ψ:OT->ZbB->Prop}
def EI{s:TE->TS}(hw:EvW K te Z i Θ)(m:∀(D F:Hp) (O:St) (H:Hp) (f:Ends),QB K D F Z O H->(∀Q:VK,(∀n E,s (tC<|.int n) f O E->Q (.int n) E)->te O H Q)->s te f O H)
(hn:∀n o,Θ n o->EvR K (s<|tC<|.int n) (Z.set i<|some o) Ψ):EvR K (s te) Z Ψ:=λF0 D F O H f x j c=>
 m D F O H f j λQ q=>hw F0 D F O H Q x j λA J n o h k _ r=>q n J (hn n o h F0 D A O J f k r c)
def DN(hw:EvW K te Z i Θ)(hn:∀n o,Θ n o->H0.nx ((Z.set i<|some o).set j (zi n))):QE K (ZM te<|Vk j) Z H0:=
 BA (s:=λx=>ZM x _) hw (λ_ _ _ _ _ _ h=>h _ λ_ _ q=>q) λn o h=>Z1 Qz (hn n o h)
def Fn(hw:EvW K te Z i Θ)(hn:∀n o,Θ n o->QE K (ZM (tOp r (tC c)<|tC<|.int n)<|Vk j) (Z.set i<|some o) H0):QE K (ZM (tOp r (tC c) te)<|Vk j) Z H0:=
 BA (s:=λx=>ZM _ _) hw (λ_ _ _ _ _ _ h=>h _ λ_ _ q=>q) hn
def F9(C:zg Z k<|zf d)(hw:EvW K te Z i Θ)(hn:∀n o,Θ n o->QE K (ZM (tOp r (Q5 k)<|tC<|.int n)<|Vk j) (Z.set i<|some o) H0):QE K (ZM (tOp r (Q5 k) te)<|Vk j) Z H0:=
 BA (s:=λx=>ZM _ _) hw (λD F O H P B h=>by
  exact I0 B.fp λM g _=>I0 (g k _ C) λA f _=>#[A,f,h _<|by rintro n E ⟨m,c,q⟩;rw[f]at c;cases c;exact q]) hn
def Of{g:TG}{b:TS}(hw:EvW K te Z i Θ)(hn:∀n o,Θ n o->QE K (U1 (B6<|Q3 (tOp r (tC c)<|tC<|.int n) QH) g b) (Z.set i<|some o) H0):QE K (U1 (B6<|Q3 (tOp r (tC c) te) QH) g b) Z H0:=
 BA (s:=λx=>U1 (B6<|Q3 _ QH) g b) hw (λ_ _ _ _ _ _ h=>h _ λ_ _ q=>q) hn
def Iy{b:Nat}(W:Z[b]?=some (some<|.ol ds))(P:zg Z k<|zf d)(hw:EvW K te Z i Θ)
(hn:∀n o,Θ n o->QE K (Vq<|tBM K "list" VI (Q5 b)<|Q3 (tOp r (Q5 k)<|tCB r2<|Q3 (tOp r3 (tC<|.int n)<|tC c) QH) QH) (Z.set i<|some o) H0):
 QE K (Vq<|tBM K "list" VI (Q5 b)<|Q3 (tOp r (Q5 k)<|tCB r2<|Q3 (tOp r3 te<|tC c) QH) QH) Z H0:=
 BA (s:=λx=>Vq<|tBM K "list" VI _<|Q3 (tOp r _<|tCB r2<|Q3 (tOp r3 x _) QH) QH) hw (λD F O H p M h=>by
  refine I0 M.fp λe g _=>I0 (g k _ P) λB A _=>?_;apply aX (g b _ W);rintro l m a rfl _ _ xs C _;refine#[.ref a,m,.inl #[rfl,_,SqL.of C],B,A,h _ λn E ⟨Y,j,_,X,f,q⟩=>?_];rw[m]at j;cases j;rw[A]at f;cases f;exact q) hn
def O9(e1:zg Z a1<|zf d1)(a:zg Z a2<|zf d2)(Y:zg Z a3<|zf d3)(X:zg Z a4<|zf d4)(hw:EvW K te Z i Θ)
(hn:∀n o,Θ n o->EvR K (VJ<|Wu<|Q3 (Q5 a1)<|Q3 (Q5 a2)<|Q3 (Q5 a3)<|Q3 (Q5 a4)<|Q3 (tOp r (tC c)<|tC<|.int n) QH) (Z.set i<|some o) Ψ):
 EvR K (VJ<|Wu<|Q3 (Q5 a1)<|Q3 (Q5 a2)<|Q3 (Q5 a3)<|Q3 (Q5 a4)<|Q3 (tOp r (tC c) te) QH) Z Ψ:=
 EI (s:=λx=>VJ<|Wu<|Q3 _<|Q3 _<|Q3 _<|Q3 _<|Q3 _ QH) hw (λD F O H t W h=>by
  refine I0 W.fp λp g _=>I0 (g a1 _ e1) λP A _=>I0 (g a2 _ a) λM m _=>I0 (g a3 _ Y) λC k _=>I0 (g a4 _ X) λB j _=>#[P,A,M,m,C,k,B,j,h _ λn E ⟨l,k1,e,k2,d,k3,b,f,q⟩=>?_];rw[A]at k1;cases k1;rw[m]at k2;cases k2;rw[k]at k3;cases k3;rw[j]at f;cases f;exact q) hn
end
end L2
namespace L2
def Ac(h:Zz K ta Z Φ1)(y:Zi K t Z ts)(M:∀r,Φ1 r->∃ds Ψ,r=.ol ds/\R ds ts Ψ/\∀r W,Ψ r W->Φ r):
 Zz K (Vd (spP K olP R) [] E'<|Q3 ta t) Z Φ:=λD F O H Q P q=>
 h D F O H _ P λL E U p g C X w n=>by
  apply SF (M g C);rintro ds Ψ rfl M x;refine y D L O E _ (P.ext X) λI H2 Y s e=>?_;apply L3 (n.ext s);rintro a rfl rfl k;have f:=X.trans s;have T:=w a Xb;refine#[I,.ref a,Y++[],[a],ts,ds,Ψ,rfl,(P.ext f).kt,s.fh,by rw[Xp];exact e,#[a,rfl,rfl,k],M,λN J S G c r i u m l d A v=>q N J c i r (x r G u) #[λb o j=>?_,f.ff.trans m.ff,m.fh,λb j=>?_] (λb j=>?_) A]
  .refine m.hh b o (λz=>?_) (f.hh b o j)
   grind
  .rcases m.fr b j with z|z|z
   .exact f.fr b z
   .exact .inr (f.hh.free z)
   .grind
  .rcases(v b j).1 with z|z
   .grind
   .exact f.hh.free z
end L2
namespace L2
section
variable {i:Nat}
def IN(e:Z[i]?=some (some<|.ol ds))(h:Zz K te Z Φ)(l:ds.length<1000)(hn:∀r,Φ r->∃d,r=.fz d/\H0.nx (Z.set i<|some<|.ol<|ds++[d])):
 QE K (Vq<|tBM K "list" VI (Q5 i)<|Q3 te QH) Z H0:=λF0 D F O H t x j c=>by
 refine RC (j.write e) λa xs A Y n _=>#[_,A,.inl #[rfl,_,SqL.of Y],h D F O H _ j λg E b p r C m k B=>?_];apply I0 (hn r C);rintro d rfl hn;apply aN ((j.ext m).write e);intro o f s X q W P M;rw[A]at s;cases s;exact#[a,f,b,rfl,rfl,X,by rw[q.length];exact Vz<|#[],c.nx g O _ _ ((x.trans m).wr W P) (M _ _<|q.snoc B.2) hn]
end
section
variable {w:World}{base:Heap}
def Mf.evP{B:Type}{Φ:B->OwnP}{st:Stmt}{L:Qh}{k:Nat}{R:B->List OT->(OT->B->Prop)->Prop}(H0:Mf K C m qual st ps)(z:Qo L ps (Q8 st))(Z:∀M ts Ψ,R M ts Ψ->ts.length+1=ps.length)
(D:∀(f:Addr) (j:Value) (A:Around) (outer:List Env) (s:Shared) (H:Hp) (W:XK) (v:V) (M:B) (ts:List OT) (Ψ:OT->B->Prop),Room k (A.deeper<|envOfC qual (Q8 st) s.heap.objs.size f j)->R M ts Ψ->
  ∃t,PSs (Jo CX0 P w K mg base L qual (Q8 st) f j A outer s H W).nox (VG st) t/\EvR K t (zr L<|(.own v<|Φ M)::ts) (λr X=>∃d,Ψ r d/\X[0]?=some (zo v<|Φ d))):ZG P w K mg base C m ps (k+1) (spP K Φ R):=by
 refine SF H0.ex λf fd F u x=>#[f,fd,u,x,F.ok z (λg H Q W h=>?_) λg H Q W h j A outer s o=>?_]
 .obtain⟨F,c,Y,p,ts,M,Ψ,e,_,_,a,_,b,_⟩:=h;rw[e,XY,a.length];exact Z _ _ _ b
 .obtain⟨F,c,Y,p,ts,M,Ψ,rfl,n,i,a,l,b,q⟩:=h;exact I0 (D f j A outer s H W c M ts Ψ o b) λt U y=>#[t,U,DK (R:=R) y n i a l q]
end
end L2
namespace L2
def YX:bootBuiltins "str"=some (.type "str"):=by decide +kernel
def GK:List V->Hp->VK->Prop:=λxs H Q=>(∃i:Int,xs=[.int i]/\i.natAbs.log2<1920/\Q (.str<|toString i) H)\/(∃x,xs=[.str x]/\Q (.str x) H)\/(xs=[.non]/\Q (.str "None") H)
def W3:ZC X (.type "str") GK:=by
 intro Y s O H xs A Q I r h;rcases h with ⟨i,rfl,m,q⟩|⟨x,rfl,q⟩|⟨rfl,q⟩
 .apply aJ (VN r);rintro f rfl t rfl;exact PySem.P.str_of_int m #[.str _,H,I.tok _,#[_,rfl],q]
 .apply aJ (VN r);rintro f rfl t rfl;exact PySem.P.str_of_str #[.str _,H,I,#[_,rfl],q]
 .apply I0 (VN r);rintro f rfl j;cases j;exact PySem.P.str_of_none #[.str _,H,I.tok _,#[_,rfl],q]
def Dn:R2:=λx y H Q=>∃i j,x=.str i/\y=.str j/\i.length+j.length<=sizeLine/\Q (.str<|i++j) H
def Y8:OpR X (binaryOp .Add) Dn:=Zoo
def Kl:V->List V->Hp->VK->Prop:=λx f H Q=>∃(z:Str) (b:Addr) (ys:Qh),x=.str z/\f=[.ref b]/\H b=some (.lst<|ys.map V.str)/\(ys.map (·.length)).sum+ys.length*z.length<=16777216/\Q (.str<|Str.join z ys) H
theorem Cw:∀{ys:Qh} {us:Qe},QW (ys.map V.str) us->StrsAre us ys
 |[],_,.nil=>.nil
 |_::_,_,.cons #[_,e] r=>by subst e;exact .cons _ _ (Cw r)
def Uf:MtR X "str.join" Kl:=by
 intro Y s O H x xs v K Q I j m h;apply aK h;rintro z b ys rfl rfl D C q;obtain⟨t,rfl⟩:=j;apply I0 m.one;rintro W rfl A;cases A;refine L3 (I.list (SqL.of D)) λB f p P=>join_list p.isList (Cw f) C λM k=>?_;rw[show Txt.join z ys=Str.join z ys from StrLaws.glued_eq_join z ys];exact#[.str _,H,I.tok _,#[_,rfl],q]
section
variable {tb:TE}
def GR(h:Qr K ta Z (.int i))(m:i.natAbs.log2<1920):Qr K (tCB GK<|Q3 ta QH) Z (.str<|toString i):=λD F O H Q s q=>
 h D F O H _ s λA E v f j=>by cases j;exact .inl #[i,rfl,m,q A E _ f<|.str _]
def O3(h:Qr K ta Z (.str x)):Qr K (tCB GK<|Q3 ta QH) Z (.str x):=λD F O H Q m q=>
 h D F O H _ m λs E v f j=>by cases j;exact .inr (.inl #[x,rfl,q s E _ f<|.str _])
def W7(s:Qr K ta Z (.str x))(m:Qr K tb Z (.str y))(j:x.length+y.length<=sizeLine):Qr K (tOp Dn ta tb) Z (.str<|x++y):=λD F O H Q A q=>
 YI s m A λB J C v e h f=>by
  cases h;cases f;exact#[x,y,rfl,rfl,j,q B J _ e<|.str _]
def Zpk{l:Qh}(h:Zt H vs (l.map PyData.str)):vs=l.map V.str:=DO (λ_ _ r=>by cases r;rfl) h
def GU{ys:Qh}(C:Qr K ta Z (.str z))(B:Qr K tb Z (.list<|ys.map PyData.str))(A:(ys.map (·.length)).sum+ys.length*z.length<=16777216):Qr K (tBM K "str" Kl ta<|Q3 tb QH) Z (.str<|Str.join z ys):=λD F O H Q j q=>
 C D F O H _ j λY E v h s=>by
  cases s;refine#[rfl,B D Y O E _ (j.ext h) λX W w f m=>?_];apply RC (J8 (K:=K) m f.fh);rintro a xs rfl U P M;have e:=Zpk P;subst e;exact#[z,a,ys,rfl,rfl,M,A,q X W _ (h.trans f)<|.str _]
end
end L2
namespace L2
theorem LK{c:Nat}:∀{p q r s:Qk},c∉p->c∉q->p++c::r=q++c::s->p=q/\r=s
 |[],[],r,s,_,_,h=>by simpa using h
 |[],b::q,r,s,_,f,h=>by
  simp at h f;exact Xo h.1 f.1
 |a::p,[],r,s,j,_,h=>by
  simp at h j;exact Xo h.1.symm j.1
 |a::p,b::q,r,s,j,f,h=>by
  simp only[JD,List.cons.injEq]at h;obtain⟨rfl,h⟩:=h;obtain⟨A,m⟩:=LK (λz=>j<|Xf _ z) (λz=>f<|Xf _ z) h;exact#[by rw[A],m]
def Mb(a b:Str):(a++b).cps.toList=a.cps.toList++b.cps.toList:=by rw[Str.cps_append];simp
def LM{a b:Str}(h:a.cps.toList=b.cps.toList):a=b:=by
 cases a;cases b
 congr 1
 exact Array.toList_inj.mp h
def Di(c:Nat)(p q:Str)(r:Qh):(Str.join #[(List.toArray [c])] (p::q::r)).cps.toList=p.cps.toList++c::(Str.join #[(List.toArray [c])] (q::r)).cps.toList:=by
 show(p++_++Str.join _ _).cps.toList=_
 rw[Mb,Mb];simp
theorem FA{c:Nat}:∀(ps f:Qh),ps≠[]->f≠[]->(∀p∈ps,c∉p.cps.toList)->(∀p∈f,c∉p.cps.toList)->(Str.join #[(List.toArray [c])] ps).cps.toList=(Str.join #[(List.toArray [c])] f).cps.toList->ps=f
 |[],_,h,_,_,_,_=>Xo rfl h
 |_::_,[],_,h,_,_,_=>Xo rfl h
 |[p],[q],_,_,_,_,h=>by rw[LM (a:=p) (b:=q) h]
 |[p],q::A::f,_,_,m,_,h=>by
  rw[Di]at h;have h':p.cps.toList=q.cps.toList++c::(Str.join _ (A::f)).cps.toList:=h;exact Xo (by rw[h'];simp) (m p Xb)
 |p::B::ps,[q],_,_,_,j,h=>by
  rw[Di]at h;have h':p.cps.toList++c::(Str.join _ _).cps.toList=q.cps.toList:=h;exact Xo (by rw[<- h'];simp) (j q Xb)
 |p::B::ps,q::A::f,_,_,m,j,h=>by
  rw[Di,Di]at h;obtain⟨D,C⟩:=LK (m p Xb) (j q Xb) h;rw[LM D,FA _ _ (by simp) (by simp) (λz s=>m z<|Xf _ s) (λz s=>j z<|Xf _ s) C]
def NS(x y:Str):Txt.split x y≠[]:=by
 unfold Txt.split;split
 .simp
 .split
  .simp
  .rw[StrLaws.partsBetween_eq];apply aL (StrLaws.partsFrom_ne x y.length 0 _);intro p r e;rw[e];simp
def CI(f:ps≠[])(h:∀p∈ps,c∉p.cps.toList):Txt.split (Str.join #[(List.toArray [c])] ps) #[(List.toArray [c])]=ps:=
 FA _ _ (NS _ _) f (StrLaws.split_free _ c) h (by rw[StrLaws.join_split])
def Tq:V->List V->Hp->VK->Prop:=λx f H Q=>∃z y:Str,x=.str z/\f=[.str y]/\(y.length==0)=false/\z.length+2<=sizeLine/\∀p,H p=none->Q (.ref p) (upd H p<|.lst<|(Txt.split z y).map V.str)
theorem Ah:∀(l:List (Str×Tok)),QW ((l.map (·.1)).map V.str) (strValues l)
 |[]=>.nil
 |p::l=>.cons #[p.2,rfl] (Ah l)
def Mg:MtR X "str.split" Tq:=by
 intro Y s O H x xs v W Q I C D h;apply aU h;rintro z y rfl rfl A a q;obtain⟨t,rfl⟩:=C;apply aJ D.one;rintro d rfl m rfl;have K:1<=y.length:=by
  lia
 have B:=split_weight z y K;have f:∀(l:List (Str×Tok)) (k:Nat),l.map (·.1)=Txt.split z y->EP X Y O Q (.ref s.heap.objs.size) { s with heap:=s.heap.push { cls:=.type "list",data:=.seq (strValues l).toArray },toks:=k }:=λl k e=>by
  refine#[.ref s.heap.objs.size,_,I.laid (t':=k) (λb Z P=>Xd _ P) (Xm _) (show ZV X.prog X.w _ _ _ (.lst<|(Txt.split z y).map V.str) from#[?_,strValues l,0,?_,Xn _ rfl]),rfl,q _<|I.hok.fresh<|Xm _]
  .rw[Xe];lia
  .exact e▸(Ah l)
 have M:(Builtin.Str.partsBetween z (Builtin.Str.occurrences z y 0 z.length<|z.length+1) y.length).length<=sizeLine:=by
  have c:=StrLaws.occ_length_le z y 0 z.length (z.length+1);rw[length_partsBetween];lia
 cases U:(decide (z.length<y.length)||decide (Builtin.Str.strKind z<Builtin.Str.strKind y))
 .cases j:(Builtin.Str.occurrences z y 0 z.length<|z.length+1).isEmpty
  .refine call_meets F.slot_str_split (typeIs_str _ _ _) F.entry_str_split (F.args_str_split_2 _ _) (meets_str_split_sep z y t m U A j #[] M) ?_;rw[strsFrom_eq];exact f (numbered s.toks _) _ ((numbered_texts _ _).trans ((Xg<|ne_true_of_eq_false U).trans (Xg<|ne_true_of_eq_false j)).symm)
  .exact call_meets F.slot_str_split (typeIs_str _ _ _) F.entry_str_split (F.args_str_split_2 _ _) (meets_str_split_not_found z y t m U A j)
    (f [(z,t)] s.toks ((Xg<|ne_true_of_eq_false U).trans (Xi j)).symm)
 .exact call_meets F.slot_str_split (typeIs_str _ _ _) F.entry_str_split (F.args_str_split_2 _ _) (meets_str_split_cannot_occur z y t m U)
   (f [(z,t)] s.toks (Xi U).symm)
def Its(x:Str):It:=#[λi _=>i<x.cps.size,λi H v J=>J=H/\∃c,x.cps[i]?=some c/\v=.str #[(List.toArray [c])],λi _=>x.cps.size<=i]
theorem Zs7   (x:Str)(t:Tok)(it:Addr):Turn P w K tg (Its x) [it] it (λi h=>h.IsStrIter it "str_ascii_iterator" x t i) where
 mem:=by simp
 obj:=λi h f b m=>by
  have e:=by simpa using m
  subst e;apply L3 f;intro o e c d;simp_all
 keep:=λi h h' f k=>by
  exact I0 f λo e r=>#[o,k it (by simp) o e,r]
 item:=by
  intro X g a l W i Y s O H v I A f j;have j:i<x.cps.size:=j;refine aA (A it (by simp)) λf0 M n D C B=>wpAny_pyNext_ascii_item f (c:=x.cps[i]) (by simp[j]) λh' q Z=>?_;apply L3 (id q);intro o e c d
  exact#[_,rfl,GD e c d (by decide) #[.str _,H,I.turned (t':=s.toks+1) (λb o m e=>(Z.2 b m).trans e) f0 M D C B,#[_,rfl],#[rfl,_,by simp[j],rfl],q,λb m=>(A b m).1]]
 done:=by
  intro X g a l W i Y s O H v I A f j;have j:x.cps.size<=i:=j;exact aA (A it (by simp)) λf0 M n D C B=>wpAny_pyNext_ascii_end (I.ok.hd W) f (by simp[j]) λh' p=>#[rfl,I.turned (λb o m e=>p b o m e) f0 M D C B]
 self:=λ_ _ _ _ _ f h=>wpAny_pyIter_striter_ascii f h
def Pi(f:TE):TI:=λO H R=>f O H λx E=>∃z:Str,x=.str z/\z.cps.all (· < 128)=true/\R (Its z) E
def EB(B:PE X l tl):PI X tg l (Pi tl):=by
 refine λY s O H R I h=>Q7 (B Y s O H _ I h) ?_;rintro v j ⟨x,E,f,m,A⟩;apply L3 A;intro z e D q;subst e;obtain⟨t,rfl⟩:=m;refine wpAny_pyIter_ascii D ?_;refine#[j.heap.objs.size,[j.heap.objs.size],_,_,E,rfl,f.kept λb o e=>Xd _ e,Zs7 z t _,#[_,Xn _ rfl,rfl,rfl],λb C=>?_,q];have e:=by simpa using C
 subst e;exact f.fpOk (Xm _) (f.hok.fresh<|Xm _)
def P0:List V->Hp->VK->Prop:=λxs H Q=>∃(x:Str) (n:Int),xs=[.str x]/\PySem.intText? x=some n/\x.length<=640/\Q (.int n) H
def Nx:ZC X (.type "int") P0:=by
 intro Y s O H xs m Q I r h;apply RC h;rintro x n rfl f j q;apply aJ (VN r);rintro A rfl t rfl;exact W.KIN.call_text f j #[.int n,H,I.tok _,#[_,rfl],q]
def PQ:List V->Hp->VK->Prop:=λxs H Q=>∃z:Str,xs=[.str z]/\z.length<=sizeLine/\Q (.int z.length) H
def Ow:ZC X (.builtin "len") PQ:=ZkV
def A0:R2:=λx y H Q=>∃i j:Str,x=.str i/\y=.str j/\Q (.bl<|!(Builtin.Str.occurrences j i 0 j.length 1).isEmpty) H
def EM:OpR X (compareOp .In) A0:=Zrf
section
variable {tb:TE}
def EC(h:Qr K ta Z (.str z))(C:z.cps.all (· < 128)=true):EvI K (Pi ta) Z (z.cps.toList.map λc=>PyData.str #[(List.toArray [c])]):=λD F O H R M q=>
 h D F O H _ M λX E v j s=>by
  cases s;refine#[z,rfl,C,q X E _ j λW b Y m=>#[(by simp:(List.map _ z.cps.toList).length>=z.cps.size),λi d e=>?_]];have f:=by
   have:=(Xh.mp e).1;simpa using this
  obtain rfl:d=.str #[(List.toArray [z.cps[i]])]:=by simpa [f] using e.symm
  refine#[f,λy a A=>?_];apply By A;rintro rfl c B rfl;have P:c=z.cps[i]:=by simpa [f] using B.symm
  subst P;exact#[W,Q1.refl m,.str _]
def Nu(h:Qr K ta Z (.str x))(hn:PySem.intText? x=some n)(m:x.length<=640):Qr K (tCB P0<|Q3 ta QH) Z (.int n):=λD F O H Q s q=>
 h D F O H _ s λA E v f j=>by cases j;exact#[x,n,rfl,hn,m,q A E _ f<|.int _]
def FM(h:Qr K ta Z (.str x))(m:x.length<=sizeLine):Qr K (tCB PQ<|Q3 ta QH) Z (.int x.length):=λD F O H Q s q=>
 h D F O H _ s λA E v f j=>by cases j;exact#[x,rfl,m,q A E _ f<|.int _]
def EA(m:Qr K ta Z (.str x))(j:Qr K tb Z (.str y)):Qr K (tOp A0 ta tb) Z (.bool<|!(Builtin.Str.occurrences y x 0 y.length 1).isEmpty):=λD F O H Q s q=>
 YI m j s λA J B v e h f=>by
  cases h;cases f;exact#[x,y,rfl,rfl,q A J _ e<|.bl _]
def OL(A:Qr K ta Z (.str x))(s:Qr K tb Z (.int k))(j:x.length<=sizeLine)(m:atI x.cps.toList k=some c):Qr K (tOp HK ta tb) Z (.str #[(List.toArray [c])]):=λD F O H Q B q=>
 YI A s B λC J M v e h f=>by
  cases h;cases f;exact#[x,k,c,rfl,rfl,j,m,q C J _ e<|.str _]
theorem Cp{H:Hp}:∀(l:Qh),Zt H (l.map V.str) (l.map PyData.str)
 |[]=>.nil
 |_::l=>.cons (.str _) (Cp l)
def Mo(Y:Qr K ta Z (.str x))(X:Qr K tb Z (.str y))(M:(y.length==0)=false)(W:x.length+2<=sizeLine):EvO K (tBM K "str" Tq ta<|Q3 tb QH) Z (.ol<|(Txt.split x y).map PyData.str):=λD F O H Q h q=>
 Y D F O H _ h λa E v f C=>by
  cases C;refine#[rfl,X D a O E _ (h.ext f) λc b w A B=>?_];cases B;exact#[x,y,rfl,rfl,M,W,λp P=>KE (BW (f.trans A) P (Cp _)) λs m j=>q _ _ _ _ s m j]
end
end L2
namespace L2
section
variable {w:World}{H1:Qb}
def ZoD{en un:Addr}{i:Nat}{x h:Value}{X:Heap->Prop}{Q:Qb}(p:IsEnum s.heap en un i h)(l:en≠un)
(D:∀{R:Qb},(∀U,X U->Heap.SameBut un s.heap U->R x { s with heap:=U })->wpAny (model prog w) A (Builtin.SmallTypes.nextOf<|.ref un) R H1 s)
(C:∀U B,(∀o,U.get? un=some o->B.get? un=some o)->X U->X B)
(fin:∀B,IsEnumOut B en un ((i:Int)+1) x s.heap.objs.size->X B->B.get? s.heap.objs.size=some { cls:=.type "tuple",data:=.seq (List.toArray [.int i s.toks,x]) }->B.objs.size=s.heap.objs.size+1->
  (∀b o,b≠en->b≠un->s.heap.get? b=some o->B.get? b=some o)->Q (.ref s.heap.objs.size) { s with heap:=B,toks:=s.toks+1 }):
 wpAny (model prog w) A (Builtin.«enumerate.__next__» #[[.ref en],[]]) (λf O=>∃v,f=.done (.ret v)/\Q v O) H1 s:=by
 obtain⟨K,N,dd,j,H⟩:=s;show wpAny _ _ (field (.ref en) 2 >>= _) _ _ _;refine Xa (VY p rfl (x:=.ref un) rfl (Xa<|D λk1 L W=>?_));replace W:Heap.SameBut un K k1:=W;have k:=(W.2 en l).trans p;refine Xa (VY k rfl (x:=rawInt i) rfl (Xa (VY k rfl (x:=.none) rfl (Xa (wpAny_mkInt<|Xa (MF k (by simp) λk2 g P=>?_))))));replace P:Heap.SameBut en k1 k2:=P;replace g:IsEnum k2 en un ((i)+1) h:=g;refine Xa (MF g (by simp) λk3 e M=>?_);replace M:Heap.SameBut en k2 k3:=M;replace e:IsEnum k3 en un ((i)+1) h:=e;show wpAny _ _ _ _ _ #[k3,N,dd,j+1,H];have d:IsEnum (k3.push { cls:=.type "tuple",data:=.seq (List.toArray [.int i j,x]) }) en un ((i)+1) h:=Xd _ e;have Y:k3.objs.size=K.objs.size:=by rw[M.1,P.1,W.1]
 have G:(k3.push { cls:=.type "tuple",data:=.seq (List.toArray [.int i j,x]) }).get? K.objs.size=some { cls:=.type "tuple",data:=.seq (List.toArray [.int i j,x]) }:=by rw[<- Y];exact Xn _ rfl
 have F:(k3.push { cls:=.type "tuple",data:=.seq (List.toArray [.int i j,x]) }).objs.size=K.objs.size+1:=by rw[Yy,Y]
 have I:∀b o,b≠en->b≠un->K.get? b=some o->(k3.push { cls:=.type "tuple",data:=.seq (List.toArray [.int i j,x]) }).get? b=some o:=λb o m y q=>
  Xd _ (M.extBut b o m<|P.extBut b o m<|W.extBut b o y q)
 have J:X (k3.push { cls:=.type "tuple",data:=.seq (List.toArray [.int i j,x]) }):=C _ _ (λo q=>Xd _<|M.extBut un o (Ne.symm l)<|P.extBut un o (Ne.symm l) q) L;show wpAny _ _ (Builtin.SmallTypes.ownedTupleIsFree (.ref en) >>= _) _ _ #[k3.push { cls:=.type "tuple",data:=.seq (List.toArray [.int i j,x]) },N,dd,j+1,H];rw[Y];generalize k3.push { cls:=.type "tuple",data:=.seq (List.toArray [.int i j,x]) }=T at d G F I J;clear e M g P k W L Y k3 k2 k1;refine Xa<|Xa (VY d rfl (x:=.none) rfl (Xl (Xa (wpAny_rule<|Xa<|VY d rfl (x:=h) rfl (Xa<|MF d (by simp) λk5 u c=>?_)))));replace c:Heap.SameBut en T k5:=c;replace u:IsEnum k5 en un ((i)+1) x:=u;refine Xa<|Xa (MF u (by simp) λE t a=>?_);replace a:Heap.SameBut en k5 E:=a;replace t:IsEnumOut E en un ((i)+1) x K.objs.size:=t;refine MF t (by simp) λz r Z=>?_;replace Z:Heap.SameBut en E z:=Z;replace r:IsEnumOut z en un ((i)+1) x K.objs.size:=r;have n:=λb o m q=>Z.extBut b o m (a.extBut b o m<|c.extBut b o m q);refine Xa (wpAny_letGo<|Xl #[_,rfl,fin z r (C _ _ (λo q=>n un o (Ne.symm l) q) J) (n _ _ (VZ (Xk p)) G) (by rw[Z.1,a.1,c.1,F]) λb o m y q=>n b o m<|I b o m y q])
def ZoN(j:s.heap.IsTupleIter un t i)(B:s.heap.IsTuple t items)(q:items[i]?=some x)
(fin:∀U,U.IsTupleIter un t (i+1)->Heap.SameBut un s.heap U->Q x { s with heap:=U }):wpAny (model prog w) A (Builtin.SmallTypes.nextOf<|.ref un) Q H1 s:=by
 refine L3 (id j) λo h D f=>aP B λK m _ nt C=>Xa (wpAny_callSpecial?_slot j.typeIs F.slot_tuple_iterator_next<|wpAny_call_entry F.slot_tuple_iterator_next j.typeIs F.entry_tuple_iterator_next ?_<|F.args_tuple_iterator_next_1 _);show wpAny _ _ (field _ 0 >>= _) _ _ s;refine Xa (VY h f (x:=.ref t) rfl (Xa (VY h f (x:=.int i 0) rfl (Xa (wpAny_seqItems m C ?_)))));simp only[X8,q];refine Xa (wpAny_setField h f (by simp)<|Xl #[x,rfl,Xl<|fin _ #[_,X9 _ h<|Obj.isFreed_of_fields<|Obj.data_mapFields f _,(Obj.cls_mapFields ..).trans D,?_]<|Heap.SameBut.update ..]);rw[Obj.data_mapFields f];simp[rawInt]
def ZqF(B:A.handled=none)(f:s.heap.IsTupleIter un t i)(D:s.heap.IsTuple t items)(C:items[i]?=none)
(fin:∀U e,Heap.ExtBut un s.heap U->(∃o,U.get? e=some o/\o.cls=.type "StopIteration")->H1 (.ref e) { s with heap:=U }):wpAny (model prog w) A (Builtin.SmallTypes.nextOf<|.ref un) Q H1 s:=by
 refine L3 (id f) λo j P q=>aP D λM h _ nt K=>Xa (wpAny_callSpecial?_slot f.typeIs F.slot_tuple_iterator_next<|wpAny_call_entry F.slot_tuple_iterator_next f.typeIs F.entry_tuple_iterator_next ?_<|F.args_tuple_iterator_next_1 _);show wpAny _ _ (field _ 0 >>= _) _ _ s;refine Xa (VY j q (x:=.ref t) rfl (Xa (VY j q (x:=.int i 0) rfl (Xa (wpAny_seqItems h K ?_)))));simp only[X8,C];refine Xa (wpAny_rule<|Xa<|wpAny_setField j q (by simp)<|Xa (Xa (m:=firstArgMember _ _) (wpAny_of_eq (a:=Value.none) rfl (wpAny_newObj_type (Xa (wpAny_handled<|?_)) (by size_fits)))))
 first|rw[show A.in1.handled=none from B]|rw[B]
 refine Xa (Xl<|wpAny_throw<|fin _ _ (((Heap.SameBut.update ..).extBut.push _).push _) #[_,Xn _ rfl,rfl])
def ZtH{i:Nat}{f:Array Value}{Q:Qf->Shared->Prop}(B:IsEnum s.heap en un i old)(K:s.heap.IsTupleIter un t i)(M:s.heap.IsTuple t f)(D:f[i]?=some x)(C:en≠un)
(fin:∀h,IsEnumOut h en un ((i:Int)+1) x s.heap.objs.size->h.IsTupleIter un t (i+1)->h.get? s.heap.objs.size=some { cls:=.type "tuple",data:=.seq (List.toArray [.int i s.toks,x]) }->h.objs.size=s.heap.objs.size+1->
  (∀b o,b≠en->b≠un->s.heap.get? b=some o->h.get? b=some o)->Q (some<|.ref s.heap.objs.size) { s with heap:=h,toks:=s.toks+1 }):wpAny (model prog w) A (pyNext<|.ref en) Q H1 s:=by
 refine Xa (wpAny_attempt<|wpAny_callSpecial?_slot (#[_,B,rfl]) F.slot_enumerate_next<|wpAny_call_entry F.slot_enumerate_next (#[_,B,rfl]) F.entry_enumerate_next ?_<|F.args_enumerate_next_1 _);exact ZoD B C (λ{R} q=>ZoN K M D λU a b=>q U a b) (λU h k j=>j.at k) λh a b c d k=>Xl (fin h a b c d k)
def EY{i:Nat}{f:Array Value}{Q:Qf->Shared->Prop}(m:A.handled=none)(j:IsEnum s.heap en un i old)(B:s.heap.IsTupleIter un t i)(C:s.heap.IsTuple t f)(q:f[i]?=none)
(fin:∀U,Heap.ExtBut un s.heap U->Q none { s with heap:=U }):wpAny (model prog w) A (pyNext<|.ref en) Q H1 s:=by
 refine Xa (wpAny_attempt<|wpAny_callSpecial?_slot (#[_,j,rfl]) F.slot_enumerate_next<|wpAny_call_entry F.slot_enumerate_next (#[_,j,rfl]) F.entry_enumerate_next ?_<|F.args_enumerate_next_1 _);show wpAny _ _ (field _ 2 >>= _) _ _ _;refine Xa (VY j rfl (x:=.ref un) rfl (Xa<|ZqF m B C q ?_));rintro U e k ⟨o,D,K⟩;exact Xa (wpAny_isInstance #[o,D,K] isSubtype_stop<|Xl<|fin _ k)
def Zoe(t:Addr)(f:Array Value)(n:Nat)(B:Qj)(K:Array (Qf)):
 Meets (Builtin.«enumerate.__new__» #[[.type "enumerate",.ref t],[]]) (λ_ R s=>s.heap.get? t=some { cls:=.type "tuple",dict:=B,data:=.seq f n,slots:=K }/\
  R (.ok<|.ret<|.ref (s.heap.push { cls:=.type "tuple_iterator",data:=.fields (List.toArray [.ref t,.int 0 0]) }).objs.size)
   { s with heap:=(s.heap.push { cls:=.type "tuple_iterator",data:=.fields (List.toArray [.ref t,.int 0 0]) }).push { cls:=.type "enumerate",data:=.fields (List.toArray [.none,.bool false,.ref s.heap.objs.size,rawInt 0,.none,.none]) } }):=
 .of_wp λprog w A R s h=>by
  obtain⟨P,g,d,D,M⟩:=s;have C:=sub_enumerate;have m:Heap.IsTuple (Shared.heap #[P,g,d,D,M]) t f:=#[_,h.1,rfl,n,rfl]
  wp_walk using AutoSeq1.wpAny_loadPart' h.1
  refine wpAny_stack_any λW=>Xl (?_:_)
  split
  .rename_i c _ _ _ _ _;cases (c==Value.type "enumerate")
   .wp_walk using AutoSeq1.wpAny_loadPart' h.1,wpAny_pyIter_tuple m
    exact#[_,rfl,h.2]
   .wp_walk using AutoSeq1.wpAny_loadPart' h.1,wpAny_pyIter_tuple m
    exact#[_,rfl,h.2]
  .wp_walk using AutoSeq1.wpAny_loadPart' h.1,wpAny_pyIter_tuple m
   exact#[_,rfl,h.2]
def ZsP(K:s.heap.IsTuple t items)
(fin:∀U,IsEnum U (s.heap.objs.size+1) s.heap.objs.size 0 .none->U.IsTupleIter s.heap.objs.size t 0->U.objs.size=s.heap.objs.size+2->
  (∀b o,s.heap.get? b=some o->U.get? b=some o)->Q (.ref<|s.heap.objs.size+1) { s with heap:=U }):wpAny (model prog w) A (call (.type "enumerate") [.ref t]) Q H1 s:=by
 apply aP K;rintro⟨c,B,P,D⟩M m n j;replace m:c=.type "tuple" := m;replace j:P=.seq items n:=j;subst m j;refine callType_new F.called_enumerate (by decide) (F.typeCall_enumerate_1 _) (F.newCall_enumerate_1 _) (λh=>F.args_object_init_2 h _) F.entry_enumerate_new (Zoe t items n B D) #[M,?_];show _/\_
 rw[Yy ..];have C:IsEnum ((s.heap.push { cls:=.type "tuple_iterator",data:=.fields (List.toArray [.ref t,.int 0 0]) }).push { cls:=.type "enumerate",data:=.fields (List.toArray [.none,.bool false,.ref s.heap.objs.size,rawInt 0,.none,.none]) }) (s.heap.objs.size+1) s.heap.objs.size 0 .none:=by
  have:=Xn (s.heap.push { cls:=.type "tuple_iterator",data:=.fields (List.toArray [.ref t,.int 0 0]) }) (o:={ cls:=.type "enumerate",data:=.fields (List.toArray [.none,.bool false,.ref s.heap.objs.size,rawInt 0,.none,.none]) }) rfl;rwa[Yy ..]at this
 exact#[#[_,C,rfl],fin _ C #[_,Xd _<|Xn _ rfl,rfl,rfl] (by rw[Yy,Yy ..]) λb o q=>Xd _<|Xd _ q]
end
def Pe(K:W.Frag)(a:Addr):It:=
 #[λi H=>∃xs x,SqT K H a xs/\xs[i]?=some x,
  λi H v J=>∃p x,H p=none/\v=.ref p/\J=upd H p (.tup [.int (i:Int),x])/\∀xs,SqT K H a xs->xs[i]?=some x,
  λi H=>∃xs,SqT K H a xs/\i=xs.length]
theorem Zsw(ne:en≠un)(na:a≠en)(nu:a≠un):
 Turn P w K (.Tuple elts k pos) (Pe K a) [en,un] en (λi h=>(∃f,IsEnum h en un i f)/\h.IsTupleIter un a i) where
 mem:=by simp
 obj:=λi h q c B=>by
  apply aV q;rintro⟨f,m⟩o1 e1 c1 d1;simp only[Xc,XH,or_false]at B;rcases B with rfl|rfl
  .exact#[_,m,by rintro v ⟨⟩]
  .exact#[_,e1,λv z=>by rw[d1]at z;cases z]
 keep:=λi h h' q J=>by
  obtain⟨⟨f,m⟩,U⟩:=q;exact#[#[f,J en (by simp) _ m],U.at λo x=>J un (by simp) o x]
 item:=by
  intro X t l u B i Y s O H H1 I W q p;subst t l u;refine L0 p λxs x hq L=>L3 (I.tuple hq) λA d g hz=>I0 (d.get L) λF T Q=>?_;obtain⟨⟨f,m⟩,U⟩:=q;refine ZtH m U g (x:=F) (by simpa using T) ne λZ out S hT hsz kp=>#[_,rfl,wpAny_letOwnedTupleGo_enum out λy r j=>?_];replace j:Heap.SameBut en Z y:=j
  refine#[.ref s.heap.objs.size,_,I.trackTup (Qt.turnedL (s:={ s with heap:=Z,toks:=s.toks+1 }) (t':=s.toks+1) (ch:=[en]) (I.turnedL (ch:=[en,un]) (λb o M e=>kp b o (λz=>M<|by simp[z]) (λz=>M<|by simp[z]) e) W) (λb o M e=>(j.2 b λz=>M<|by simp[z]).trans e) (λc B=>W c<|by simp only[Xc,XH,or_false]at B ⊢;exact .inl B)) (Xm _) (x:=.int (i:Int)) #[s.toks,rfl] Q (#[_,(j.2 _<|VZ (Xk m)).trans hT,rfl,_,rfl]),rfl,#[_,x,I.hok.fresh<|Xm _,rfl,rfl,λN h=>by rw[I.tuple_inj h hq];exact L],#[#[F,by simpa using r],S.at λo z=>(j.2 un<|Ne.symm ne).trans z],λc D=>?_];have n:c<s.heap.objs.size:=by
   simp only[Xc,XH,or_false]at D;rcases D with rfl|rfl
   .exact (Xk m)
   .exact (by exact I0 U λ_ z _=>Xk z)
  rw[Qv<|Xq n];exact(W c D).1
 done:=by
  intro X t l u B i Y s O H H1 I W q p;subst t l u;apply I0 p;rintro xs hq rfl;apply L3 (I.tuple hq);intro A d g hz;obtain⟨⟨f,m⟩,U⟩:=q
  exact EY (I.ok.hd B) m U g (by simp[d.length]) λZ kp=>#[rfl,I.turnedL (t':=s.toks) (ch:=[en,un]) (λb o M e=>kp b o (λz=>M<|by simp[z]) e) W]
 self:=λ_ _ _ _ _ q h=>by
  obtain⟨⟨f,m⟩,_⟩:=q;exact wpAny_pyIter_enum m h
def TH(K:W.Frag)(ta:TA):TI:=λO H R=>ta O H λf E=>∃a,f=[.ref a]/\(∃xs,SqT K E a xs)/\R (Pe K a) E
def Zjs{ta:TA}   (hg:Gl X "enumerate")(n:X.mg "enumerate"=none)(r:PA X [a] ta)(i:starEach [a] X.env=[(false,eval a X.env)]:=by rfl):
 PI X (.Tuple elts k tpos) (.Call (.Name "enumerate" p) [a] [] pos) (TH X.K ta):=by
 refine λY s O H R I h=>Call_ (WW I hg n Cn<|PyProof.Rows.callWith_type1 (Q7 (r pos Y s O H _ I h) ?_) i rfl);rintro v f ⟨u,E,A,P,W⟩;apply L3 W;rintro x e⟨xs,d⟩q;subst e;apply I0 (VN P);rintro z rfl M;cases M;apply L3 (A.tuple d);refine λB w b y=>ZsP b λh' D U g Z=>wpAny_pyIter_enum D ?_;have C:x<f.heap.objs.size:=by exact I0 b λo l _=>Xk l
 refine#[_,[f.heap.objs.size+1,f.heap.objs.size],_,_,E,rfl,A.kept (t':=f.toks) Z,Zsw (en:=f.heap.objs.size+1) (un:=f.heap.objs.size) (a:=x) (Nat.succ_ne_self _) (Xq<|JG C)<|Xq C,#[#[_,D],U],λc K=>?_,q];have m:f.heap.objs.size<=c:=by
  simp only[Xc,XH,or_false]at K;rcases K with rfl|rfl
  .exact Nat.le_add_right _ _
  .exact Xm _
 exact A.fpOk m (A.hok.fresh m)
def Zt2(r:Rep F x (.tuple ds)):∃a xs,x=.ref a/\F a=some (.tup xs)/\Zt F xs ds:=by
 cases r with
 |tup h f=>exact#[_,_,rfl,h,f]
def Ztc(h:Zi K t Z [.fz<|.tuple as]):EvI K (TH K t) Z (Ub as):=λD F O H R c q=>
 h D F O H _ c λn E o A j=>by
  cases j with
  |fz r j=>
   cases j;apply SF (Zt2 r);rintro a xs rfl P C;refine#[a,rfl,#[xs,SqT.of<|A.fh _ _ P],q n E _ A λY l B f=>?_];have m:SqT K l a xs:=SqT.of (f _ _<|B _ _ P);refine#[#[xs,m,by rw[Mr,C.length]],λi d e=>?_];apply I0 (Mt e);rintro u k rfl;refine I0 (C.get k) λs W g=>#[#[xs,s,m,W],λv w b=>?_];apply RC b;rintro p x M rfl rfl k1;have X:=k1 xs m;rw[W]at X;cases X;exact#[_,Q1.new f M,.tup QF<|.cons (.int _)<|.cons ((g.mono B).mono (Q4.new (f.free M))) .nil]
end L2
namespace L2
inductive InK(C:Addr)(f:Str)(Φ:OwnP)(K:W.Frag)(F H:Hp)(v:V)(p:Qg):Prop
 |mk (a u:Addr)(dx:V)(q:Qg)(e:v=.ref a)(ep:p=a::u::q)(nd:a≠u)(na:a∉q)(nx:u∉q)(i1:F a=none)(i2:H a=some (.ins C u [(f,dx)]))(o1:F u=none)(o2:H u=some (.own a))(k:Φ.ok K F H dx q):InK C f Φ K F H v p
def InP(C:Addr)(f:Str)(Φ:OwnP):OwnP where
 ok K F H v p:=InK C f Φ K F H v p
 there:=by
  rintro K F H v p ⟨a,u,W,q,rfl,rfl,nd,na,nx,D,m,B,A,k⟩ b h;rcases Xc.mp h with rfl|h
  .exact#[D,ZE m]
  .rcases Xc.mp h with rfl|h
   .exact#[B,ZE A]
   .exact Φ.there k b h
 mono:=by
  rintro K F w H J v p s P M ⟨a,u,W,q,rfl,rfl,nd,na,nx,D,m,B,A,k⟩;exact#[a,u,W,q,rfl,rfl,nd,na,nx,P _<|by simp,by rw[M _<|by simp];exact m,P _<|by simp,by rw[M _<|by simp];exact A,Φ.mono s (λb h=>P b<|by simp[h]) (λb h=>M b<|by simp[h]) k]
 uniq:=by
  rintro K F H v p r ⟨a,u,W,q,rfl,rfl,nd,na,nx,D,m,B,A,k⟩ ⟨t,l,n,o,e,rfl,c,d,Z,i,j,Y,X,g⟩ b h;cases e;rw[m]at j;cases j;rcases Xc.mp h with rfl|h
  .simp
  .rcases Xc.mp h with rfl|h
   .simp
   .simp[Φ.uniq k g b h]
section
variable {i:Nat}{α:Type}{Φ:α->OwnP}{N:α}{v:V}{t:TA}{R:α->List OT->(OT->α->Prop)->Prop}{Ψ:OT->α->Prop}{E':XK}
def DI(gs:QB K D F Z O H)(x:Q1 F0 D F H)(e:zg Z i<|zo v<|InP C f<|Φ N):
 ∃a u s p,v=.ref a/\O[i]?=some (some v)/\H a=some (.ins C u [(f,s)])/\(Φ N).ok K F H s p/\∀t J M W,ExtN p F H t J->(Φ W).ok K t J s M->(∀b∈M,b∈p\/H b=none)->
  Q1 F0 D t J/\QB K D t (Z.set i<|zo v<|InP C f<|Φ W) O J/\∀(q:Qg),(∀b∈q,(b∈p\/H b=none)/\b∉M)->(∀b∈q,D b=none)/\∀b∈q,∀(j:Nat) (s:V) (t':OT) (E:Qg),(Z.set i<|zo v<|InP C f<|Φ W)[j]?=some (some t')->O[j]?=some (some s)->Zy K t J s t' E->b∉E:=by
 apply L3 (Wc (Φ:=λN=>InP C f<|Φ N) gs x e);rintro p e1⟨a,u,s,q,I,rfl,S,d,Y,i1,R,Q,X,k⟩r;refine#[a,u,s,q,I,e1,R,k,λt J M W B g P=>?_];have A:∀{b o},H b=some o->b∉q->b∉M:=λ{b o} h n z=>by
  rcases P b z with z|z
  .exact n z
  .rw[h]at z;cases z
 have G:∀{b o},F b=none->H b=some o->b∉q->t b=none:=λ{b o} U l n=>by
  cases z:t b with
  |none=>rfl
  |some w=>
   rcases B.fr b (by rw[z];simp) with y|y|y
   .exact Xo U y
   .rw[l]at y;cases y
   .exact Xo y n
 obtain⟨X',S',dj⟩:=r t J (a::u::M) W #[λb o T m=>B.hh b o (λz=>T<|by simp[z]) m,B.ff,B.fh,λb m=>(B.fr b m).imp id λz=>z.imp id λz=>by simp[z]]
  #[a,u,s,M,I,rfl,S,A R d,A X Y,G i1 R d,B.hh _ _ d R,G Q X Y,B.hh _ _ Y X,g] (λb m=>by
   rcases Xc.mp m with rfl|m
   .simp
   .rcases Xc.mp m with rfl|m
    .simp
    .exact(P b m).imp (λz=>by simp[z]) id)
 refine#[X',S',λL hq=>dj L λb m=>?_];obtain⟨U,l⟩:=hq b m;have n:∀{c o},H c=some o->c∉q->b≠c:=λ{c o} h z y=>by
  grind
 refine#[U.imp (λz=>by simp[z]) id,λz=>?_];rcases Xc.mp z with z|z
 .exact n R d z
 .rcases Xc.mp z with z|z
  .exact n X Y z
  .exact l z
def Zpx(c:Cls K C)(o:Ve K C f)(e:zg Z i<|zo v<|InP C f<|Φ N)(z:Zi K t Z ts)(y:R N ts Ψ)(hn:∀r j,Ψ r j->H0.nx (Z.set i<|zo v<|InP C f<|Φ j)):
 QE K (Vq<|Vd (spP K Φ R) [] E'<|Q3 (Va K (Q5 i) f) t) Z H0:=λF0 D F O H H1 x m T=>by
 apply aQ (DI m x e);rintro a u I p0 X s0⟨Y,_⟩;refine#[v,s0,a,C,u,_,I,X,Y,c,o,by simp[List.lookup],z D F O H _ m λS E g h l=>?_];apply aO (DI (m.ext h) (x.trans h) e);intro a' G u' p W s1 M A P;rw[W]at X;cases X;have:=h.hh _ _ Y;rw[M]at this;cases this;exact#[S,_,g++[],p,ts,N,Ψ,rfl,(m.ext h).kt,h.fh,by rw[Xp];exact l,A,y,λb J n j U r q w d B s k hq=>KE (P b J n j d B s) λL Q _=>T.nx b _ J _ L Q (hn r j w)]
def ZqB(c:Cls K C)(I:Ve K C f)(e:zg Z 0<|zo v<|InP C f<|Φ N)(hA:Zi K t Z ts)(U:R N ts Ψ)(hn:∀r i,Ψ r i->Ψ0 r (Z.set 0<|zo v<|InP C f<|Φ i)):
 EvR K (VJ<|Vd (spP K Φ R) [] E'<|Q3 (Va K (Q5 0) f) t) Z Ψ0:=λF0 D F O H H1 x m k=>by
 apply aQ (DI m x e);rintro a u d p0 b s0⟨j,_⟩;refine#[v,s0,a,C,u,_,d,b,j,c,I,by simp[List.lookup],hA D F O H _ m λF1 E n h y=>?_];apply aO (DI (m.ext h) (x.trans h) e);intro a' dx' u' p Y s1 W B X;rw[Y]at b;cases b;have:=h.hh _ _ j;rw[W]at this;cases this;refine#[F1,_,n++[],p,ts,N,Ψ,rfl,(m.ext h).kt,h.fh,by rw[Xp];exact y,B,U,λg J G i o r q S l P s A T=>?_];apply KE (X g J G i l P s);intro X' S' dj;obtain⟨d1,d2⟩:=dj q T;exact k g O J _ o r q X' S' A d1 (λa j d w z Q L M=>d2 a j 0 d w z Q L M) (hn r i S)
end
end L2
namespace L2
inductive Cnt(w:World):List DictEntry->List (Str×Int)->Prop
 |nil:Cnt w [] []
 |cons {k:Str}{n:Int}{t dx:Tok}{es:List DictEntry}{kvs:List (Str×Int)}(h:Cnt w es kvs):Cnt w (#[hashStr w k,.str k t,.int n dx]::es) ((k,n)::kvs)
structure KCnt(K:W.Frag)(w:World)(g:Addr)(kvs:List (Str×Int)):Prop where
 ex:∃es ep,K.lookup g=some #[.type "dict",none,.dict es.toArray ep,(List.toArray [])]/\Cnt w es kvs
 ne:(g==sysModules)=false
def MP(kvs:List (Str×Int))(x:Str):V:=match kvs.find? λp=>p.1==x with
 |some p=>.int p.2
 |none=>.non
def Cnt.keys{es:List DictEntry}(h:Cnt w es kvs):KeysOf (PySem.strKind P w) es.toArray:=λe f=>by
 have f:=by simpa using f
 induction h with
 |nil=>cases f
 |@cons k n t m es kvs h j=>
  rcases Xc.mp f with rfl|f
  .exact#[k,by simp[PySem.strKind,Value.isStrOf],rfl]
  .exact j (by simpa using f) f
def Cnt.find{es:List DictEntry}(h:Cnt w es kvs)(x:Str):QO (MP kvs x) ((findBy Value.isStrOf es.toArray x).getD .none):=by
 unfold findBy MP;rw[List.find?_toArray];induction h with
 |nil=>exact rfl
 |@cons k n t j es kvs h f=>
  simp only[List.find?_cons,Value.isStrOf];cases e:k==x with
  |true=>exact#[j,rfl]
  |false=>exact f
def SZ(kvs:List (Str×Int))(te:TE):TE:=λO H Q=>te O H λx E=>∃k,x=.str k/\Q (MP kvs k) E
def Ov    (C:KCnt X.K X.w g kvs)(P:X.mg x=some (.ref g))(he:PE X e te)(m:M1 X (.Name x p) "get" X3 e XM)(hg:Gl X x:=by rfl)(j:(x==("__debug__" : Str))=false:=by decide):
 PE X (.Call (.Attribute (.Name x p) "get" X3) [e] [] XM) (SZ kvs te):=by
 intro Y s O H Q I h;apply L0 C.ex;intro es b l A;have B:∀{s:Shared},Qt X Y O H s->s.heap.MapOf (PySem.strKind X.prog X.w) g _:=λI=>#[_,_,_,I.kIn _ _ l,#[rfl,rfl,rfl],rfl,A.keys,λ_=>rfl];refine wpAny_Call_method m.base m.few m.line PySem.F.plainAttrs_dict PySem.F.slot_dict_get PySem.F.type_dict_get (WZ I hg P (#[(B I).typeIs,(B I).noDict,?_]) j);rw[m.trees];refine Calls.callWith_builtin rfl (Calls.evalArgs_plain<|Calls.spliced_cons<|Q7 (he Y s O H _ I h) ?_);rintro a K ⟨y,Z,D,M,k,W,q⟩;refine Calls.spliced_nil ?_;subst W;obtain⟨t,rfl⟩:=M;have f:K.heap.MapOf (PySem.strKind X.prog X.w) g _:=#[_,_,_,D.kIn _ _ l,#[rfl,rfl,rfl],rfl,A.keys,λ_=>rfl];exact call_meetsIn PySem.F.slot_dict_get f.typeIs PySem.F.entry_dict_get (PySem.F.args_dict_get_2 _ _) (meets_dict_get _ g (by simp[PySem.strKind,Value.isStrOf]) C.ne) #[_,f,_,Z,D.tok _,A.find k,q]
noncomputable def MV(kvs:List (Str×Int))(x:Str):PyData:=match kvs.find? λp=>p.1==x with
 |some p=>.int p.2
 |none=>.none
def Iv(h:Qr K te Z (.str x)):Qr K (SZ kvs te) Z (MV kvs x):=λD F O H Q m q=>
 h D F O H _ m λs E v f j=>by
  cases j;refine#[x,rfl,q s E _ f ?_];unfold MP MV;cases kvs.find? λp=>p.1==x with
  |none=>exact .non
  |some p=>exact .int _
def tFs(x:Str)(ta f:TE):TE:=λO H Q=>ta O H λh E=>∃i:Int,h=.int i/\i.natAbs.log2<1920/\(Str.ofString (toString i)++x).length<=sizeLine/\f O E λv m=>∃j:Int,v=.int j/\j.natAbs.log2<1920/\(Str.ofString (toString i)++x++Str.ofString (toString j)).length<=sizeLine/\Q (.str<|Str.ofString (toString i)++x++Str.ofString (toString j)) m
def AE(Z:PE X a ta)(he:PE X e (tC<|.str x))(W:PE X b tb):PE X (.JoinedStr [.FormattedValue a (-1) none p1,e,.FormattedValue b (-1) none p2] pos) (tFs x ta tb):=by
 intro Y s O H Q I h;have z:=Str.empty_append;refine JoinedStr_many (joinParts_cons<|FormattedValue_plain<|Q7 (Z Y s O H _ I h) ?_);rintro l R ⟨v,E,p,D,i,k,f,M,K⟩;subst k;obtain⟨L,rfl⟩:=D;refine formatField_int_small f #[by rw[z];exact int_text_fits f,?_];rw[z];refine joinParts_cons (Q7 (he Y _ O E (λy J=>y=.str x/\J=E) (p.tok _) #[rfl,rfl]) ?_);rintro w A ⟨u,t,o,C,g,d⟩;subst g d;obtain⟨G,rfl⟩:=C;refine#[M,joinParts_cons<|FormattedValue_plain<|Q7 (W Y A O t _ o K) ?_];rintro l N ⟨v,r,n,B,j,c,P,m,q⟩;subst c;obtain⟨F,rfl⟩:=B;exact formatField_int_small P #[m,joinParts_nil #[.str _,r,n.tok _,#[_,rfl],q] m]
def AF{j:Int}(P:Qr K ta Z (.int i))(M:Qr K tb Z (.int j))(C:i.natAbs.log2<1920)(B:j.natAbs.log2<1920)(l1:(Str.ofString (toString i)++x).length<=sizeLine)(l2:(Str.ofString (toString i)++x++Str.ofString (toString j)).length<=sizeLine):
 Qr K (tFs x ta tb) Z (.str<|Str.ofString (toString i)++x++Str.ofString (toString j)):=λD F O H Q h q=>
 P D F O H _ h λY E v f A=>by
  cases A;exact#[i,rfl,C,l1,M D Y O E _ (h.ext f) λX W a m s=>by
   cases s;exact#[j,rfl,B,l2,q X W _ (f.trans m)<|.str _]]
end L2
namespace L2
inductive RawK(C:Addr)(F H:Hp)(v:V)(p:Qg):Prop
 |mk (a u:Addr)(e:v=.ref a)(ep:p=[a,u])(nd:a≠u)(i1:F a=none)(i2:H a=some (.ins C u []))(o1:F u=none)(o2:H u=some (.own a)):RawK C F H v p
def SY(C:Addr):OwnP where
 ok _ F H v p:=RawK C F H v p
 there:=by
  rintro K F H v p ⟨a,u,rfl,rfl,nd,A,h,q,m⟩ b j;rcases Xc.mp j with rfl|j
  .exact#[A,ZE h]
  .rw[Xj.mp j];exact#[q,ZE m]
 mono:=by
  rintro K F d H J v p s D B ⟨a,u,rfl,rfl,nd,A,h,q,m⟩;exact#[a,u,rfl,rfl,nd,D _<|by simp,by rw[B _<|by simp];exact h,D _<|by simp,by rw[B _<|by simp];exact m]
 uniq:=by
  rintro K F H v p Z ⟨a,u,rfl,rfl,nd,A,h,q,m⟩ ⟨c,Y,e,rfl,W,X,f,P,M⟩ b j;cases e;rw[h]at f;cases f;exact j
def G4(C:Addr)(f:Str){h:Type}(Φ:h->OwnP):Option h->OwnP
 |none=>SY C
 |some N=>InP C f (Φ N)
section
variable {i:Nat}{v:V}
def Zt8(c:Cls K C)(t:Ve K C f)(e:zg Z i<|zo v<|SY C)(h:EvX K te Z Φ)(hn:H0.nx (Z.set i<|zo v<|InP C f Φ)):QE K (Ax K (Q5 i) te f) Z H0:=λF0 D F O H T x d Q=>
 h D F O H _ d λs J k p m B W=>by
  apply L3 (Wc (Φ:=G4 C f λ_:Unit=>Φ) (N:=none) d x e);rintro R s0⟨a,u,g,rfl,X,Y,q,l,A⟩P;have M:∀{b o},F b=none->H b=some o->s b=none:=λ{b o} U S=>by
   cases z:s b with
   |none=>rfl
   |some w=>
    rcases m.fr b #[] with y|y
    .exact Xo U y
    .grind
  have np:∀{b o},H b=some o->b∉p:=λ{b o} h z=>by rw[B b z]at h;cases h
  have n:∀{b},H b=none->b≠a:=λ{b} h z=>by subst z;rw[h]at q;cases q
  refine#[v,s0,a,C,u,[],g,m.hh _ _ q,c,t,by decide,?_];obtain⟨I,L,_⟩:=P s (upd J a<|.ins C u [(f,k)]) (a::u::p) (some Unit.unit) #[λb o r j=>by
   rw[Qv λz=>r<|by simp[z]];exact m.hh b o j,m.ff,λb o j=>by
   rw[Qv λz=>by subst z;rw[M Y q]at j;cases j];exact m.fh b o j,λb j=>(m.fr b j).imp id λz=>.inl z]
   #[a,u,k,p,g,rfl,X,np q,np A,M Y q,QF,M l A,by rw[Qv<|Ne.symm X];exact (m.hh _ _ A),Φ.mono (Q4.refl _) (λb j=>(Φ.there W b j).1) (λb j=>Qv<|n<|B b j) W] (λb j=>by
    rcases Xc.mp j with rfl|j
    .simp
    .rcases Xc.mp j with rfl|j
     .simp
     .exact .inr (B b j))
  exact Q.nx s _ _ _ I L hn
def Cr{m:Type}{Φ:m->OwnP}{R:Option m->List OT->(OT->Option m->Prop)->Prop}{Ψ:OT->Option m->Prop}{Θ:m->Prop}{t:TA}{S:XK}(L:Zi K t Z ts)(G:R none ts Ψ)(hn:∀r B,Ψ r B->r=.fz .none/\∃N,B=some N/\Θ N):
 Zz K (WL C (spP K (G4 C f Φ) R) [] S t) Z (λr=>∃v N,Θ N/\r=.own v (InP C f<|Φ N)):=λD F O H Q l q=>
 L D F O H _ l λT E n i w x u k s e=>by
  have c:=l.ext i;have g:∀{b o},E b=some o->b≠x/\b≠u:=λ{b o} h=>#[λz=>#[],λz=>#[]];have M:∀{b o},E b=some o->upd (upd E u<|.own x) x (.ins C u []) b=some o:=λ{b o} h=>by rw[Qv (g h).1,Qv (g h).2];exact h
  refine#[T,.ref x,n++[],[x,u],ts,none,Ψ,rfl,c.kt,λb o j=>M<|i.fh b o j,by rw[Xp];exact w,#[x,u,rfl,rfl,Ne.symm e,c.sub.free k,QF,c.sub.free s,by rw[Qv e,QF]],G,λU J y B v r q' a A X P W hq=>?_];apply By (hn r B a);rintro rfl N rfl I;obtain⟨_,p⟩:=W;cases p;have d:∀{b},upd _ x (.ins C u []) b=none->E b=none:=λ{b} h=>by
   cases z:E b with
   |none=>rfl
   |some o=>rw[M z]at h;cases h
  have Y:∀{b},b∈[x,u]->E b=none:=λ{b} h=>by
   rcases Xc.mp h with rfl|h
   .exact k
   .rw[Xj.mp h];exact s
  refine#[rfl,q U J _ y _ #[.ref x,N,I,rfl] #[λb o j=>A.hh b o (λz=>Xo (i.hh b o j)<|by rw[Y z];simp)<|M<|i.hh b o j,i.ff.trans A.ff,A.fh,λb j=>?_] (λb j=>?_) #[rfl,X]]
  .rcases A.fr b j with z|z|z
   .exact i.fr b z
   .exact .inr (i.hh.free<|d z)
   .exact .inr (i.hh.free<|Y z)
  .rcases P b j with z|z
   .exact i.hh.free (Y z)
   .exact i.hh.free (d z)
end
end L2
namespace L2
def Iw:bootBuiltins "dict"=some (.type "dict"):=by decide +kernel
def Te:List V->Hp->VK->Prop:=λh H Q=>∃a f,h=[.ref a]/\H a=some (.dK f)/\∀p,H p=none->Q (.ref p) (upd H p<|.dK f)
def Zst:ZC X (.type "dict") Te:=by
 intro Y s O H xs C Q I r h;apply SF h;rintro a j rfl A q;apply I0 (VN r);rintro K rfl f;cases f;exact ZsV I (.of A) λp D m B=>#[.ref p,_,B,rfl,q p m]
section
variable {tb:TE}{t:TA}{i:Nat}{v dx:V}{N:HandS}{kvs:Zs}
def QB.absorb(s:QB K D F Z O H)(o:i≠j)(e:zg Z i<|zo v Φ)(y:zg Z j<|zo dx Φj):
 O[i]?=some (some v)/\O[j]?=some (some dx)/\∃p q,Φ.ok K F H v p/\Φj.ok K F H dx q/\(∀a∈p,D a=none/\F a=none/\H a≠none)/\(∀a∈q,D a=none/\F a=none/\H a≠none)/\(∀a∈q,a∉p)/\
  ∀(J:Hp) (B:OwnP) (P:Qg),Q4 F J->(∀b,b∉p->b∉q->H b≠none->J b=H b)->(∀b,H b≠none->J b≠none)->B.ok K F J v P->(∀a∈P,a∈p\/a∈q\/(H a=none/\D a=none))->
   QB K D F ((Z.set j none).set i (zo v B)) O J:=by
 obtain⟨Q,U,S,c,r,M,A⟩:=s;apply L3 (r i _ e);rintro v' G rfl E;apply L3 (r j _ y);rintro u f1 rfl x;refine#[G,f1,c i,c j,E,x,λa f=>#[(A i a f).1,(Φ.there E a f).1,(A i a f).2],λa f=>#[(A j a f).1,(Φj.there x a f).1,(A j a f).2],λa f h=>o (M j i a f h).symm,λJ B P L R d w N=>?_];have n:=(Xh.mp y).1;refine#[Q,L,by simp[S],λk=>if k=i then P else if k=j then [] else c k,λk I C=>?_,λk l a f h=>?_,λk a f=>?_]
 .by_cases t:k=i
  .subst t;rw[X6<|by simpa using ((Xh.mp e).1)]at C;cases C;refine#[_,G,rfl,?_];simp only[if_true];exact w
  .rw[X7<|Ne.symm t]at C
   by_cases m:k=j
   .subst m;rw[X6 n]at C;cases C
   .rw[X7<|Ne.symm m]at C;refine I0 (r k I C) λu g1 T=>#[u,g1,?_];simp only[Xg t,Xg m];exact T.keep λb h=>R b (λz=>t<|M k i b h z) (λz=>m<|M k j b h z) (A k b h).2
 .have W:∀{k l:Nat} {a:Addr},k≠i->a∈(if k=j then ([]) else c k)->a∈P->False:=λ{k l a} t f h=>by
   by_cases m:k=j
   .rw[Xi m]at f;exact nomatch f
   .rw[Xg m]at f;rcases N a h with z|z|z
    .exact t (M k i a f z)
    .exact m (M k j a f z)
    .exact(A k a f).2 z.1
  by_cases t:k=i
  .by_cases X:l=i
   .lia
   .simp only[Xi t]at f;simp only[Xg X]at h;exact(W (l:=0) X h f).elim
  .simp only[Xg t]at f
   by_cases X:l=i
   .simp only[Xi X]at h;exact(W (l:=0) t f h).elim
   .simp only[Xg X]at h
    by_cases m:k=j
    .rw[Xi m]at f;exact nomatch f
    .by_cases Y:l=j
     .rw[Xi Y]at h;exact nomatch h
     .rw[Xg m]at f;rw[Xg Y]at h;exact M k l a f h
 .by_cases t:k=i
  .simp only[Xi t]at f;rcases N a f with z|z|z
   .exact#[(A i a z).1,d a (A i a z).2]
   .exact#[(A j a z).1,d a (A j a z).2]
   .exact#[z.2,(B.there w a f).2]
  .simp only[Xg t]at f
   by_cases m:k=j
   .rw[Xi m]at f;exact nomatch f
   .rw[Xg m]at f;exact#[(A k a f).1,d a (A k a f).2]
def IP{m:Int}(c:HandC K C)(e:zg Z i<|zo v<|Zf C N)(hi:Qr K tb Z (.int k))(p:0<=k)(o:N.given[k.toNat]?=some m)(h:Qr K te Z (.int n))
(hn:H0.nx (Z.set i<|zo v<|Zf C { N with given:=N.given.set k.toNat (m+n) })):QE K (Dm (Va K (Q5 i) "given") tb te (Dj K) (ipI λa b=>a+b) UF) Z H0:=λF0 D F O H H1 x t C'=>by
 apply aY (t.hand e);rintro a u kk g d m' y xs as rfl e1 s _;refine#[_,e1,a,C,u,_,.ref g,rfl,s.ins.2,c.cl,c.gv,rfl,hi D F O H _ t λF1 E y1 f T=>?_];cases T;apply By s.given;intro _ Q S R;have P:(N.given.map PyData.int)[k.toNat]?=some (.int m):=by rw[XG,o];rfl
 refine I0 ((R.mono f.ff).get P) λz I G=>#[g,Q,k,z,rfl,rfl,SqL.of<|f.hh _ _ S,p,I,h D F1 O E _ (t.ext f) λw H2 dx A M=>?_];cases M;cases G;refine#[m,n,rfl,rfl,?_];apply aY ((t.ext<|f.trans A).hand e);rintro a' dx' k' r d' m'' J B X ea g1 j⟨hp,L⟩;cases ea;apply aA (s.same j (((f.trans A).hh _ _ s.ins.2).trans s.ins.2.symm));rintro rfl rfl rfl rfl rfl rfl;apply By j.given;intro q1 Y U l;have hlt:=(Xh.mp o).1;have hr:Zt w (Y.set k.toNat<|.int<|m+n) ((N.given.set k.toNat<|m+n).map PyData.int):=by
  rw[List.map_set];exact l.set (.int _) _
 have q:=hp r (by simp);refine#[r,Y,k,k.toNat,rfl,rfl,U,?_,?_]
 .rw[l.length,Xe];unfold ixN;rw[Xi p,Xi<|#[]]
 .exact C'.nx w O _ _ ((x.trans<|f.trans A).wr q.1 q.2.1) (L _ _ J B X ((t.ext<|f.trans A).sub.upd q.2.1) (λb W _=>Qv λz=>W<|by rw[z];simp) YN (j.setGiven hr) λb W=>.inl W) hn
def MadeD.len:∀{as:Qg} {ms:List Zs},MadeD F H as ms->as.length=ms.length:=by
 intro as ms h;induction h with
 |nil=>rfl
 |cons _ _ _ _ f=>exact Xz Nat.succ f
def MadeD.snoc{xs:List (Key×V)}{ms:List Zs}(U:F b=none)(j:H b=some (.dK xs))(i:PairK F xs kvs):∀{as:Qg} {ms:List Zs},MadeD F H as ms->MadeD F H (as++[b]) (ms++[kvs]):=by
 intro as ms h;induction h with
 |nil=>exact .cons U j i .nil
 |cons s q m _ f=>exact .cons s q m f
def HandOk.addMade{g m b:Addr}{xs:List (Key×V)}(v:HandOk C N F H a u k g d m y xs as)(j:b∉a::u::k::g::d::m::as)(U:F b=none)(c:H b=some (.dK za))(Z:PairK F za kvs):
 HandOk C { N with made:=N.made++[kvs] } F (upd H m<|.lst<|(as++[b]).map V.ref) a u k g d m y xs (as++[b]):=by
 obtain⟨i,⟨X,W⟩,⟨B,A⟩,q,⟨k1,P,k2,k3⟩,⟨p,l,o,n⟩,⟨E,x,w⟩,⟨M,m2,K⟩⟩:=v;have f:=i;simp only[XN,Xc,not_or]at f;obtain⟨⟨a1,a2,a3,a4,J,a6⟩,⟨b1,b2,b3,I,b5⟩,⟨c1,c2,G,c4⟩,⟨f1,r,f3⟩,⟨t,Q⟩,s,O⟩:=f;simp only[Xc,not_or]at j;obtain⟨n1,n2,n3,T,S,D,R⟩:=j;have h:(a::u::k::g::d::m::(as++[b])).Nodup:=by
  have e:a::u::k::g::d::m::(as++[b])=(a::u::k::g::d::m::as)++[b]:=rfl;rw[e,MD];refine#[i,by simp,λz hz L Y=>?_]
  grind
 refine#[h,#[X,by rw[Qv J];exact W],#[B,by rw[Qv I];exact A],q,#[k1,P,by rw[Qv G];exact k2,k3],#[p,l,by rw[Qv r];exact o,n],#[E,by rw[Qv t];exact x,w],#[M,QF,?_]];exact(K.snoc (ms:=N.made) U c Z).other λz=>by
  rcases Xu.mp z with z|z
  .exact s z
  .exact D (Xj.mp z).symm
def HandOk.setNow{g m:Addr}{xs:List (Key×V)}(j:HandOk C N F H a u k g d m y xs as)(n:Int):
 HandOk C { N with now:=n } F (upd H a<|.ins C u<|hfs y n k g d m) a u k g d m y xs as:=by
 obtain⟨h,⟨D,r⟩,⟨s,q⟩,i,⟨k1,B,k2,k3⟩,⟨W,K,P,M⟩,⟨Z,Y,X⟩,⟨A,v,t⟩⟩:=j;have f:=h;simp only[XN,Xc,not_or]at f;obtain⟨⟨p,o,l,e,c,b⟩,_⟩:=f;exact#[h,#[D,QF],#[s,by rw[Qv<|Ne.symm p];exact q],i,#[k1,B,by rw[Qv<|Ne.symm o];exact k2,k3],#[W,K,by rw[Qv<|Ne.symm l];exact P,M],#[Z,by rw[Qv<|Ne.symm e];exact Y,X],#[A,by rw[Qv<|Ne.symm c];exact v,t.other b]]
def ZsJ(hj:0≠j)(c:HandC K C)(e0:zg Z 0<|zo v<|Zf C N)(ej:zg Z j<|zo dx<|dkP kvs)(hl:N.made.length<1000)
(hr:∀w,Ψ (.own w<|dkP kvs)<|(Z.set j none).set 0 (zo v<|Zf C { N with made:=N.made++[kvs],now:=N.now+1 })):
 EvR K (Vh (Vq<|tBM K "list" VI (Va K (Q5 0) "made")<|Q3 (Q5 j) QH)<|Vh (LB K (Q5 0) (tC<|.int 1) Pg "present")<|VJ<|tCB Te<|Q3 (Q5 j) QH) Z Ψ:=λF0 D F O H H1 x gs kk=>by
 apply KE (gs.absorb hj e0 ej);rintro s0 sj⟨p,q,Q,L,hp,hq,hd,wr⟩;obtain⟨a,u,k,g,d,m,y,xs,M,rfl,rfl,W⟩:=Q;apply aU L;rintro b G rfl rfl b1 b2 b3;have n:=hd b Xb;have Y:=hp m (by simp);have e:=hp a (by simp);have i:=W.addMade n b1 b2 b3;have t:=i.setNow (N.now+1);have nb:b≠a/\b≠m:=by
  simp only[Xc,not_or]at n;exact#[n.1,n.2.2.2.2.2.1]
 refine#[_,s0,a,C,u,_,.ref m,rfl,W.ins.2,c.cl,c.md,rfl,.inl #[rfl,_,SqL.of W.made.2.1],_,sj,m,_,_,rfl,rfl,W.made.2.1,by rw[Xe,W.made.2.2.len];exact Vz<|#[],?_];have em:M.map V.ref++[V.ref b]=(M++[b]).map V.ref:=by rw[Xv];rfl
 rw[em];refine#[_,s0,a,C,u,_,.int N.now,rfl,i.ins.2,c.cl,c.pr,rfl,N.now,1,rfl,rfl,u,_,i.ins.2,by show 6<1000;decide,?_];have ef:Yh "present" (.int<|N.now+1) (hfs y N.now k g d m)=hfs y (N.now+1) k g d m:=rfl;rw[ef];generalize B:upd H m (.lst<|(M++[b]).map V.ref)=E at i t;generalize A:upd E a (.ins C u<|hfs y (N.now+1) k g d m)=P at t;have e2:∀z,z≠a->z≠m->P z=H z:=λz l z2=>by rw[<- A,Qv l,<- B,Qv z2]
 have X1:Q1 F0 D F E:=by rw[<- B];exact x.wr Y.1 Y.2.1
 have X2:Q1 F0 D F P:=by rw[<- A];exact X1.wr e.1 e.2.1
 have J:∀z,H z≠none->E z≠none:=by rw[<- B];exact YN
 have I:∀z,E z≠none->P z≠none:=by rw[<- A];exact YN
 have o:=wr P (Zf C { N with made:=N.made++[kvs],now:=N.now+1 }) (a::u::k::g::d::m::(M++[b])) X2.fh
  (λz l _ _=>e2 z (λh=>l<|by rw[h];simp) λh=>l<|by rw[h];simp) (λz f=>I z<|J z f) #[a,u,k,g,d,m,y,xs,M++[b],rfl,rfl,t] (λz f=>by
   have ee:a::u::k::g::d::m::(M++[b])=(a::u::k::g::d::m::M)++[b]:=rfl;rw[ee]at f;rcases Xu.mp f with f|f
   .exact .inl f
   .exact .inr (.inl f))
 refine#[_,sj,b,G,rfl,(e2 b nb.1 nb.2).trans b2,λr s=>kk F O _ _ (.ref r) (.own (.ref r)<|dkP kvs) [r] (X2.trans (Q1.own o.sub s)) (o.ext (Q1.own o.sub s)) #[rfl,r,G,rfl,rfl,o.sub.free s,QF,b3] (λz f=>by rw[Xj.mp f];exact (X2.hh.free s)) (λz f u' t' q' f1 f2 R X=>?_) (hr _)];rw[Xj.mp f]at X;refine L3 o.fp λfp g1 g2 g3=>I0 (g1 0 _ f1) λv2 U h2=>?_;rw[f2]at U;cases U;exact(g3 0 r<|Mh (h2.ext (Q1.own o.sub s)) R r X).2 s
def E4{t:TS}(i:Nat)(e:Z[i]?=some (some r))(s:Bw r=some d)(h:EvR K t (Z.set i<|zf d) Ψ):EvR K t Z Ψ:=λF0 D F O H v x q C=>by
 refine I0 (q.freezeG e s) λp j m=>h F0 D _ O H v #[x.hh,x.ff.trans<|W8 λa f=>(j a f).1,m.sub,λa f=>?_] m C
 by_cases z:a∈p
 .exact .inr (j a z).2.2
 .rw[J4 z]at f;exact x.fr a f
end
end L2
namespace L2
section
variable {t:TA}{i:Nat}
theorem MadeZ.at{F:Hp}:∀{as:Qg} {ms:List Zs},MadeZ F as ms->∀(i:Nat) (a:Addr),as[i]?=some a->∃xs k,ms[i]?=some k/\F a=some (.dK xs)/\PairK F xs k
 |_,_,.nil,i,a,e=>by simp at e
 |_,_,.cons U f t,0,a,e=>by
  simp at e;subst e;exact#[_,_,rfl,U,f]
 |_,_,.cons U f t,i+1,a,e=>t.at i a (by simpa using e)
theorem MadeD.at{F H:Hp}:∀{as:Qg} {ms:List Zs},MadeD F H as ms->∀(i:Nat) (a:Addr),as[i]?=some a->∃xs k,ms[i]?=some k/\H a=some (.dK xs)/\PairK F xs k
 |_,_,.nil,i,a,e=>by simp at e
 |_,_,.cons _ U f t,0,a,e=>by
  simp at e;subst e;exact#[_,_,rfl,U,f]
 |_,_,.cons _ U f t,i+1,a,e=>t.at i a (by simpa using e)
end
end L2
namespace L2
section
variable {i:Nat}{kvs:Zs}{k:Key}
def EQ(k:Key):Rep F (kV k) (JM k):=by
 cases k with
 |inl i=>exact .int i
 |inr x=>exact .str x
theorem PairK.key{F:Hp}:∀{xs:List (Key×V)} {kvs:Zs},PairK F xs kvs->xs.map (·.1)=kvs.map (·.1)
 |_,_,.nil=>rfl
 |_,_,.cons _ t=>by simp[t.key]
end
end L2
namespace L2
def Uj(C:Addr)(f:Str):Sp:=λh H Q _=>∃(e:Addr) (x:V),h=[.ref e,x]/\H e=some (.ext<|phX C e none)/\
 ∀u,H u=none->u≠e->Q .non (upd (upd H e<|.ext<|phX C e<|some u) u<|.xd [(f,x)])
def Fa(h:Uj C f vs H Q H1):
 Vh (Vq<|tXI C 0) (sXF C (Q5 0) (Q5 1) f) { nx:=λ_ J=>Q .non J,rt:=Q } (vs.map some++List.replicate n none) H:=by
 apply SF h;rintro e x rfl q s;exact#[e,none,rfl,q,x,rfl,.ref e,rfl,e,rfl,q,λu j m=>s u j m]
structure FldW(f:Str)(e:Addr)(F H D:Hp)(w:V)(u:Addr):Prop where
 hd:H u=some (.xd [(f,w)])
 nd:u≠e
 fe:F e=none
 fd:F u=none
 d0:D u=none
def WI(f:Str)(e:Addr)(F H D:Hp)(h:Qj)(w:V):Prop := ∃u,h=some u/\FldW f e F H D w u
def WI.back{w:V}(h:WI f e F H E dct w)(s:Q4 D E):WI f e F H D dct w:=by
 exact I0 h λu a b=>#[u,a,b.hd,b.nd,b.fe,b.fd,s.free b.d0]
abbrev YC(K:W.Frag)(C:Addr)(f:Str)(R:List OT->(OT->Prop)->Prop)(Rx:List OT->(V->Prop)->Prop):Sp:=Zg K C (WI f) R Rx
section
variable {H1:XK}
def Hd{Φx:V->Prop}{d:PyData}{w:V}(h:Qr K ta Z d)(k:V1 d=some w)(l:Φx w)(i:∀Y J e B d,Φx d->Q1 F0 D Y J->D e=none->WI f e Y J D B d->RR e B J):EvZ K F0 D (sXR C (MO C (Uj C f) H1<|Q3 ta QH) RR) Z:=by
 refine λF O H H0 x n=>h D F O H _ n λt E P a c=>#[by simp,λe M=>?_];have p:=c.flat k;subst p;refine#[e,P,rfl,QF,λu A j=>#[rfl,e,some u,rfl,?_,?_]]
 .rw[Qv<|Ne.symm j,QF]
 .have m:=by rw[Qv j]at A;exact A
  have W:Q4 E (upd (upd (upd E e<|.ext<|phX C e none) e<|.ext<|phX C e<|some u) u<|.xd [(f,P)]):=λb o q=>by
   have X:b≠e:=λz=>by subst z;rw[M]at q;cases q
   have g:b≠u:=λz=>by subst z;rw[m]at q;cases q
   rw[Qv g,Qv X,Qv X];exact q
  have s:=x.trans a;exact i t _ e _ P l (s.trans #[W,Q4.refl _,s.fh.trans W,λb q=>.inl q]) (s.hh.free M) #[u,rfl,QF,j,s.fh.free M,s.fh.free m,s.hh.free m]
end
noncomputable def excV(C:Addr)(f:Str)(w:V)(e u:Addr):OwnP where
 ok:=λK F H v p=>p=[e,u]/\(F e=none/\F u=none)/\(∃T,H e=some (.ext<|phF C e (some u) T))/\H u=some (.xd [(f,w)])
 there:=λ{K F H v p} h a j=>by
  obtain⟨rfl,⟨D,B⟩,⟨T,U⟩,m⟩:=h;rcases Xc.mp j with rfl|j
  .exact#[D,ZE U]
  .rcases Xc.mp j with rfl|j
   .exact#[B,ZE m]
   .cases j
 mono:=λ{K F P H J v p} s A q h=>by
  apply aF h;rintro rfl⟨D,B⟩⟨T,U⟩m;exact#[rfl,#[A _ Xb,A _ (Xf _ Xb)],#[T,(q _ Xb).trans U],(q _ (Xf _ Xb)).trans m]
 uniq:=λ{K F H v p M} h h' a j=>by
  obtain⟨rfl,_⟩:=h;obtain⟨rfl,_⟩:=h';exact j
section
variable {i:Nat}
variable {w:V}{e u:Addr}
def QB.excV(s:QB K D F Z O H)(h:zg Z i<|zo v<|excV C f w e u):O[i]?=some (some v)/\(∃T,H e=some (.ext<|phF C e (some u) T))/\H u=some (.xd [(f,w)]):=by
 obtain⟨B,U,X,Y,q,W,P⟩:=s;obtain⟨a,A,j,M,_,hT,m⟩:=q i _ h;subst j;exact#[A,hT,m]
def KP(h:zg Z i<|zo (.ref e)<|excV C f w e u)(q:Bz c=some cv)(m:W.kitOne K (.ref C) cv=some b):Qr K (tCB (Y2 K C)<|Q3 (Q5 i)<|Q3 (tC c) QH) Z (.bool b):=λD F O H Q j k=>by
 apply KE (j.excV h);rintro A⟨T,U⟩s;exact#[.ref e,A,.ref e,c,cv,b,rfl,q,.inl #[e,u,T,_,rfl,U,s,m],k F H _ (Q1.refl j.sub)<|.bl b]
def Tn(h:zg Z i<|zo (.ref e)<|excV C f w e u)(m:∀F,Rep F w d):Qr K (tXG C (Q5 i) f) Z d:=λD F O H Q j k=>by
 apply KE (j.excV h);rintro s⟨T,U⟩q;exact#[.ref e,s,e,u,T,w,rfl,U,q,k F H _ (Q1.refl j.sub)<|m F]
end
structure A3(K:W.Frag)(mg:Str->Qf)(Xa6 C:Addr):Prop where
 em:W.exmOne K (.ref C) (.ref Xa6)=some true
 my:mg "YardError"=some (.ref Xa6)
 gt:SU K C
 na:Ve K C "number"
 is:Gq K C
 k1:W.kitOne K (.ref C) (.ref C)=some true
 k2:W.kitOne K (.ref C) (.type "ValueError")=some true
end L2
namespace L2
section
variable {w:World}{base:Heap}{CR:Addr}
def Mf.evZ{m qual:Str}{st:Stmt}{N ps:Qh}{k:Nat}{δ:Type}{FL:Addr->Hp->Hp->Hp->Qj->δ->Prop}{R:List OT->(OT->Prop)->Prop}{B:List OT->(δ->Prop)->Prop}(H0:Mf K C m qual st ps)(D:Qo N ps (Q8 st))(q:∀f,ZR P w K mg base N qual st k CR R f)(s:∀f,ZX P w K mg base N qual st k CR FL B f)(A:∀ts Φ,R ts Φ->ts.length=ps.length:=by intro _ _ h;cases h<;>rfl)(j:∀ts Φ,B ts Φ->ts.length=ps.length:=by intro _ _ h;cases h<;>rfl):ZH P w K mg base C m ps (k+1) (Zg K CR FL R B):=H0.go λf _ F=>F.evZ D A j (q f) (s f)
end
structure BackF{δ:Type}(FL:Addr->Hp->Hp->Hp->Qj->δ->Prop):Prop where
 back:∀{e:Addr} {F H D E:Hp} {dct:Qj} {d:δ},FL e F H E dct d->Q4 D E->FL e F H D dct d
def bkV:BackF (WI f):=#[λh s=>h.back s]
section
variable {t:TA}{i:Nat}{v:V}{CR:Addr}{N:HandS}{R:List OT->(OT->Prop)->Prop}
def Mv(l:NoH m)(e:zg Z i<|zz<|QY C N)(h:Zi K t Z ts)(o:R (.zow (QY C N)::ts) Φ)(st:ZN CR RR):
 Zz K (ZY C m (Zg K CR FL R Rx) [] (XE CR RR) (Q5 i) t) Z Φ:=λD F O H Q j q=>by
 apply ac (j.hz e);rintro a u k g d W y X S xs w⟨r,A⟩;exact#[_,r,a,u,_,rfl,j.sub _ _ A.ins,l _ _ _ _ _ _,h D F O H _ j λG E I f M=>#[G,_,(j.ext f).kt,f.fh,.zow ((QY C N).mono f.ff #[a,u,k,g,d,W,y,X,S,xs,w,rfl,A])<|by rw[Xp];exact M,RR,rfl,st,.inl #[Φ,o,λz x v p P Y B c s=>q z x v p P Y (f.trans B) (λb n=>f.hh.free<|c b n) s]]]
def Zqz(f:NoH m)(e:zg Z i<|zz<|QY C N)(h:Zi K t Z ts)(j:R (.zow (QY C N)::ts) (λr=>r=.fz d))(st:ZN CR RR):Qr K (ZY C m (Zg K CR FL R Rx) [] (XE CR RR) (Q5 i) t) Z d:=EvO.e (Zz.o<|Mv f e h j st)
def DY(p:BackF FL)(X:NoH m)(e:zg Z i<|zz<|QY C N)(n:Zi K t Z ts)(l:Rx (.zow (QY C N)::ts) Φx)(st:ZN CR RR)
(W:∀j J e f d,Φx d->Q1 F0 D j J->D e=none->FL e j J D f d->RR e f J)(x:Q1 F0 D F H)(q:QB K H9 F Z O H):
 ZY C m (Zg K CR FL R Rx) [] (XE CR RR) (Q5 i) t O H Q:=by
 apply ac (q.hz e);rintro a u k g d M y P S xs r⟨o,v⟩;refine#[_,o,a,u,_,rfl,x.fh _ _ v.ins,X _ _ _ _ _ _,n H9 F O H _ q λw E z h B=>?_];have s:=x.trans h;exact#[w,_,(q.ext h).kt,h.fh,.zow ((QY C N).mono h.ff #[a,u,k,g,d,M,y,P,S,xs,r,rfl,v])<|by rw[Xp];exact B,RR,rfl,st,.inr #[Φx,l,λj J e f d c A b Y=>W j J e f d c (s.trans A) (s.hh.free b)<|p.back Y s.hh]]
def Be(B:BackF FL)(q:NoH m)(e:zg Z i<|zz<|QY C N)(v:Zi K t Z ts)(s:Rx (.zow (QY C N)::ts) Φx)(st:ZN CR RR)
(j:∀h J e f d,Φx d->Q1 F0 D h J->D e=none->FL e h J D f d->RR e f J):EvZ K F0 D (Vq<|ZY C m (Zg K CR FL R Rx) [] (XE CR RR) (Q5 i) t) Z:=λF O H M x A=>DY B q e v s st j x A
def P8{th:TS}(h:QZ K tA Z b)(x:Q1 F0 D F H)(j:QB K H9 F Z O H)(k1:b=true->∀f J,Q1 F0 D f J->QB K H9 f Z O J->th H1 O J)(k2:b=false->∀f J,Q1 F0 D f J->QB K H9 f Z O J->el H1 O J):Ws tA th el H1 O H:=
 h H9 F O H _ j λf J i=>by
  cases b with
  |true=>rw[Xi rfl];exact k1 rfl f J (x.trans i) (j.ext i)
  |false=>rw[Xg<|by decide];exact k2 rfl f J (x.trans i) (j.ext i)
variable {w:V}{e u:Addr}
def Ou(h:zg Z i<|zo (.ref e)<|excV C f w e u)(v:cs.length<=1000)(A:W.kitAny K (.ref C) (cs.map Value.ref)=some b):Qr K (tCB (HX K C)<|Q3 (Q5 i)<|Q3 (Wu<|G9 cs) QH) Z (.bool b):=λD F O H Q q k=>by
 apply KE (q.excV h);rintro B⟨T,U⟩m;refine#[.ref e,B,Nc #[by rw[Xe];exact Wd<|Vz v,λp j=>?_]];have t:e≠p:=λz=>by subst z;rw[j]at U;cases U
 have s:u≠p:=λz=>by subst z;rw[j]at m;cases m
 exact#[e,u,T,_,p,cs,b,rfl,by rw[Qv t];exact U,by rw[Qv s];exact m,SqT.of QF,A,k F _ _ (Q1.own q.sub j)<|.bl b]
end
end L2
namespace L2
structure HH(K:W.Frag)(C:Addr):Prop where
 cls:∀h:Heap,K.In h->∃(UH bm:Qe) (nm q:Str) (N:Addr) (bs:Qe) (XD:Bool) (sn:Qh) (sub:Qe) (ab:Bool) (col:Option Bool) (dd:Qj) (k0 k1 k2 k3 k5:Qf),
  ExcBaseFacts "ValueError" "ValueError.__new__" "ValueError.__init__" UH/\OwnTail h UH bm/\h.get? C=some (excClassObj nm q C N bs bm XD sn sub ab col dd k0 k1 k2 k3 k5 "ValueError.__new__")/\
  ∃mN:Str->Qf,h.Ns N mN/\mN "__init__"=none
open PySem.W in
noncomputable def BC(K:Frag)(C:Addr):Bool:=match K.lookup C with
 |some #[.type "type",_,.cls cd,f]=>(match cd.mro,f.toList with
   |.ref h::bm,[_,_,_,_,some<|.builtin n,_]=>h==C&&n == "ValueError.__new__" && !cd.hasDel&&tailIn K MU bm&&nsOkIn K cd.ns&&nsIn K cd.ns "__init__" == some none
   |_,_=>false)
 |_=>false
open PySem.W in
theorem KG{K:Frag}(q:BC K C=true):HH K C where
 cls:=λh X=>by
  unfold BC at q;split at q
  .rename_i dd cd s P;split at q
   .rename_i Z bm k0 k1 k2 k3 n k5 A Y;simp only[XS,beq_iff_eq,HF]at q;obtain⟨⟨⟨⟨⟨rfl,rfl⟩,f⟩,M⟩,hok⟩,j⟩:=q;obtain⟨nm,bs,D,ns,B,hd,sn,sub,ab,col,W⟩:=cd;dsimp only at A f hok j;subst A f;have m:s=(List.toArray [k0,k1,k2,k3,some<|.builtin "ValueError.__new__",k5]):=by
     obtain⟨l⟩:=s;simp_all
    subst m;exact#[MU,bm,nm,B,ns,bs,hd,sn,sub,ab,col,dd,k0,k1,k2,k3,k5,PySem.F.excBase_ValueError,tail_of_in X M,X _ _ P,_,.of_isNs<|isNs_of_in X hok,nsMap_none_of_in X hok j]
   .cases q
  .cases q
structure U0(K:W.Frag)(mg:Str->Qf)(x:Str)(C:Addr):Prop where
 cl:HH K C
 kp:W.keepIn K (.ref C)=true
 m:mg x=some (.ref C)
def Kr(C:Addr)(t:TA):TE:=λO H Q=>t O H λf E=>f.length<=1000/\∀x,E x=none->Q (.ref x) (upd E x<|.ext<|phX C x none)
section
variable {w:World}{H1:Qb}{g:Array GenState}{d:Drawn}{t:Nat}{os:OsState}
variable {N:Addr}{bs:Qe}{sub:Qe}
def Ik(F:ExcBaseFacts B newId initId UH)(T:OwnTail h UH bm){rest:Qe}
(m:h.get? C=some (excClassObj nm q C N bs bm XD sn sub ab col dd k0 k1 k2 k3 k5 newId))(hn:h.Ns N mN)(M:mN "__init__"=none)(f:rest.length<=sizeLine)
(Y:∀h':Heap,(∀b o,h.get? b=some o->h'.get? b=some o)->phX C (h.objs.size+1) none h'->Q (.done<|.ret<|.ref<|h.objs.size+1) #[h',g,d,t,os]):
 wpAny (model prog w) A (Builtin.«type.__call__» #[.ref C::rest,[]]) Q H1 #[h,g,d,t,os]:=by
 have D:∀b o,h.get? b=some o->(Wt h C rest).get? b=some o:=λb o e=>Xd _ (Xd _ e)
 repeat (first
  |with_reducible refine wpAny_loadPart_at m ?_
  |with_reducible refine wpAny_madeBy_exc m ?_
  |wp_step)
 refine codeAny_call_builtin_code (Code.quiet_builtin _ F.quiet)
  (wpAny_check_new_subT F T m ?_)
 refine codeAny_exc_new_subT F T m ?_ f;show wpAny _ _ _ _ _ #[Wt h C rest,g,d,t,os];have s:(Wt h C rest).get? (h.objs.size+1)=some _:=Hu (by rw[Yy]) rfl;have j:=D _ _ m;have X:=T.keeps D;have K:(Value.ref C::bm).contains (.ref C)=true:=by simp
 repeat (first
  |with_reducible refine wpAny_loadPart_at s ?_
  |(with_reducible refine wpAny_isSubtype_exc j ?_;rw[K])
  |wp_step)
 refine wpAny_typeLookup_tail j (hn.keeps D) X F.mroIs F.init.lookup ?_;rw[M];refine wpAny_holding (Xa<|wpAny_of_eq (F.init.bind _) (Xa (wpAny_call<|codeAny_call_builtin F.init.plain F.initEntry<|wpAny_check_init_subT F X j s rfl ?_)))
 wp_walk using AutoSeq1.wpAny_loadPart' s
 refine Y _ (λb o W=>?_) #[(Wt h C rest).objs.size,(List.toArray []),?_]
 .rw[XT _ _<|VZ<|JG<|Xk W];exact Xd _ (D _ _ W)
 .rw[X9 _ (Xd _ s) rfl];rfl
def ER(F:ExcBaseFacts B newId initId UH)(T:OwnTail h UH bm){rest:Qe}
(j:h.get? C=some (excClassObj nm q C N bs bm XD sn sub ab col dd k0 k1 k2 k3 k5 newId))(hn:h.Ns N mN)(m:mN "__init__"=none)(f:rest.length<=sizeLine)
(s:∀h':Heap,(∀b o,h.get? b=some o->h'.get? b=some o)->phX C (h.objs.size+1) none h'->Q (.ref<|h.objs.size+1) #[h',g,d,t,os]):
 wpAny (model prog w) A (call (.ref C) rest) Q H1 #[h,g,d,t,os]:=by
 have M:=tc_lookup;have K:=tc_bind (.ref C);have D:(#[h,g,d,t,os]:Shared).TypeIs (.ref C) "type" := #[_,j,rfl];refine wpAny_call (codeAny_of_tree ?_)
 repeat (any_goals (first
  |assumption
  |with_reducible refine wpAny_loadPart_at j ?_
  |wp_step))
 exact#[rfl,codeAny_call_builtin_at (Code.quiet_builtin _<|by decide +kernel) entry_typeCall (wpAny_check_type_call_sub j (Ik F T j hn m f s))]
end
section
variable {x:Str}{p:Pos}{e:Expr}{t:TA}{R:Addr->Qj->Hp->Prop}
def Zr5(c:HH X.K C)(R:W.keepIn X.K (.ref C)=true)(hg:Gl X x)(Z:X.mg x=some (.ref C))
(b:PA X (e::es) t)(m:(x==("__debug__" : Str))=false:=by decide)(he:zs X e es:=by rfl)(hpl:zb X pos es:=by rfl):
 PE X (.Call (.Name x p) (e::es) [] pos) (Kr C t):=by
 refine λY s O H Q I h=>wpAny_Call_Name_kw (WZ I hg Z (W.callWith_K I.ok.mod.kin R (Q7 (b pos Y s O H _ I h) ?_) he hpl) m);rintro D M ⟨n,E,f,r,y,q⟩;refine#[f.kIn,?_];apply aa (c.cls _ f.kIn);rintro UH bm nm u N z XD sn K ab col dd k0 k1 k2 k3 k5⟨l,T,k,w,i,a⟩;refine ER l T k i a (by show D.length<=_;rw[<- r.length,sizeLine_eq];lia) λh' j P=>?_
 exact#[.ref _,_,f.laid j (Gn _)<|Dq P,rfl,q _<|f.hok.fresh (Gn _)]
def ZpO(c:HH X.K C)(j:X.calm=true)(M:PE X e te)(K:∀Y O H s a f,Qt X Y O H s->H a=some (.ext<|phX C a f)->R a f H->X.xe (.ref a) s):PS X (.Raise (some e) none pos) (sXR C te R):=by
 refine λY s O H H0 I h=>Xa (wpAny_standAt<|Le (C:=C) (I.ok.hd j)<|Xa<|Q7 (M Y s O H _ I h) ?_);rintro g d ⟨v,E,x,r,a,f,rfl,A,q⟩;refine Xa<|wpAny_standAt<|Xl ?_;obtain rfl:=r;apply KE (x.hok a _ A);rintro⟨t,B,p⟩_ _;apply aa (c.cls _ x.kIn);rintro UH bm nm D N Z XD sn m ab col dd k0 k1 k2 k3 k5⟨b,T,P,_⟩
 exact#[a,t,f,B,bm,nm,D,N,Z,XD,sn,m,ab,col,dd,k0,k1,k2,k3,k5,_,rfl,T.hasType b.hasBase,P,p,K _ _ _ _ _ _ x A q]
def ZrG  {o:Expr}  {k:Nat}{e:XK}{h:Sem Bool}(M:ZH X.prog X.w X.K X.mg X.base C m ps j sp)(c:HandC X.K C)(s:Room k X.A)(p:VR (CX1 X.prog X.w) X e)(he:PE X o ta)(x:j<=k:=by walk_at"j")
(q:eval (.Call (.Attribute o m X3) [] [] pos) X.env=(do
  let ov <- eval o X.env
  standAt X3.atName
  let (f,first) <- holding [ov] (getMethod ov m h)
  callWith pos f first (backTo pos<|starEach [] X.env)<|backToKw pos<|keywordEach [] X.env):=by rfl):
 PE X (.Call (.Attribute o m X3) [] [] pos) (ZY C m sp [] e ta QH):=by
 exact SF M λf fd t A F=>Fx he c.cl t F (s.mono x) A .nil p q
end
section
variable {w:World}{base:Heap}{N:Qh}
def Bd{x:Str}{p:Pos}{e:Expr}{t:TA}(c:U0 K mg x C)(f:ZN C RR)
(j:PA (cx1 P w K mg base N qual scope f0 cd A outer s0 D<|XE C RR) (e::es) t)(hg:Gl (cx1 P w K mg base N qual scope f0 cd A outer s0 D<|XE C RR) x:=by rfl)
(h:(x==("__debug__" : Str))=false:=by decide)(he:starEach (e::es) (cx1 P w K mg base N qual scope f0 cd A outer s0 D<|XE C RR).env=(false,eval e (cx1 P w K mg base N qual scope f0 cd A outer s0 D<|XE C RR).env)::starEach es (cx1 P w K mg base N qual scope f0 cd A outer s0 D<|XE C RR).env:=by rfl)
(hpl:(backTo pos<|starEach es (cx1 P w K mg base N qual scope f0 cd A outer s0 D<|XE C RR).env).any (·.1)=false:=by rfl):
 PS (cx1 P w K mg base N qual scope f0 cd A outer s0 D<|XE C RR) (.Raise (some<|.Call (.Name x p) (e::es) [] pos) none pos') (sXR C (Kr C t) RR):=
 ZpO c.cl rfl (Zr5 c.cl c.kp hg c.m j h he hpl) (λY O H s a m I he r=>FI f I he r)
end
def Z6(e:Addr)(F H D:Hp)(f:Qj)(_:Unit):Prop:=f=none/\F e=none
def bkN:BackF Z6:=#[λh _=>h]
def Mw{Φx:Unit->Prop}{d:PyData}(h:Qr K ta Z d)(W:Φx ())(P:∀A J e j d,Φx d->Q1 F0 D A J->D e=none->Z6 e A J D j d->RR e j J):EvZ K F0 D (sXR C (Kr C<|Q3 ta QH) RR) Z:=λF O H H0 x X=>
 h D F O H _ X λY E c B a=>#[by simp,λe q=>by
  have m:=x.trans B;have s:Q4 E (upd E e<|.ext<|phX C e none):=λb o f=>by
   have M:b≠e:=λz=>by subst z;rw[q]at f;cases f
   rw[Qv M];exact f
  exact#[e,none,rfl,QF,P Y _ e none () W (m.trans #[s,Q4.refl _,m.fh.trans s,λb f=>.inl f]) (m.hh.free q) #[rfl,m.fh.free q]]]
def U3(C e:Addr):OwnP where
 ok:=λK F H v p=>p=[e]/\F e=none/\∃T,H e=some (.ext<|phF C e none T)
 there:=λ{K F H v p} h a f=>by
  obtain⟨rfl,j,T,U⟩:=h;cases Xj.mp f;exact#[j,ZE U]
 mono:=λ{K F B H J v p} s q m h=>by
  obtain⟨rfl,j,T,U⟩:=h;exact#[rfl,q _ Xb,T,(m _ Xb).trans U]
 uniq:=λ{K F H v p A} h h' a f=>by
  obtain⟨rfl,_⟩:=h;obtain⟨rfl,_⟩:=h';exact f
section
variable {i:Nat}{e:Addr}
def KZ{b:Bool}(h:zg Z i<|zo (.ref e)<|U3 C e)(m:Bz c=some cv)(j:W.kitOne K (.ref C) cv=some b):Qr K (tCB (Y2 K C)<|Q3 (Q5 i)<|Q3 (tC c) QH) Z (.bool b):=λD F O H Q f k=>by
 apply I0 f.fp;intro A q _;apply aM (q i _ h);rintro B s rfl _ _⟨T,U⟩;exact#[.ref e,s,.ref e,c,cv,b,rfl,m,.inr<|.inl #[e,T,rfl,U,j],k F H _ (Q1.refl f.sub)<|.bl b]
end
end L2
namespace L2
def Kj(K:W.Frag)(C:Addr):List V->Hp->VK->Prop:=λxs H Q=>∃(e T:Addr) (f:Addr) (h:Qg) (b:Bool),xs=[.ref e,.ref f]/\H e=some (.ext<|phF C e none T)/\SqT K H f (h.map V.ref)/\W.kitAny K (.ref C) (h.map Value.ref)=some b/\Q (.bl b) H
def Ox  (c:Gq X.K C):ZC X (.builtin "isinstance") (Kj X.K C):=by
 intro Y s O H xs t Q I r h;apply aG h;rintro e T B y b rfl U d i q;apply SF (UI r);rintro k w rfl P f;obtain rfl:k=Value.ref e:=P;obtain rfl:w=Value.ref B:=f;apply KE (I.hok e _ U);rintro⟨p,u,a,_⟩_ _;apply L3 (I.tuple d);intro Z M j v;obtain rfl:=Rt M;apply aP (id j);rintro⟨o,l,x,K⟩g A n m;simp only at A m;subst A m;exact W.kia_tup (DL (od:=none) c.ga c.hd c.fc c.sp c.tk c.mo) I.kIn #[a,rfl,rfl,trivial] g i (by intro z;cases z) λD=>#[.bl b,H,I.tok D,rfl,q]
variable {Z:List (Option OT)} in
def IH(h:zg Z i<|zo (.ref e)<|U3 C e)(q:cs.length<=1000)(s:W.kitAny K (.ref C) (cs.map Value.ref)=some b):Qr K (tCB (Kj K C)<|Q3 (Q5 i)<|Q3 (Wu<|G9 cs) QH) Z (.bool b):=λD F O H Q j k=>by
 apply I0 j.fp;intro M A _;apply aM (A i _ h);rintro P B rfl _ _⟨T,U⟩;refine#[.ref e,B,Nc #[by rw[Xe];exact Wd<|Vz q,λp f=>?_]];have m:e≠p:=λz=>by subst z;rw[f]at U;cases U
 exact#[e,T,p,cs,b,rfl,by rw[Qv m];exact U,SqT.of QF,s,k F _ _ (Q1.own j.sub f)<|.bl b]
end L2
namespace L2
section
variable {i:Nat}
section
variable {R:List OT->(OT->Prop)->Prop}{Rx:List OT->(δ->Prop)->Prop}{t:TA}
def Mm(X:BackF FL)(W:Zi K t Z ts)(P:Rx ts Φx)(st:ZN C RR)(s:∀i J e f d,Φx d->Q1 F0 D i J->D e=none->FL e i J D f d->RR e f J)(x:Q1 F0 D F H)(j:QB K H9 F Z O H):
 Vd (Zg K C FL R Rx) [] (XE C RR) t O H Q:=W H9 F O H _ j λY E a h q=>
 #[Y,ts,(j.ext h).kt,h.fh,by rw[Xp];exact q,RR,rfl,st,.inr #[Φx,P,λi J e f d M m B A=>s i J e f d M ((x.trans h).trans m) ((x.trans h).hh.free B)<|X.back A (x.trans h).hh]]
def Nq(s:BackF FL)(m:Zi K t Z ts)(j:Rx ts Φx)(st:ZN C RR)(i:∀h J e f d,Φx d->Q1 F0 D h J->D e=none->FL e h J D f d->RR e f J):EvZ K F0 D (ZM (Vd (Zg K C FL R Rx) [] (XE C RR) t) g) Z:=λF O H A x q=>Mm s m j st i x q
def Fp(P:Zi K t Z ts)(M:R ts Φ)(st:ZN C RR):Zz K (Vd (Zg K C FL R Rx) [] (XE C RR) t) Z Φ:=λD F O H Q h q=>
 P D F O H _ h λY E b f j=>
  #[Y,ts,(h.ext f).kt,f.fh,by rw[Xp];exact j,RR,rfl,st,.inl #[Φ,M,λX W v p r s i A m=>q X W v p r s (f.trans i) (λa B=>f.hh.free<|A a B) m]]
def UZ(h:Zi K t Z ts)(f:R ts (λr=>r=.fz d))(st:ZN C RR):Qr K (Vd (Zg K C FL R Rx) [] (XE C RR) t) Z d:=EvO.e (Zz.o<|Fp h f st)
end
def OO(e:zg Z i<|zf d)(h:∀F O H Q,Q1 F0 D F H->QB K D F Z O H->te O H Q):EvZ K F0 D (VJ<|Wu<|Q3 (Q5 i)<|Q3 te QH) Z:=λF O H A x f=>by
 exact I0 f.fp λs j _=>I0 (j i _ e) λq m _=>#[q,m,h F O H _ x f]
end
end L2
namespace L2
def Kv(C e:Addr):ZP where
 ok:=λK F v=>v=.ref e/\∃T,F e=some (.ext<|phF C e none T)
 mono:=by
  rintro K F f v s ⟨rfl,T,U⟩;exact#[rfl,T,s _ _ U]
section
variable {i:Nat}{e:Addr}
def U3.fz(h:(U3 C e).ok K F H (.ref e) p)(s:Q4 F F')(he:∀b∈p,F' b=H b):(Kv C e).ok K F' (.ref e):=by
 apply KE h;rintro rfl _⟨T,U⟩;exact#[rfl,T,by rw[he _<|by simp];exact U]
def Zqt(h:zg Z i<|zz<|Kv C e)(B:Zi K t Z [.fz<|.int k])(U : -(2^62)<=k)(W:k<2^62):EvI K (B3 C e t) Z (Vp 0 k.toNat):=λD F O H R m r=>
 B D F O H _ m λc E l f s=>by
  cases s with
  |fz a b=>
   cases b;cases a;apply I0 ((m.ext f).fp);intro n g _;apply aB (g i _ h);rintro v _ _ _⟨T,X⟩;refine#[k,rfl,U,W,r c E _ f λY p q j=>#[#[?_,_,T,j _ _<|q _ _ X],λi d P=>?_]]
   .rw[Jg];exact Xm _
   .obtain⟨M,rfl⟩:=Wn P;exact#[M,λx o A=>by
     obtain⟨rfl,rfl⟩:=A;exact#[Y,Q1.refl j,.int _]]
end
end L2
namespace L2
def V4  {e:Expr}{t:TA}{p:Pos}(c:Gq K C)(f:X.mg "isinstance"=none)(h:PA X (e::es) t)(j:X.K=K:=by rfl)(hg:Gl X "isinstance" := by rfl)
(he:zs X e es:=by rfl)(hpl:zb X pos es:=by rfl):PE X (.Call (.Name "isinstance" p) (e::es) [] pos) (tCB (Y2 K C) t):=by
 subst j;exact Zx (EL c) f Jz h (hg:=hg) (he:=he) (hpl:=hpl)
def Nf(h:EvR K t Z Ψ):EvR K (Vh t dx) Z Ψ:=λF0 D F O H j x f k=>h F0 D F O H _ x f k
def Om:NoH "set_bound" := λ_ _ _ _ _ _=>rfl
end L2
namespace L2
def spY(C:Addr):Sp:=λf H Q _=>∃a u y n k g d e,f=[.ref a]/\H a=some (.ins C u<|hfs y n k g d e)/\Q y H
section
variable {i:Nat}{N:HandS}{H1:XK}
def OZ(j:NoH m)(e:zg Z i<|zz<|QY C N)(s:N.yard=d):Qr K (ZY C m (spY C) [] H1 (Q5 i) QH) Z d:=λD F O H Q f q=>by
 subst s;apply ac (f.hz e);rintro a u k g d h y B S xs M⟨A,o⟩;exact#[_,A,a,u,_,rfl,f.sub _ _ o.ins,j _ _ _ _ _ _,a,u,y,_,k,g,d,h,rfl,f.sub _ _ o.ins,q F H y (Q1.refl f.sub) o.yd]
end
end L2
namespace L2
def Kc(t:St->TE):TE:=λO H Q=>t O O H Q
def RHq(C:Addr)(th:Addr->TS)(H0:Ends)(j:Nat)(O:St)(e:Addr)(f:Qj)(H:Hp):Prop := ∀J T,Lefts C e f H J->J T=none->T≠e->th e (Dh H0 j) (O.set j<|some<|.ref e) (left C e f T J)
def EHq(C:Addr)(th:Addr->TS)(H0:Ends)(j:Nat):St->XK:=λO=>XE C (RHq C th H0 j O)
def C1{H0:Ends} : ZN C (RHq C th H0 j O):=λ_ _ _ _ r hT f J m h=>r J m (.head hT f h)
section
variable {o e:Expr}{t:TA}{k:Nat}{Eσ:St->XK}{pl:Sem Bool}
def IQ{O:St}{H:Hp}{Q:VK}{us:Qe}{vs:List V}{f:Addr}(F:FnOk X.prog X.w X.K X.mg X.base (CX1 X.prog X.w) j f fd ps sp)(t:Room j X.A)(A:ZW X.K fd ps [])(q:NZ (CX1 X.prog X.w) X Eσ)
(I:Qt X Y O H s)(r:QW vs us)(h:sp (vs++[]) H Q (Eσ O)):wpAny (model X.prog X.w) X.A (call (.ref f) us) (EP X Y O Q) X.xe s:=by
 have m:=r.append .nil;refine wpAny_call (codeAny_mono (F.run X.A X.stack s H _ _ _ Q _ t I.env0 (A s us I.kIn<|by exact m.length▸(F.len _ _ _ _ h)) m h) λr o k=>?_)
 match r with
 |.error e=>exact q Y O H s e o I k
 |.ok (.ret B)=>exact I.after k
 |.ok .next=>exact False.elim k
 |.ok .brk=>exact False.elim k
 |.ok .cont=>exact False.elim k
def Zs2(M:ZH X.prog X.w X.K X.mg X.base C m ps j sp)(c:HandC X.K C)(i:Room k X.A)(d:NZ (CX1 X.prog X.w) X Eσ)(he:PE X o ta)(v:PA X (e::es) t)(n:j<=k:=by walk_at"j")
(A:zs X e es:=by rfl)(hpl:zb X pos es:=by rfl)
(g:eval (.Call (.Attribute o m X3) (e::es) [] pos) X.env=(do
  let ov <- eval o X.env
  standAt X3.atName
  let (f,first) <- holding [ov] (getMethod ov m pl)
  callWith pos f first (backTo pos<|starEach (e::es) X.env)<|backToKw pos<|keywordEach [] X.env):=by rfl):
 PE X (.Call (.Attribute o m X3) (e::es) [] pos) (Kc λO=>ZY C m sp [] (Eσ O) ta t):=by
 apply SF M;refine λf fd B p F=>λY s O H Q I h=>W.methodCall_KW (Q7 (he Y s O H _ I h) ?_) g;rintro L P ⟨x,E,K,Z,a,u,J,w,y,l,q⟩;subst w;obtain rfl:=Z;refine RM K y c.cl B l (W.callWith_K I.ok.mod.kin B.kp (Q7 (v pos Y P O E _ K q) ?_) A hpl);rintro z G ⟨vs,N,D,r,b⟩;exact#[D.kIn,IQ (vs:=.ref a::vs) F (i.mono n) p d D (.cons rfl r) b]
end
section
variable {B:Addr}{tb:Ends->TS}{x:Str}
def ZrO(cm:W.exmOne X.K (.ref C) (.ref B)=some true)(f:X.stack=X.env::X.outer)(i:X.env.frame=some X.env.locals)(hg:Gl X x)(Q:X.mg x=some (.ref B))(R:X.N.length=j)
(hb:∀H0 c,PSs (TC X (EHq C th H0 j) c) body<|tb H0)(S:∀e c,PSs (WD X e c) (b0::suite)<|th e)(hd:(x==("__debug__" : Str))=false:=by decide):
 PS X (.Try body (.ExceptHandler (some<|.Name x np) none (b0::suite) hpos::rest) [] [] pos) (Gy tb):=by
 refine λY s0 a D H0 E h=>wpAny_Try_except (wpAny_mono (hb H0 (X.pn++Y) [] s0 a D H0 (E.toPn.wish _) h) (λn s1 q=>?_) λv s q=>?_)
 .have P:=SP.ofPn q;cases n with
  |next=>exact wpAny_execs_nil P
  |ret o=>exact P
  |brk=>exact P
  |cont=>exact P
 .apply L1 q;rintro O H m I⟨e,rfl,⟨T0,k,r,hT⟩,N⟩;have A:=E.ok;apply KE (I.hok e _ r);rintro⟨vs,sl,g,U,l⟩_ _;apply KE (I.hok T0 _ hT);rintro⟨oT,ts,d,t,h3⟩_ _;have ff:s.heap.FunFrames X.base (X.env::X.outer):=by rw[<- f];exact I.stack
  refine RX (by rw[A.frames,f]) ff i g rfl U k d t h3 λh' T M=>?_;have F:=Hb I (by rw[r];trivial) g (Array.getElem?_eq_some_iff.mp U).1 l (by exact f▸M);have K:=VZ (XI (Xk g) M.new);have Z:Qt (WD X e _) [] O _ { s with heap:=h' }:=F.toHandler;refine wpAny_handleBy_cons (codeAny_handlers_test<|WZ Z hg Q ((W.exm_one F.kIn ((W.Looks.ld M.exc).andThen .now) cm).here (codeAny_handlers_suite ?_)) hd) (by intro q;cases q);have L:left C e m T H e=some (.ext<|phF C e m T):=by unfold left;rw[Qv<|Ne.symm K,QF]
  have G:left C e m T H T=some (.ext<|phT T):=by unfold left;rw[QF]
  refine Ab (Z.hok e _ L).1 (Z.hok T _ G).1 λt k2=>?_;have u:=Z.kept (t':=s.toks) k2;refine wpAny_mono (S e _ [] _ O _ (Dh H0 j) u (((λI=>List.set_eq_of_length_le (by rw[I.len];exact Nat.le_of_eq R)) u)▸(N _ T .nil (I.hok.fresh M.new) K))) (λn s4 z=>?_) λ_ _ z=>False.elim z
  cases n with
  |next=>
   exact L0 z λb J y q=>#[b,J,(y.ofHandler A).ofPn,by have q:H0.nx _ J:=q;rwa[(λI=>List.set_eq_of_length_le (by rw[I.len];exact Nat.le_of_eq R)) y]at q]
  |ret o=>exact Ps z λ_ _ _ _ _ z=>False.elim z
  |brk=>exact L0 z λ_ _ _ z=>False.elim z
  |cont=>exact L0 z λ_ _ _ z=>False.elim z
end
structure M8(K:W.Frag)(C:Addr){δ:Type}(FL:Addr->Hp->Hp->Hp->Qj->δ->Prop)(ok:δ->Prop)(XO:δ->Addr->OT->Prop):Prop where
 go:∀{F F' H J H'':Hp} {e T:Addr} {dct:Qj} {d:δ},ok d->Q4 F F'->H e=none->FL e F' J H dct d->Lefts C e dct J H''->H'' T=none->T≠e->∃o p,XO d e o/\Zy K F (left C e dct T H'') (.ref e) o p/\∀a∈p,H a=none
def xoP(C:Addr)(f:Str)(ds:Qd)(e:Addr)(o:OT):Prop := ∃u q,o=.own (.ref e) (Z0t C f ds e u q)
def xoV(C:Addr)(f:Str)(w:V)(e:Addr)(o:OT):Prop := ∃u,o=.own (.ref e) (excV C f w e u)
def xoN(C:Addr)(_:Unit)(e:Addr)(o:OT):Prop:=o=.own (.ref e) (U3 C e)
def Nv{b:Addr}(j:Lefts C e dct J H'')(hT:H'' T=none)(f:b≠e)(h:J b=some o):left C e dct T H'' b=some o:=by
 have a:=Zsz j f h;unfold left;rw[Qv (λz=>by subst z;rw[hT]at a;cases a),Qv f];exact a
def KU(h:T≠e):left C e dct T H e=some (.ext<|phF C e dct T):=by unfold left;rw[Qv<|Ne.symm h,QF]
theorem xfP:M8 K C (Fld f) Jx (xoP C f) where
 go:=by
  rintro F M H J D e T _ ds A s B ⟨u,q,xs,rfl,fl⟩ m hT h;refine#[_,[e,u,q],#[u,q,rfl],#[rfl,rfl,#[s.free fl.fe,s.free fl.fd,s.free fl.fq],#[T,KU h],Nv m hT fl.nd fl.hd,xs,Nv m hT fl.nq fl.hq,fl.rp.flats A],λa j=>?_];simp only[Xc,List.mem_nil_iff,or_false]at j;rcases j with rfl|rfl|rfl
  .exact B
  .exact fl.d0
  .exact fl.q0
theorem xfV:M8 K C (WI f) (λ_=>True) (xoV C f) where
 go:=by
  rintro F B H J A e T _ w _ s m ⟨u,rfl,fl⟩ q hT h;refine#[_,[e,u],#[u,rfl],#[rfl,rfl,#[s.free fl.fe,s.free fl.fd],#[T,KU h],Nv q hT fl.nd fl.hd],λa j=>?_];simp only[Xc,List.mem_nil_iff,or_false]at j;rcases j with rfl|rfl
  .exact m
  .exact fl.d0
theorem xfN:M8 K C Z6 (λ_=>True) (xoN C) where
 go:=by
  rintro F A H J m e T _ w _ s h ⟨rfl,fe⟩ q hT f;exact#[_,[e],rfl,#[rfl,rfl,s.free fe,T,KU f],λa j=>by rw[Xj.mp j];exact h]
section
variable {t:TA}{i:Nat}{v:V}
def QB.setFr{t:OT}(h:QB K D F Z O H)(x:Q1 F H F1 E)(C:∀a∈p,H a=none)(P:∀a∈p,D a=none)(A:Zy K F1 E v t p):QB K D F1 (Z.set i<|some t) (O.set i<|some v) E:=
 (h.ext x).set A P (hn:=λa M j w s q c b f B=>by
  refine L3 h.fp λg X e W=>I0 (X j s c) λd m Y=>?_;rw[b]at m;cases m;exact(W j a<|Mh (Y.ext x) f a B).2 (C a M))
end
end L2
namespace L2
section
variable {i:Nat}{r:R2}{c:V}
def Es{th:TS}(q:QZ K tA Z true)(hw:EvW K te Z i Θ)(hn:∀n o,Θ n o->QE K (Ws (Jr<|tOp r (tC<|.int n)<|tC c) th el) (Z.set i<|some o) H0):QE K (Ws (HR tA<|Jr<|tOp r te<|tC c) th el) Z H0:=λF0 D F O H A x j C=>
 q D F O H _ j λB E h=>(Xi rfl).mpr <| hw F0 D B O E _ (x.trans h) (j.ext h) λM J n o f m _ s=>hn n o f F0 D M O J A m s C
end
section
variable {i:Nat}{e:Addr}
def Zrk(i:Nat)(h:zg Z i<|zo (.ref e)<|U3 C e)(B:Jx fs)(k:EvO K t (Z.set i<|zz<|Kv C e) (.ol fs)):EvO K t Z (.ol fs):=λD F O H Q M r=>by
 refine I0 (M.freezeZX h (λa b c=>U3.fz a b c)) λp s P=>k D _ O H Q P λW J A m x j q=>r _ J A m (Ul (λa f=>#[(s a f).1,(s a f).2.1]) x) j (N4 B K W _ J A m (λa f=>?_) q)
 by_cases z:a∈p
 .rw[Xi z]
 .rw[Xg z];exact(q.there a f).1
def TF{g:TG}(i:Qr K tx Z d0)(x:Q1 F0 D F H)(h:QB K H9 F Z O H)(k:∀e E,Q1 F0 D e E->QB K H9 e Z O E->∀Q,te O E Q):ZM (Y1<|Q3 tx<|Q3 te QH) g H1 O H:=
 i H9 F O H _ h λe E j f _=>k e E (x.trans f) (h.ext f) _
end
end L2
namespace L2
section
variable {i:Nat}{CR:Addr}{N:HandS}{v:V}{t:TA}
def ZrB(E:NoH m)(e:zg Z i<|zo v<|Zf CH N)(I:Zi K t Z ts)(G:R N ts Ψ)
(hn:∀r f,Ψ r f->H0.nx (Z.set i<|zo v<|Zf CH f)):
 QE K (Gy λX=>Vq<|Kc λO=>ZY CH m (G6 K CH CR FL R Rx) [] (EHq CR th X j O) (Q5 i) t) Z H0:=λF0 D F O H X x s c=>by
 apply L3 (Wc s x e);intro p0 s0 C _;apply aZ (Zf.at C);rintro W u y n k g d e'⟨rfl,U⟩;exact#[.ref W,s0,W,u,_,rfl,U,E _ _ _ _ _ _,I D F O H _ s λS H2 b h o=>.inl #[_,rfl,C1,L3 (Wc (s.ext h) (x.trans h) e) λp s1 B P=>#[S,_,b++[],p,ts,N,Ψ,rfl,(s.ext h).kt,h.fh,by rw[Xp];exact o,B,G,λY J w f T r q z a M A l hq=>KE (P Y J w f a M A) λL Q _=>c.nx Y _ J _ L Q (hn r f z)]]]
def ZsL(k:∀vs H Q M,Zg K CR FL (λ_ _=>False) Rx vs H Q M->sp vs H Q M)(xf:M8 K CR FL ok XO)(hm:NoH m)(e:zg Z i<|zo v<|Zf CH N)(hA:Zi K t Z ts)(hR:Rx (.zow (QY CH N)::ts) Φx)
(hth:∀d e o,Φx d->XO d e o->QE K (th e) (Z.set j<|some o) { nx:=λX=>H0.nx<|X.set j none,rt:=λ_=>False })(l:∀d,Φx d->ok d):
 QE K (Gy λM=>Vq<|Kc λO=>ZY CH m sp [] (EHq CR th M j O) (Q5 i) t) Z H0:=λF0 D F O H M x G c=>by
 apply L3 (Wc G x e);intro p0 s0 Y _;apply aZ (Zf.at Y);rintro a0 u y n k' g d e'⟨rfl,U⟩;refine#[.ref a0,s0,a0,u,_,rfl,U,hm _ _ _ _ _ _,hA D F O H _ G λf E vs P r1=>k _ _ _ _ ?_];have C:=G.ext P;apply L3 (Wc C (x.trans P) e);intro p _ s _;have W:Q4 f (frF f E p):=W8 λa r=>((Zf CH N).there s a r).1;refine#[frF f E p,_,C.kt.mono W,D9 C.sub,.zow (Zf.fz s W λb hb=>WT hb)<|by rw[Xp];exact r1.mono W,_,rfl,C1,.inr #[Φx,hR,λF' J e dct d S I R fl H'' T hL hT B=>?_]];apply SF (xf.go (l d S) (W.trans I.ff) R fl hL hT B);intro o q w so A;have L:=CO (.step hL hT B) I.hh R;have X0:Q1 f E f _:=#[L,Q4.refl _,C.sub.trans L,λ_ h=>.inl h];exact hth d e o S w F0 D f _ _ _ ((x.trans P).trans X0) (C.setFr X0 A (λa r=>(x.trans P).hh.free (A a r)) so) #[λF4 σ4 H4 ρ4 x4 S4 q4=>c.nx F4 _ H4 _ x4 (S4.setN none) q4,λ_ _ _ _ _ _ _ _ z=>False.elim z,λ_ _ _ _ _ _ z=>False.elim z,λ_ _ _ _ _ _ z=>False.elim z]
end
def Fun.evPN{w:World}{base:Heap}{B:Type}{Φ:B->OwnP}{x:Str}{st:Stmt}{f:Addr}{L:Qh}{k:Nat}{R:B->List OT->(OT->B->Prop)->Prop}(F:Fun K x qual st f fd)(l:Qo L ps (Q8 st))
(j:∀v M ts Ψ,R M ts Ψ->∀H m,B0 P w K mg base L qual st k f H m λt=>EvR K (Vh t<|VJ<|tC .non) (ini L (.own v (Φ M)::ts))<|fiO v Φ Ψ)(D:∀M ts Ψ,R M ts Ψ->ts.length+1=ps.length:=by intro _ _ _ h;cases h<;>rfl):FnOk P w K mg base CX0 (k+1) f fd ps (spP K Φ R):=by
 refine F.ok l (λa H Q m h=>?_) λa H Q m h Y A outer s g=>?_
 .obtain⟨F,Z,C,p,ts,M,Ψ,e,_,_,W,_,X,_⟩:=h;rw[e,XY,W.length];exact D _ _ _ X
 .obtain⟨F,Z,C,p,ts,M,Ψ,rfl,d,b,W,c,X,q⟩:=h;exact I0 (j Z M ts Ψ X H m Y A outer s g) λt U i=>#[t,U,DK (R:=R) (q0:=λ_ _=>True) i d b W c q]
def Df.evPN{w:World}{base:Heap}{m:Type}{Φ:m->OwnP}{x:Str}{st:Stmt}{L:Qh}{k:Nat}{R:m->List OT->(OT->m->Prop)->Prop}(H0:Df K mg x st ps)(s:Qo L ps (Q8 st))
(j:∀f v M ts Ψ,R M ts Ψ->∀H A,B0 P w K mg base L x st k f H A λt=>EvR K (Vh t<|VJ<|tC .non) (ini L (.own v (Φ M)::ts))<|fiO v Φ Ψ)(q:∀M ts Ψ,R M ts Ψ->ts.length+1=ps.length:=by intro _ _ _ h;cases h<;>rfl):Q2 P w K mg base x ps (k+1) (spP K Φ R):=
 H0.go λf fd F=>F.evPN s (j f) q
end L2
namespace L2
def InZ(C:Addr)(f:Str)(j:ZP):ZP where
 ok K F v := ∃a u h,v=.ref a/\F a=some (.ins C u [(f,h)])/\j.ok K F h
 mono:=by
  rintro K F q v s ⟨a,u,h,rfl,U,m⟩;exact#[a,u,h,rfl,s _ _ U,j.mono s m]
def InP.fz(hz:∀{A m E:Hp} {j:V} {q:Qg},Φ.ok K A E j q->Q4 A m->(∀b∈q,m b=E b)->ρ.ok K m j)(h:(InP C f Φ).ok K F H v p)(s:Q4 F F')(he:∀b∈p,F' b=H b):(InZ C f ρ).ok K F' v:=by
 obtain⟨a,u,j,q,rfl,rfl,X,Y,W,Z,B,P,M,k⟩:=h;exact#[a,u,j,rfl,by rw[he _<|by simp];exact B,hz k s λb D=>he b<|by simp[D]]
section
variable {i:Nat}{ρ:ZP}{t:TA}
def Lb(c:Cls K C)(A:Ve K C f)(e:zg Z i<|zz<|InZ C f ρ)(h:Zi K t Z ts):Zi K (Q3 (Va K (Q5 i) f) t) Z (.zow ρ::ts):=λD F O H Q j q=>by
 apply I0 j.fp;intro b M _;apply aP (M i _ e);rintro v P _ a⟨u,W,rfl,U,B⟩;refine#[_,P,a,C,u,_,W,rfl,j.sub _ _ U,c,A,by simp[List.lookup],h D F O H _ j λX E Y m s=>q X E _ m<|.zow (ρ.mono m.ff B) s]
def EV(X:(m==f)=false)(e:zg Z i<|zz<|InZ C f ρ)(d:Zi K t Z ts)(c:R (.zow (InZ C f ρ)::ts) Φ):Zz K (ZY C m (Zm K R) [] H1 (Q5 i) t) Z Φ:=λD F O H Q j q=>by
 apply I0 j.fp;intro y k _;apply aP (k i _ e);rintro v l _ a⟨u,n,rfl,U,g⟩;exact#[_,l,a,u,_,rfl,j.sub _ _ U,by simp[List.lookup,X],d D F O H _ j λw E x h B=>#[w,_,Φ,(j.ext h).kt,h.fh,.zow ((InZ C f ρ).mono h.ff #[a,u,n,rfl,U,g])<|by rw[Xp];exact B,c,λr o v p M P A W s=>q r o v p M P (h.trans A) (λb Y=>h.hh.free<|W b Y) s]]
def EW(h:(m==f)=false)(e:zg Z i<|zz<|InZ C f ρ)(q:Zi K t Z ts)(j:R (.zow (InZ C f ρ)::ts) (λr=>r=.fz d)):Qr K (ZY C m (Zm K R) [] H1 (Q5 i) t) Z d:=EvO.e (Zz.o<|EV h e q j)
def Zqb{t:TE}(i:Nat)(e:zg Z i<|zo v<|InP C f<|Zf CH N)(j:∀r,Φ r->JP r)(h:Zz K t (Z.set i<|zz<|InZ C f<|QY CH N) Φ):Zz K t Z Φ:=
 Rb i e (λa b c=>InP.fz (λa b c=>Zf.fz a b c) a b c) j h
def Cm{t:TE}(i:Nat)(e:zg Z i<|zo v<|InP C f<|Zf CH N)(m:V1 d=some dx)(h:Qr K t (Z.set i<|zz<|InZ C f<|QY CH N) d):Qr K t Z d:=
 EvO.e (Zz.o<|Zqb i e (λr j=>by subst j;exact Bf m)<|h.o.d rfl)
def Ms{t:TT}(i:Nat)(e:zg Z i<|zo v<|InP C f<|Zf CH N)(h:QZ K t (Z.set i<|zz<|InZ C f<|QY CH N) b):QZ K t Z b:=λD F O H Q s q=>by
 exact I0 (s.freezeZ e (λa b c=>InP.fz (λa b c=>Zf.fz a b c) a b c)) λp j A=>h D _ O H Q A λB J x=>q _ J (Ul (λa m=>#[(j a m).1,(j a m).2.1]) x)
end
end L2
namespace L2
section
variable {w:World}{H1:Qb}
def AZ(hn:1<=n)(w:∀m (C:Bool->Shared->Prop),1<=m->m<n->C false s->cmp m (m-1) C s)(q:Q (List.toArray<|List.range n) s):(W.kas_sort n).kasWp cmp Q s:=by
 have h:∀f m (G),1<=m->m+f=n->G n s->(W.kas_asc (List.toArray<|List.range n) f m).kasWp cmp G s:=λf=>by
  induction f with
  |zero=>
   intro m G U A g;obtain rfl:m=n:=#[]
   exact g
  |succ f j=>
   intro m G U A g;have D:(List.toArray<|List.range n).getD m 0=m:=by simp[Array.getD,show m<n by lia]
   have B:(List.toArray<|List.range n).getD (m-1) 0=m-1:=by simp[Array.getD,show m-1<n by lia]
   show cmp _ _ _ s;rw[D,B];exact w m _ U #[] (j (m+1) G #[] #[] g)
 unfold W.kas_sort;rw[W.KasT.kasWp_bind];unfold W.kas_count;rw[W.KasT.kasWp_bind];refine h (n-1) 1 _ (Xm 1) #[] ?_;rw[Xi<|by simp];show W.KasT.kasWp cmp (if n<n then _ else _) Q s;rw[Xg<|Ym n];exact q
def AC  {P:Fin->Shared->Prop}(r:s.heap.get? a=some (seqObj "list" vs.toArray n))(F:vs.length<64)(o:Qn)
(hk:∀j v,vs[j]?=some v->∃b x t y,v=.ref b/\b≠a/\s.heap.get? b=some { cls:=.type "tuple",data:=.seq (List.toArray [.int x t,y]) }/\x=o j)(up:∀j,j+1<vs.length->o j<o (j+1))
(h:P (.done<|.ret .none) { s with heap:=sortedHeap s.heap a vs vs.toArray }):wpAny (model prog w) A (Builtin.«list.sort» #[[.ref a],[]]) P H1 s:=by
 rw[list_sort_plain];have Z:vs.length<=sizeLine:=by rw[sizeLine_eq];lia
 refine Xa (listItems_at r rfl (Xa (listUpdate_at r rfl ?_ (Z)<|XA _)));obtain⟨N,k⟩:∃N,(s.heap.update a<|Obj.mapSeq λ_=>(List.toArray [])).get? a=some (seqObj "list" (List.toArray []) N):=⟨_,get?_update_seq r λ_=>(List.toArray [])⟩;refine Xa (seqEpoch_at k rfl (Xa (wpAny_newTuple (Xa (wpAny_newList (wpAny_holding ?_)<|XA _))<|Z)));have q:(((s.heap.update a<|Obj.mapSeq λ_=>(List.toArray [])).push (seqObj "tuple" vs.toArray 0)).push (seqObj "list" (List.toArray []) 0)).get? a=some (seqObj "list" (List.toArray []) N):=by
  rw[Heap.get?_push_ne _ _ _<|by rw[size_push',Heap.size_update];exact Xq<|JG (Xk r),Heap.get?_push_ne _ _ _<|by rw[Heap.size_update];exact Xq (Xk r)];exact k
 have D:∀j v,vs[j]?=some v->∃b x t y,v=.ref b/\(((s.heap.update a<|Obj.mapSeq λ_=>(List.toArray [])).push (seqObj "tuple" vs.toArray 0)).push (seqObj "list" (List.toArray []) 0)).get? b=some { cls:=.type "tuple",data:=.seq (List.toArray [.int x t,y]) }/\x=o j:=λj v e=>by
  apply aQ (hk j v e);rintro b x t y rfl ne⟨g,e⟩;exact#[b,x,t,y,rfl,Xd _<|Xd _<|(XT _ _<|Ne.symm ne).trans g,e]
 have M:P (.done<|.ret .none) { s with heap:=(((s.heap.update a<|Obj.mapSeq λ_=>(List.toArray [])).push (seqObj "tuple" vs.toArray 0)).push (seqObj "list" (List.toArray []) 0)).update a (Obj.mapSeq λ_=>vs.toArray) }:=h;generalize (((s.heap.update a<|Obj.mapSeq λ_=>(List.toArray [])).push (seqObj "tuple" vs.toArray 0)).push (seqObj "list" (List.toArray []) 0))=H at q D M;dsimp only;have d:vs.toArray.size=vs.length:=by simp
 by_cases l:vs.toArray.size<2
 .rw[Xi l,Xi l];refine Xa (Xl (Xa (Xl ?_)));dsimp only;have e:=by
   show(vs.toArray.zip vs.toArray).map (·.2)=vs.toArray
   apply Array.toList_inj.mp;simp only[Array.toList_map,Array.toList_zip];exact(List.map_snd_zip<|Xm _)
  rw[e];refine Xa (seqEpoch_at q rfl (Xa (listUpdate_at q rfl ?_ (XA _)<|by rw[d];lia)));simp only[failedOf,bne_self_eq_false,Hw,if_false];exact Xl M
 .rw[Xg l,Xg l]
  have u:∀(X:Qe) (i:Nat),(∀j v,X[j]?=some v->vs[i+j]?=some v)->∃Y,W.KatTups H X Y/\Y.length=X.length/\∀f∈Y,∃x t,f=.int x t:=λX=>by
   induction X with
   |nil=>intro i E;exact#[[],.nil,rfl,by rintro _ ⟨⟩]
   |cons dx X ih=>
    intro i E;apply L3 (ih (i+1) λj v e=>by rw[Nat.add_assoc,Nat.add_comm 1 j];exact E (j+1) v (by simpa using e));intro Y J S I
    apply aQ (D i dx (E 0 dx rfl));rintro b x t y rfl g _;exact#[_::Y,.cons g rfl rfl rfl J,by simp[S],λf K=>by
     rcases Xc.mp K with rfl|K
     .exact#[_,_,rfl]
     .exact I f K]
  refine L3 (u vs 0 (λj v e=>by rw[Nat.zero_add];exact e)) λY J S I=>Xa (W.kat_kind (T:=.type "int") J #[] (λf K=>?_) rfl ?_)
  .apply aL (I f K);rintro x t rfl;exact W.Looks.of_pure rfl
  refine Xa (wpAny_mono (W.kat_run (Q:=λB c=>c={ s with heap:=H }/\(arrOf B).map (·.2)=vs.toArray/\failedOf B=none) (G:=λp c=>p=List.toArray (List.range vs.length)/\c={ s with heap:=H }) rfl #[] F (λp B c a1 a2 a3 ⟨a4,a5⟩=>#[a5,?_,a3])<|AZ #[] (λm C m1 O hC=>?_) #[rfl,rfl]) ?_ λ_ _ e=>e)
  .rw[W.kat_snds rfl a2,a4];apply Array.toList_inj.mp;apply List.ext_getElem (by simp);intro i U l;simp at U;simp[U]
  .refine aQ (D m _ (XJ O)) λb x t y eb g ex=>aQ (D (m-1) _ (XJ (show m-1<vs.length by lia))) λb' x' t' y' L g' ex'=>?_;show wpAny (model prog w) A (keyLt' _ (vs.getD m Value.none)<|vs.getD (m-1) Value.none) C _ _;have d1:vs.getD m Value.none=.ref b:=by rw[<- eb];simp[O]
   have d2:vs.getD (m-1) Value.none=.ref b':=by rw[<- L];simp[show m-1<vs.length by lia]
   rw[d1,d2];have lt:=up (m-1) #[];rw[show m-1+1=m by lia]at lt;refine W.kat_lt g rfl g' rfl (W.kat_cons<|wpAny_eqBool_int ?_);rw[show(x==x')=false by simp;lia];refine oneLt_int ?_;rw[XU<|#[]];exact hC
  .rintro⟨⟨⟩,B⟩ c ⟨rfl,hs,K⟩;rw[hs];refine Xa (seqEpoch_at q rfl (Xa (listUpdate_at q rfl ?_ (XA _)<|by rw[d];lia)));rw[K];simp only[bne_self_eq_false,Hw,if_false];exact Xl M
def Oi(S:A.handled=none)(p:s.heap.IsItemsView r d)(O:s.heap.DictAt (VH prog w) d kvs ep)(L:s.heap.objs.size=r+1)(P:kvs.length<64)(is:Ql)(E:kvs.map (·.1)=is.map Sum.inl)(H:is.Pairwise (· < ·))
(q:∀(M:Heap) (C:Nat) (l e:Nat) (as:Qg),(∀b o,s.heap.get? b=some o->M.get? b=some o)->s.heap.objs.size<=l->(∀a∈as,s.heap.objs.size<=a/\a≠l)->as.Nodup->M.get? l=some (seqObj "list" (as.map Value.ref).toArray e)->as.length=kvs.length->
  (∀(j:Nat) (a:Addr),as[j]?=some a->∃f k x,kvs[j]?=some (k,x)/\(VH prog w).is k f=true/\M.get? a=some { cls:=.type "tuple",data:=.seq (List.toArray [f,x]) })->Q (.ref l) { s with heap:=M,toks:=C }):
 wpAny (model prog w) A (call (.builtin "sorted") [.ref r]) Q H1 s:=by
 refine Calls.call_function_entry kind_sorted plain_sorted entry_sorted (args_sorted1 _)<|Xa (Xl ?_);have z:kvs.length<=sizeLine:=by rw[sizeLine_eq];lia
 refine Xa (W.kdx_collect S p O z λh' C as u D B=>Xa (wpAny_newList ?_<|by rw[Xe,D];exact z))
 have J:∀(j:Nat) (k) (x),kvs[j]?=some (k,x)->k=.inl (is.getD j 0):=λj k x e=>by
  have U:(kvs.map (·.1))[j]?=some k:=by rw[XG,e];rfl
  rw[E,XG]at U;cases z:is[j]? with
  |none=>rw[z]at U;cases U
  |some i=>rw[z]at U;simp at U;rw[<- U];simp[List.getD,z]
 have li:=by
  have:=Xz List.length E;simpa using this.symm
 refine Xa (wpAny_holding<|wpAny_call_entry slot_list_sort #[_,Xn _ rfl,rfl] entry_list_sort (AC (s:={ s with heap:=h'.push (seqObj "list" (as.map Value.ref).toArray 0),toks:=C }) (Xn _ rfl) (by rw[Xe,D];exact P) (λj=>is.getD j 0) (λj v e=>?_) (λj R=>?_) #[_,rfl,?_])<|args_list_sort _)
 .rw[XG]at e;apply I0 (HA.mp e);rintro a G rfl;apply Ps (B.pairs j a G);intro f k x g c Z;have:=J j k x g;subst this;rcases WB (k:=.inl (is.getD j 0)) c with ⟨i,t,Y,F⟩|⟨y,t,Y,F⟩
  .cases Y;subst F;exact#[a,_,t,x,rfl,Xq<|(λa K=>B.there K) a<|List.mem_of_getElem? G,Xd _ Z,rfl]
  .cases Y
 .rw[Xe,D]at R;have:=List.pairwise_iff_getElem.mp H j (j+1) #[] #[] #[];simpa [show j<is.length by lia,show j+1<is.length by lia] using this
 .refine Xl #[_,rfl,?_];obtain⟨e,T⟩:=sortedHeap_at (out:=(as.map Value.ref).toArray) (Xn _ rfl);have m:∀b o,h'.get? b=some o->(sortedHeap (h'.push<|seqObj "list" (as.map Value.ref).toArray 0) h'.objs.size (as.map Value.ref) (as.map Value.ref).toArray).get? b=some o:=λb o e=>by
   rw[sortedHeap_old (Xq (Xk e))<|by rw[size_push'];exact JG (Xk e)];exact Xd _ e
  have I:s.heap.objs.size<=h'.objs.size:=by
   apply I0 p;intro o N _;rw[L];exact Xk (u r o N)
  exact q _ C h'.objs.size e as (λb o hb=>m b o<|u b o hb) I (λa K=>#[Wd<|B.above a K,Xq<|(λa K=>B.there K) a K]) (B.rise.imp λh=>Xq h) T D (λj a ej=>by
   exact Ps (B.pairs j a ej) λf k x g c Z=>#[f,k,x,g,c,m _ _ Z])
end
def Qt.lays{O:St}{H J:Hp}{t':Nat}(I:Qt X Y O H s)(k:∀b f,s.heap.get? b=some f->h'.get? b=some f)(h:Q4 H J)(nw:∀b o,J b=some o->H b=some o\/s.heap.objs.size<=b/\ZV X.prog X.w J h' b o):
 Qt X Y O J { s with heap:=h',toks:=t' }:=
 I.un #[λb f q _ _ _=>k b f q,λb f q _ _ _=>#[f.slots,k b f q],λb f q n _=>by
  cases z:J b with
  |none=>rfl
  |some o=>
    rcases nw b _ z with y|y
    .grind
    .exact Xo (Xk q) (Nat.not_lt.mpr y.1),λb f q _=>#[f,k b f q],λb xs q=>h _ _ q,λb f xs q=>h _ _ q,λb _ j _ e _=>k b j e,λb ps q=>#[(List.toArray []),by rw[h _ _ q];simp]]
  λb f e=>by
   rcases nw b f e with y|y
   .exact(I.hok b f y).stay (λc v _ q=>k c v q) (λc q=>h _ _ q) λc xs q=>h _ _ q
   .exact y.2
def Paired.get{q f:Type}{F:q->f->Prop}{l:List q}{m:List f}{a:q}{b:f}(h:_root_.PySem.Paired F l m)(e1:l[j]?=some a)(s:m[j]?=some b):F a b:=by
 apply I0 (h.getV e1);intro c e r;rw[s]at e;cases e;exact r
def PR(te:TE):TE:=λO H Q=>te O H λx E=>∃(a:Addr) (f:List (Key×V)) (q:Ql),x=.ref a/\E a=some (.dK f)/\f.map (·.1)=q.map Sum.inl/\q.Pairwise (· < ·)/\f.length<64/\
 ∀(J:Hp) (h:Qg) (l:Addr),h.length=f.length->(∀b∈l::h,E b=none)->Q4 E J->(∀b,b∉l::h->J b=E b)->J l=some (.lst<|h.map V.ref)->(∀(j:Nat) (b:Addr) (m:Key×V),h[j]?=some b->f[j]?=some m->J b=some (.tup [kV m.1,m.2]))->Q (.ref l) J
open Classical in
def OI{e:Expr}{p:Pos}(hc:X.calm=true)(he:PE X e te)(hg:Gl X "sorted")(hm:X.mg "sorted"=none)(hv:bootBuiltins "sorted"=some (.builtin "sorted"))(n:attributeBase e "items" X.env (eval e X.env)=eval e X.env:=by rfl)(d:(X3.endLine==XM.line)=true:=by rfl)
(hs:starEach [Expr.Call (.Attribute e "items" X3) [] [] XM] X.env=(false,eval (Expr.Call (.Attribute e "items" X3) [] [] XM) X.env)::starEach [] X.env:=by rfl)(hpl:(backTo pos<|starEach [] X.env).any (·.1)=false:=by rfl):
 PE X (.Call (.Name "sorted" p) [.Call (.Attribute e "items" X3) [] [] XM] [] pos) (PR te):=by
 intro Y s O H Q I h;refine wpAny_Call_Name_kw (WW I hg hm hv ?_ (by decide)<|by decide);refine PyProof.Rows.callWith_builtin1 ?_ hs hpl;rw[hs];show wpAny _ _ (spliced ((false,eval _ X.env)::backTo pos _)) _ _ s;refine Calls.spliced_cons (wpAny_Call_method0_late n d<|Q7 (he Y s O H _ I h) ?_);rintro v S ⟨x,E,I1,r1,a,A,is,ex,U,hi,up,l64,q⟩;subst ex;cases r1;obtain⟨z,n1,vs,M,N⟩:=I1.hok _ _ U;obtain⟨ep,hat⟩:=N.dictAt;refine#["dict","dict.items",PySem.F.plainAttrs_dict,PySem.F.slot_dict_items,PySem.F.type_dict_items,N.typeIs,(λb eb=>by cases eb;obtain⟨o,es,ep',g1,g2,_⟩:=N;exact#[o,g1,g2.2.1]),Calls.callWith_builtin rfl (PySem.evalArgs_none<|call_meetsIn PySem.F.slot_dict_items N.typeIs PySem.F.entry_dict_items (PySem.F.args_dict_items_1 _) (meets_dict_items (VH X.prog X.w) a n1) #[#[vs,N],?_])];refine Calls.spliced_nil ?_;have lv:=M.length;refine Oi (I.ok.hd hc) #[_,Xn _ rfl,rfl,rfl] (hat.push _) (by show(Heap.push _ _).objs.size=_;rw[Yy]) #[] is (by rw[<- M.keys];exact hi) up λh2 tk l e C old le W nd hl hal u=>?_;have w:∀b o,S.heap.get? b=some o->h2.get? b=some o:=λb o q=>old b o (Xd _ q);have F:S.heap.objs.size<=l:=Xt (by show _<=(Heap.push _ _).objs.size;rw[Yy];exact Gn _) le;have B:∀a∈C,S.heap.objs.size<=a/\a≠l:=λa U=>#[Xt (by show _<=(Heap.push _ _).objs.size;rw[Yy];exact Gn _) (W a U).1,(W a U).2]
 have m:∀b∈l::C,E b=none:=λb f=>by
  rcases Xc.mp f with rfl|f
  .exact I1.hok.fresh F
  .exact I1.hok.fresh (B b f).1
 let J:Hp:=λb=>if b=l then some (.lst<|C.map V.ref) else if z:∃(j:Nat) (D:Key×V),C[j]?=some b/\A[j]?=some D then some (.tup [kV z.choose_spec.choose.1,z.choose_spec.choose.2]) else E b
 have g:J l=some (.lst<|C.map V.ref):=Xi rfl;have Z:∀(j:Nat) (b:Addr) (D:Key×V),C[j]?=some b->A[j]?=some D->J b=some (.tup [kV D.1,D.2]):=λj b D K e2=>by
  have z:∃(j:Nat) (D:Key×V),C[j]?=some b/\A[j]?=some D:=#[j,D,K,e2]
  show(if b=l then _ else if z:_ then _ else _)=_
  rw[Xg (B b<|List.mem_of_getElem? K).2,dif_pos z];obtain⟨g1,g2⟩:=z.choose_spec.choose_spec;have R:z.choose=j:=(List.getElem?_inj (Xh.mp g1).1 nd).mp (g1.trans K.symm);have e3:A[z.choose]?=some D:=by rw[R];exact e2
  rw[Option.some.inj<|g2.symm.trans e3]
 have sm:Q4 E J:=λb o f=>by
  show(if b=l then _ else if z:_ then _ else _)=_
  rw[Xg (λc=>by rw[c,m l Xb]at f;cases f),dif_neg (λ⟨j,D,K,_⟩=>by rw[m b<|Xf _<|List.mem_of_getElem? K]at f;cases f)];exact f
 have P:∀b,b∉l::C->J b=E b:=λb f=>by
  show(if b=l then _ else if z:_ then _ else _)=_
  rw[Xg (λc=>f<|by rw[c];exact Xb),dif_neg (λ⟨j,D,K,_⟩=>f<|Xf _<|List.mem_of_getElem? K)]
 refine#[.ref l,J,I1.lays (s:=S) (t':=tk) w sm λb o f=>?_,rfl,q J C l #[] m sm P g Z]
 by_cases L:b=l
 .subst L;rw[g]at f;cases f;refine .inr #[F,by rw[Xe];lia,C.map Value.ref,e,?_,hl];clear hl hal u Z W B m P sm nd g J;induction C with
  |nil=>exact .nil
  |cons a C ih=>exact .cons rfl ih
 .by_cases r:b∈C
  .obtain⟨j,R⟩:=List.mem_iff_getElem?.mp r;obtain⟨G,k,x,K,e2,e3⟩:=u j b R;have hj:j<A.length:=by
    have:=(Xh.mp R).1;lia
   have e4:A[j]?=some A[j]:=XJ hj;rw[Z j b _ R e4]at f;cases f;have T:=Paired.get M e4 K;have rk:QO (kV A[j].1) G:=by
    rw[T.1];rcases WB (k:=k) e2 with ⟨i,t,e5,e6⟩|⟨y,t,e5,e6⟩
    .rw[e5,e6];exact#[t,rfl]
    .rw[e5,e6];exact#[t,rfl]
   have T:=T.2;exact .inr #[(B b r).1,by show(2:Nat)<=_;decide,[G,x],.cons rk<|.cons T .nil,_,e3,rfl,_,rfl]
  .rw[P b λc=>by rcases Xc.mp c with c|c;exact L c;exact r c]at f;exact .inl f
section
variable {i:Nat}
def ZqM(s:Q4 F F'):∀{xs:List (Key×V)} {kvs:Zs} {as:Qg},PairK F xs kvs->as.length=xs.length->(∀(j:Nat) (b:Addr) (f:Key×V),as[j]?=some b->xs[j]?=some f->F' b=some (.tup [kV f.1,f.2]))->Zt F' (as.map V.ref) (kvs.map λf=>.tuple [JM f.1,f.2]):=by
 intro xs kvs as h;induction h generalizing as with
 |nil=>intro i _;cases List.eq_nil_of_length_eq_zero i;exact .nil
 |cons r _ m=>
  intro i h;cases as with
  |nil=>cases i
  |cons a as=>exact .cons (.tup (h 0 a _ rfl rfl)<|.cons (EQ _)<|.cons (r.mono s) .nil) (m (Nat.succ.inj i) λj b f A q=>h (j+1) b f A q)
def OR{is:Ql}(e:zg Z i<|zz<|DkZ kvs)(t:kvs.map (·.1)=is.map Sum.inl)(g:is.Pairwise (· < ·))(l:kvs.length<64):Qr K (PR<|Q5 i) Z (.list<|kvs.map λC=>.tuple [JM C.1,C.2]):=λD F O H Q M q=>by
 apply SF (M.dkz e);intro a xs P v W;have x:=W.length;refine#[_,P,a,xs,is,rfl,M.sub _ _ v,by rw[W.key];exact t,g,#[],λJ B p u m X k r n=>?_]
 classical
 have A:∀{b},b∈p::B->(λb=>if b∈p::B then J b else F b:Hp) b=J b:=λh=>Xi h;have s:∀{b},b∉p::B->(λb=>if b∈p::B then J b else F b:Hp) b=F b:=λh=>Xg h;generalize (λb=>if b∈p::B then J b else F b:Hp)=d at A s
 have Y:Q4 F d:=λb o f=>by
  rw[s λc=>by rw[M.sub.free<|m b c]at f;cases f];exact f
 refine q d J (.ref p) #[X,Y,λb o f=>?_,λb f=>?_] (.lst (by rw[A Xb];exact r)<|ZqM Y W #[] λj b C P w=>by rw[A<|Xf _<|List.mem_of_getElem? P];exact n j b C P w)
 .by_cases c:b∈p::B
  .rwa[A c]at f
  .rw[s c]at f;exact X _ _ (M.sub _ _ f)
 .by_cases c:b∈p::B
  .exact .inr (m b c)
  .exact .inl ((s c)▸f)
end
end L2
namespace L2
def SX(xs:List V)(H:Hp)(Q:VK):Prop := ∃x T,xs=[x,.ty "str"]/\TyN H x T/\Q (.bl<|T == "str") H
def TB:ZC X (.builtin "isinstance") SX:=by
 intro Y s O H xs d Q I r h;apply SF h;rintro x T rfl C q;apply SF (UI r);rintro k a rfl j M;cases (M);have f:∀t,EP X Y O Q _ { s with toks:=t }:=λt=>#[.bl _,H,I.tok t,rfl,q]
 cases C with
 |non=>cases j;exact IsiPair.NoneType_str (f _)
 |bl b=>cases j;exact IsiPair.bool_str (f _)
 |int i=>obtain⟨t,rfl⟩:=j;exact IsiPair.int_str (f _)
 |str x=>obtain⟨t,rfl⟩:=j;exact IsiPair.str_str (f _)
 |lst m=>
  cases j;exact At (I.hok _ _ m) λz A n D B=>IsiPair.list_str B rfl (f _)
 |tup m=>
  cases j;exact aT (I.hok _ _ m) λz A D o B Z n dd=>IsiPair.tuple_str B Z (f _)
 |dct m=>
  cases j;apply Do (I.hok _ _ m);rintro z e c K o es g W⟨P,_⟩;exact IsiPair.dict_str W P.1 (f _)
def KC(h:Qr K ta Z a):Qr K (tCB SX<|Q3 ta<|Q3 (tC<|.ty "str") QH) Z (.bool<|tyD a == "str"):=λD F O H Q m q=>
 h D F O H _ m λs E v f j=>#[v,_,rfl,(j.mono f.fh).ty,q s E _ f<|.bl _]
def D8{s:XK}{A:CXT}  {o e:Expr}{q:TE}{t:TA}{k:Nat}{B:Sem Bool}(M:∃f fd,Meth X.K C m f/\ZW X.K fd ps []/\FnOk X.prog X.w X.K X.mg X.base A j f fd ps sp)(c:Cls X.K C)(P:Room k X.A)(D:VR A X s)(he:PE X o q)(a:PA X (e::es) t)(Y:j<=k:=by walk_at"j")
(h:zs X e es:=by rfl)(hpl:zb X pos es:=by rfl)
(K:eval (.Call (.Attribute o m X3) (e::es) [] pos) X.env=(do
  let ov <- eval o X.env
  standAt X3.atName
  let (f,first) <- holding [ov] (getMethod ov m B)
  callWith pos f first (backTo pos<|starEach (e::es) X.env)<|backToKw pos<|keywordEach [] X.env):=by rfl):
 PE X (.Call (.Attribute o m X3) (e::es) [] pos) (ZY C m sp [] s q t):=by
 exact SF M λf fd W Z F=>Nw he c W F (P.mono Y) Z .nil D a h hpl K
section
variable {i:Nat}{CR:Addr}{v:V}{t:TA}
def Zo8{h:Type}{Φ:h->OwnP}{N:h}{R:h->List OT->(OT->h->Prop)->Prop}{Ψ:OT->h->Prop}{I:XK}(n:(m==f)=false)(e:zg Z i<|zo v<|InP C f<|Φ N)(w:Zi K t Z ts)(o:R N ts Ψ)(hn:∀r j,Ψ r j->H0.nx (Z.set i<|zo v<|InP C f<|Φ j)):
 QE K (Vq<|ZY C m (spP K (λN=>InP C f<|Φ N) R) [] I (Q5 i) t) Z H0:=λF0 D F O H H1 x A L=>by
 apply L3 (Wc (Φ:=λN=>InP C f<|Φ N) A x e);rintro T s0⟨a,u,dx,q,rfl,_,_,_,_,_,k,_⟩_;exact#[_,s0,a,u,_,rfl,k,by simp[List.lookup,n],w D F O H _ A λG E b s d=>L3 (Wc (Φ:=λN=>InP C f<|Φ N) (A.ext s) (x.trans s) e) λp S M W=>#[G,_,b++[],p,ts,N,Ψ,rfl,(A.ext s).kt,s.fh,by rw[Xp];exact d,M,o,λX J g j Q r q l Y P B c U=>KE (W X J g j Y P B) λy z _=>L.nx X _ J _ y z (hn r j l)]]
def LV(p:BackF FL)(W:(m==f)=false)(e:zg Z i<|zz<|InZ C f ρ)(g:Zi K t Z ts)(c:Rx (.zow (InZ C f ρ)::ts) Φx)(st:ZN CR RR)
(P:∀s J e h d,Φx d->Q1 F0 D s J->D e=none->FL e s J D h d->RR e h J)(x:Q1 F0 D F H)(q:QB K H9 F Z O H):
 ZY C m (Zg K CR FL R Rx) [] (XE CR RR) (Q5 i) t O H Q:=by
 apply I0 q.fp;intro y l _;apply aP (l i _ e);rintro v n _ a⟨u,o,rfl,U,k⟩;refine#[_,n,a,u,_,rfl,q.sub _ _ U,by simp[List.lookup,W],g H9 F O H _ q λr z w j M=>?_];have A:=x.trans j;exact#[r,_,(q.ext j).kt,j.fh,.zow ((InZ C f ρ).mono j.ff #[a,u,o,rfl,U,k])<|by rw[Xp];exact M,RR,rfl,st,.inr #[Φx,c,λs J e h d b B Y X=>P s J e h d b (A.trans B) (A.hh.free Y)<|p.back X A.hh]]
def Lh(s:BackF FL)(m:Zi K t Z ts)(j:Rx ts Φx)(st:ZN C RR)(i:∀h J e f d,Φx d->Q1 F0 D h J->D e=none->FL e h J D f d->RR e f J):EvZ K F0 D (VJ<|Vd (Zg K C FL R Rx) [] (XE C RR) t) Z:=λF O H v x q=>Mm s m j st i x q
def EN(hm:NoH m)(e:zg Z i<|zo v<|Zf C N)(hA:Zi K t Z ts)(hR:R N ts Ψ)(st:ZN CR RR)
(hs:∀r j,Ψ r j->∃T kvs Φ,r=.own T (dkP kvs)/\Rf [.zow<|DkZ kvs] Φ/\∀A,Φ A->∃d w,A=.fz d/\V1 d=some w/\Ψ0 (.fz d) (Z.set i<|zo v<|Zf C j)):
 EvR K (VJ<|Vd (Zm K Rf) [] E'<|Q3 (ZY C m (G6 K C CR FL R Rx) [] (XE CR RR) (Q5 i) t) QH) Z Ψ0:=λF0 D F O H H1 x B k=>by
 apply L3 (Wc B x e);intro p0 s0 Y _;apply aZ (Zf.at Y);rintro a0 u y n k' g d e'⟨rfl,U⟩;refine#[.ref a0,s0,a0,u,_,rfl,U,hm _ _ _ _ _ _,hA D F O H _ B λF2 H2 vs s A=>.inl #[RR,rfl,st,L3 (Wc (B.ext s) (x.trans s) e) λp s1 X I=>#[F2,_,vs++[],p,ts,N,Ψ,rfl,(B.ext s).kt,s.fh,by rw[Xp];exact A,X,hR,λM J p' j v' r q hr xn c P W hq=>?_]]];apply KE (I M J p' j xn c P);intro X' L _;apply Ps (hs r j hr);rintro T kvs Φ rfl hf o;have th:=λa G=>(dkP kvs).there W.2 a G;refine#[frF M J q,_,Φ,L.kt.mono (W8 λa G=>(th a G).1),D9 L.sub,.zow (dkP.fz W.2 (W8 λa G=>(th a G).1) λb hb=>WT hb) .nil,hf,λF4 H4 v4 q4 r4 E x4 hq4 f=>?_];apply SF (o r4 E);rintro d4 w4 rfl fl l;have Q:=Ul th x4;exact k _ O H4 _ v4 (.fz d4) [] (X'.trans Q) (L.ext Q) #[rfl,f.2.thin fl] (by rintro _ ⟨⟩) (by rintro _ ⟨⟩) l
end
end L2
namespace L2
def De(P:Program)(w:World)(K:W.Frag)(mg:Str->Qf)(base:Heap)(x:Str)(C:Addr)(ps:Qh)(k:Nat)(sp:Sp):Prop:=
 ∃f fd,Mk K C f/\mg x=some (.ref C)/\ZW K fd ps []/\FnOk P w K mg base CX0 k f fd ps sp
def Fu  {x:Str}{p:Pos}{e:Expr}{t:TA}{k:Nat}(M:De X.prog X.w X.K X.mg X.base x C ps j sp)(m:Room k X.A)(B:PA X (e::es) t)(s:j+1<=k:=by walk_at"j")(hg:Gl X x:=by rfl)(h:(x==("__debug__" : Str))=false:=by decide +kernel)
(he:zs X e es:=by rfl)(hpl:zb X pos es:=by rfl):
 PE X (.Call (.Name x p) (e::es) [] pos) (WL C sp [] E0 t):=by
 exact RC M λf fd M q A F=>Nk M F (m.mono s) hg q A .nil Js B h he hpl
end L2
namespace L2
def Kn(C e u:Addr):ZP where
 ok:=λK F v=>v=.ref e/\∃T,F e=some (.ext<|phF C e (some u) T)
 mono:=by
  rintro K F f v s ⟨rfl,T,U⟩;exact#[rfl,T,s _ _ U]
section
variable {i:Nat}{e u:Addr}{w:V}
def excV.fz(h:(excV C f w e u).ok K F H (.ref e) p)(s:Q4 F F')(he:∀b∈p,F' b=H b):(Kn C e u).ok K F' (.ref e):=by
 apply aF h;rintro rfl _⟨T,U⟩_;exact#[rfl,T,by rw[he _<|by simp];exact U]
def Zpp(h:zg Z i<|zz<|Kn C e u)(A:Zi K t Z [.fz<|.int k])(U : -(2^62)<=k)(P:k<2^62):EvI K (B3 C e t) Z (Vp 0 k.toNat):=λD F O H R m r=>
 A D F O H _ m λY E c f s=>by
  cases s with
  |fz a b=>
   cases b;cases a;apply I0 ((m.ext f).fp);intro l g _;apply aB (g i _ h);rintro v _ _ _⟨T,W⟩;refine#[k,rfl,U,P,r Y E _ f λX o q j=>#[#[?_,_,T,j _ _<|q _ _ W],λi d M=>?_]]
   .rw[Jg];exact Xm _
   .obtain⟨B,rfl⟩:=Wn M;exact#[B,λx n w=>by
     obtain⟨rfl,rfl⟩:=w;exact#[X,Q1.refl j,.int _]]
def Zp2(i:Nat)(h:zg Z i<|zo (.ref e)<|excV C f w e u)(M:Jx fs)(k:EvO K t (Z.set i<|zz<|Kn C e u) (.ol fs)):EvO K t Z (.ol fs):=λD F O H Q P r=>by
 refine I0 (P.freezeZX h (λa b c=>excV.fz a b c)) λp A W=>k D _ O H Q W λX J B q x m s=>r _ J B q (Ul (λa j=>#[(A a j).1,(A a j).2.1]) x) m (N4 M K X _ J B q (λa j=>?_) s)
 by_cases z:a∈p
 .rw[Xi z]
 .rw[Xg z];exact(s.there a j).1
end
structure Uy(K:W.Frag)(mg:Str->Qf)(Xa6 C cg ct CR CQ cu:Addr)(b1 b2 b3 b4 b5:Bool):Prop where
 em:W.exmOne K (.ref C) (.ref Xa6)=some true
 my:mg "YardError"=some (.ref Xa6)
 is:Gq K C
 k1:W.kitOne K (.ref C) (.ref cg)=some b1
 k2:W.kitOne K (.ref C) (.ref ct)=some b2
 k3:W.kitOne K (.ref C) (.ref CR)=some b3
 k4:W.kitOne K (.ref C) (.ref CQ)=some b4
 k5:W.kitOne K (.ref C) (.ref cu)=some b5
 m1:mg "NoGuest"=some (.ref cg)
 m2:mg "NoTime"=some (.ref ct)
 m3:mg "NoRoom"=some (.ref CR)
 m4:mg "NoNumber"=some (.ref CQ)
 m5:mg "NoRow"=some (.ref cu)
end L2
namespace L2
def Uc(P:Program)(w:World)(K:W.Frag)(mg:Str->Qf)(base:Heap)(x:Str)(C:Addr)(ps:Qh)(k:Nat)(sp:Sp):Prop:=
 ∃f fd,Mk K C f/\mg x=some (.ref C)/\ZW K fd ps []/\FnOk P w K mg base (CX1 P w) k f fd ps sp
def F6  {x:Str}{p:Pos}{e:Expr}{t:TA}{k:Nat}{m:XK}(M:Uc X.prog X.w X.K X.mg X.base x C ps j sp)(s:Room k X.A)(q:VR (CX1 X.prog X.w) X m)(K:PA X (e::es) t)(B:j+1<=k:=by walk_at"j")(hg:Gl X x:=by rfl)(h:(x==("__debug__" : Str))=false:=by decide +kernel)
(he:zs X e es:=by rfl)(hpl:zb X pos es:=by rfl):
 PE X (.Call (.Name x p) (e::es) [] pos) (WL C sp [] m t):=by
 exact RC M λf fd M A D F=>Nk M F (s.mono B) hg A D .nil q K h he hpl
def Z0o:ZP where
 ok:=λ_ _ _=>True
 mono:=λ_ _=>trivial
inductive X_ini{δ:Type}(X:List OT->(δ->Prop)->Prop):List OT->(δ->Prop)->Prop
 |mk {d:PyData}{Φ:δ->Prop}(h:X [.fz d] Φ):X_ini X [.zow Z0o,.fz d] Φ
section
variable {CE:Addr}{t:TA}{n:Nat}{tb:Ends->TS}{Φx:δ->Prop}
def FH(p:BackF FL){X:List OT->(δ->Prop)->Prop}(l:Zi K t Z [.fz d])(k:X [.fz d] Φx)(st:ZN CE RR)(W:∀q J e f d,Φx d->Q1 F0 D q J->D e=none->FL e q J D f d->RR e f J)(x:Q1 F0 D F H)(B:QB K H9 F Z O H):
 WL C (Zg K CE FL R<|X_ini X) [] (XE CE RR) t O H Q:=l H9 F O H _ B λr E v n P a u i s w=>by
 have A:=x.trans n;have j:Q4 E (upd (upd E u<|.own a) a<|.ins C u []):=λb o m=>by
  rw[Qv (λz=>by subst z;rw[i]at m;cases m),Qv λz=>by subst z;rw[s]at m;cases m];exact m
 exact#[r,_,(B.ext n).kt,n.fh.trans j,.zow trivial<|by rw[Xp];exact P,RR,rfl,st,.inr #[Φx,.mk k,λq J e f d g M c Y=>W q J e f d g ((A.trans #[j,Q4.refl _,n.fh.trans j,λ_ h=>.inl h]).trans M) (A.hh.free<|j.free c)<|p.back Y<|A.hh.trans j]]
def DP(E:M8 K C FL ok XO)(Φx:δ->Prop)(X:∀d,Φx d->ok d)(hj:j<n)(hth:∀d e o,Φx d->XO d e o->QE K (th e) ((List.replicate n none).set j (some o)) { nx:=λM=>H0.nx<|M.set j none,rt:=λ_=>False })
(hz:∀(s:Ends) (F0 D F:Hp) (O:St) (H:Hp),Q1 F0 D F H->QB K D F Z O H->(∀g J e f d,Φx d->Q1 F H g J->H e=none->FL e g J H f d->∀(m:St) b T,m.length=n->Lefts C e f J b->b T=none->T≠e->th e (Dh s j) (m.set j<|some<|.ref e) (left C e f T b))->tb s s O H):QE K (Gy tb) Z H0:=λF0 D F O H s x B c=>by
 refine hz s F0 D F O H x B λg J e f d p i l Q m b T N u hT A=>?_;apply SF (E.go (X d p) i.ff l Q u hT A);intro o q Y I W;have P:=CO (.step u hT A) i.hh l;have S0:QB K D F (List.replicate n none) m (left C e f T b):=#[B.kt,B.sub.trans P,by simp[N],λ_=>[],λk t R=>by simp[HC]at R,λ_ _ _ h=>(nomatch h),λ_ _ h=>(nomatch h)];exact hth d e o p Y F0 D F _ _ (Dh s j) (x.trans #[P,Q4.refl _,B.sub.trans P,λ_ h=>.inl h]) (S0.set I (λa r=>x.hh.free<|W a r) (hn:=λa r k w t' q' S=>by simp[HC]at S)) #[λF4 v H4 y G U L=>c.nx F4 _ H4 _ G (U.setN none) L,λ_ _ _ _ _ _ _ _ z=>False.elim z,λ_ _ _ _ _ _ z=>False.elim z,λ_ _ _ _ _ _ z=>False.elim z]
end
end L2
namespace L2
def EvC(K:W.Frag)(F0 D:Hp)(H0:PEnds)(t:TS)(Z:ZbB):Prop := ∀(F:Hp) (O:St) (H:Hp) (f:Ends),Q1 F0 D F H->QB K D F Z O H->Cnv K F0 D H0 f->t f O H
section
variable {t dx:TS}
def QE.c(h:QE K t Z H0):EvC K F0 D H0 t Z:=λF O H j x f C=>h F0 D F O H j x f C
def EvZ.c(h:EvZ K F0 D t Z):EvC K F0 D H0 t Z:=λF O H j x f _=>h F O H j x f
def W5(h:EvC K F0 D { H0 with nx:=λf=>EvC K F0 D H0 dx f } t Z):EvC K F0 D H0 (Vh t dx) Z:=λF O H m x A C=>
 h F O H { m with nx:=dx m } x A #[λM j J f s B q=>q M j J m s B C,C.rt,C.bk,C.ct]
def GA(h:QZ K tA Z b)(U:b=true->EvC K F0 D H0 t Z)(s:b=false->EvC K F0 D H0 dx Z):EvC K F0 D H0 (Ws tA t dx) Z:=λF O H m x j C=>
 h D F O H _ j λq J f=>by
  cases b with
  |true=>rw[Xi rfl];exact U rfl q O J m (x.trans f) (j.ext f) C
  |false=>rw[Xg XF];exact s rfl q O J m (x.trans f) (j.ext f) C
def Ts(i:Nat)(e:Z[i]?=some (some r))(s:Bw r=some d)(h:EvC K F0 D H0 t (Z.set i<|zf d)):EvC K F0 D H0 t Z:=λF O H A x q C=>by
 refine I0 (q.freezeG e s) λp j m=>h _ O H A #[x.hh,x.ff.trans<|W8 λa f=>(j a f).1,m.sub,λa f=>?_] m C
 by_cases z:a∈p
 .exact .inr (j a z).2.2
 .rw[J4 z]at f;exact x.fr a f
def Ex(f:Fgt Z ρ')(h:EvC K F0 D H0 t ρ'):EvC K F0 D H0 t Z:=λF O H m x j C=>h F O H m x (j.fgt f) C
def IM(R:Nat->ZbB)(I:Nat->Prop)(hi:EvI K wi Z ds)(h0:Fgt Z (R 0))(i0:I 0)
(hs:∀(i:Nat) (d:PyData),I i->ds[i]?=some d->∃h,GTo K g d (R i) h/\((I (i+1)/\QE K tbd h { nx:=λf=>Fgt f<|R<|i+1,rt:=λ_=>False })\/EvZ K F0 D tbd h))(hd:I ds.length->∀f,Fgt f (R ds.length)->H0.nx f):EvC K F0 D H0 (U1 wi g tbd) Z:=λF O H H1 x w C=>
 hi D F O H _ w λk E H' n W=>by
  refine#[λi m O H=>m=ds.length-i/\i<=ds.length/\I i/\∃F f,Q1 F0 D F H/\Q4 k F/\QB K D F f O H/\Fgt f (R i),#[ds.length,by simp,XA _,i0,k,Z,x.trans n,Q4.refl _,w.ext n,h0],?_];rintro i m t J ⟨rfl,hle,u,L,f,o,r,a,p⟩;obtain⟨T,S⟩:=W L J r a.sub
  by_cases A:i<ds.length
  .have e:ds[i]?=some ds[i]:=by simp[A]
   obtain⟨go,Q⟩:=S i _ e;refine I0 (hs i _ u e) λh hg B=>.inr #[go,λj b=>I (i+1)/\∃c h,Q1 F0 D c b/\Q4 k c/\QB K D c h j b/\Fgt h (R<|i+1),λj b q=>#[ds.length-(i+1),#[],rfl,A,q],λv M y=>I0 (Q v M y) λP Y U=>hg D P t M v _ ((a.fgt p).ext Y) U λj G=>?_];have s:=o.trans Y
   rcases B with ⟨i1,B⟩|B
   .exact B P D P j M _ s.base G #[λF4 N H4 X l S4 q4=>#[i1,F4,X,s.rebase l,(r.trans Y.ff).trans l.ff,S4,q4],λ_ _ _ _ _ _ _ _ z=>z.elim,λ_ _ _ _ _ _ z=>z.elim,λ_ _ _ _ _ _ z=>z.elim]
   .exact B P j M _ s G
  .obtain rfl:i=ds.length:=#[]
   exact .inl #[T,C.nx L t J f o a<|hd u f p]
end
def Df.evC{P:Program}{w:World}{K:W.Frag}{mg:Str->Qf}{base:Heap}{x:Str}{st:Stmt}{N ps:Qh}{k:Nat}{C:Addr}{δ:Type}{FL:Addr->Hp->Hp->Hp->Qj->δ->Prop}{Y:List OT->(OT->Prop)->(δ->Prop)->Prop}(H0:Df K mg x st ps)(G:Qo N ps (Q8 st))
(i:∀f F H RR ts Φ Φx,ZN C RR->(∀m J e B d,Φx d->Q1 F H m J->H e=none->FL e m J H B d->RR e B J)->Y ts Φ Φx->B1 P w K mg base N x st k f H (XE C RR) λt=>EvC K F H { nx:=λ_=>Φ<|.fz .none,rt:=Φ } t<|ini N ts)
(a:∀ts Φ Φx,Y ts Φ Φx->ts.length=ps.length:=by intro _ _ _ h;cases h<;>rfl):ZI P w K mg base x ps (k+1) (Zg K C FL (λts Φ=>Y ts Φ λ_=>False) λts Φx=>Y ts (λ_=>False) Φx):=by
 refine H0.go λf _ F=>F.okX G (λo H Q L ⟨F,ts,_,_,X,RR,_,_,q⟩=>?_) λo H Q L ⟨F,ts,c,M,X,RR,I,st,q⟩ D A outer s g=>?_
 .rcases q with ⟨r,j,_⟩|⟨r,j,_⟩<;>exact X.length.trans (a _ _ _ j)
 .subst I;rcases q with ⟨Φ,j,q⟩|⟨Φx,j,q⟩
  .exact I0 (i f F H RR ts Φ _ st (λ_ _ _ _ _ z=>z.elim) j D A outer s g) λt U b=>#[t,U,b F _ H _ (Q1.refl M) (Gd c M X) #[λm l J n Z _ e=>q m J _ [] _ e Z (by rintro _ ⟨⟩) #[rfl,.non],λm J v u p Z E y e=>q m J v p u e Z E y,λ_ _ _ _ _ _ z=>z.elim,λ_ _ _ _ _ _ z=>z.elim]]
  .exact I0 (i f F H RR ts _ Φx st q j D A outer s g) λt U b=>#[t,U,b F _ H _ (Q1.refl M) (Gd c M X) #[λ_ _ _ _ _ _ z=>z.elim,λ_ _ _ _ _ _ _ _ z=>z.elim,λ_ _ _ _ _ _ z=>z.elim,λ_ _ _ _ _ _ z=>z.elim]]
end L2
namespace L2
def YD(x:Str)(n:Nat):Str:=#[(List.replicate n x.cps).foldl (· ++ ·) (List.toArray [])]
def Ri(x:Str)(n:Nat):YD x (n+1)=YD x n++x:=by
 unfold YD;rw[List.replicate_succ',List.foldl_append];rfl
def Fs(x:Str)(n:Nat):(YD x n).length=x.length*n:=by
 induction n with
 |zero=>rfl
 |succ n f=>rw[Ri,Str.length_append,f,Nat.mul_succ]
def PD:R2:=λx y H Q=>∃(z:Str) (n:Nat),x=.str z/\y=.int (n:Int)/\1<=z.length/\z.length*n<=1000000/\Q (.str<|YD z n) H
def N3:OpR X (binaryOp .Mult) PD:=by
 intro Y s O H x y v W Q I j f h;apply aU h;rintro z n rfl rfl B M q;obtain⟨t,rfl⟩:=j;obtain⟨C,rfl⟩:=f;have P:=Fs z n;have K:n<=z.length*n:=Nat.le_mul_of_pos_left n B;have D:=sizeLine_eq;refine PySem.P.mul_str (by rw[Bool.or_eq_false_iff,decide_eq_false_iff_not,decide_eq_false_iff_not];lia) (λU _ c=>?_) (λ_ _=>?_) ?_
 .rw[show(2^63-1:Int)=9223372036854775807 from rfl]at c;have c:=(Int.ediv_lt_iff_lt_mul<|#[]).mp c;have:((z.length*n:Nat):Int)=(z.length:Int)*(n:Int):=Int.natCast_mul _ _;lia
 .unfold Builtin.Str.tooLong;rw[X8];exact XU #[]
 .by_cases A:n=0
  .subst A;exact#[XA _,.str _,H,I.tok _,#[_,rfl],q]
  .rw[Xg<|#[]]
   by_cases m:n=1
   .subst m;rw[show YD z 1=z by rw[Ri];show(#[(List.toArray [])++z.cps]:Str)=z;rw[Array.empty_append]]at q;exact#[.str _,H,I,#[_,rfl],q]
   .rw[Xg<|by simp;lia,X8];exact#[by show(YD z n).length<=sizeLine;lia,.str _,H,I.tok _,#[_,rfl],q]
def Nn{x:Str}{n:Nat}(m:Qr K ta Z (.str x))(j:Qr K tb Z (.int (n:Int)))(l1:1<=x.length)(s:x.length*n<=1000000):Qr K (tOp PD ta tb) Z (.str<|YD x n):=λD F O H Q A q=>
 YI m j A λB J C v e h f=>by
  cases h;cases f;exact#[x,n,rfl,rfl,l1,s,q B J _ e<|.str _]
structure Uz(K:W.Frag)(mg:Str->Qf)(Xa6 C CX cy cg q1 q2 q3 q4:Addr)(b1 b2 b3:Bool):Prop where
 em:W.exmOne K (.ref C) (.ref Xa6)=some true
 my:mg "YardError"=some (.ref Xa6)
 is:Gq K C
 k1:W.kitOne K (.ref C) (.ref CX)=some b1
 k2:W.kitOne K (.ref C) (.ref cy)=some b2
 k3:W.kitOne K (.ref C) (.ref cg)=some b3
 k4:W.kitOne K (.ref C) (.type "ValueError")=some true
 ka:W.kitAny K (.ref C) [.ref q1,.ref q2,.ref q3,.ref q4]=some false
 m1:mg "NoText"=some (.ref CX)
 m2:mg "NoYard"=some (.ref cy)
 m3:mg "NoGuest"=some (.ref cg)
 n1:mg "NoNumber"=some (.ref q1)
 n2:mg "NoRoom"=some (.ref q2)
 n3:mg "NoRow"=some (.ref q3)
 n4:mg "NoTime"=some (.ref q4)
end L2
section
namespace My
open PySem L2 Mir
def zc(s:String):Lean.MacroM (Lean.TSyntax `tactic):=match s with
 |"d"=>`(tactic| dsimp only [List.set])
 |"e"=>`(tactic| dsimp only [List.set,JY,List.map,WQ])
 |"x"=>`(tactic| try dsimp only [Vu,Zs1])
 |"p"=>`(tactic| exact ⟨rfl,rfl,rfl,by decide +kernel,rfl,by decide +kernel,by decide +kernel⟩)
 |"j"=>`(tactic| first | decide | omega)
 |_=>Lean.Macro.throwUnsupported
local macro_rules|`(tactic| walk_at $s:str)=>zc s.getString
seal PA PE PI PS PSs PT PG
noncomputable def top(i:Nat):Stmt:=PySem.Challenge.pw_chargeyard_k83_desks_refused.main.body.getD i (.Pass #[0,0,0,0])
abbrev RE:Stmt:=top 10
abbrev SO:Stmt:=top 11
abbrev RZ:Stmt:=top 12
abbrev Sm:Stmt:=top 13
abbrev RL:Stmt:=top 14
abbrev Sx:Stmt:=top 15
abbrev Rq:Stmt:=top 16
abbrev RW:Stmt:=top 17
abbrev Rs:Stmt:=top 18
abbrev RA:Stmt:=top 19
abbrev RD:Stmt:=top 20
abbrev S5:Stmt:=top 21
abbrev R8:Stmt:=top 22
abbrev RH:Stmt:=top 23
abbrev Rv:Stmt:=top 24
abbrev RK:Stmt:=top 25
abbrev Rj:Stmt:=top 26
abbrev Ro:Stmt:=top 27
abbrev Sa:Stmt:=top 28
abbrev SG:Stmt:=top 29
abbrev S6:Stmt:=top 35
abbrev RT:Stmt:=top 36
abbrev RP:Stmt:=top 37
abbrev R9:Stmt:=top 38
abbrev RN:Stmt:=top 39
abbrev R7:Stmt:=top 40
abbrev SR:Stmt:=top 41
abbrev SM:Stmt:=top 42
abbrev Sh:Stmt:=top 44
abbrev RI:Stmt:=top 45
abbrev Sy:Stmt:=top 46
abbrev R4:Stmt:=top 47
abbrev SE:Stmt:=top 49
abbrev Si:Stmt:=top 50
abbrev Sn:Stmt:=top 51
abbrev Sb:Stmt:=top 55
abbrev Sg:Stmt:=top 56
abbrev Sq:Stmt:=top 57
abbrev Sl:Stmt:=top 58
abbrev SA:Stmt:=top 59
abbrev RQ:Stmt:=top 60
abbrev Re:Stmt:=top 61
abbrev Sz:Stmt:=top 62
abbrev Sc:Stmt:=top 63
abbrev RO:Stmt:=top 64
abbrev Sk:Stmt:=top 65
abbrev BF:Stmt:=top 66
abbrev R1:Stmt:=top 69
abbrev NR:Stmt:=top 70
abbrev SH:Stmt:=top 71
abbrev SI:Stmt:=top 72
abbrev UY:Stmt:=top 73
abbrev NI:Stmt:=top 74
abbrev SB:Stmt:=top 77
abbrev Se:Stmt:=top 78
abbrev Sv:Stmt:=top 79
abbrev RV:Stmt:=top 80
abbrev Sw:Stmt:=top 81
abbrev Sd:Stmt:=top 82
abbrev Bh:Stmt:=top 83
abbrev S9:Stmt:=top 84
abbrev Hm:Stmt:=top 85
abbrev Jq:Stmt:=top 86
abbrev Bk:Stmt:=Vl (top 4) 0
abbrev Bo:Stmt:=Vl (top 6) 0
abbrev Bm:Stmt:=Vl (top 7) 0
abbrev Bn:Stmt:=Vl (top 34) 0
abbrev Rr:Stmt:=Vl (top 34) 1
abbrev Sj:Stmt:=Vl (top 34) 2
abbrev Ry:Stmt:=Vl (top 34) 3
abbrev So:Stmt:=Vl (top 34) 4
abbrev RB:Stmt:=Vl (top 34) 5
abbrev RG:Stmt:=Vl (top 34) 6
abbrev Sr:Stmt:=Vl (top 34) 7
abbrev Bj:Stmt:=Vl (top 53) 0
abbrev RJ:Stmt:=Vl (top 53) 1
abbrev Mx:Stmt:=Vl (top 53) 2
abbrev RU:Stmt:=Vl (top 53) 3
abbrev Ss:Stmt:=Vl (top 53) 4
abbrev Sf:Stmt:=Vl (top 53) 6
abbrev SN:Stmt:=Vl (top 53) 7
abbrev S8:Stmt:=Vl (top 53) 10
abbrev SK:Stmt:=Vl (top 53) 11
abbrev SJ:Stmt:=Vl (top 53) 12
abbrev SS:Stmt:=Vl (top 53) 13
abbrev Gg:Stmt:=Vl (top 75) 0
abbrev Mz:Stmt:=Vl (top 75) 1
structure Bl(mg:Str->Qf):Prop where
 abs:mg "abs"=none
 len:mg "len"=none
 max:mg "max"=none
 min:mg "min"=none
 sum:mg "sum"=none
 any:mg "any"=none
 all:mg "all"=none
 isi:mg "isinstance"=none
 int:mg "int"=none
 bool:mg "bool"=none
 list:mg "list"=none
 tuple:mg "tuple"=none
 range:mg "range"=none
 zip:mg "zip"=none
 enumerate:mg "enumerate"=none
 str:mg "str"=none
 sorted:mg "sorted"=none
 set:mg "set"=none
 dict:mg "dict"=none
 ValueError:mg "ValueError"=none
structure Tx(K:W.Frag)(mg:Str->Qf)(C gS gE:Addr):Prop where
 net:NetC K C
 mSTART:mg "START"=some (.ref gS)
 mEND:mg "END"=some (.ref gE)
 aS:W.nsIn K mainGlobals "START"=some (some<|.ref gS)
 aE:W.nsIn K mainGlobals "END"=some (some<|.ref gE)
noncomputable def upD:Option Nat->PyData
 |none=>.none
 |some a=>.int (a:Int)
noncomputable def Ya(l:Ln):PyData:=.tuple [upD l.up,.tuple<|l.bs.map PyData.int]
noncomputable def Zb(y:Yd):PyData:=.tuple [.int (y.T:Int),.tuple<|y.ls.map Ya]
def Y3(l:Qk):Qd:=l.map λ(j:Nat)=>PyData.int (j:Int)
def cdl{i j:Int}(U:0<j)(f:j<=10^60):G8 i j:=#[U,ME f<|by decide +kernel]
def Dc{j:Int}(f:0<=j)(U:j<=1000000):Kg 10 j:=#[f,U,by decide]
def z60:(10:Int)^60=1000000000000000000000000000000000000000000000000000000000000:=by decide +kernel
def Jl{i j:Int}(U:0<j)(f:j<=1000000000000000000000000000000000000000000000000000000000000):G8 i j:=cdl U (by exact z60▸f)
def AH{j:Type}[Inhabited j]{f:j->PyData}{xs:List j}{k:Int}(m:0<=k)(U:k<(xs.length:Int)):atI (xs.map f) k=some (f<|xs.getD k.toNat default):=by
 have h:k.toNat<xs.length:=#[]
 have e:(xs.map f)[k.toNat]?=some (f<|xs.getD k.toNat default):=by simp[h]
 have q:=ZQ e;rwa [Wr m]at q
def Ej{xs:Ql}{k:Int}(f:0<=k)(U:k<(xs.length:Int)):atI (xs.map PyData.int) k=some (.int<|xs.getD k.toNat 0):=by
 have h:k.toNat<xs.length:=#[]
 have e:(xs.map PyData.int)[k.toNat]?=some (.int<|xs.getD k.toNat 0):=by simp[h]
 have j:=ZQ e;rwa [Wr f]at j
def A8{xs:Ql}(f:0<=k)(U:k<(xs.length:Int)):atI xs k=some (xs.getD k.toNat 0):=by
 have h:k.toNat<xs.length:=#[]
 have e:xs[k.toNat]?=some (xs.getD k.toNat 0):=by simp[h]
 have j:=ZQ e;rwa [Wr f]at j
def PZ{f:Nat->PyData}{n:Nat}{k:Int}(j:0<=k)(U:k<(n:Int)):atI ((List.range n).map f) k=some (f k.toNat):=by
 have h:k.toNat<n:=#[]
 have e:((List.range n).map f)[k.toNat]?=some (f k.toNat):=by simp[h]
 have m:=ZQ e;rwa [Wr j]at m
def Pp{n:Nat}{k:Int}(f:0<=k)(U:k<(n:Int)):ixN n k=some k.toNat:=by
 unfold ixN;rw[Xi f,Xi U]
instance:Inhabited Ln:=#[#[none,[]]]
noncomputable def QT(g:Gs):PyData:=.tuple [.int (g.line:Int),.int (g.first:Int),.int (g.last:Int),.int g.want,.int g.most]
instance:Inhabited Gs:=#[#[0,0,0,1,1]]
def ZkS{m:Nat}(h:∀d∈ds,d.canLay0=true/\d.depth<=m):PyData.canLayAll0 ds=true/\PyData.depthAll ds<=m:=by
 induction ds with
 |nil=>exact#[rfl,XA _]
 |cons d ds f=>
  obtain⟨a,b⟩:=h d Xb;obtain⟨c,e⟩:=f λx j=>h x (Xf _ j);refine#[by rw[PyData.canLayAll0,a,c];rfl,?_];rw[PyData.depthAll];lia
def Jt(m:Nat)(d:PyData):Prop:=d.canLay0=true/\d.depth<=m
def Jt.fine{m:Nat}(h:Jt m d)(f:m<=60):Vi d:=#[h.1,Xt h.2 f]
def BV{m:Nat}(h:∀d∈ds,Jt m d):Jt (m+1) (.list ds):=by
 obtain⟨a,b⟩:=ZkS h;refine#[by rw[PyData.canLay0];exact a,?_];rw[PyData.depth];lia
def Et(i:Int)(m:Nat):Jt m (.int i):=#[rfl,XA _]
def D2{m:Nat}:∀d∈([]:Qd),Jt m d:=λd f=>(nomatch f)
def Ma{m:Nat}(h:Jt m d)(j:∀d∈ds,Jt m d):∀x∈d::ds,Jt m x:=λx f=>by
 rcases Xc.mp f with rfl|f
 .exact h
 .exact j x f
def NQ:Vi (.list []):=(BV (m:=0) D2).fine (by decide)
def Kd(w:String):Lean.MacroM (Lean.TSyntax `tactic):=do
 let n:=Lean.mkIdent (w.drop 1).toString.toName
 match w.front with
 |'@' => `(tactic| with_reducible apply $n)
 |'!' => `(tactic| with_reducible exact $n)
 |'~' => `(tactic| apply $n)
 |_ => `(tactic| walk_at $(Lean.Syntax.mkStrLit w))
def V7(s:String):Lean.MacroM (Lean.TSyntax `tactic):=do
 let l ← (s.splitOn "|").mapM λa=>do
  match a.splitOn "<" with
  |[x,z] => `(tactic| ($(← Kd x):tactic <;> $(← Kd z):tactic))
  |_=>
   let ts ← (a.splitOn " ").mapM Kd
   `(tactic| ($[$ts.toArray:tactic];*))
 `(tactic| first $[| $l.toArray:tactic]*)
def zd(s:String):Lean.MacroM (Lean.TSyntax `tactic):=match s with
 |"rfl"=>`(tactic| rfl)
 |"hc"=>`(tactic| intro hc)
 |"ls"=>zc "d"
 |"om"=>`(tactic| lia)
 |"asm"=>`(tactic| with_reducible assumption)
 |"ble"=>`(tactic| first | with_reducible rfl | decide | exact Nat.le_of_ble_eq_true rfl)
 |"smo"=>`(tactic| (focus (simp; (first | done | walk_at "om"))))
 |"dso"=>`(tactic| (focus (dsimp only; walk_at "om")))
 |"r4"=>`(tactic| (refine ⟨?_,?_,?_,?_⟩ <;> walk_at "r62"))
 |"r62"=>`(tactic| (rw [z62]; walk_at "side"))
 |"call"=>`(tactic| (constructor <;> walk_at "side"))
 |"rg"=>`(tactic| first | with_reducible rfl | (apply JA <;> walk_at "rs") | (apply rngU_cong <;> walk_at "rs"))
 |"rs"=>V7 "om|smo"
 |"side"=>V7 "om|asm|ble|smo"
 |"arith"=>V7 "om|asm|ble|smo"
 |"ev"=>V7 "@Qq rfl|!Qz|!Ww|!W0|!QU|@ZB ev ev|@Yj ev ev|@Z8 ev ev cond|@Z0p ev|@VP ev ev|@K2 ev|@D5 ev|@UU ev ev ev|@VC ev hc ev|@Kh ev hc ev|@K3 ev|@Pl rfl ev item|@AI rfl ev item|@V5 evd ev item|@ZZ evd ev item|@YW eas side|@QN ea call|@Ei ea call|@Tu ev ev|@PY ev ev|@PU ev|@GI ev rfl|@A5 rfl|@PV rfl|@BQ evd|@YL evd|@D0 rfl|@PX evd|@Ky ev ev fine fine|@B8 ev ev fine fine|@Kx ev rfl|@EvO.fz eo"
 |"evd"=>V7 "~Qq rfl|ev|@EvO.fz eo"
 |"ea"=>V7 "!Q0|@Px rfl ea|@Qu ev ea"
 |"ep"=>V7 "!VE|@VF ev"
 |"eas"=>V7 "~Zu|~QM ev eas"
 |"eo"=>V7 "@ZA eas side|@D4 ea call|@Wz evd ep ep|@WV evd evd side"
 |"et"=>V7 "!Po|@Zq ev|@Z2 ev|@K1 et hc et|@JW et hc et|@Vm et"
 |"g"=>V7 "!Zw|!J1|@Yl g g|@WJ g rfl|~WJ g rfl"
 |"ei"=>V7 "@W9 ea r62 r62|@Lj ea r4|@E6 ea r4|@BR ea|@Y9 evd|@GH evd"
 |"s1"=>V7 "@Q9 s1|@ZO eo ls|@Z1 ev ls|@Ji rfl ev side ls|@TJ rfl ev ev item ls"
 |"ret"=>V7 "@J5 rfl|@Zh evd|@UN eo"
 |"if"=>V7 "@Q9 if|@Zc et"
 |"eir"=>V7 "~EvI.cast ei rg"
 |"item"=>V7 "rfl|asm|@Ej<arith|@A8<arith|@PZ<arith|@Pp<arith|~AH<arith"
 |"cond"=>V7 "asm|@Jl<om|@Dc<om|om|dso"
 |"fine"=>V7 "~fine_nil"
 |_=>Lean.Macro.throwUnsupported
local macro_rules|`(tactic| walk_at $s:str)=>zd s.getString
section
variable {w:World}{base:Heap}{gS gE YR CR fR cg ct CQ fQ q1 q2 q3 q4 cu CD gC CX cy CE:Addr}
inductive R_cell:List OT->OT->Prop
 |mk {ns:Ql}{k:Int}(h:0<=k):R_cell [.scr ns,.fz<|.int k] (.fz<|.int<|WN ns k)
def Zij:Qo ZaD ZaD (Q8 SB):=by walk_at"p"
def IG(T:Bl mg)(H0:Df K mg "_law_cell_at" SB ZaD):Q2 P w K mg base "_law_cell_at" ZaD 1 (QA (K:=K) R_cell):=by
 refine H0.ev Zij (λf ts r h H C m A outer s q=>?_);cases h with
 |@mk j k B=>
  refine#[_,(Qx (QQ (Ze Jw vb1<|Zx Vt T.len Vr y0) (Qy<|QK<|QI QJ u0 vb1) QS)
 (Qy<|QK Qw)),?_]
  try dsimp only[Vu]
  walk_at"if"
  .
   intro c;walk_at"ret";rfl
  .
   refine λc=>QX ?_;walk_at"ret";have e:WN j k=0:=by
    have:j.length<=k.toNat:=#[]
    simp[WN,List.getD,this]
   rw[e]
def Y0(y:Yd)(k:Nat):Ln:=y.ls.getD k default
def upN(y:Yd)(k:Nat):Nat:=(Zn y k).getD 0
def FZ{y:Yd}(h:k<y.ls.length):Zn y k=(Y0 y k).up:=by simp[Zn,Y0,h]
def CB{y:Yd}(h:k<y.ls.length):ZU y k t=(Y0 y k).bs.getD t 0:=by simp[ZU,Y0,h]
def Fb{y:Yd}(f:y.Ok)(h:k<y.ls.length):(Y0 y k).bs.length=y.T:=f.bl _ (by simp[Y0,h])
inductive R_turns:List OT->OT->Prop
 |mk {y:Yd}:R_turns [.fz<|Zb y] (.fz<|.int (y.T:Int))
def ZlM:Qo ZaH ZaH (Q8 RD):=by walk_at"p"
def ZtC(T:Bl mg)(H0:Df K mg "turns_of" RD ZaH):Q2 P w K mg base "turns_of" ZaH 1 (QA (K:=K) R_turns):=by
 refine H0.ev ZlM (λf ts r h H q j A outer s m=>?_);cases h with
 |@mk y=>
  refine#[_,(Qy<|QK<|QI QJ u0 Qw),?_]
  try dsimp only[Vu]
  walk_at"ret";rfl
inductive R_count:List OT->OT->Prop
 |mk {y:Yd}:R_count [.fz<|Zb y] (.fz<|.int (y.ls.length:Int))
def Zjj:Qo ZaH ZaH (Q8 S5):=by walk_at"p"
def ZtL(T:Bl mg)(H0:Df K mg "line_count" S5 ZaH):Q2 P w K mg base "line_count" ZaH 1 (QA (K:=K) R_count):=by
 refine H0.ev Zjj (λf ts r h H q j A outer s m=>?_);cases h with
 |@mk y=>
  refine#[_,(Qy<|QK<|Zx Vt T.len Vr<|Qs (QI QJ u0 Qw) Qp),?_]
  try dsimp only[Vu]
  walk_at"ret";rw[Xe]
inductive R_above:List OT->OT->Prop
 |mk {y:Yd}{k:Int}(ok:y.Ok)(h0:0<k)(U:k<(y.ls.length:Int)):R_above [.fz<|Zb y,.fz<|.int k] (.fz<|.int (upN y k.toNat:Int))
 |zero {y:Yd}(ok:y.Ok):R_above [.fz<|Zb y,.fz<|.int 0] (.fz .none)
def Zm2:Qo ZaN ZaN (Q8 R8):=by walk_at"p"
def Zss(T:Bl mg)(H0:Df K mg "above_of" R8 ZaN):Q2 P w K mg base "above_of" ZaN 1 (QA (K:=K) R_above):=by
 refine H0.ev Zm2 (λf ts r h H M q A outer s C=>?_);cases h with
 |@mk y k j D U=>
  refine#[_,(Qy<|QK<|QI QJ (QI QJ (QI QJ u0 Qw) vb1) Qw),?_]
  try dsimp only[Vu]
  walk_at"ret";apply I0 (j.ups k.toNat #[] #[]);intro a e l;have m:(Y0 y k.toNat).up=some a:=by rw[<- FZ #[]];exact e
  show OT.fz (upD (Y0 y k.toNat).up)=_;rw[m];simp[upN,e,upD]
 |@zero y j=>
  refine#[_,(Qy<|QK<|QI QJ (QI QJ (QI QJ u0 Qw) vb1) Qw),?_]
  try dsimp only[Vu]
  have B:=j.l1;walk_at"ret";have m:(Y0 y 0).up=none:=by rw[<- FZ #[]];exact j.up0
  show OT.fz (upD (Y0 y 0).up)=_;rw[m];rfl
inductive R_bound:List OT->OT->Prop
 |mk {y:Yd}{k t:Int}(ok:y.Ok)(h0:0<=k)(U:k<(y.ls.length:Int))(h2:0<=t)(h3:t<(y.T:Int)):R_bound [.fz<|Zb y,.fz<|.int k,.fz<|.int t] (.fz<|.int<|ZU y k.toNat t.toNat)
def ZmC:Qo Zat Zat (Q8 RH):=by walk_at"p"
def ZtG(T:Bl mg)(H0:Df K mg "bound_at" RH Zat):Q2 P w K mg base "bound_at" Zat 1 (QA (K:=K) R_bound):=by
 refine H0.ev ZmC (λf ts r h H W m A outer s q=>?_);cases h with
 |@mk y k t j M U D C=>
  refine#[_,(Qy<|QK<|QI QJ (QI QJ (QI QJ (QI QJ u0 Qw) vb1) Qw) u2),?_]
  try dsimp only[Vu]
  have B:(y.ls.getD k.toNat default).bs.length=y.T:=Fb j #[];walk_at"ret";show _=_;rw[CB<|#[]];rfl
inductive R_lineof:List OT->OT->Prop
 |mk {g:Gs}:R_lineof [.fz<|QT g] (.fz<|.int (g.line:Int))
def Zo0:Qo Zaw Zaw (Q8 Rv):=by walk_at"p"
def ZpT(T:Bl mg)(H0:Df K mg "line_of" Rv Zaw):Q2 P w K mg base "line_of" Zaw 1 (QA (K:=K) R_lineof):=by
 refine H0.ev Zo0 (λf ts r h H q j A outer s m=>?_);cases h with
 |@mk g=>
  refine#[_,(Qy<|QK<|QI QJ u0 Qw),?_]
  try dsimp only[Vu]
  walk_at"ret";rfl
inductive R_there:List OT->OT->Prop
 |mk {g:Gs}{t:Int}:R_there [.fz<|QT g,.fz<|.int t] (.fz<|.bool<|Ug g t)
def Zmy:Qo Zap Zap (Q8 RK):=by walk_at"p"
def Zsd(T:Bl mg)(H0:Df K mg "is_there" RK Zap):Q2 P w K mg base "is_there" Zap 1 (QA (K:=K) R_there):=by
 refine H0.ev Zmy (λf ts r h H q j A outer s m=>?_);cases h with
 |@mk g t=>
  refine#[_,(Qy<|QK<|Fq UL UL (QI QJ u0 Qw) vb1<|QI QJ u0 Qw),?_]
  try dsimp only[Vu]
  walk_at"ret";rfl
inductive R_most:List OT->OT->Prop
 |mk {g:Gs}:R_most [.fz<|QT g] (.fz<|.int g.most)
def Zoi:Qo Zaw Zaw (Q8 Ro):=by walk_at"p"
def Ip(T:Bl mg)(H0:Df K mg "most_of" Ro Zaw):Q2 P w K mg base "most_of" Zaw 1 (QA (K:=K) R_most):=by
 refine H0.ev Zoi (λf ts r h H q j A outer s m=>?_);cases h with
 |@mk g=>
  refine#[_,(Qy<|QK<|QI QJ u0 Qw),?_]
  try dsimp only[Vu]
  walk_at"ret";rfl
inductive R_want:List OT->OT->Prop
 |mk {g:Gs}:R_want [.fz<|QT g] (.fz<|.int g.want)
def Zob:Qo Zaw Zaw (Q8 Rj):=by walk_at"p"
def IU(T:Bl mg)(H0:Df K mg "want_of" Rj Zaw):Q2 P w K mg base "want_of" Zaw 1 (QA (K:=K) R_want):=by
 refine H0.ev Zob (λf ts r h H q j A outer s m=>?_);cases h with
 |@mk g=>
  refine#[_,(Qy<|QK<|QI QJ u0 Qw),?_]
  try dsimp only[Vu]
  walk_at"ret";rfl
structure SetOk(S:List Gs)(some:Qk):Prop where
 mem:∀k∈some,k<S.length
 len:some.length<=8
def GN(S:List Gs)(t:Nat)(f:Qk):Qn:=λl=>V9 S (t:Int) l f
def GM(y:Yd)(S:List Gs)(f:Qk)(t:Nat):Ql:=(List.range y.ls.length).map λl=>YU y (λk=>ZU y k t) (GN S t f) l
inductive R_reaching:List OT->OT->Prop
 |mk {y:Yd}{S:List Gs}{sm:Qk}{t:Int}(ok:y.Ok)(hg:∀g∈S,g.line<y.ls.length)(hs:SetOk S sm)(h0:0<=t)(U:t<(y.T:Int)):
  R_reaching [.fz<|Zb y,.fz<|.list<|S.map QT,.fz<|.list<|Y3 sm,.fz<|.int t] (.ol<|(GM y S sm t.toNat).map PyData.int)
def LL{f g:Qn}(q:j<n)(e1:∀l,l<n->l≠j->g l=f l){v:Int}(s:g j=v):
 (((List.range n).map λl=>PyData.int<|f l).set j (.int v))=(List.range n).map λl=>PyData.int (g l):=by
 apply List.ext_getElem?;intro i;by_cases m:i=j
 .simp_all
 .rw[X7<|Ne.symm m]
  by_cases h:i<n
  .simp[h,e1 i h m]
  .simp[h]
def M4:Qo ["yard","guests","some","turn","reaching","number","guest","line"] Zaf (Q8 Sh):=by walk_at"p"
def Zm7(T:Bl mg)(H0:Df K mg "reaching_at" Sh Zaf)(C:Q2 P w K mg base "line_count" ZaH 1 (QA (K:=K) R_count))(p:Q2 P w K mg base "is_there" Zap 1 (QA (K:=K) R_there))
(u:Q2 P w K mg base "line_of" Zaw 1 (QA (K:=K) R_lineof))(o:Q2 P w K mg base "most_of" Zaw 1 (QA (K:=K) R_most))(E:Q2 P w K mg base "above_of" ZaN 1 (QA (K:=K) R_above))
(v:Q2 P w K mg base "bound_at" Zat 1 (QA (K:=K) R_bound)):Q2 P w K mg base "reaching_at" Zaf 2 (QA (K:=K) R_reaching):=by
 refine H0.ev M4 (λf ts r h H H1 cdv A outer s q=>?_);cases h with
 |@mk y S j t Y N G O U=>
  refine#[_,(Qx (Hg 4 M4 ["line"] [none] (Wp rfl T.range<|Qs (Q6 C q y0) Qp) λ_=>Qw)
 (Qx (Vx zN rfl (by exact(Yv u2)) (ZF 5 M4.nd) (by exact(Qx (QP 6 M4.nd<|QI QJ vb1<|pv 5)
 (Qy<|QQ (ZL<|Q6 p q<|av 6 v3) (Qy<|BT t4 (Q6 u q<|av 6 Qp) Md (Q6 o q<|av 6 Qp) D3 Jh) QS))))
 (Qx (Vx zN rfl (by exact(ZqE rfl T.range<|Qs (QL Wi (Q6 C q y0) Qw)<|Qs Qw<|Qs (AA AU Qw) Qp)) (ZF 7 M4.nd)<|by exact(Qy<|BT t4 (Q6 E q<|av 0<|av 7 Qp) Md (Zx (KD rfl) T.min Dr<|Qs (QI QJ t4<|pv 7)<|Qs (Q6 v q<|av 0<|av 7 v3) Qp) D3 Jh))
 (Qy<|QK t4)))),?_]
  show QE K _ [_,_,_,_,_,_,_,_] _
  walk_at"x";have l1:=Y.l1;have l5:=Y.l5;have n8:=G.len;refine Q9 (ZO (KO (lo:=0) (n:=y.ls.length) (h:=λ_=>.int 0) ?ei #[] ?el) ?_)
  case ei=>walk_at"eir"
  case el=>
   exact λx hx c=>#[_,by walk_at"g",by walk_at"ev"]
  walk_at"d";refine Q9 (BS (λi=>[zf<|Zb y,zf<|.list<|S.map QT,zf<|.list<|Y3 j,zi t,some<|.ol<|(List.range y.ls.length).map λl=>PyData.int<|V9 S t l<|j.take i,none,none,none]) (by walk_at"ei") #[rfl,rfl,rfl,rfl,rfl,trivial] ?st ?fin)
  case st=>
   intro i d M;have D:i<j.length:=by
    have:=(Xh.mp M).1;simpa [Y3] using this
   obtain rfl:d=.int ((j[i]:Nat):Int):=by simpa [Y3,D] using M.symm
   have B:j[i]<S.length:=G.mem _ (XX D);refine#[_,by walk_at"g",?_];walk_at"d";walk_at"s1";have Q:S.getD ((j[i]:Nat):Int).toNat default=S[j[i]]:=by simp[B]
   rw[Q];have e:=N S[j[i]] (XX B);have X:j.take (i+1)=j.take i++[j[i]]:=by rw[Uu];simp[D]
   refine Zc (by walk_at"et") (λc=>?_) (λc=>?_)
   .refine Lr (m:=V9 S t S[j[i]].line (j.take i)) rfl (by walk_at"ev") #[] ?_ (by walk_at"ev") ?_
    .simp[e]
    .walk_at"d";refine#[rfl,rfl,rfl,rfl,?_,trivial];rw[X8];congr 2;refine LL e (λl J Z=>?_) ?_
     .rw[X,Hq];simp[V9,B,Ne.symm Z]
     .rw[X,Hq];simp[V9,B,c]
   .refine QX #[rfl,rfl,rfl,rfl,Xz (λz=>some<|OT.ol z) (Ux λl _=>?_),trivial];rw[X,Hq];simp[V9,B,c]
  case fin=>
   refine λW b=>BI b ?_;have el:(Y3 j).length=j.length:=by simp[Y3]
   rw[el,JE];refine Q9 (BS (λi=>[zf<|Zb y,zf<|.list<|S.map QT,zf<|.list<|Y3 j,zi t,some<|.ol<|(List.range y.ls.length).map λl=>PyData.int<|Y7 y (λk=>ZU y k t.toNat) (λl=>V9 S t l j) i l,none,none,none]) (by walk_at"ei") #[rfl,rfl,rfl,rfl,rfl,trivial] ?st2 ?fin2)
   case st2=>
    intro i d M;obtain⟨D,rfl⟩:=Fo M;have L:i<y.ls.length-1:=#[]
    refine#[_,by walk_at"g",?_];walk_at"d";have I:((y.ls.length:Int)-1-(i:Int)).toNat=y.ls.length-1-i:=#[]
    apply I0 (Y.ups (y.ls.length-1-i) #[] #[]);intro a g la;have F:upN y ((y.ls.length:Int)-1-(i:Int)).toNat=a:=by rw[I];simp[upN,g]
    refine Lr (m:=Y7 y (λk=>ZU y k t.toNat) (λl=>V9 S t l j) i a) rfl (by walk_at"ev") #[] ?_ (by walk_at"ev") ?_
    .rw[F,X8];have:a<y.ls.length:=#[]
     simp[this]
    .walk_at"d";refine#[rfl,rfl,rfl,rfl,?_,trivial];rw[F,X8];refine Xz (λz=>some<|OT.ol z) (LL #[] (λl J Z=>?_) ?_)
     .simp only[Y7,UK];rw[g,Xg<|by simpa using λz=>Z z.symm];lia
     .simp only[Y7,UK];rw[g,Xi rfl,I]
   case fin2=>
    refine λW b=>BI b ?_;walk_at"ret";show _=_;have R:(G0 ((y.ls.length:Int)-1) ((y.ls.length:Int)-1-0).toNat).length=y.ls.length-1:=by rw[Fw];lia
    rw[R];unfold GM YU GN;rw[Wr O,Xx];rfl
def Zoc(y:Yd)(S:List Gs)(f:Qk)(t:Nat):(GM y S f t).length=y.ls.length:=by simp[GM]
def Zpj{y:Yd}(h:l<y.ls.length):(GM y S sm t).getD l 0=YU y (λk=>ZU y k t) (GN S t sm) l:=by simp[GM,List.getD,h]
def Nh(y:Yd)(S:List Gs)(f:Qk)(t:Nat):Int:=passes y (λk=>ZU y k t) (GN S t f) 0
noncomputable def Hc(y:Yd)(S:List Gs)(f:Qk):Int:=((List.range y.T).map λt=>Nh y S f t).sum
inductive R_given:List OT->OT->Prop
 |mk {y:Yd}{S:List Gs}{sm:Qk}{t:Int}(ok:y.Ok)(hg:∀g∈S,g.line<y.ls.length)(hs:SetOk S sm)(h0:0<=t)(U:t<(y.T:Int)):
  R_given [.fz<|Zb y,.fz<|.list<|S.map QT,.fz<|.list<|Y3 sm,.fz<|.int t] (.fz<|.int<|Nh y S sm t.toNat)
def Zmo:Qo Zaf Zaf (Q8 RI):=by walk_at"p"
def ZrT(T:Bl mg)(H0:Df K mg "given_at" RI Zaf)(m:Q2 P w K mg base "reaching_at" Zaf 2 (QA (K:=K) R_reaching))(j:Q2 P w K mg base "bound_at" Zat 1 (QA (K:=K) R_bound)):
 Q2 P w K mg base "given_at" Zaf 3 (QA (K:=K) R_given):=by
 refine H0.ev Zmo (λf ts r h H a D A outer s q=>?_);cases h with
 |@mk y S B t C Y X Z U=>
  refine#[_,(Qy<|QK<|Zx (KD rfl) T.min Dr<|Qs (QI QJ (Q6 m q<|av 0<|av 1<|av 2 v3) Qw)<|Qs (Q6 j q<|av 0<|Qs Qw v3) Qp),?_]
  try dsimp only[Vu]
  have W:=C.l1;have M:=Zoc y S B t.toNat
  walk_at"ret";show _=_;rw[ Zpj #[]];rfl
inductive R_givenm:List OT->OT->Prop
 |mk {y:Yd}{S:List Gs}{sm:Qk}(ok:y.Ok)(hg:∀g∈S,g.line<y.ls.length)(hs:SetOk S sm):
  R_givenm [.fz<|Zb y,.fz<|.list<|S.map QT,.fz<|.list<|Y3 sm] (.fz<|.int<|Hc y S sm)
def Am:Qo Zai Zai (Q8 Sy):=by walk_at"p"
def Zr4(T:Bl mg)(H0:Df K mg "given_most" Sy Zai)(m:Q2 P w K mg base "turns_of" ZaH 1 (QA (K:=K) R_turns))(j:Q2 P w K mg base "given_at" Zaf 3 (QA (K:=K) R_given)):
 Q2 P w K mg base "given_most" Zai 4 (QA (K:=K) R_givenm):=by
 refine H0.ev Am (λf ts r h H Z M A outer s B=>?_);cases h with
 |@mk y S X q D C=>
  refine#[_,(Qy<|QK<|Zx T6 T.sum TN<|Qs (Yp Am ["turn","yard","guests","some"] [none,some 0,some 1,some 2] (Wp rfl T.range<|Qs (Q6 m B y0) Qp) λ_=>(Q6 j B<|av 1<|av 2<|av 3 y0)) Qp),?_];show QE K _ [_,_,_] _
  walk_at"x";have W:=q.t8;refine Zh (Kx (EvO.fz ?_) rfl) rfl;rw[Xx];refine KO (lo:=0) (n:=y.T) ?_ #[] ?_
  .walk_at"eir"
  .refine λx Y c=>#[_,by walk_at"g",?_];rw[Go];exact QN (by walk_at"ea") (R_given.mk (t:=(x:Int)) q D C #[] #[])
def DB:NoF "lay" := λ_ _ _ _=>rfl
def Fk:NoF "lay_one" := λ_ _ _ _=>rfl
def Zse:NoF "flow" := λ_ _ _ _=>rfl
def Aa:NoF "reached" := λ_ _ _ _=>rfl
def ZsD:NoF "push" := λ_ _ _ _=>rfl
def ZsY:NoF "fill" := λ_ _ _ _=>rfl
def Oh:NoF "way_to" := λ_ _ _ _=>rfl
def ZhT:Qo Zav Zav (Q8 Bn):=by walk_at"p"
def Ew{f:Addr}(T:Bl mg)(B:Tx K mg C gS gE)(F:Fun K "__init__" "Net.__init__" Bn f fd):FnOk P w K mg base CX0 1 f fd Zav (spI P w C):=by
 refine F.ok ZhT (by rintro v H Q L ⟨x,u,e,_⟩;rw[e];rfl) ?_;rintro v H Q L ⟨x,u,rfl,i,q⟩ z A outer s N;refine#[_,(Qx (W2 u0 (Zk Qp) rfl)
 (Qx (W2 u0 (Zk Qp) rfl)
 (Qx (W2 u0 ZsK rfl)
 (Qy<|W2 u0 ZrW rfl)))),?_]
 refine#[XA _,λe k=>#[_,rfl,x,C,u,[],rfl,?_,B.net.cl,B.net.ends,by decide,?_]]
 .rw[Qv<|Z5 i k];exact i
 have X:=Z5 i k;refine#[XA _,λr j=>#[_,rfl,x,C,u,[("ends",.ref e)],rfl,?_,B.net.cl,B.net.rooms,(by show(1)<1000;decide),?_]]
 .have D:=Z5 QF j;rw[Qv D,QF];rfl
 have D:=Z5 QF j;have Z:=by rw[Qv<|Ne.symm D]at j;exact j
 have n:=Z5 QF Z;have y:=by rw[Qv<|Ne.symm n]at Z;exact Z
 refine λl m=>#[_,rfl,x,C,u,[("ends",.ref e),("rooms",.ref r)],rfl,?_,B.net.cl,B.net.leav,(by show(2)<1000;decide),?_]
 .have M:=Z5 QF m;rw[Qv M,QF];rfl
 have M:=Z5 QF m;rw[Qv<|Ne.symm M]at m;have a:=Z5 QF m;rw[Qv<|Ne.symm a,Qv<|Ne.symm M]at m;have o:=Z5 QF m;rw[Qv<|Ne.symm o]at m;refine λd h=>#[_,rfl,x,C,u,[("ends",.ref e),("rooms",.ref r),("leaving",.ref l)],rfl,?_,B.net.cl,B.net.laid,(by show(3)<1000;decide),?_]
 .have W:=Z5 QF h;rw[Qv W,QF];rfl
 have W:=Z5 QF h;rw[Qv<|Ne.symm W]at h;have g:=Z5 QF h;rw[Qv<|Ne.symm g,Qv<|Ne.symm W]at h;have c:=Z5 QF h;rw[Qv<|Ne.symm c,Qv<|Ne.symm W]at h;have p:=Z5 QF h;rw[Qv<|Ne.symm p]at h;refine q e r l d _ k y m h ?_ ?_ ?_ ?_ ?_ ?_ (λb t=>?_)
 .simp only[XN,Xc,XH,or_false,not_or,not_false_eq_true,MA,and_true];exact#[#[X,D,M,W],#[n,o,p],#[a,c],g]
 .rw[QF];rfl
 .rw[Qv<|Ne.symm X,Qv p,Qv<|Ne.symm X,Qv o,Qv<|Ne.symm X,Qv n,Qv<|Ne.symm X,QF]
 .rw[Qv<|Ne.symm D,Qv c,Qv<|Ne.symm D,Qv a,Qv<|Ne.symm D,QF]
 .rw[Qv<|Ne.symm M,Qv g,Qv<|Ne.symm M,QF]
 .rw[Qv<|Ne.symm W,QF];rfl
 .simp only[Xc,XH,or_false,not_or]at t;apply Hs t;intro Y J I G E;rw[Qv Y,Qv E,Qv Y,Qv G,Qv Y,Qv I,Qv Y,Qv J]
inductive R_lay1:QC->List OT->(QC->Prop)->Prop
 |mk {N:QC}{s e:List Key}{r:Int}(U:N.ends.length<900)(h2:N.rooms.length<900)(h3:N.leav.length<900)(h4:∀k ns,QV N.leav k=some ns->ns.length<900):R_lay1 N [.fz<|Zd s,.fz<|Zd e,.fz<|.int r] (λN'=>N'=G5 N s e r)
def Zi6:Qo Zae Zae (Q8 Sj):=by walk_at"p"
def IZ(T:Bl mg)(m:Tx K mg C gS gE)(H0:Mf K C "lay_one" "Net.lay_one" Sj Zae):ZG P w K mg base C "lay_one" Zae 1 (spN K P w C R_lay1):=by
 refine H0.evN Zi6 (λf v M ts Y h H c X A outer s D=>?_);cases h with
 |@mk q e r U b a W=>
  refine#[_,(Qx (Zj<|ZD zP zS zT V6 (ZtE (Wy D) (Zp u0) vb1 (Zk Qp) #[rfl,rfl,rfl,rfl])<|Qs (Zx Vt T.len Vr<|Qs (Zp u0) Qp) Qp)
 (Qx (Zj<|ZD zP zS zT V6 (Zp u0) y2)
 (Qy<|Zj<|ZD zP zS zT V6 (Zp u0) v3))),?_]
  refine Q9 (Zos m.net rfl Qq #[] (λZ j=>?_) (Cz (N:={ M with leav:=Yn M.leav q }) m.net rfl) ?_)
  .rw[Ra,Xi rfl]at j;cases j;cases z:QV M.leav q with
   |none=>decide
   |some B=>have:=W q B z;show B.length<1000;lia
  exact Q9 (Zog m.net rfl Qq (show M.ends.length<1000 by lia) (ZoM m.net rfl Qq (show M.rooms.length<1000 by lia) (#[_,rfl,rfl])))
abbrev WK:Zl Nd:=λ_ _=>0
inductive R_lay:QC->List OT->(QC->Prop)->Prop
 |mk {N:QC}{L:Lay Nd}{s e:Nd}{r:Int}(h:NetR N L WK)(new:(s,e)∉L.map (λx=>(x.1,x.2.1)))(l:L.length<400):R_lay N [.fz<|Zd<|nk s,.fz<|Zd<|nk e,.fz<|.int r] (λN'=>NetR N' (L++[(s,e,r)]) WK)
def Zoa:Qo Zae Zae (Q8 Rr):=by walk_at"p"
def Ez(T:Bl mg)(W:Tx K mg C gS gE)(H0:Mf K C "lay" "Net.lay" Rr Zae)(D:ZG P w K mg base C "lay_one" Zae 1 (spN K P w C R_lay1)):ZG P w K mg base C "lay" Zae 2 (spN K P w C R_lay):=by
 refine H0.evN Zoa (λf v M ts o h H u i A outer s a=>?_);cases h with
 |@mk L j e r h Y l=>
  refine#[_,(Qx (IC (K5 a) (Zp u0) (Ys<|av 1 y2) (Zx Vt T.len Vr<|Qs (Zp u0) Qp) rfl)
 (Qx (Zj<|YZ D W.net a u0<|av 1<|av 2 v3)
 (Qy<|Zj<|YZ D W.net a u0<|av 2<|av 1<|Qs Qw Qp))),?_]
  try dsimp only[Vu]
  have g:=h.elen;have d:M.rooms.length=2*L.length:=by rw[h.rooms,Rz]
  have t:=h.l1;have p:=h.l2;refine Q9 (ZqH W.net rfl (Cz W.net rfl) (YW (QM Qq<|QM Qq Zu)<|by show(2)<=1000;decide) #[] (Q9 (Um Fk rfl (J0 (Qu Qq<|Qu Qq<|Qu Qq Q0) rfl) λts m=>?_)));subst m;refine#[_,R_lay1.mk (show M.ends.length<900 by lia) (show M.rooms.length<900 by lia) (show M.leav.length<900 by lia) (λk X B=>by have:=h.l3 k X B;lia),λn b=>?_];subst b;walk_at"d";refine Um Fk rfl (J0 (Qu Qq<|Qu Qq<|Qu Qz Q0) rfl) (λts m=>?_);subst m;refine#[_,R_lay1.mk ?a1 ?a2 ?a3 ?a4,λn b=>?_]
  case a1=>show(M.ends++[nk e]).length<900;rw[Xr,g];show 2*L.length+1<900;lia
  case a2=>show(M.rooms++[r]).length<900;rw[Xr,d];show 2*L.length+1<900;lia
  case a3=>
   show(Yc (Yn M.leav<|nk j) (nk j) _).length<900
   rw[DX];have:=Nz M.leav (nk j);lia
  case a4=>
   intro k X B;rw[Bg]at B;by_cases z:k=nk j
   .rw[Xi z]at B;cases B;have:((QV M.leav<|nk j).getD []).length<=2*L.length:=by
     cases q:QV M.leav (nk j) with
     |none=>exact XA _
     |some c=>exact h.l3 _ c q
    show((QV M.leav<|nk j).getD []++[_]).length<900
    rw[Xr];show _+1<900
    lia
   .rw[Xg z]at B;have:=h.l3 k X B;lia
  subst b;exact#[_,ZsC h rfl Y,rfl]
noncomputable def BE(L:Lay Nd)(φ:Zl Nd)(p q:Nd):Int:=if (p,q)∈L.map (λx=>(x.1,x.2.1)) then φ p q else 0
inductive R_flow(P:Program)(w:World)(C:Addr):List OT->(OT->Prop)->Prop
 |mk {N:QC}{L:Lay Nd}{φ:Zl Nd}{p q:Nd}(h:NetR N L φ):R_flow P w C [.zow<|Vg P w C N,.fz<|Zd<|nk p,.fz<|Zd<|nk q] (λr=>r=.fz (.int<|BE L φ p q))
def Zmp:Qo Zam Zam (Q8 Ry):=by walk_at"p"
def OF(T:Bl mg)(Y:Tx K mg C gS gE)(H0:Mf K C "flow" "Net.flow" Ry Zam):ZG P w K mg base C "flow" Zam 1 (Zm K<|R_flow P w C):=by
 refine H0.evD Zmp (λf ts t h H u r A outer s e=>?_);cases h with
 |@mk N L d p q h=>
  refine#[_,(Qx (QQ (UT<|Zqs (K5 e) (Ys<|av 1 y2)<|Zp u0) (Qy<|QK Qw) QS)
 (Qy<|QK<|QI QJ (Zp u0)<|QL KN (Oc (K5 e) (Zp u0) (Ys<|av 1 y2) λ_ _=>rfl) Qw)),?_]
  try dsimp only[Vu]
  refine Q9 (Zc (Z2<|ZqU Y.net ((λM D=>YW (QM (Qq M)<|QM (Qq D) Zu) (by show(2)<=1000;decide)) rfl rfl) rfl) (λc=>Zh Qz ?_) λc=>QX ?_)
  .have c:Vc N.laid (nk p,nk q)=none:=by
    cases z:Vc N.laid (nk p,nk q) with
    |none=>rfl
    |some n=>rw[z]at c;cases c
   show OT.fz (.int 0)=_;unfold BE;rw[Xg λm=>?_];apply I0 (Xs.mp m);intro x W k;obtain⟨i,B⟩:=List.mem_iff_getElem?.mp W
   have:=h.laid i x B
   grind
  .have m:=by
    apply Classical.byContradiction;intro l;rw[h.laid0 p q l]at c;cases c
   apply I0 (Xs.mp m);intro x W k;obtain⟨i,B⟩:=List.mem_iff_getElem?.mp W;have g:=h.laid i x B;injection k with M D;rw[M,D]at g;have X:N.rooms[2*i+1]?=some (d p q):=by
    rw[h.rooms,GY];unfold rmE;have a:(2*i+1)/2=i:=#[]
    have b:¬(2*i+1)%2=0:=#[]
    rw[a,B];simp only[WE,Xg b,M,D]
   have o:atI (N.rooms.map PyData.int) (Builtin.bitXor ((2*i:Nat)) 1)=some (.int<|d p q):=by
    rw[RY];have a:Zhu (2*i)=2*i+1:=by unfold Zhu;rw[Xi<|#[]]
    rw[a];exact ZQ (by rw[XG,X];rfl)
   refine Zh (NO Y.net rfl (ZB (ZsH Y.net rfl ((λM D=>YW (QM (Qq M)<|QM (Qq D) Zu) (by show(2)<=1000;decide)) rfl rfl) g) Qz) o) ?_;unfold BE;rw[Xi m]
def Lm(h:Qr K ta Z (.list ds)):QZ K (λO H Q=>ta O H λx J=>∃k,HJ K x J k/\Q k J) Z (!ds.isEmpty):=λD F O H Q s q=>h D F O H _ s λw E v f j=>by
 apply RC (J8 (K:=K) j f.fh);rintro a xs rfl U m _;refine#[_,.inl #[xs,U,rfl],?_];have e:xs.isEmpty=ds.isEmpty:=by
  have:=m.length;cases xs<;>cases ds<;>simp at this ⊢
 rw[e];exact q w E f
def U5(n:Nd):PyData:=Zd (nk n)
inductive R_reached(P:Program)(w:World)(C:Addr):List OT->(OT->Prop)->Prop
 |mk {N:QC}{L:Lay Nd}{φ:Zl Nd}{s:Nd}(h:NetR N L φ)(l:L.length<400):R_reached P w C [.zow<|Vg P w C N,.fz<|Zd<|nk s] (λr=>∃v es,r=.own v (VM<|kvG es)/\Tree L φ s es/\Y5 L φ es)
structure ReachI(L:Lay Nd)(φ:Zl Nd)(s:Nd)(es0 es:Got Nd)(h1 fu:List Nd):Prop where
 tree:Tree L φ s es
 fin:∀n∈fu,n∈Za es
 sub:∀n∈Za es0,n∈Za es
 done:U9 L φ es (h1++fu)
 len:es.length=es0.length+fu.length
def Gf:Qo ["self","start","edges","latest","further","node","edge"] ZaR (Q8 So):=by walk_at"p"
def ZoA(T:Bl mg)(h1:Tx K mg C gS gE)(H0:Mf K C "reached" "Net.reached" So ZaR):ZG P w K mg base C "reached" ZaR 1 (Zm K<|R_reached P w C):=by
 refine H0.evD Gf (λf ts Φ h H H1 cdv A outer s hr=>?_);cases h with
 |@mk N L F p h l=>
  refine#[_,(Qx (QP 2 Gf.nd<|ZrV (Wy hr) vb1 UP)
 (Qx (QP 3 Gf.nd<|Zk va1)
 (Qx (NA zN (Fr y3 λ_=>rfl) (Qx (QP 4 Gf.nd<|Zk Qp)
 (Qx (Vx zN rfl (by exact(Yv y3)) (ZF 5 Gf.nd) (by exact(Qy (Vx zN rfl (by exact(Yv<|Zte (Wy hr) (Zp u0) (pv 5) (Zk Qp) #[rfl,rfl,rfl,rfl])) (ZF 6 Gf.nd) (by exact(Qy (QQ (PW.pt<|TQ (Ze Jv (QI QJ (Zp u0) v6) Qw)<|Lz<|UT<|ZoX (Wy hr) (QI QJ (Zp u0) v6) u2) (Qx (Ly (Wy hr) u2 (QI QJ (Zp u0) v6) v6 rfl)
 (Qy<|Zj<|ZD zP zS zT V6 t4<|Qs (QI QJ (Zp u0) v6) Qp)) QS)))))))
 (Qy<|QP 3 Gf.nd t4))))
 (Qy<|QK u2)))),?_]
  show QE K _ [_,_,_,_,_,_,_] _
  walk_at"x";refine Q9 (Ni (Zsm (d:=.none) Qq W0) λv=>Q9 (ZO (ZA (QM Qq Zu) JN) (YF 3 rfl ?_)));walk_at"d";have bnd:∀es,Tree L F p es->es.length<=2*L.length+1:=λes t=>by have:=t.len;rwa[FS]at this
  refine Q9 (N7 (λm X=>∃(es:Got Nd) (B:List Nd) (u4 u5 S:Option OT),Tree L F p es/\(∀n∈B,n∈Za es)/\U9 L F es B/\m=2*(2*L.length+2-es.length)+(if B=[] then 0 else 1)/\
   X=[zz<|Vg P w C N,zf<|Zd<|nk p,zo v<|VM<|kvG es,zf<|.list<|B.map U5,u4,u5,S]) _ #[[(p,none)],[p],none,none,none,.root,(λn u=>by simpa [Za] using u),?d0,rfl,rfl] ?ws)
  case d0=>
   intro e m n r U h2 h3 h4 h5 h6;have:m=p:=by simpa [Za] using h5
   exact Xo (by exact this▸Xb) h6
  case ws=>
   rintro m _ ⟨es,B,u4,u5,S,tr,sb,dn,rfl,rfl⟩;refine#[_,Lm Qq,λc=>?_,λc=>?_]
   .have O:B≠[]:=λz=>by rw[z]at c;cases c
    rw[Xg O];refine Q9 (ZO (ZA (ds:=[]) Zu<|by decide) ?_);walk_at"d";refine Q9 (Yr (λi X=>∃(W:Got Nd) (R:List Nd) (u5 S:Option OT),ReachI L F p es W (B.drop i) R/\
     X=[zz<|Vg P w C N,zf<|Zd<|nk p,zo v<|VM<|kvG W,zf<|.list<|B.map U5,some<|.ol<|R.map U5,u5,S]) (Y9 Qq) #[es,[],_,_,#[tr,(by rintro n ⟨⟩),λn u=>u,by rw[List.drop_zero,Xp];exact dn,by simp],rfl] ?st ?fin)
    case fin=>
     rintro _ ⟨W,R,w5,w6,I,rfl⟩;rw[Xe]at I;have dn':=I.done;rw[List.drop_length,List.nil_append]at dn';refine YF 4 rfl<|Z1 Qq ?_;walk_at"d";refine#[2*(2*L.length+2-W.length)+(if R=[] then 0 else 1),?_,W,R,_,_,_,I.tree,I.fin,dn',rfl,rfl];have b1:=bnd W I.tree;have b2:=I.len
     by_cases z:R=[]
     .rw[Xi z];rw[z]at b2;simp at b2;lia
     .rw[Xg z];have:0<R.length:=Gh.mpr z;lia
    case st=>
     rintro i d _ hd ⟨es1,fu1,w5,w6,I1,rfl⟩;have hi:i<B.length:=by
      have:=(Xh.mp hd).1;simpa using this
     obtain rfl:d=U5 B[i]:=by simpa [hi] using hd.symm
     have Q:=List.drop_eq_getElem_cons hi;generalize B[i]=x at Q;refine#[_,Zw,?_];walk_at"d";refine Yr (λj X=>∃(q:Got Nd) (D:List Nd) (S:Option OT),ReachI L F p es q (B.drop i) D/\
      (∀(k:Nat) (n:Nd) (r:Int),(k:Int)∈((QV N.leav<|nk x).getD []).take j->hdE L k=some n->rmE L F k=some r->0<r->n∈Za q)/\
      X=[zz<|Vg P w C N,zf<|Zd<|nk p,zo v<|VM<|kvG q,zf<|.list<|B.map U5,some<|.ol<|D.map U5,zf<|U5 x,S]) (Y9<|Zsn h1.net rfl Qq) #[es1,fu1,_,I1,(λk n r hk=>by simp at hk),rfl] ?st2 ?fin2
     case fin2=>
      rintro _ ⟨q,D,w6,M,o,rfl⟩;refine#[q,D,_,_,#[M.tree,M.fin,M.sub,?_,M.len],rfl];rw[Xe,JE]at o;intro e m n r U h2 h3 h4 h5 h6;by_cases z:m=x
      .subst z;exact o e n r ((h.leav m (e:Int)).mpr #[e,rfl,U]) h2 h3 h4
      .refine M.done e m n r U h2 h3 h4 h5 ?_;rw[Q,JD,Xc,not_or];exact#[z,h6]
     case st2=>
      rintro j d2 _ E ⟨q,D,w6,M,o,rfl⟩;have hj:=by
       have:=(Xh.mp E).1;simpa using this
      apply I0 ((h.leav x _).mp (XX hj));intro k ek tk;obtain rfl:=by
       rw[XG,XJ hj]at E;rw[ek]at E;simpa using E.symm
      obtain⟨y,hy⟩:∃y,L[k/2]?=some y:=by
       unfold tlE at tk;cases z:L[k/2]? with
       |none=>rw[z]at tk;cases tk
       |some y=>exact#[y,rfl]
      obtain⟨n,u⟩:∃n,hdE L k=some n:=⟨_,by unfold hdE;rw[hy];rfl⟩;obtain⟨r,J⟩:∃r,rmE L F k=some r:=⟨_,by unfold rmE;rw[hy];rfl⟩;have ea:atI (N.ends.map Zd) (k:Int)=some (Zd<|nk n):=ZQ (by rw[h.ends,Xx,XG,Nj,u];rfl);have tks:((QV N.leav<|nk x).getD []).take (j+1)=((QV N.leav<|nk x).getD []).take j++[(k:Int)]:=by rw[Uu,XJ hj,ek];rfl
      have bes:=bnd q M.tree;have ben:=M.len;refine#[_,Zw,?_];walk_at"d";refine Zc (K1 (Zq<|Yj (NO h1.net rfl Qq (ZQ (by rw[XG,h.rooms,GY,J];rfl))) Qz) λ_=>Z2<|Zow ((λe0 e6=>LA h1.net e0 (Qq e6) ea) rfl rfl) rfl) (λc=>?_) (λc=>QX ?_)
      .rw[BP]at c;have c2:=by simpa using (Bool.and_eq_true_iff.mp c).2
       refine Q9 (ZrX rfl Qq ((λe0 e6=>LA h1.net e0 (Qq e6) ea) rfl rfl) (by rw[show(kvG q).length=q.length from Xe _];exact Vz<|#[]) ?_);walk_at"d";rw[OS c2];refine Ji rfl ((λe0 e6=>LA h1.net e0 (Qq e6) ea) rfl rfl) (by rw[Xe];lia)<|#[q++[(n,some k)],D++[n],_,#[M.tree.add c2 u tk (M.sub x (sb x<|Bp<|by rw[Q];exact Xb)) J (Wq (Bool.and_eq_true_iff.mp c).1),λz G=>?_,λz G=>Up.mpr<|.inl<|M.sub z G,?_,by simp;lia],λk' n' r' Y q1 q2 q3=>?_,by rw[Xv];rfl]
       .rcases Xu.mp G with G|G
        .exact Up.mpr (.inl<|M.fin z G)
        .exact Up.mpr (.inr<|by simpa using G)
       .exact M.done.add n (some k)
       .rw[tks]at Y;rcases Xu.mp Y with z|z
        .exact Up.mpr (.inl<|o k' n' r' z q1 q2 q3)
        .have:k'=k:=by have:=Xj.mp z;lia
         subst this;rw[u]at q1;cases q1;exact Up.mpr (.inr rfl)
      .rw[BP]at c;refine#[q,D,_,M,λk' n' r' Y q1 q2 q3=>?_,rfl];rw[tks]at Y;rcases Xu.mp Y with z|z
       .exact o k' n' r' z q1 q2 q3
       .have:k'=k:=by have:=Xj.mp z;lia
        subst this;rw[u]at q1;rw[J]at q2;cases q1;cases q2;apply Classical.byContradiction;intro hq;simp[q3,hq]at c
   .have O:B=[]:=by
     cases B with
     |nil=>rfl
     |cons a b=>cases c
    subst O;exact Lw rfl #[v,es,rfl,tr,dn.closed]
def Jm(w:Qk):Qd:=w.map λ(e:Nat)=>PyData.int (e:Int)
def Cc{es:Got Nd}{w:Qk}(b:Back L es n w):Y4 (kvG es) (nk n)=some (Gx w.head?):=by
 rw[NH];cases b with
 |nil h=>rw[h];rfl
 |cons h t b=>rw[h];rfl
def PJ{L:Lay Nd}{e:Nat}{r:Int}(h:rmE L φ e=some r):e<2*L.length:=by
 unfold rmE at h;cases z:L[e/2]? with
 |none=>rw[z]at h;cases h
 |some x=>have:=(Xh.mp z).1;lia
def LD{s:Nd}{es:Got Nd}{w:Qk}(q:WayOk L φ s es n w):w.length<=2*L.length:=by
 have:=Rm q.nodup λe h=>by
  exact I0 (q.room e h) λr f _=>YB.mpr (PJ f)
 simpa using this
inductive R_way(P:Program)(w:World)(C:Addr):List OT->(OT->Prop)->Prop
 |mk {N:QC}{L:Lay Nd}{φ:Zl Nd}{s n:Nd}{es:Got Nd}{wy:Qk}(h:NetR N L φ)(l:L.length<400)(q:WayOk L φ s es n wy):R_way P w C [.zow<|Vg P w C N,.zow<|G2<|kvG es,.fz<|Zd<|nk n] (λr=>r=.ol (Jm wy))
def Ho:Qo ["self","edges","end","way","edge"] ZaM (Q8 Sr):=by walk_at"p"
def Eu(T:Bl mg)(i:Tx K mg C gS gE)(H0:Mf K C "way_to" "Net.way_to" Sr ZaM):ZG P w K mg base C "way_to" ZaM 1 (Zm K<|R_way P w C):=by
 refine H0.evD Ho (λf ts u h H y r A outer s d=>?_);cases h with
 |@mk N L t x n es W h l q=>
  refine#[_,(Qx (QP 3 Ho.nd<|Zk Qp)
 (Qx (QP 4 Ho.nd<|Lu (Wy d) vb1 u2 λ_ _=>rfl)
 (Qx (NA zN (UT<|Li t4) (Qx (Zj<|ZD zP zS zT V6 y3 g4)
 (Qy<|QP 4 Ho.nd<|Lu (Wy d) vb1 (QI QJ (Zp u0)<|QL KN t4 Qw) λ_ _=>rfl)))
 (Qy<|QK y3)))),?_]
  try dsimp only[Vu]
  have v:=LD q;refine Q9 (ZO (ZA Zu<|by decide) (Q9 (Z1 (LH rfl Qq<|Cc q.back) (Q9 (N7 (λm M=>∃(D j:Qk) (Y:Nd),m=j.length/\D++j=W/\Back L es Y j/\M=[zz<|Vg P w C N,some _,zf<|Zd<|nk n,some<|.ol<|Jm D,zf<|Gx j.head?]) W.length #[[],W,n,rfl,rfl,q.back,rfl] ?ws)))))
  case ws=>
   rintro m _ ⟨D,j,Y,rfl,X,b,rfl⟩;refine#[_,Z2<|D5 Qq,λc=>?_,λc=>?_]
   .cases b with
    |nil k=>cases c
    |@cons _ Z e B k g b0=>
     have p:D.length<1000:=by
      grind
     refine Q9 (Ji rfl Qq (by unfold Jm;rw[Xe];exact p) ?_);have o:atI (N.ends.map Zd) (Builtin.bitXor (e) 1)=some (Zd<|nk Z):=by
      rw[RY];exact ZQ (by rw[h.ends,Xx,XG,Zp3,g];rfl)
     refine Z1 (LH rfl (LA i.net rfl (ZB Qq Qz) o)<|Cc b0) ?_;walk_at"d";refine#[B.length,JF _,D++[e],B,Z,rfl,by rw[<- X,Uv];rfl,b0,?_];unfold Jm;rw[Xv];rfl
   .have:j=[]:=by
     cases j with
     |nil=>rfl
     |cons a b=>cases c
    subst this;rw[Xp]at X;subst X;exact J5 rfl rfl
def amt(L:Lay Nd)(φ:Zl Nd)(w:Qk):Int:=Wg (w.map λe=>(rmE L φ e).getD 0)
inductive R_push:QC->List OT->(QC->Prop)->Prop
 |mk {N:QC}{L:Lay Nd}{φ:Zl Nd}{wy:Qk}(h:NetR N L φ)(hd:Dis L)(ne:wy≠[])(hin:∀e∈wy,∃r,rmE L φ e=some r)(hl:wy.length<900):R_push N [.fz<|.list<|Jm wy] (λN'=>NetR N' L<|Wx L (amt L φ wy) φ wy)
def NetR.rm{N:QC}(h:NetR N L φ)(he:e<2*L.length):∃r,N.rooms[e]?=some r/\(Yk L φ)[e]?=some r:=by
 have:e<(Yk L φ).length:=by rw[Rz];exact he
 exact#[_[e],by rw[h.rooms,XJ this],XJ this]
def NetR.push{N:QC}(h:NetR N L φ)(f:Dis L)(U:(Yk L φ)[e]?=some r)(j:(Yk L φ)[Zhu e]?=some r'):NetR { N with rooms:=(N.rooms.set e<|r-a).set (Zhu e) (r'+a) } L (YG L a φ e):=
 #[h.ends,by show(N.rooms.set e _).set _ _=_;rw[h.rooms,ZoB f U j],h.leav,h.laid,h.laid0,h.l1,h.l2,h.l3]
def ZoI{L:Lay Nd}{a:Int}{φ:Zl Nd}{f:Qk}{i e:Nat}(h:f[i]?=some e):Wx L a φ (f.take<|i+1)=YG L a (Wx L a φ<|f.take i) e:=by
 have t:f.take (i+1)=f.take i++[e]:=by rw[Uu,h];rfl
 rw[t];unfold Wx;rw[List.foldl_append];rfl
def Hn:Qo ["self","way","amount","edge"] ["self","way"] (Q8 RB):=by walk_at"p"
def IX(T:Bl mg)(l:Tx K mg C gS gE)(H0:Mf K C "push" "Net.push" RB ["self","way"]):ZG P w K mg base C "push" ["self","way"] 1 (spN K P w C R_push):=by
 refine H0.evN Hn (λf v M ts G h H Q F A outer s N=>?_);cases h with
 |@mk L Y j h t n X O=>
  refine#[_,(Qx (QP 2 Hn.nd<|Zx IK T.min Dr<|Qs (Yp Hn ["edge","self"] [none,some 0] (Yv vb1) λ_=>(QI QJ (Zp vb1) u0)) Qp)
 (Qy (Vx zN rfl (by exact(Yv vb1)) (ZF 3 Hn.nd) (by exact(Qx (BT (Zp u0) y3 Md u2 E1 Jh)
 (Qy<|BT (Zp u0) (QL KN y3 Qw) Md u2 D3 Jh)))))),?_]
  show QE K _ [_,_,_,_] _
  walk_at"x";refine Q9 (Z1 (d:=.int (amt L Y j)) (Zo9 0 rfl rfl (ID (Qr.cast (EvO.fz<|YV (xs:=j) (enc:=λ(e:Nat)=>PyData.int<|e) (h:=λe=>.int<|(rmE L Y e).getD 0) ?ei #[] ?el)<|by rw[Xx];rfl) rfl (λz=>n<|List.map_eq_nil_iff.mp z))) ?_)
  case ei=>exact Y9 Qq
  case el=>
   refine λe p c=>#[_,Zw,?_];obtain⟨r,W⟩:=X e p;exact Qr.cast (NO (m:=r) l.net rfl Qq (ZQ (by rw[XG,h.rooms,GY,W];rfl))) (by rw[W];rfl)
  generalize amt L Y j=a;refine Yr (λi Z=>∃(D:QC) (b:Option OT),NetR D L (Wx L a Y<|j.take i)/\Z=[zo v<|Zo P w C D,zf<|.list<|Jm j,zi a,b]) (Y9 Qq) #[M,_,h,rfl] ?st ?fin
  case fin=>
   rintro _ ⟨D,b,B,rfl⟩;unfold Jm at B;rw[Xe,JE]at B;exact#[D,B,rfl]
  case st=>
   rintro i d _ q ⟨D,b,B,rfl⟩;have k:=by
    have:=(Xh.mp q).1;unfold Jm at this;simpa using this
   obtain rfl:d=.int (j[i]):=by
    unfold Jm at q;simpa [k] using q.symm
   obtain⟨I,g⟩:=X j[i] (XX k);have el:=PJ g;rw[ZoI<|XJ k];generalize j[i]=e at el;have E:Zhu e<2*L.length:=by unfold Zhu;split<;>lia
   have o:Zhu e≠e:=by unfold Zhu;split<;>lia
   exact I0 (My.NetR.rm B el) λr U y=>I0 (My.NetR.rm B E) λJ x u=>#[_,Zw,Q9 (Ca l.net rfl (Qq rfl) #[] (U) (Qq rfl) (Ca l.net rfl (Qr.cast (ZB (Qq rfl) Qz)<|by rw[RY]) #[] (by show(D.rooms.set e<|r-a)[Zhu e]?=_;rw[X7<|Ne.symm o];exact x) (Qq rfl)<|#[_,_,My.NetR.push B t y u,rfl]))]
inductive R_fill:QC->List OT->(QC->Prop)->Prop
 |mk {N:QC}{y:Yd}{G:Gv}{φ:Zl Nd}(h:NetR N (Zr y G) φ)(F:Flow y G φ)(l:(Zr y G).length<400):R_fill N [.fz<|Zd<|nk .start,.fz<|Zd<|nk .fin] (λN'=>∃φ' es,NetR N' (Zr y G) φ'/\Flow y G φ'/\Nd.start∈Za es/\Y5 (Zr y G) φ' es/\Nd.fin∉Za es)
def RS:Qo ["self","start","end","edges"] Zam (Q8 RG):=by walk_at"p"
def Io(T:Bl mg)(k:Tx K mg C gS gE)(H0:Mf K C "fill" "Net.fill" RG Zam)(g:ZG P w K mg base C "reached" ZaR 1 (Zm K<|R_reached P w C))(I:ZG P w K mg base C "push" ["self","way"] 1 (spN K P w C R_push))(E:ZG P w K mg base C "way_to" ZaM 1 (Zm K<|R_way P w C)):
 ZG P w K mg base C "fill" Zam 2 (spN K P w C R_fill):=by
 refine H0.evN RS (λf v M ts Ψ h H H1 cdv A outer s b=>?_);cases h with
 |@mk y G j h F l=>
  refine#[_,(Qx (QP 3 RS.nd<|YZ g k.net b u0 va1)
 (Qy (NA zN (UT<|KJ (Wy b) u2 y3) (Qx (Zj<|YZ I k.net b u0<|Qs (YZ E k.net b u0<|av 3 y2) Qp)
 (Qy<|QP 3 RS.nd<|YZ g k.net b u0 va1))))),?_]
  try dsimp only[Vu]
  have YU:∀{M:QC} {j:Zl Nd} {dx:Option OT} {E':XK},NetR M (Zr y G) j->Zz K (ZY C "reached" (Zm K<|R_reached P w C) [] E' (Q5 0)<|Q3 (Q5 1) QH) [zo v<|Zo P w C M,zf<|Zd<|nk .start,zf<|Zd<|nk .fin,dx] _:=λh'=>
   R3 0 rfl (by rintro r ⟨v',es,rfl,_⟩;exact Zsv<|ZsM es) (NY Aa rfl (Qu (Qq rfl) Q0)<|R_reached.mk h' l)
  refine Q9 (WY (YU h) λr D=>?_);obtain⟨Y,es,rfl,Z,n⟩:=D;refine N7 (λm o=>∃(M:QC) (j:Zl Nd) (es:Got Nd) (Y:V),NetR M (Zr y G) j/\Flow y G j/\Tree (Zr y G) j .start es/\Y5 (Zr y G) j es/\m=(QD G.wa G.m-VL (Zr y G) j .start).toNat/\
   o=[zo v<|Zo P w C M,zf<|Zd<|nk .start,zf<|Zd<|nk .fin,zo Y<|VM<|kvG es]) _ #[M,j,es,Y,h,F,Z,n,rfl,rfl] ?ws
  clear Z n es Y h F;rintro m _ ⟨M,j,es,Y,h,F,Z,n,rfl,rfl⟩;refine#[_,Z2<|Il Qq rfl,λc=>?_,λc=>?_]
  .rw[BP]at c;obtain⟨i,q⟩:=Z.way .fin (Wq c);have wl:=LD q;have X:i≠[]:=λz=>by
    have:=q.chain;rw[z]at this;cases this
   refine FF 3 rfl ?_;walk_at"d";refine Q9 (Um ZsD rfl (AX (R3 0 rfl (λr e=>by subst e;exact N4 (λd S=>by
    apply I0 (Xs.mp S);rintro e _ rfl;exact#[_,rfl]))<|NY Oh rfl (Dy rfl (Qu Qq Q0))<|R_way.mk h l q) λr e=>#[_,e,rfl]) λts t=>?_)
   subst t;refine#[_,R_push.mk h (DS y G) X (λe W=>let ⟨r,a,_⟩:=q.room e W;#[r,a])<|#[],λN' J=>?_];walk_at"d";obtain⟨Q,O⟩:=Rh (ns:=i.map λe=>(rmE (Zr y G) j e).getD 0) (λz=>X<|List.map_eq_nil_iff.mp z);have a0:0<amt (Zr y G) j i:=by
    refine I0 (Xs.mp Q) λe W U=>I0 (q.room e W) λr B R=>?_;rw[B]at U;show 0<Wg _
    simp_all
   obtain⟨L,nd⟩:=F.push (a:=amt (Zr y G) j i) #[] q.chain q.nodup (λe W=>by
    refine I0 (q.room e W) λr B _=>#[r,B,?_];have:=O _ (Xs.mpr #[e,W,rfl]);rwa[B]at this)
   refine WY (YU J) (λr D=>?_);obtain⟨N,u,rfl,p,x⟩:=D;refine#[_,?_,N',_,u,N,J,L,p,x,rfl,rfl];have:=L.most;lia
  .rw[BP]at c;exact#[M,#[j,es,h,F,Z.start,n,MG c],rfl]
structure GOk(y:Yd)(g:Gs):Prop where
 ln:g.line<y.ls.length
 w0:0<=g.want
 m0:0<=g.most
def AT{y:Yd}{g:Gs}(h:g.Ok y):GOk y g:=#[h.ln,by have:=h.w1;lia,by have:=h.m1;lia]
noncomputable def QR(S:List Gs):Gv:={ m:=S.length,ln:=λk=>(S.getD k default).line,wa:=λk=>(S.getD k default).want,mo:=λk=>(S.getD k default).most,th:=λk t=>Ug (S.getD k default) (t:Int) }
def UW{S:List Gs}(h:k<S.length):S.getD k default=S[k]:=by simp[List.getD,h]
def ZtK(y:Yd)(G:Gv)(k:Nat):(Vo y G k).length<=1+y.T:=by
 unfold Vo;rw[XY];have:∀n,((List.range n).flatMap λt=>if G.th k t=true then [((.guest k,.line (G.ln k) t,G.mo k):Nd×Nd×Int)] else []).length<=n:=by
  intro n;induction n with
  |zero=>simp
  |succ n f=>
   rw[WF,MI,Xr];have:([n].flatMap λt=>if G.th k t=true then [((.guest k,.line (G.ln k) t,G.mo k):Nd×Nd×Int)] else []).length<=1:=by
    simp only[List.flatMap_cons,List.flatMap_nil,Xp];split<;>simp
   lia
 have:=this y.T;lia
def ZrP{y:Yd}(h:1<=y.ls.length)(t:Nat):(Ye y t).length=y.ls.length:=by
 unfold Ye;rw[XY];have:∀n,((List.range n).flatMap λi=>[((.line (i+1) t,.line (Mir.upN y<|i+1) t,ZU y (i+1) t):Nd×Nd×Int)]).length=n:=by
  intro n;induction n with
  |zero=>simp
  |succ n f=>rw[WF,MI,Xr,f];simp
 rw[this];lia
theorem Me{f:Nat->Lay Nd}{c:Nat}(h:∀k,(f k).length<=c):∀n,((List.range n).flatMap f).length<=n*c
 |0=>by simp
 |n+1=>by
  rw[WF,MI,Xr];have a:=Me h n;have b:([n].flatMap f).length<=c:=by simpa using h n
  lia
def Mj(f:Nat->Lay Nd)(n:Nat):(List.range<|n+1).flatMap f=(List.range n).flatMap f++f n:=by rw[WF];simp
def NU{f:Nat->Lay Nd} : x∈(List.range n).flatMap f ↔ ∃k,k<n/\x∈f k:=by
 simp_all
def Hj{y:Yd}(j:y.Ok)(G:Gv)(h:n<=8):((List.range n).flatMap (Vo y G)).length<=72:=by
 have a:=Me (f:=Vo y G) (c:=9) (λk=>by have:=ZtK y G k;have:=j.t8;lia) n;lia
def Rg{y:Yd}(f:y.Ok)(h:n<=8):((List.range n).flatMap (Ye y)).length<=40:=by
 have a:=Me (λk=>by rw[ZrP f.l1 k];exact f.l5) n;lia
inductive R_gnode:List OT->OT->Prop
 |mk {k:Nat}:R_gnode [.fz<|.int (k:Int)] (.fz<|Zd<|nk<|.guest k)
def Zjh:Qo ZaZ ZaZ (Q8 S6):=by walk_at"p"
def ZsB(T:Bl mg)(H0:Df K mg "guest_node" S6 ZaZ):Q2 P w K mg base "guest_node" ZaZ 1 (QA (K:=K) R_gnode):=by
 refine H0.ev Zjh (λf ts r h H q j A outer s m=>?_);cases h with
 |@mk k=>
  exact#[_,(Qy<|QK<|Ys<|Qs QG y0),Zh (YW (QM QU<|QM Qq Zu)<|by show(2)<=1000;decide) rfl]
inductive R_lnode:List OT->OT->Prop
 |mk {l t:Nat}:R_lnode [.fz<|.int (l:Int),.fz<|.int (t:Int)] (.fz<|Zd<|nk<|.line l t)
def ZkN:Qo ZaJ ZaJ (Q8 RT):=by walk_at"p"
def ZsF(T:Bl mg)(H0:Df K mg "line_node" RT ZaJ):Q2 P w K mg base "line_node" ZaJ 1 (QA (K:=K) R_lnode):=by
 refine H0.ev ZkN (λf ts r h H q j A outer s m=>?_);cases h with
 |@mk l t=>
  exact#[_,(Qy<|QK<|Ys<|Qs QG<|av 0 va1),Zh (YW (QM QU<|QM Qq<|QM Qq Zu)<|by show(3)<=1000;decide) rfl]
inductive R_lguest:QC->List OT->(QC->Prop)->Prop
 |mk {N:QC}{y:Yd}{S:List Gs}{k:Nat}(ok:y.Ok)(g8:S.length<=8)(hk:k<S.length)(h:NetR N ((List.range k).flatMap (Vo y<|QR S)) WK):
  R_lguest N [.fz<|Zb y,.fz<|.int (k:Int),.fz<|QT S[k]] (λN'=>NetR N' ((List.range<|k+1).flatMap (Vo y<|QR S)) WK)
def CZ:Qo ["net","yard","number","guest","turn"] Zag (Q8 RP):=by walk_at"p"
def ZqL(T:Bl mg)(g:Tx K mg C gS gE)(H0:Df K mg "lay_guest" RP Zag)(b:ZG P w K mg base C "lay" Zae 2 (spN K P w C R_lay))(I:Q2 P w K mg base "want_of" Zaw 1 (QA (K:=K) R_want))(e:Q2 P w K mg base "guest_node" ZaZ 1 (QA (K:=K) R_gnode))
(N:Q2 P w K mg base "turns_of" ZaH 1 (QA (K:=K) R_turns))(G:Q2 P w K mg base "is_there" Zap 1 (QA (K:=K) R_there))(F:Q2 P w K mg base "most_of" Zaw 1 (QA (K:=K) R_most))(L:Q2 P w K mg base "line_node" ZaJ 1 (QA (K:=K) R_lnode))(J:Q2 P w K mg base "line_of" Zaw 1 (QA (K:=K) R_lineof)):
 Q2 P w K mg base "lay_guest" Zag 3 (spN K P w C R_lguest):=by
 refine H0.evN CZ (λf v M ts Ψ h H H1 cdv A outer s q=>?_);cases h with
 |@mk y S k O g8 R h=>
  refine#[_,(Qx (Zj<|YZ b g.net q u0<|Qs (ZK (v:=.ref _) rfl g.mSTART rfl)<|Qs (Q6 e q y2)<|Qs (Q6 I q v3) Qp)
 (Qy<|Vx zN rfl (by exact(Wp rfl T.range<|Qs (Q6 N q va1) Qp)) (ZF 4 CZ.nd)<|by exact(Qy<|QQ (ZL<|Q6 G q<|av 3 g4) (Qy<|Zj<|YZ b g.net q u0<|Qs (Q6 e q y2)<|Qs (Q6 L q<|Qs (Q6 J q v3) g4)<|Qs (Q6 F q v3) Qp) QS))),?_]
  show QE K _ [_,_,_,_,_] _;have t8:=O.t8;have gl:=Hj O (QR S) (n:=k) #[];have l:=UW R;have ew:(QR S).wa k=S[k].want:=by show(S.getD k default).want=_;rw[l]
  refine Q9 (Um (ΦA:=λts=>ts=[.fz<|Zd<|nk .start,.fz<|Zd<|nk<|.guest k,.fz<|.int S[k].want]) DB rfl (J0 (Qu (NV g.aS)<|Qu (QN (Qu Qq Q0) R_gnode.mk)<|Qu (QN (Qu Qq Q0) R_want.mk) Q0) rfl) λts W=>?_);subst W;refine#[_,R_lay.mk h ?n0<|#[],λN1 z=>?_]
  case n0=>
   refine λu=>I0 (Xs.mp u) λx m E=>I0 ((λx m=>NU.mp m) x m) λj U m=>?_;injection E with D B;rcases WA.mp m with rfl|⟨t,_,_,rfl⟩
   .injection B with B;lia
   .cases D
  refine Yr (ds:=Vp 0 y.T) (λi o=>∃(X:QC) (p:Option OT),NetR X ((List.range k).flatMap (Vo y<|QR S)++((.start,.guest k,(QR S).wa k)::(List.range i).flatMap λt=>if (QR S).th k t=true then [(.guest k,.line ((QR S).ln k) t,(QR S).mo k)] else [])) WK/\
   o=[zo v<|Zo P w C X,zf<|Zb y,zf<|.int<|k,zf<|QT S[k],p]) ?ei #[N1,none,by rw[ew];exact z,rfl] ?st ?fin
  case ei=>exact EvI.cast (W9 (Qu (QN (Qu Qq Q0) R_turns.mk) Q0) (by rw[z62];lia)<|by rw[z62];lia) (JA rfl #[])
  case fin=>
   rintro _ ⟨X,p,Z,rfl⟩;rw[Jg]at Z;refine#[X,?_,rfl];rw[Mj];exact Z
  case st=>
   rintro t d _ hd ⟨X,p,Z,rfl⟩;obtain⟨ht,rfl⟩:=Wn hd;rw[Go];refine#[_,Zw,?_];walk_at"d";have et:Ug S[k] (t)=(QR S).th k t:=by show _=Ug (S.getD k default) (t);rw[l]
   refine Zc (QZ.cast (Z2<|QN (Qu Qq<|Qu Qq Q0) R_there.mk) et) (λc=>?_) (λc=>QX ?_)
   .refine Um DB rfl (J0 (Qu (QN (Qu Qq Q0) R_gnode.mk)<|Qu (QN (Qu (QN (Qu Qq Q0) R_lineof.mk)<|Qu Qq Q0) R_lnode.mk)<|Qu (QN (Qu Qq Q0) R_most.mk) Q0) rfl) (λts W=>?_);subst W;refine#[_,R_lay.mk Z ?n1 ?l1,λN2 Y=>?_]
    case n1=>
     intro u;apply I0 (Xs.mp u);intro x m E;injection E with D B;rcases Xu.mp m with m|m
     .apply I0 ((λx m=>NU.mp m) x m);intro j U m;rcases WA.mp m with rfl|⟨Q,_,_,rfl⟩
      .cases D
      .injection D with D;lia
     .rcases Xc.mp m with rfl|m
      .cases D
      .apply I0 (HD.mp m);intro Q r m;split at m
       .rw[Xj.mp m]at B;injection B with _ B;have:=YB.mp r;lia
       .cases m
    case l1=>
     rw[Xr];have:(((.start,.guest k,(QR S).wa k):Nd×Nd×Int)::(List.range t).flatMap λt=>if (QR S).th k t=true then [((.guest k,.line ((QR S).ln k) t,(QR S).mo k))] else []).length<=1+t*1:=by
      rw[XY];have:=Me (f:=λt=>if (QR S).th k t=true then [((.guest k,.line ((QR S).ln k) t,(QR S).mo k))] else []) (c:=1) (λt=>by split<;>simp) t;lia
     lia
    refine#[N2,_,?_,rfl];rw[Mj,Xi c];have D:(QR S).ln k=S[k].line:=by show(S.getD k default).line=_;rw[l]
    have B:(QR S).mo k=S[k].most:=by show(S.getD k default).most=_;rw[l]
    rwa[<- D,<- B,Uv]at Y
   .refine#[X,_,?_,rfl];rw[Mj,Xg<|by rw[c];decide,Xp];exact Z
inductive R_lturn:QC->List OT->(QC->Prop)->Prop
 |mk {N:QC}{y:Yd}{G:Gv}{t:Nat}(ok:y.Ok)(g8:G.m<=8)(ht:t<y.T)(h:NetR N ((List.range G.m).flatMap (Vo y G)++(List.range t).flatMap (Ye y)) WK):
  R_lturn N [.fz<|Zb y,.fz<|.int (t:Int)] (λN'=>NetR N' ((List.range G.m).flatMap (Vo y G)++(List.range<|t+1).flatMap (Ye y)) WK)
def Ad:Qo ["net","yard","turn","line"] ZaO (Q8 R9):=by walk_at"p"
def Zt4(T:Bl mg)(Y:Tx K mg C gS gE)(H0:Df K mg "lay_turn" R9 ZaO)(a:ZG P w K mg base C "lay" Zae 2 (spN K P w C R_lay))(b:Q2 P w K mg base "bound_at" Zat 1 (QA (K:=K) R_bound))(W:Q2 P w K mg base "line_node" ZaJ 1 (QA (K:=K) R_lnode))
(J:Q2 P w K mg base "line_count" ZaH 1 (QA (K:=K) R_count))(L:Q2 P w K mg base "above_of" ZaN 1 (QA (K:=K) R_above)):Q2 P w K mg base "lay_turn" ZaO 3 (spN K P w C R_lturn):=by
 refine H0.evN Ad (λf v M ts Ψ h H H1 U A outer s q=>?_);cases h with
 |@mk y G t B R ht h=>
  refine#[_,(Qx (Zj<|YZ a Y.net q u0<|Qs (Q6 W q<|Qs Qw y2)<|Qs (ZK (v:=.ref _) rfl Y.mEND rfl)<|Qs (Q6 b q<|av 1<|Qs Qw y2) Qp)
 (Qy<|Vx zN rfl (by exact(Zqm rfl T.range<|Qs Qw<|Qs (Q6 J q va1) Qp)) (ZF 3 Ad.nd)<|by exact(Qy<|Zj<|YZ a Y.net q u0<|Qs (Q6 W q<|av 3 y2)<|Qs (Q6 W q<|Qs (Q6 L q<|av 1 v3) y2)<|Qs (Q6 b q<|av 1<|av 3 y2) Qp))),?_]
  show QE K _ [_,_,_,_] _
  walk_at"x";have t8:=B.t8;have l1:=B.l1;have l5:=B.l5;have gl:=Hj B G R;have tl:=Rg B (n:=t) #[];have Z:∀x∈(List.range G.m).flatMap (Vo y G)++(List.range t).flatMap (Ye y),(∃j,x∈Vo y G j)\/∃g,g<t/\x∈Ye y g:=λx m=>by
   rcases Xu.mp m with m|m
   .exact I0 (NU.mp m) λj _ m=>.inl #[j,m]
   .exact I0 (NU.mp m) λj O m=>.inr #[j,O,m]
  refine Q9 (Um (ΦA:=λts=>ts=[.fz<|Zd<|nk<|.line 0 t,.fz<|Zd<|nk .fin,.fz<|.int<|ZU y 0 t]) DB rfl (J0 (Qu (QN (Qu Qz<|Qu Qq Q0)<|R_lnode.mk (l:=0))<|Qu (TK Y.aS Y.aE)<|Qu (QN (Qu Qq<|Qu Qz<|Qu Qq Q0)<|R_bound.mk B (by decide) #[] #[]<|#[]) Q0) ?e0) λts D=>?_)
  case e0=>rw[X8];rfl
  subst D;refine#[_,R_lay.mk h ?n0<|by rw[Xr];lia,λN1 F=>?_]
  case n0=>
   intro z;apply I0 (Xs.mp z);intro x m I;injection I with e1 o;rcases Z x m with ⟨j,m⟩|⟨g,u,m⟩
   .rcases WA.mp m with rfl|⟨S,_,_,rfl⟩<;>cases e1
   .rcases J6.mp m with rfl|⟨i,_,rfl⟩
    .injection e1 with _ e1;lia
    .cases o
  refine Yr (ds:=Vp 1 (y.ls.length-1)) (λi p=>∃(e:QC) (r:Option OT),NetR e (((List.range G.m).flatMap (Vo y G)++(List.range t).flatMap (Ye y))++((.line 0 t,.fin,ZU y 0 t)::(List.range i).flatMap λi=>[(.line (i+1) t,.line (Mir.upN y<|i+1) t,ZU y (i+1) t)])) WK/\
   p=[zo v<|Zo P w C e,zf<|Zb y,zf<|.int<|t,r]) ?ei #[N1,none,by simpa using F,rfl] ?st ?fin
  case ei=>exact EvI.cast (Lj (Qu Qz<|Qu (QN (Qu Qq Q0) R_count.mk) Q0)<|by rw[z62];lia) (JA rfl #[])
  case fin=>
   rintro _ ⟨e,r,k,rfl⟩;rw[Jg]at k;refine#[e,?_,rfl];rw[Mj,<- Uv];exact k
  case st=>
   rintro i d _ Q ⟨e,r,k,rfl⟩;obtain⟨hi,rfl⟩:=Wn Q;have ei:(1:Int)+(i)=((i+1)):=#[]
   rw[ei];refine#[_,Zw,?_];walk_at"d";refine Um (ΦA:=λts=>ts=[.fz<|Zd<|nk<|.line (i+1) t,.fz<|Zd<|nk<|.line (Mir.upN y<|i+1) t,.fz<|.int<|ZU y (i+1) t]) DB rfl (J0 (Qu (QN (Qu Qq<|Qu Qq Q0)<|R_lnode.mk)<|Qu (QN (Qu (QN (Qu Qq<|Qu Qq Q0)<|R_above.mk B #[]<|#[])<|Qu Qq Q0)<|R_lnode.mk)<|Qu (QN (Qu Qq<|Qu Qq<|Qu Qq Q0)<|R_bound.mk B #[] #[] #[]<|#[]) Q0) ?e1) (λts D=>?_)
   case e1=>rw[X8];rfl
   subst D;refine#[_,R_lay.mk k ?n1 ?l1,λN2 X=>?_]
   case n1=>
    intro z;apply I0 (Xs.mp z);intro x m I;injection I with e1 o;rcases Xu.mp m with m|m
    .rcases Z x m with ⟨j,m⟩|⟨g,u,m⟩
     .rcases WA.mp m with rfl|⟨S,_,_,rfl⟩<;>cases e1
     .rcases J6.mp m with rfl|⟨N,_,rfl⟩
      .cases o
      .lia
    .rcases Xc.mp m with rfl|m
     .cases o
     .apply I0 (HD.mp m);intro N E m;rw[Xj.mp m]at e1;have:=YB.mp E;lia
   case l1=>
    rw[Xr,Xr,XY];have:=Me (f:=λi=>[((.line (i+1) t,.line (Mir.upN y<|i+1) t,ZU y (i+1) t))]) (c:=1) (λi=>by simp) i;lia
   refine#[N2,_,?_,rfl];rw[Mj];rwa[Uv]at X
def Gw(y:Yd)(G:Gv)(φ:Zl Nd):Prop:=Flow y G φ/\∃es:Got Nd,Nd.start∈Za es/\Y5 (Zr y G) φ es/\Nd.fin∉Za es
inductive R_filled(P:Program)(w:World)(C:Addr):List OT->(OT->Prop)->Prop
 |mk {y:Yd}{S:List Gs}(ok:y.Ok)(hg:∀g∈S,GOk y g)(g8:S.length<=8):R_filled P w C [.fz<|Zb y,.fz<|.list<|S.map QT] (λr=>∃v N φ,r=.own v (Zo P w C N)/\NetR N (Zr y<|QR S) φ/\Gw y (QR S) φ)
def P9{y:Yd}(h:y.Ok)(f:l<y.ls.length)(m:t<y.T):0<=ZU y l t:=by
 rw[CB f];have U:=Fb h f
 have:(Y0 y l).bs.getD t 0=(Y0 y l).bs[t]'#[]:=by simp[List.getD,show t<(Y0 y l).bs.length by lia]
 rw[this];exact(h.bb _ (by simp[Y0,f]) _<|XX _).1
def IA{y:Yd}(h:y.Ok)(hg:∀g∈S,GOk y g):∀x∈Zr y (QR S),0<=x.2.2:=λx f=>by
 have s:=h.l1;rcases Bb.mp f with ⟨k,q,f⟩|⟨t,j,f⟩
 .have m:GOk y (S.getD k default):=by rw[UW q];exact hg _ (XX _)
  rcases WA.mp f with rfl|⟨t,_,_,rfl⟩
  .exact m.w0
  .exact m.m0
 .rcases J6.mp f with rfl|⟨i,w,rfl⟩
  .exact P9 h #[] j
  .exact P9 h #[] j
def M6:Qo ["yard","guests","net","number","guest","turn"] Zaa (Q8 RN):=by walk_at"p"
def ZpL(T:Bl mg)(W:Tx K mg C gS gE)(H0:Df K mg "filled_net" RN Zaa)(x:HZ P w K mg base "Net" C 1)(u:Q2 P w K mg base "lay_guest" Zag 3 (spN K P w C R_lguest))(z:Q2 P w K mg base "turns_of" ZaH 1 (QA (K:=K) R_turns))
(r:Q2 P w K mg base "lay_turn" ZaO 3 (spN K P w C R_lturn))(p:ZG P w K mg base C "fill" Zam 2 (spN K P w C R_fill)):Q2 P w K mg base "filled_net" Zaa 4 (Zm K<|R_filled P w C):=by
 refine H0.evD M6 (λf ts Φ h H H1 cdv A outer s X=>?_);cases h with
 |@mk y S D L o=>
  refine#[_,(Qx (QP 2 M6.nd<|Os x X)
 (Qx (Vx zN rfl (by exact(Hr rfl T.enumerate va1)) (GP (n:=2) rfl (Wo (ZF 3 M6.nd)<|Wo (ZF 4 M6.nd) GX))<|by exact(Qy<|Zj<|Q6 u X<|av 2<|av 0<|av 3 g4))
 (Qx (Vx zN rfl (by exact(Wp rfl T.range<|Qs (Q6 z X y0) Qp)) (ZF 5 M6.nd)<|by exact(Qy<|Zj<|Q6 r X<|av 2<|av 0<|av 5 Qp))
 (Qx (Zj<|YZ p W.net X u2<|Qs (ZK (v:=.ref _) rfl W.mSTART rfl)<|Qs (ZK (v:=.ref _) rfl W.mEND rfl) Qp)
 (Qy<|QK u2))))),?_]
  walk_at"x";have G:=D.t8;refine Q9 (Ni O2 λv=>Q9 (Yr (λi B=>∃(q:QC) (e c:Option OT),NetR q ((List.range i).flatMap (Vo y<|QR S)) WK/\B=[zf<|Zb y,zf<|.list<|S.map QT,zo v<|Zo P w C q,e,c,none]) (BR<|Qu Qq Q0) #[_,none,none,A4 _,rfl] ?st ?fin))
  case st=>
   rintro i d _ l ⟨q,e,c,M,rfl⟩;apply I0 (Mt l);rintro a F rfl;have E:=by
    have:=(Xh.mp F).1;simpa using this
   obtain rfl:a=QT S[i]:=by simpa [E] using F.symm
   refine#[_,WJ (Yl Zw<|Yl Zw J1) rfl,?_];walk_at"d";refine LZ rfl (J0 (Qu Qq<|Qu Qq<|Qu Qq Q0) rfl) (λts j=>?_);subst j;exact#[_,R_lguest.mk D o E M,λZ m=>#[Z,_,_,m,rfl]]
  case fin=>
   rintro _ ⟨N1,e,c,Y,rfl⟩;rw[Mr,Xe]at Y;refine Q9 (Yr (ds:=Vp 0 y.T) (λi B=>∃(q:QC) (k:Option OT),NetR q ((List.range (QR S).m).flatMap (Vo y<|QR S)++(List.range i).flatMap (Ye y)) WK/\B=[zf<|Zb y,zf<|.list<|S.map QT,zo v<|Zo P w C q,e,c,k]) ?ei2 #[N1,none,by rw[show(List.range 0).flatMap (Ye y)=[] from rfl,Xp];exact Y,rfl] ?st2 ?fin2)
   case ei2=>exact EvI.cast (W9 (Qu (QN (Qu Qq Q0) R_turns.mk) Q0) (by rw[z62];lia)<|by rw[z62];lia) (JA rfl #[])
   case st2=>
    rintro t d _ l ⟨q,k,M,rfl⟩;obtain⟨J,rfl⟩:=Wn l;rw[Go];refine#[_,Zw,LZ rfl (J0 (Qu Qq<|Qu Qq Q0) rfl) (λts j=>?_)];subst j;exact#[_,R_lturn.mk D o J M,λZ m=>#[Z,_,m,rfl]]
   case fin2=>
    rintro _ ⟨q,k,M,rfl⟩;rw[Jg]at M;have I:(Zr y<|QR S).length<400:=by
     unfold Zr;rw[Xr];have a:=Hj D (QR S) (n:=(QR S).m) o;have b:=Rg D G;lia
    refine Q9 (Um ZsY rfl (J0 (Qu (NV W.aS)<|Qu (TK W.aS W.aE) Q0) rfl) λts j=>?_);subst j;exact#[_,R_fill.mk M (AQ<|IA D L) I,λZ m=>aU m λg es U R Q O N=>Lw rfl #[v,Z,g,rfl,U,R,es,Q,O,N]]
def WP(y:Yd)(G:Gv)(φ:Zl Nd):List (Ql):=(List.range G.m).map λk=>(List.range y.T).map λt=>Zv G φ t k
def Zq3{y:Yd}(w:k<G.m)(q:t<y.T):BE (Zr y G) φ (.guest k) (.line (G.ln k) t)=Zv G φ t k:=by
 unfold BE Zv;by_cases c:G.th k t=true
 .rw[Xi c,Xi<|Xs.mpr #[_,DF w q c,rfl]]
 .rw[Xg c,Xg λs=>?_];apply I0 (Xs.mp s);intro x f A;injection A with h B;rcases Bb.mp f with ⟨j,_,f⟩|⟨m,_,f⟩
  .rcases WA.mp f with rfl|⟨m,_,C,rfl⟩
   .cases h
   .lia
  .rcases J6.mp f with rfl|⟨i,_,rfl⟩<;>cases h
inductive R_takes(P:Program)(w:World)(C:Addr):List OT->OT->Prop
 |mk {N:QC}{y:Yd}{S:List Gs}{φ:Zl Nd}{k:Nat}(ok:y.Ok)(h:NetR N (Zr y<|QR S) φ)(hk:k<S.length):R_takes P w C [.zow<|Vg P w C N,.fz<|Zb y,.fz<|.int (k:Int),.fz<|QT S[k]] (.ol<|(List.range y.T).map λt=>PyData.int<|Zv (QR S) φ t k)
def Ae:Qo Zag Zag (Q8 R7):=by walk_at"p"
def ZsU(T:Bl mg)(a:Tx K mg C gS gE)(H0:Df K mg "takes_by" R7 Zag)(M:Q2 P w K mg base "turns_of" ZaH 1 (QA (K:=K) R_turns))(D:ZG P w K mg base C "flow" Zam 1 (Zm K<|R_flow P w C))(B:Q2 P w K mg base "line_node" ZaJ 1 (QA (K:=K) R_lnode))(m:Q2 P w K mg base "line_of" Zaw 1 (QA (K:=K) R_lineof))(q:Q2 P w K mg base "guest_node" ZaZ 1 (QA (K:=K) R_gnode)):
 Q2 P w K mg base "takes_by" Zag 2 (QA (K:=K)<|R_takes P w C):=by
 refine H0.ev Ae (λf ts r h H g d A outer s j=>?_);cases h with
 |@mk N y S φ k Y h W=>
  refine#[_,(Qy<|QK<|Yp Ae ["turn","net","number","guest"] [none,some 0,some 2,some 3] (Wp rfl T.range<|Qs (Q6 M j va1) Qp) λ_=>(YZ D a.net j vb1<|Qs (Q6 q j y2)<|Qs (Q6 B j<|Qs (Q6 m j v3) y0) Qp)),?_];have e:=Y.t8;refine UN (KO (lo:=0) ?ei #[] ?el) rfl
  case ei=>exact EvI.cast (W9 (Qu (QN (Qu Qq Q0) R_turns.mk) Q0) #[]<|#[]) (JA rfl #[])
  case el=>
   refine λt Z c=>#[_,Zw,?_];rw[Go];have b:(QR S).ln k=S[k].line:=by show(S.getD k default).line=_;rw[UW W]
   have X:=Zq3 (G:=QR S) (φ:=φ) W Z;rw[b]at X;exact Qr.cast (EvO.e<|Zz.o<|NY Zse rfl (Qu (QN (Qu Qq Q0) R_gnode.mk)<|Qu (QN (Qu (QN (Qu Qq Q0) R_lineof.mk)<|Qu Qq Q0) R_lnode.mk) Q0)<|R_flow.mk h) (by rw[X])
inductive R_great:List OT->(OT->Prop)->Prop
 |mk {y:Yd}{S:List Gs}(ok:y.Ok)(hg:∀g∈S,GOk y g)(g8:S.length<=8):R_great [.fz<|Zb y,.fz<|.list<|S.map QT] (λr=>∃φ,Gw y (QR S) φ/\r=.oll ((WP y (QR S) φ).map λrow=>row.map PyData.int))
def SL:Qo ["yard","guests","net"] Zaa (Q8 SR):=by walk_at"p"
def ZrY(T:Bl mg)(u:Tx K mg C gS gE)(H0:Df K mg "greatest_filling" SR Zaa)(D:Q2 P w K mg base "filled_net" Zaa 4 (Zm K<|R_filled P w C))(M:Q2 P w K mg base "takes_by" Zag 2 (QA (K:=K)<|R_takes P w C)):Q2 P w K mg base "greatest_filling" Zaa 5 (Zm K R_great):=by
 refine H0.evD SL (λf ts o h H x n A outer s X=>?_);cases h with
 |@mk y S W d l=>
  refine#[_,(Qx (QP 2 SL.nd<|Q6 D X<|av 0 va1)
 (Qy<|QK<|Yp SL ["number","guest","net","yard"] [none,none,some 2,some 0] (Hr rfl T.enumerate va1) λ_=>(Q6 M X<|av 2<|av 3<|av 0 va1))),?_]
  show QE K _ [_,_,_] _
  walk_at"x";refine Q9 (WY (YK (Qu Qq<|Qu Qq Q0)<|R_filled.mk W d l) λr B=>?_);apply Ps B;rintro v N m rfl e j;walk_at"d";refine ZtA 2 rfl ?_;walk_at"d";refine UN (r:=.oll ((WP y (QR S) m).map λq=>q.map PyData.int)) (EvO.cast (TR (xs:=S.zipIdx) (enc:=λp=>PyData.tuple [.int (p.2:Int),QT p.1]) (h:=λp=>(List.range y.T).map λt=>PyData.int<|Zv (QR S) m t p.2) ?ei (by simp;lia) ?el) ?eq) #[m,j,rfl]
  case ei=>
   refine EvI.cast (BR<|Qu Qq Q0) ?_;unfold Ub;rw[List.zipIdx_map,Xx];rfl
  case eq=>
   congr 1
   unfold WP;rw[Xx];have:(QR S).m=S.length:=rfl;rw[this];apply List.ext_getElem?;intro i;by_cases Z:i<S.length
   .simp[Z,Xx,Function.comp_def]
   .simp[Z]
  case el=>
   intro p b c;obtain⟨Y,a⟩:∃h:p.2<S.length,p.1=S[p.2]:=by
    have:=List.mem_zipIdx b;simp at this;exact#[this.1,this.2]
   obtain⟨g,k⟩:=p;simp only at Y a;subst a;refine#[_,WJ (ds:=[.int (k:Int),QT S[k]]) (Yl Zw<|Yl Zw J1) rfl,?_];walk_at"e";exact D4 (Dy rfl (Qu Qq<|Qu Qq<|Qu Qq Q0)) (R_takes.mk W e Y)
def Ziw:Qo Zaa Zaa (Q8 SE):=by walk_at"p"
def Ol(T:Bl mg)(H0:Df K mg "best_filling" SE Zaa)(m:Q2 P w K mg base "greatest_filling" Zaa 5 (Zm K R_great)):Q2 P w K mg base "best_filling" Zaa 6 (Zm K R_great):=by
 refine H0.evD Ziw (λf ts D h H Y C A outer s q=>?_);have B:=h;cases h with
 |@mk y S M W X=>
  exact#[_,(Qy<|QK<|Q6 m q<|av 0 va1),Ng (YK (Qu Qq<|Qu Qq Q0) B) (λr j=>j)]
noncomputable def Yt(y:Yd)(G:Gv)(f:Qm):Int:=QD (Z0 f G.wa) G.m-QD (λt=>passes y (λl=>ZU y l t) (U6 G f t) 0) y.T
noncomputable def Km(y:Yd)(G:Gv)(φ:Zl Nd):Int:=QD (λk=>G.wa k-QD (λt=>Zv G φ t k) y.T) G.m
def Zpq{y:Yd}(F:Flow y G φ)(m:y.Ok)(j:∀k,k<G.m->G.ln k<y.ls.length)(f:Qm):Yt y G f<=Km y G φ:=by
 have q:∀k,k<G.m->0<=G.wa k-QD _ y.T:=λk h=>by
  rw[F.total h];have:=F.want h;lia
 have U:QD (Z0 f λk=>G.wa k-QD _ y.T) G.m<=Km y G φ:=Jc λk h=>NP (q k h)
 have B:QD (Z0 f λk=>G.wa k-QD (λt=>Zv G φ t k) y.T) G.m=QD (Z0 f G.wa) G.m-QD (Z0 f λk=>QD (λt=>Zv G φ t k) y.T) G.m:=by
  rw[<- NF];refine Z4 λk _=>?_;unfold Z0;split<;>lia
 have A:QD (λt=>QD (Z0 f<|Zv G φ t) G.m) y.T=QD (Z0 f λk=>QD (λt=>Zv G φ t k) y.T) G.m:=by
  rw[Hl _ y.T G.m];refine Z4 λk _=>?_;unfold Z0;cases f k with
  |true=>rfl
  |false=>simp only[ if_false];exact Yu _
 have w:=Jc λt s=>F.no_more m j f s;unfold Yt;lia
def T4{y:Yd}(hg:∀g∈S,GOk y g):∀k,k<(QR S).m->(QR S).ln k<y.ls.length:=λk f=>by
 show(S.getD k default).line<_
 rw[UW f];exact(hg _<|XX _).ln
def Jp(S:List Gs)(f:Qm):Qk:=(List.range S.length).filter f
def FD(j:S.length<=8)(h:Qm):SetOk S (Jp S h):=
 #[λk f=>YB.mp (MB.mp f).1,Xt (MJ _ _)<|by simpa using j]
theorem FW(f:Qn):∀n,((List.range n).map f).sum=QD f n
 |0=>rfl
 |n+1=>by rw[WF,Xv,List.sum_append,FW f n];simp[QD]
theorem CK(f:Qn)(p:Qm):∀n,(((List.range n).filter p).map f).sum=QD (Z0 p f) n
 |0=>rfl
 |n+1=>by
  rw[WF,Bt,Xv,List.sum_append,CK f p n];show _=QD _ n+Z0 p f n;unfold Z0;cases e:p n with
  |true=>simp[ e]
  |false=>simp[ e]
def IR(S:List Gs)(h:Qm)(t l:Nat):U6 (QR S) h t l=GN S t (Jp S h) l:=by
 show _=V9 S (t) l ((List.range S.length).filter h);rw[Zo6];refine Z4 λk f=>?_;unfold Z0 moT wgt ind;rw[XJ f];have q:(QR S).th k t=Ug S[k] (t):=by show Ug _ _=_;rw[UW f]
 have m:(QR S).mo k=S[k].most:=by show(S.getD k default).most=_;rw[UW f]
 have j:(QR S).ln k=S[k].line:=by show(S.getD k default).line=_;rw[UW f]
 rw[ j];cases h k with
 |false=>simp
 |true=>
  by_cases c:S[k].line=l
  .simp_all
  .simp[c]
def L6(S:List Gs)(f:Qk):Int:=(f.map λk=>(S.getD k default).want).sum
def Ch(y:Yd)(S:List Gs)(f:Qm):Yt y (QR S) f=L6 S (Jp S f)-Hc y S (Jp S f):=by
 unfold Yt;congr 1
 .exact(CK _ f S.length).symm
 .unfold Hc;rw[FW];refine Z4 λt _=>?_;unfold Nh;rw[show U6 _ f t=GN S t _ from funext λl=>IR S f t l]
def Na(y:Yd)(G:Gv)(φ:Zl Nd)(es:Got Nd):Prop:=Flow y G φ/\Nd.start∈Za es/\Y5 (Zr y G) φ es/\Nd.fin∉Za es
inductive R_lset:List OT->(OT->Prop)->Prop
 |mk {y:Yd}{S:List Gs}(ok:y.Ok)(hg:∀g∈S,GOk y g)(g8:S.length<=8):R_lset [.fz<|Zb y,.fz<|.list<|S.map QT] (λr=>∃φ es,Na y (QR S) φ es/\r=.ol (Y3<|Jp S<|Yg es))
def SQ:Qo ["yard","guests","edges"] Zaa (Q8 SM):=by walk_at"p"
def ZlQ(T:Bl mg)(M:Tx K mg C gS gE)(H0:Df K mg "guests_reached" SM Zaa)(Y:Q2 P w K mg base "filled_net" Zaa 4 (Zm K<|R_filled P w C))(W:ZG P w K mg base C "reached" ZaR 1 (Zm K<|R_reached P w C))(X:Q2 P w K mg base "guest_node" ZaZ 1 (QA (K:=K) R_gnode)):
 Q2 P w K mg base "guests_reached" Zaa 5 (Zm K R_lset):=by
 refine H0.evD SQ (λf ts Φ h H O J A outer s D=>?_);cases h with
 |@mk y S B o d=>
  refine#[_,(Qx (QP 2 SQ.nd<|YZ W M.net D (Q6 Y D<|av 0 va1)<|Qs (ZK (v:=.ref _) rfl M.mSTART rfl) Qp)
 (Qy<|QK<|Yp SQ ["number","edges"] [none,some 2] (Wp rfl T.range<|Qs (Zx Vt T.len Vr va1) Qp) (λ_=> u0) λ_=>(BU<|UT<|KJ (Wy D) (Q6 X D y0) vb1))),?_]
  show QE K _ [_,_,_] _
  walk_at"x";have l:(Zr y<|QR S).length<400:=by
   unfold Zr;rw[Xr];have a:=Hj B (QR S) (n:=(QR S).m) d;have b:=Rg B B.t8;lia
  refine Q9 (WY (Φ:=λr=>∃v q es,r=.own v (VM<|kvG es)/\Na y (QR S) q es) (OV (P:=P) (w:=w) Aa (YK (Qu Qq<|Qu Qq Q0)<|R_filled.mk B o d) (λr m=>?_)<|Qu (NV M.aS) Q0) λr m=>?_)
  .apply Ps m;rintro v N q rfl t⟨F,G,U,x,u⟩;refine#[v,N,rfl,_,R_reached.mk (s:=.start) t l,by rintro r ⟨g,es,e,Z,I⟩;exact#[g,q,es,e,F,Z.start,I,λz=>u<|Z.inClosed x U _ z]]
  .apply L1 m;rintro v q es rfl E;walk_at"d";refine FF 2 rfl ?_;walk_at"d";refine UN (r:=.ol (Y3<|Jp S<|Yg es)) (BM (xs:=List.range S.length) (enc:=λ(j:Nat)=>PyData.int (j:Int)) (h:=λ(j:Nat)=>PyData.int (j:Int)) (p:=Yg es) ?ei (by simp;lia) ?el) #[q,es,E,rfl]
   case ei=>
    have e:(S.map QT).length=S.length:=by simp
    refine EvI.cast (W9 (Qu (YL Qq) Q0) (by rw[z62,e];lia)<|by rw[z62,e];lia) ?_;rw[e,X8];unfold Vp;refine Ux λi _=>?_;rw[Go]
   case el=>
    refine λk L c=>#[_,Zw,?_,λ_=>?_]
    .walk_at"e";exact QZ.cast (Z2<|E8 (k:=nk (.guest k)) (QN (Qu Qq Q0) R_gnode.mk) rfl) (BP _ _)
    .walk_at"e";exact Qq rfl
def Zi0:Qo Zaa Zaa (Q8 Si):=by walk_at"p"
def IW(T:Bl mg)(H0:Df K mg "lacking_set" Si Zaa)(m:Q2 P w K mg base "guests_reached" Zaa 5 (Zm K R_lset)):Q2 P w K mg base "lacking_set" Zaa 6 (Zm K R_lset):=by
 refine H0.evD Zi0 (λf ts D h H Y C A outer s q=>?_);have B:=h;cases h with
 |@mk y S M W X=>
  exact#[_,(Qy<|QK<|Q6 m q<|av 0 va1),Ng (YK (Qu Qq<|Qu Qq Q0) B) (λr j=>j)]
def Ny(y:Yd)(S:List Gs)(f:Qk):Int:=L6 S f-Hc y S f
inductive R_short:List OT->OT->Prop
 |mk {y:Yd}{S:List Gs}{sm:Qk}(ok:y.Ok)(hg:∀g∈S,g.line<y.ls.length)(hs:SetOk S sm):
  R_short [.fz<|Zb y,.fz<|.list<|S.map QT,.fz<|.list<|Y3 sm] (.fz<|.int<|Ny y S sm)
def C6:Qo Zai Zai (Q8 R4):=by walk_at"p"
def Zsf(T:Bl mg)(H0:Df K mg "short_of" R4 Zai)(q:Q2 P w K mg base "want_of" Zaw 1 (QA (K:=K) R_want))(B:Q2 P w K mg base "given_most" Zai 4 (QA (K:=K) R_givenm)):
 Q2 P w K mg base "short_of" Zai 5 (QA (K:=K) R_short):=by
 refine H0.ev C6 (λf ts r h H b Y A outer s C=>?_);cases h with
 |@mk y S D M X m=>
  refine#[_,(Qy<|QK<|QL Wi (Zx T6 T.sum TN<|Qs (Yp C6 ["number","guests"] [none,some 1] (Yv u2) λ_=>(Q6 q C<|Qs (QI QJ vb1 u0) Qp)) Qp)<|Q6 B C<|av 0<|av 1 y2),?_];show QE K _ [_,_,_] _
  walk_at"x";have Z:=m.len;refine Zh (ZB (Kx (EvO.fz ?_) rfl)<|QN (by walk_at"ea")<|R_givenm.mk M X m) rfl;rw[Xx];refine YV (xs:=D) (enc:=λ(j:Nat)=>PyData.int (j:Int)) ?_ #[] ?_
  .walk_at"ei"
  .intro x W c;have a:=m.mem x W;refine#[_,by walk_at"g",QN (Qu (Qr.cast (by walk_at"ev")<|by rw[X8]) Q0) R_want.mk]
def Zgs:Qo ZaP ZaP (Q8 Bk):=by walk_at"p"
def Zrt{f:Addr}(T:Bl mg)(F:Fun K "__init__" "NoRoom.__init__" Bk f fd)(B:JI K YR CR f)(xs:HG K CR)(m:W.takerIn K CR "some"=some none)(q:mg "YardError"=some (.ref YR)):FnOk P w K mg base CX0 1 f fd ZaP (BX K CR "some"):=by
 refine F.ok Zgs ?_ (λj H Q D h C A outer s M=>#[_,Qx (Zj<|N6 B rfl q rfl Qa)<|Qy<|Nr xs m u0 (Vy Ir T.list O8<|Qs vb1 Qp) rfl,Zsx h]);rintro j H Q D ⟨e,p,xs,h,_⟩;rw[h];rfl
inductive R_refuse:List OT->(OT->Prop)->Prop
 |mk {y:Yd}{S:List Gs}(ok:y.Ok)(hg:∀g∈S,GOk y g)(g8:S.length<=8)(h:∀gs,Yt y (QR S) gs<=0):R_refuse [.fz<|Zb y,.fz<|.list<|S.map QT] (λr=>r=.fz .none)
inductive X_refuse:List OT->(Qd->Prop)->Prop
 |mk {y:Yd}{S:List Gs}(ok:y.Ok)(hg:∀g∈S,GOk y g)(g8:S.length<=8){gs:Qm}(h:0<Yt y (QR S) gs):X_refuse [.fz<|Zb y,.fz<|.list<|S.map QT] (λd=>∃gs,0<Yt y (QR S) gs/\d=Y3 (Jp S gs))
def SD:Qo Zai Zaa (Q8 Sn):=by walk_at"p"
def Zpd(T:Bl mg)(k:XC K mg "NoRoom" YR CR fR)(H0:Df K mg "refuse_lack" Sn Zaa)(c:Q2 P w K mg base "lacking_set" Zaa 6 (Zm K R_lset))(Z:Q2 P w K mg base "short_of" Zai 5 (QA (K:=K) R_short))(Y:UB P w K mg base fR ZaP 1 (BX K CR "some")):
 ZI P w K mg base "refuse_lack" Zaa 7 (spX K CR "some" R_refuse X_refuse):=by
 refine H0.evZ SD (λf H RR ts l q h i A outer s C=>?_) (λf F H RR ts l q n h i A outer s C=>?_)
 .cases h with
  |@mk y S m W X h=>
   refine#[_,(Qx (QP 2 SD.nd<|Q6 c C<|av 0 va1)
 (Qy<|QQ (Ze Jv (Q6 Z C<|av 0<|av 1 y2) Qw) (Qy<|Gb k Y q C y2) QS)),?_]
   show QE K _ [_,_,_] _
   walk_at"x";refine Q9 (WY (YK (Qu Qq<|Qu Qq Q0)<|R_lset.mk m W X) λr B=>?_);apply L0 B;rintro D es j rfl;walk_at"d";refine YF 2 rfl ?_;walk_at"d";have U:=h (Yg es);rw[Ch]at U;exact Zc (b:=false) (QZ.cast (Zq<|Yj (QN (Qu Qq<|Qu Qq<|Qu Qq Q0)<|R_short.mk m (λg h=>(W g h).ln)<|FD X _) Qz)<|XU<|by unfold Ny;lia) nf (λ_=>QX rfl)
 .cases h with
  |@mk y S m W X p h=>
   refine#[_,(Qx (QP 2 SD.nd<|Q6 c C<|av 0 va1)
 (Qy<|QQ (Ze Jv (Q6 Z C<|av 0<|av 1 y2) Qw) (Qy<|Gb k Y q C y2) QS)),?_]
   show EvZ K F H _ [some _,some _,none]
   walk_at"x";have M:=W;refine Ee (λd=>∃D es,Na y (QR S) D es/\d=[zf<|Zb y,zf<|.list<|S.map QT,some<|.ol<|Y3<|Jp S<|Yg es]) (WY (YK (Qu Qq<|Qu Qq Q0)<|R_lset.mk m W X) λr B=>?_) ?_
   .apply L0 B;rintro D es j rfl;exact#[D,es,j,rfl]
   .rintro _ ⟨D,es,j,rfl⟩;refine AB 2 rfl ?_;walk_at"d";have U:0<Yt y (QR S) (Yg es):=by
     have a:=Zpq j.1 m (T4 W) p;have e:=j.1.lack m (T4 W) j.2.2.1 j.2.1 j.2.2.2;have e:Km y (QR S) D=Yt y (QR S) (Yg es):=e;lia
    have o:=U;rw[Ch]at o;exact GB (b:=true) (QZ.cast (Zq<|Yj (QN (Qu Qq<|Qu Qq<|Qu Qq Q0)<|R_short.mk m (λg h=>(W g h).ln)<|FD X _) Qz)<|Yx<|by unfold Ny;lia) (λ_=>Zsh Qq #[Yg es,U,rfl] n) nt
inductive R_feed:List OT->(OT->Prop)->Prop
 |mk {n:Int}:R_feed [.fz<|.int n] (λr=>∃a b:Int,r=.ol [.int a,.int b])
def Ur:Qo ["_law_cell","_law_big","_law_one","_law_other","_law_k"] ["_law_cell"] (Q8 Se):=by walk_at"p"
def IT(T:Bl mg)(H0:Df K mg "_law_feed" Se ["_law_cell"]):Q2 P w K mg base "_law_feed" ["_law_cell"] 1 (Zm K R_feed):=by
 refine H0.evD Ur (λf ts r h H F t A outer s v=>?_);cases h with
 |@mk n=>
  refine#[_,(Qx (QP 1 Ur.nd Qw)
 (Qx (QP 2 Ur.nd<|QL VB (QL Y6 (QL Jf u0 Qw) Qw) Qw)
 (Qx (QP 3 Ur.nd<|QL VB (QL Y6 (QL Jf u0 Qw) Qw) Qw)
 (Qx (Vx zN rfl (by exact(Wp rfl T.range<|Qs Qw Qp)) (ZF 4 Ur.nd) (by exact(Qx (QP 2 Ur.nd<|QL Y6 (QL VB (QL VB (QL UM u2 u2)<|QL UM Qw y3) t4) Qw)
 (Qx (QP 3 Ur.nd<|QL Y6 (QL VB (QL VB (QL UM y3 y3)<|QL UM Qw u2) Qw) Qw)
 (Qy<|QP 1 Ur.nd<|QL VB (QL UM vb1 Qw) y3)))))
 (Qx (QQ (Ze Z3 (QL Y6 u0 Qw) Qw) (Qy<|QK<|Zk<|Qs (QL Jf u0 Qw) va1) QS)
 (Qy<|QK<|Zk<|av 1<|Qs Qw Qp)))))),?_]
  show QE K _ [_,_,_,_,_] _;refine Q9 (Z1 Qz ?_);have D:∀{i:Int},G8 i 2:=Jl (by decide) (by decide);refine Q9 (Z1 (ZB (Z8 (Z8 Qq Qz D) Qz<|by decide) Qz) (Q9 (Z1 (ZB (Z8 (Z8 Qq Qz (Jl (by decide) (by decide))) Qz<|by decide) Qz) ?_)));have W:0<=n/2%2147483647+11/\n/2%2147483647+11<4294967296:=#[]
  have M:0<=n/3%2147483629+7/\n/3%2147483629+7<4294967296:=#[]
  generalize n/2%2147483647+11=x at W;generalize n/3%2147483629+7=y at M;refine Q9 (Yr (ds:=Vp 0 40) (λ_ m=>∃(a b c:Int) (q:Option OT),(0<=a/\a<4294967296)/\(0<=b/\b<4294967296)/\m=[zi n,zi c,zi a,zi b,q]) ?ei #[x,y,0,none,W,M,rfl] ?st ?fin)
  case ei=>exact EvI.cast (W9 (Qu Qz Q0) (by decide)<|by decide) (JA rfl (by decide))
  case st=>
   rintro i d _ k ⟨a,b,c,q,o,l,rfl⟩;obtain⟨E,rfl⟩:=Wn k;refine#[_,Zw,?_];walk_at"d";refine Q9 (Z1 (Z8 (ZB (ZB (Z8 Qq Qq (.inl #[#[],#[]]))<|Z8 Qz Qq (.inl #[by decide,by decide])) Qq) Qz<|by decide) ?_);have C:0<=(a*a+48271*b+(0+(i)))%2147483647/\(a*a+48271*b+(0+(i)))%2147483647<4294967296:=#[Int.emod_nonneg _<|by decide,Int.lt_trans (Hv _<|by decide)<|by decide];generalize (a*a+48271*b+(0+(i)))%2147483647=j at C;refine Q9 (Z1 (Z8 (ZB (ZB (Z8 Qq Qq (.inl #[#[],#[]]))<|Z8 Qz Qq (.inl #[by decide,by decide])) Qz) Qz<|by decide) ?_);have B:0<=(b*b+69621*j+1)%2147483629/\(b*b+69621*j+1)%2147483629<4294967296:=#[Int.emod_nonneg _<|by decide,Int.lt_trans (Hv _<|by decide)<|by decide];generalize (b*b+69621*j+1)%2147483629=u at B;exact Z1 (ZB (Z8 Qq Qz (.inr #[by decide,by decide])) Qq)<|#[j,u,_,_,C,B,rfl]
  case fin=>
   rintro _ ⟨a,b,c,q,o,l,rfl⟩;refine Q9 (Zc (QZ.cast (Zq<|VP (Z8 Qq Qz<|by decide) Qz) rfl) (λ_=>?_) λ_=>QX ?_)
   .exact UN (ZA (QM (Z8 Qq Qz D)<|QM Qq Zu)<|by show(2)<=1000;decide) #[_,_,rfl]
   .exact UN (ZA (QM Qq<|QM Qz Zu)<|by show(2)<=1000;decide) #[_,_,rfl]
inductive R_digit:Qd->List OT->(OT->Qd->Prop)->Prop
 |mk {a b m:Int}(h0:0<m)(U:m<=10^60):R_digit [.int a,.int b] [.fz<|.int m] (λr ds'=>∃n a' b':Int,0<=n/\n<m/\r=.fz (.int n)/\ds'=[.int a',.int b'])
def Af:Qo ["_law_feed_here","_law_many","_law_digit_here"] Zas (Q8 Sv):=by walk_at"p"
def ZtJ(T:Bl mg)(H0:Df K mg "_law_digit" Sv Zas):Q2 P w K mg base "_law_digit" Zas 1 (spP K olP R_digit):=by
 refine H0.evP Af (λf v M ts W h H Y D A outer s X=>?_);cases h with
 |@mk a b m q U=>
  refine#[_,(Qx (QQ (Ze Z3 (QI QJ u0 Qw) Qw) (Qx (BJ (QI QJ u0 Qw)<|BL u0 Qw Jh)
 (Qy<|BJ Qw<|BL u0 Qw Jh)) QS)
 (Qx (QP 2 Af.nd<|QL Y6 (QI QJ u0 Qw) vb1)
 (Qx (BJ (QL Jf (QI QJ u0 Qw) vb1)<|BL u0 Qw Jh)
 (Qy<|QK u2)))),?_]
  try dsimp only[Vu]
  have j:∀{Z:ZbB} {x y:Int},Z[0]?=some (zo v<|olP [.int x,.int y])->Qr K (tOp (rIx K) (Q5 0)<|tC<|.int 0) Z _/\Qr K (tOp (rIx K) _<|tC<|.int 1) Z _:=λ{Z x y} e=>by
   have C:=(Xh.mp e).1;exact#[FC 0 e rfl (ZZ (Qq<|X6 C) Qz rfl),FC 0 e rfl (ZZ (Qq<|X6 C) Qz rfl)]
  refine VQ (λB=>∃x y:Int,B=[zo v<|olP [.int x,.int y],some _,none]) (Zc (QZ.cast (Zq<|VP (j rfl).1 Qz) rfl) (λ_=>?_) λ_=>QX #[a,b,rfl]) ?_
  .exact Q9 (Rl rfl (j rfl).2 Qz rfl (Rl rfl Qz Qz rfl (#[b,0,rfl])))
  .rintro _ ⟨x,y,rfl⟩;exact W6 (Z1 (Z8 (j rfl).1 Qq q) rfl)<|W6 (Rl rfl (Z8 (j rfl).1 Qq (cdl q U)) Qz rfl rfl)<|UO Qq #[_,#[x%m,x/m,y,Int.emod_nonneg _<|Int.ne_of_gt q,Hv _ q,rfl,rfl],rfl]
def Dg(K:W.Frag)(t:TE)(Z:ZbB)(v:V)(m:Int):Prop:=EvW K t Z 0 λn o=>0<=n/\n<m/\∃a b:Int,o=.own v (olP [.int a,.int b])
def YM{b m:Int}(e:zg Z 0<|zo v<|olP [.int a,.int b])(h:Qr K t Z (.int m))(q:0<m)(U:m<=10^60):Dg K (Vd (spP K olP R_digit) [] H1<|Q3 (Q5 0)<|Q3 t QH) Z v m:=
 IV e (Qu h Q0) (R_digit.mk q U) (by
  rintro r A ⟨n,w,s,j,f,rfl,rfl⟩;exact#[n,rfl,j,f,w,s,rfl])
def HI(k T:Nat)(l:Ln):Prop:=(l.up=none↔k=0)/\(∀a,l.up=some a->a<k)/\l.bs.length=T/\∀b∈l.bs,0<=b/\b<10^30
theorem AL{ls:List Ln}(t1:1<=T)(t8:T<=8)(l1:1<=ls.length)(l5:ls.length<=5)(h:∀k (f:k<ls.length),HI k T ls[k]):(#[T,ls]:Yd).Ok where
 t1:=t1
 t8:=t8
 l1:=l1
 l5:=l5
 up0:=by
  simp[Zn,show 0<ls.length by lia,(h 0<|#[]).1.mpr rfl]
 ups:=λk k0 f=>by
  apply KE (h k f);intro w s _;cases e:ls[k].up with
  |none=>have:=w.mp e;lia
  |some a=>exact#[a,by simp[Zn,f,e],s a e]
 bl:=λl j=>by
  obtain⟨k,f,rfl⟩:=Gi.mp j;exact(h k f).2.2.1
 bb:=λl j b m=>by
  obtain⟨k,f,rfl⟩:=Gi.mp j;have:=(h k f).2.2.2 b m;exact#[this.1,GW this.2]
def MS(y:Yd):Prop := ∀l∈y.ls,∀b∈l.bs,0<=b/\b<10^30
inductive R_dyard:Qd->List OT->(OT->Qd->Prop)->Prop
 |mk {a b:Int}:R_dyard [.int a,.int b] [] (λr ds'=>∃y:Yd,y.Ok/\MS y/\r=.fz (Zb y))
def AO{b:Int}{c:Bool}(f:0<=b)(U:b<10^30):0<=b*(if c then 1 else 0)/\b*(if c then 1 else 0)<10^30:=by
 cases c
 .simp
 .simp_all
def p60{m:Int}(h:m<=10^30):m<=10^60:=Int.le_trans h (by decide +kernel)
def Jj:Qo ["_law_feed_here","_law_turns","_law_scale","_law_lines","_law_k","_law_above","_law_bounds","_law_turn","_law_bound"] ZaW (Q8 RV):=by walk_at"p"
def Zt5(T:Bl mg)(H0:Df K mg "_law_yard" RV ZaW)(W:Q2 P w K mg base "_law_digit" Zas 1 (spP K olP R_digit)):Q2 P w K mg base "_law_yard" ZaW 2 (spP K olP R_dyard):=by
 refine H0.evP Jj (λf v M ts Ψ h H H1 cdv A outer s r=>?_);cases h with
 |@mk a b=>
  refine#[_,(Qx (QP 1 Jj.nd<|QL VB Qw<|Q6 W r<|av 0<|Qs Qw Qp)
 (Qx (QP 2 Jj.nd<|QI QJ (Zk<|Qs Qw<|Qs Qw<|Qs Qw<|Qs (QL Dv Qw Qw) Qp)<|Q6 W r<|av 0<|Qs Qw Qp)
 (Qx (QP 3 Jj.nd<|Zk Qp)
 (Qx (Vx zN rfl (by exact(Wp rfl T.range<|Qs (QL VB Qw<|Q6 W r<|av 0<|Qs Qw Qp) Qp)) (ZF 4 Jj.nd) (by exact(Qx (QP 5 Jj.nd UP)
 (Qx (QQ (Ze Jv t4 Qw) (Qy<|QP 5 Jj.nd<|Q6 W r<|av 0 g4) QS)
 (Qx (QP 6 Jj.nd<|Zk Qp)
 (Qx (Vx zN rfl (by exact(Wp rfl T.range va1)) (ZF 7 Jj.nd) (by exact(Qx (QP 8 Jj.nd<|Q6 W r<|av 0 y2)
 (Qy<|Zj<|ZD zP zS zT V6 v6<|Qs (QL UM (pv 8)<|Vy Em T.int BO<|Qs (Wa Jv (Q6 W r<|av 0<|Qs Qw Qp) Qw) Qp) Qp))))
 (Qy<|Zj<|ZD zP zS zT V6 y3<|Qs (Ys<|av 5<|Qs (Vy Ha T.tuple Ba<|av 6 Qp) Qp) Qp)))))))
 (Qy<|QK<|Ys<|av 1<|Qs (Vy Ha T.tuple Ba v3) Qp))))),?_]
  walk_at"x";have t:(0:Int)<10^(30:Int).toNat/\(10:Int)^(30:Int).toNat<=10^30:=by decide +kernel
  refine VQ (λq=>∃(T:Nat) (a b:Int),1<=T/\T<=8/\q=[zo v<|olP [.int a,.int b],zf<|.int<|T,none,none,none,none,none,none,none]) (Fn (YM rfl Qz (by decide)<|by decide +kernel) ?_) ?_
  .rintro n _ ⟨O,N,a,b,rfl⟩;refine Z1 (ZB Qz Qz) #[(1+n).toNat,a,b,#[],#[],?_];rw[Wr<|#[]];rfl
  rintro _ ⟨T,a,b,S,R,rfl⟩;refine VQ (λq=>∃Z a b:Int,0<Z/\Z<=10^30/\q=[zo v<|olP [.int a,.int b],zf<|.int<|T,zi Z,none,none,none,none,none,none]) (Cd (EvO.fz<|ZA (QM Qz<|QM Qz<|QM Qz<|QM (Z8 Qz Qz<|Dc (by decide)<|by decide) Zu)<|by decide) (YM rfl Qz (by decide)<|by decide +kernel) ?_) ?_
  .rintro n _ ⟨O,N,a,b,rfl⟩;obtain rfl|rfl|rfl|rfl:n=0\/n=1\/n=2\/n=3:=#[]
   .exact#[_,rfl,5,a,b,by decide,#[],rfl]
   .exact#[_,rfl,9,a,b,by decide,#[],rfl]
   .exact#[_,rfl,16,a,b,by decide,#[],rfl]
   .exact#[_,rfl,_,a,b,t.1,t.2,rfl]
  rintro _ ⟨Z,a,b,s0,L,rfl⟩;refine W6 (ZO (ZA Zu<|by decide) rfl)<|VQ (λq=>∃(B:List Ln) (a b:Int) (o g Y D C:Option OT),(1<=B.length/\B.length<=5)/\(∀k (p),HI k T B[k])/\q=[zo v<|olP [.int a,.int b],zf<|.int<|T,zi Z,some<|.ol<|B.map Ya,o,g,Y,D,C]) (Of (YM rfl Qz (by decide)<|by decide +kernel) ?_) ?_
  .rintro n _ ⟨O,N,a,b,rfl⟩;walk_at"d";refine Yr (ds:=Vp 0 (1+n).toNat) (λi q=>∃(B:List Ln) (a b:Int) (o g Y D C:Option OT),B.length=i/\(∀k (p),HI k T B[k])/\q=[zo v<|olP [.int a,.int b],zf<|.int<|T,zi Z,some<|.ol<|B.map Ya,o,g,Y,D,C]) ?ei #[[],a,b,_,_,_,_,_,rfl,(λk p=>Xo p<|Nat.not_lt_zero k),rfl] ?st ?fin
   case ei=>exact W9 (Qu (ZB Qz Qz) Q0) (by rw[z62];lia) (by rw[z62];lia)
   case fin=>
    rintro _ ⟨B,a,b,o,g,Y,D,C,e,h,rfl⟩;rw[Jg]at e;exact#[B,a,b,o,g,Y,D,C,#[],h,rfl]
   case st=>
    rintro i d _ F ⟨B,a,b,o,g,Y,D,C,e,h,rfl⟩;obtain⟨hi,rfl⟩:=Wn F;refine#[_,Zw,?_];rw[Go];refine Q9 (Z1 W0 ?_);walk_at"d";refine Q9 (B4 (λq=>∃(ab:Option Nat) (a b:Int),(ab=none↔i=0)/\(∀x,ab=some x->x<i)/\q=[zo v<|olP [.int a,.int b],zf<|.int<|T,zi Z,some<|.ol<|B.map Ya,zf<|.int<|i,zf<|upD ab,Y,D,C]) (Zc (QZ.cast (Zq<|Yj Qq Qz) rfl) (λc=>?_) λc=>QX #[none,a,b,#[λ_=>by have:=MG c;lia,λ_=>rfl],(by rintro x ⟨⟩),rfl]) ?_)
    .refine DN (YM rfl Qq #[]<|Int.le_trans (show(i:Int)<=5 by lia)<|by decide +kernel) ?_;rintro m _ ⟨E,Q,a,b,rfl⟩;refine#[some m.toNat,a,b,#[λz=>(nomatch z),λz=>Xo z<|#[]],(λx z=>#[]),?_];show _=([_,_,_,_,_,some<|OT.fz<|.int<|(m.toNat),_,_,_]);rw[Wr E];rfl
    rintro _ ⟨ab,a,b,J,I,rfl⟩;refine Q9 (ZO (ZA Zu<|by decide) (Q9 (Yr (ds:=Vp 0 T) (λj q=>∃(X:Ql) (a b:Int) (D C:Option OT),X.length=j/\(∀x∈X,0<=x/\x<10^30)/\q=[zo v<|olP [.int a,.int b],zf<|.int<|T,zi Z,some<|.ol<|B.map Ya,zf<|.int<|i,zf<|upD ab,some<|.ol<|X.map PyData.int,D,C]) ?ei2 #[[],a,b,_,_,rfl,(by rintro x ⟨⟩),rfl] ?st2 ?fin2)))
    case ei2=>exact EvI.cast (W9 (Qu Qq Q0) (by rw[z62];lia)<|by rw[z62];lia) (JA rfl #[])
    case st2=>
     rintro j d _ F ⟨X,a,b,D,C,y,G,rfl⟩;obtain⟨hj,rfl⟩:=Wn F;refine#[_,Zw,?_];walk_at"d";refine Q9 (DN (YM rfl Qq s0<|p60 L) ?_);rintro m _ ⟨E,Q,a,b,rfl⟩;walk_at"d";refine Iy rfl rfl (YM rfl Qz (by decide)<|by decide +kernel) ?_;rintro z _ ⟨z0,z1,a,b,rfl⟩;have U:=AO (c:=decide (z > 0)) E (Int.lt_of_lt_of_le Q L);refine Ji rfl (Z8 Qq (PU<|Yj Qz Qz)<|.inr #[by split<;>decide,by split<;>decide]) (by rw[Xe];lia) #[X++[m*(if decide (z > 0) then 1 else 0)],a,b,zf<|.int<|0+(j),zi m,by rw[Xr,y];rfl,λx u=>?_,?_]
     .rcases Xu.mp u with u|u
      .exact G x u
      .rw[Xj.mp u];exact U
     .rw[Xv];rfl
    case fin2=>
     rintro _ ⟨X,a,b,D,C,y,G,rfl⟩;rw[Jg]at y;refine Ji rfl (YW (QM Qq<|QM (D0 rfl) Zu)<|by show(2)<=1000;decide) (by rw[Xe];lia) #[B++[#[ab,X]],a,b,zf<|.int<|i,zf<|upD ab,some<|.ol<|X.map PyData.int,D,C,by rw[Xr,e];rfl,λk p=>?_,?_]
     .by_cases z:k<B.length
      .rw[List.getElem_append_left z];exact h k z
      .have:k=B.length:=by rw[Xr]at p;have:[(#[ab,X]:Ln)].length=1:=rfl;lia
       subst this;rw[List.getElem_append_right<|Xm _];simp only[Nat.sub_self,List.getElem_cons_zero];exact e▸#[J,I,y,G]
     .rw[Xv];rfl
  rintro _ ⟨B,a,b,o,g,Y,D,C,⟨l1,l5⟩,h,rfl⟩;refine UO (YW (QM Qq<|QM (D0 rfl) Zu)<|by show(2)<=1000;decide) #[_,#[#[T,B],AL S R l1 l5 h,λl hl=>?_,rfl],rfl];obtain⟨k,p,rfl⟩:=Gi.mp hl;exact(h k p).2.2.2
theorem Nb:∀{bs:Ql},bs≠[]->∃M∈bs,∀a∈bs,a<=M
 |[],h=>Xo rfl h
 |[x],_=>⟨x,Xb,λa f=>by rw[Xj.mp f];exact Gk _⟩
 |x::y::bs,_=>by
  obtain⟨M,m,j⟩:=Nb (List.cons_ne_nil _ _)
  by_cases h:x<=M
  .refine#[M,Xf _ m,λa f=>?_];rcases Xc.mp f with rfl|f
   .exact h
   .exact j a f
  .refine#[x,Xb,λa f=>?_];rcases Xc.mp f with rfl|f
   .exact Gk _
   .have:=j a f;lia
noncomputable def mxB(bs:Ql):Int:=open Classical in if h:bs≠[] then Classical.choose (Nb h) else 0
def TZ(h:bs≠[]):mxB bs∈bs/\∀a∈bs,a<=mxB bs:=by
 unfold mxB;rw[dif_pos h];exact Classical.choose_spec (Nb h)
structure G30(y:Yd)(g:Gs):Prop where
 ok:g.Ok y
 w:g.want<10^30
 m:g.most<10^30
inductive R_dguest:Qd->List OT->(OT->Qd->Prop)->Prop
 |mk {a b:Int}{y:Yd}{nw:Nat}(ok:y.Ok):R_dguest [.int a,.int b] [.fz<|Zb y,.fz<|.int (nw:Int)] (λr ds'=>∃g:Gs,G30 y g/\r=.fz (QT g))
def MM{n:Nat}(h:n<=8):(n:Int)<=10^60:=Int.le_trans (show(n:Int)<=8 by lia) (by decide +kernel)
def JC:Qo ["_law_feed_here","_law_yard_here","_law_now","_law_first","_law_last","_law_line","_law_scale","_law_want"] Zal (Q8 Sw):=by walk_at"p"
def Zrs(T:Bl mg)(H0:Df K mg "_law_guest" Sw Zal)(q:Q2 P w K mg base "_law_digit" Zas 1 (spP K olP R_digit)):Q2 P w K mg base "_law_guest" Zal 2 (spP K olP R_dguest):=by
 refine H0.evP JC (λf v M ts Q h H H1 O A outer s W=>?_);cases h with
 |@mk a b y nw i=>
  refine#[_,(Qx (QP 3 JC.nd<|Q6 q W<|av 0<|Qs (QI QJ vb1 Qw) Qp)
 (Qx (QQ (PW.pt<|TQ (N9 Jw Jw y3 u2<|QI QJ vb1 Qw)<|Lz<|Ze Jv (Q6 q W<|av 0<|Qs Qw Qp) Qw) (Qy<|QP 3 JC.nd<|QL VB u2<|Q6 q W<|av 0<|Qs (QL Wi (QI QJ vb1 Qw) u2) Qp) QS)
 (Qx (QP 4 JC.nd<|QL VB y3<|Q6 q W<|av 0<|Qs (QL Wi (QI QJ vb1 Qw) y3) Qp)
 (Qx (QP 5 JC.nd<|Q6 q W<|av 0<|Qs (Zx Vt T.len Vr<|Qs (QI QJ vb1 Qw) Qp) Qp)
 (Qx (QP 6 JC.nd<|QI QJ (Zk<|Qs Qw<|Qs Qw<|Qs Qw<|Qs (QL Wi (QL Dv Qw Qw) Qw) Qp)<|Q6 q W<|av 0<|Qs Qw Qp)
 (Qx (QQ (Ze Jw (Zx IL T.max K6<|Qs (Yp JC ["_law_above","_law_bounds"] [none,none] (BB<|QI QJ vb1 Qw) λ_=>(Zx OD T.max K6 va1)) Qp) Qw) (Qy<|QP 6 JC.nd<|Zx (KD rfl) T.min Dr<|av 6<|Qs Qw Qp) QS)
 (Qx (QP 7 JC.nd<|QL VB Qw<|Q6 q W<|av 0<|av 6 Qp)
 (Qy<|QK<|Ys<|av 5<|av 3<|av 4<|av 7<|Qs (QL VB Qw<|Q6 q W<|av 0<|av 6 Qp) Qp)))))))),?_]
  walk_at"x";have R:=i.t1;have U:=i.l1;have S:=i.l5;have g:(0:Int)<10^(30:Int).toNat-1/\(10:Int)^(30:Int).toNat-1<10^30:=by decide +kernel
  have p:∀{Z:ZbB},Z[1]?=some (zf<|Zb y)->Qr K (tOp (rIx K) (Q5 1)<|tC<|.int 0) Z (.int (y.T:Int)):=λe=>V5 (Qq e) Qz rfl;refine VQ (λj=>∃(m:Nat) (a b:Int),m<y.T/\j=[zo v<|olP [.int a,.int b],zf<|Zb y,zi (nw:Int),zi (m:Int),none,none,none,none]) (DN (YM rfl (p rfl) #[]<|MM i.t8) ?_) ?_
  .rintro n _ ⟨C,X,a,b,rfl⟩;refine#[n.toNat,a,b,#[],?_];rw[Wr C];rfl
  rintro _ ⟨m,a,b,hfs,rfl⟩;refine VQ (λj=>∃(m:Nat) (a b:Int),m<y.T/\j=[zo v<|olP [.int a,.int b],zf<|Zb y,zi (nw:Int),zi (m:Int),none,none,none,none]) ?_ ?_
  .by_cases c:m<nw/\nw<y.T
   .refine Es (QZ.cast (Zq<|UU Qq Qq<|p rfl) ?_) (YM rfl Qz (by decide)<|by decide +kernel) ?_
    .rw[Yx (show(m:Int)<nw by lia),Yx (show(nw:Int)<y.T by lia)];rfl
    rintro n _ ⟨C,X,a,b,rfl⟩;refine Zc (Zq<|Yj Qz Qz) (λ_=>F9 rfl (YM rfl (ZB (p rfl) Qq) #[]<|Int.le_trans (show(y.T:Int)-(nw:Int)<=(y.T:Int) by lia)<|MM i.t8) ?_) (λ_=>QX #[m,a,b,hfs,rfl]);rintro n _ ⟨C,X,a,b,rfl⟩;refine Z1 (ZB Qq Qz) #[((nw:Int)+n).toNat,a,b,#[],?_];rw[Wr<|#[]];rfl
   .refine Zc (K1 (c:=false) (QZ.cast (Zq<|UU Qq Qq<|p rfl) ?_) nf) nf (λ_=>QX #[m,a,b,hfs,rfl]);rw[<- Bool.decide_and];exact XU #[]
  rintro _ ⟨m,a,b,hfs,rfl⟩;refine VQ (λj=>∃(D:Nat) (a b:Int),m<=D/\D<y.T/\j=[zo v<|olP [.int a,.int b],zf<|Zb y,zi (nw:Int),zi (m:Int),zi (D:Int),none,none,none]) (F9 rfl (YM rfl (ZB (p rfl) Qq) #[]<|Int.le_trans (show(y.T:Int)-(m)<=(y.T) by lia)<|MM i.t8) ?_) ?_
  .rintro n _ ⟨C,X,a,b,rfl⟩;refine Z1 (ZB Qq Qz) #[((m)+n).toNat,a,b,#[],#[],?_];rw[Wr<|#[]];rfl
  rintro _ ⟨D,a,b,o,k,rfl⟩;refine VQ (λj=>∃(Y:Nat) (a b:Int),Y<y.ls.length/\j=[zo v<|olP [.int a,.int b],zf<|Zb y,zf<|.int<|nw,zf<|.int<|m,zf<|.int<|D,zf<|.int<|Y,none,none]) (DN (YM rfl (Qr.cast (BQ<|(λe=>V5 (Qq e) Qz rfl) rfl) (show _=PyData.int (y.ls.length) by rw[Xe])) #[]<|MM<|#[]) ?_) ?_
  .rintro n _ ⟨C,X,a,b,rfl⟩;refine#[n.toNat,a,b,#[],?_];rw[Wr C];rfl
  rintro _ ⟨Y,a,b,F,rfl⟩;refine VQ (λj=>∃B a b:Int,0<B/\B<10^30/\j=[zo v<|olP [.int a,.int b],zf<|Zb y,zf<|.int<|nw,zf<|.int<|m,zf<|.int<|D,zf<|.int<|Y,zi B,none]) (Cd (EvO.fz<|ZA (QM Qz<|QM Qz<|QM Qz<|QM (ZB (Z8 Qz Qz<|Dc (by decide)<|by decide) Qz) Zu)<|by decide) (YM rfl Qz (by decide)<|by decide +kernel) ?_) ?_
  .rintro n _ ⟨C,X,a,b,rfl⟩;obtain rfl|rfl|rfl|rfl:n=0\/n=1\/n=2\/n=3:=#[]
   .exact#[_,rfl,4,a,b,by decide,#[],rfl]
   .exact#[_,rfl,9,a,b,by decide,#[],rfl]
   .exact#[_,rfl,20,a,b,by decide,#[],rfl]
   .exact#[_,rfl,_,a,b,g.1,g.2,rfl]
  rintro _ ⟨B,a,b,s0,r,rfl⟩;have N:∀l∈y.ls,l.bs≠[]:=λl G z=>by
   have:=i.bl l G;rw[z]at this;have:(0)=y.T:=this;lia
  have u:(y.ls.map λl=>mxB l.bs)≠[]:=λz=>by
   have:=Xz List.length z;rw[Xe]at this;have:y.ls.length=0:=this;lia
  obtain⟨E,x⟩:=TZ u;refine VQ (λj=>∃B:Int,0<B/\B<10^30/\j=[zo v<|olP [.int a,.int b],zf<|Zb y,zf<|.int<|nw,zf<|.int<|m,zf<|.int<|D,zf<|.int<|Y,zi B,none]) (Zc (QZ.cast (Zq<|Yj (Oa (Qr.cast (EvO.fz<|YV (xs:=y.ls) (enc:=Ya) (h:=λl=>.int<|mxB l.bs) ?ei #[] ?el)<|by rw[Xx];rfl) rfl E x) Qz) rfl) (λ_=>?_) λ_=>QX #[B,s0,r,rfl]) ?_
  case ei=>exact GH ((λe=>V5 (Qq e) Qz rfl) rfl)
  case el=>
   intro l G c;obtain⟨k1,k2⟩:=TZ (N l G);exact#[_,WJ (Yl Zw<|Yl Zw J1) rfl,OB Qq rfl k1 k2]
  .refine Z1 (PY Qq Qz) #[min B 20,#[],#[],rfl]
  rintro _ ⟨B,s0,r,rfl⟩;refine VQ (λj=>∃d a b:Int,1<=d/\d<10^30/\j=[zo v<|olP [.int a,.int b],zf<|Zb y,zf<|.int<|nw,zf<|.int<|m,zf<|.int<|D,zf<|.int<|Y,zi B,zi d]) (Fn (YM rfl Qq s0<|p60<|Int.le_of_lt r) ?_) ?_
  .rintro n _ ⟨C,X,a,b,rfl⟩;refine Z1 (ZB Qz Qz) #[1+n,a,b,#[],#[],rfl]
  rintro _ ⟨d,a,b,L,I,rfl⟩;refine O9 rfl rfl rfl rfl (YM rfl Qq s0<|p60<|Int.le_of_lt r) ?_;rintro n _ ⟨C,X,a,b,rfl⟩;refine UO (YW (QM Qq<|QM Qq<|QM Qq<|QM Qq<|QM (ZB Qz Qz) Zu)<|by show(5)<=1000;decide) #[_,#[#[Y,m,D,d,1+n],#[#[F,o,k,L,GW I,by show 1<=1+n;lia,GW<|by show 1+n<_;lia],I,by show 1+n<_;lia],rfl],rfl]
inductive R_iswhole:List OT->OT->Prop
 |mk {i:Int}:R_iswhole [.fz<|.int i] (.fz<|.bool true)
 |non:R_iswhole [.fz .none] (.fz<|.bool false)
def Zmd:Qo ZaX ZaX (Q8 RE):=by walk_at"p"
def Zo2(T:Bl mg)(H0:Df K mg "is_whole" RE ZaX):Q2 P w K mg base "is_whole" ZaX 1 (QA (K:=K) R_iswhole):=by
 refine H0.ev Zmd (λf ts r h H q j A outer s m=>#[_,(Qy<|QK<|Yq (Zx Dz T.isi Jz<|av 0<|Qs (Ui (v:=.ty "int") rfl T.int BO rfl) Qp)<|YJ<|T9<|Zx Dz T.isi Jz<|av 0<|Qs (Ui (v:=.ty "bool") rfl T.bool OE rfl) Qp),?_]);cases h with
 |mk=>exact Zh (VC (GI Qq rfl) λ_=>K3<|GI Qq rfl) rfl
 |non=>exact Zh (VC (b:=false) (c:=false) (GI Qq rfl) nf) rfl
inductive R_within:List OT->OT->Prop
 |mk {i lo hi:Int}:R_within [.fz<|.int i,.fz<|.int lo,.fz<|.int hi] (.fz<|.bool<|decide (lo<=i)&&decide (i<hi))
 |non {lo hi:Int}:R_within [.fz .none,.fz<|.int lo,.fz<|.int hi] (.fz<|.bool false)
def ZfO:Qo Zak Zak (Q8 SO):=by walk_at"p"
def ZqK(T:Bl mg)(H0:Df K mg "is_whole_within" SO Zak)(j:Q2 P w K mg base "is_whole" ZaX 1 (QA (K:=K) R_iswhole)):Q2 P w K mg base "is_whole_within" Zak 2 (QA (K:=K) R_within):=by
 refine H0.ev ZfO (λf ts r h H B q A outer s m=>#[_,(Qy<|QK<|Yq (Q6 j m y0)<|YJ<|Fq UL Jw vb1 u0 u2),?_]);cases h with
 |mk=>exact Zh (VC (QN (Qu Qq Q0) .mk) λ_=>UU Qq Qq Qq) rfl
 |non=>exact Zh (VC (b:=false) (c:=false) (QN (Qu Qq Q0) .non) nf) rfl
inductive R_isamount:List OT->OT->Prop
 |mk {i lo:Int}:R_isamount [.fz<|.int i,.fz<|.int lo] (.fz<|.bool<|decide (lo<=i)&&decide (i<10^30))
def Zkj:Qo ZaK ZaK (Q8 RZ):=by walk_at"p"
def Zme(T:Bl mg)(H0:Df K mg "is_amount" RZ ZaK)(j:Q2 P w K mg base "is_whole_within" Zak 2 (QA (K:=K) R_within)):Q2 P w K mg base "is_amount" ZaK 3 (QA (K:=K) R_isamount):=by
 refine H0.ev Zkj (λf ts r h H B q A outer s m=>#[_,(Qy<|QK<|Q6 j m<|av 0<|av 1<|Qs (QL Dv Qw Qw) Qp),?_]);cases h;exact Zh (QN (Qu Qq<|Qu Qq<|Qu (Z8 Qz Qz<|Dc (by decide)<|by decide) Q0) .mk) rfl
inductive R_tupof:List OT->OT->Prop
 |mk {ds:Qd}{n:Int}:R_tupof [.fz<|.tuple ds,.fz<|.int n] (.fz<|.bool<|decide ((ds.length:Int)=n))
def Zi1:Qo Zax Zax (Q8 Sm):=by walk_at"p"
def ZsT(T:Bl mg)(H0:Df K mg "is_tuple_of" Sm Zax):Q2 P w K mg base "is_tuple_of" Zax 1 (QA (K:=K) R_tupof):=by
 refine H0.ev Zi1 (λf ts r h H q j A outer s m=>#[_,(Qy<|QK<|Yq (Zx Dz T.isi Jz<|av 0<|Qs (Ui (v:=.ty "tuple") rfl T.tuple Ba rfl) Qp)<|YJ<|Wa Z3 (Zx Vt T.len Vr y0) vb1),?_]);cases h;exact Zh (VC (GI Qq rfl) λ_=>VP (BQ Qq) Qq) rfl
def abB:Option Nat->Qm
 |none,k=>decide (k=0)
 |some a,k=>decide (a<k)
inductive R_isabove:List OT->OT->Prop
 |mk {dx:Option Nat}{k:Nat}:R_isabove [.fz<|upD dx,.fz<|.int (k:Int)] (.fz<|.bool<|abB dx k)
def ZlE:Qo ZaS ZaS (Q8 RL):=by walk_at"p"
def Zo1(T:Bl mg)(H0:Df K mg "is_above" RL ZaS)(j:Q2 P w K mg base "is_whole_within" Zak 2 (QA (K:=K) R_within)):Q2 P w K mg base "is_above" ZaS 3 (QA (K:=K) R_isabove):=by
 refine H0.ev ZlE (λf ts r h H C B A outer s m=>#[_,(Qx (QQ (Ze Z3 vb1 Qw) (Qy<|QK<|Eo<|Eh u0) QS)
 (Qy<|QK<|Q6 j m<|av 0<|Qs Qw va1)),?_])
 cases h with
 |@mk q k=>
  cases q with
  |none=>exact Q9 (Zc (Z2<|VP Qq Qz) (λc=>Zh (K2 Qq)<|by simp_all [abB,B7,upD]) λc=>QX<|Zh (QN (Qu Qq<|Qu Qz<|Qu Qq Q0) .non)<|by simp_all [abB])
  |some a=>exact Q9 (Zc (Z2<|VP Qq Qz) (λc=>Zh (K2 Qq)<|by simp_all [abB,B7,upD]) λc=>QX<|Zh (QN (Qu Qq<|Qu Qz<|Qu Qq Q0) .mk)<|by simp[abB])
def bdB(bs:Ql)(t:Nat):Bool:=decide (bs.length=t)&&bs.all λb=>decide (0<=b)&&decide (b<10^30)
inductive R_arebounds:List OT->OT->Prop
 |mk {bs:Ql}{t:Nat}(h8:t<=8):R_arebounds [.fz<|.tuple<|bs.map PyData.int,.fz<|.int (t:Int)] (.fz<|.bool<|bdB bs t)
def An:Qo Zar Zar (Q8 Sx):=by walk_at"p"
def Zly(T:Bl mg)(H0:Df K mg "are_bounds" Sx Zar)(m:Q2 P w K mg base "is_tuple_of" Zax 1 (QA (K:=K) R_tupof))(j:Q2 P w K mg base "is_amount" ZaK 3 (QA (K:=K) R_isamount)):Q2 P w K mg base "are_bounds" Zar 4 (QA (K:=K) R_arebounds):=by
 refine H0.ev An (λf ts r h H W C A outer s q=>#[_,(Qy<|QK<|Yq (Q6 m q<|av 0 va1)<|YJ<|Zx BN T.all BK<|Qs (Yp An ["bound"] [none] (BB u0) λ_=>(Q6 j q<|av 0<|Qs Qw Qp)) Qp),?_]);cases h with
 |@mk B t M=>
  refine Zh (VC (b:=decide (B.length=t)) (Qr.cast (QN (Qu Qq<|Qu Qq Q0) .mk)<|by simp;lia) λc=>Qr.cast (B9 (Qr.cast (EvO.fz<|YV (xs:=B) (enc:=PyData.int) (h:=λb=>.bool<|decide (0<=b)&&decide (b<10^30)) ?ei (by simp at c;lia) ?el)<|by rw[Xx];rfl) rfl)<|by rw[List.all_map];rfl) rfl
  case ei=>exact GH Qq
  case el=>exact λx D c=>#[_,Zw,QN (Qu Qq<|Qu Qz Q0) .mk]
def lnB(l:Ln)(k t:Nat):Bool:=abB l.up k&&bdB l.bs t
inductive R_isline:List OT->OT->Prop
 |mk {l:Ln}{k t:Nat}(h8:t<=8):R_isline [.fz<|Ya l,.fz<|.int (k:Int),.fz<|.int (t:Int)] (.fz<|.bool<|lnB l k t)
def ZoG:Qo ZaE ZaE (Q8 Rq):=by walk_at"p"
def Zq6(T:Bl mg)(H0:Df K mg "is_line" Rq ZaE)(m:Q2 P w K mg base "is_tuple_of" Zax 1 (QA (K:=K) R_tupof))(B:Q2 P w K mg base "is_above" ZaS 3 (QA (K:=K) R_isabove))(q:Q2 P w K mg base "are_bounds" Zar 4 (QA (K:=K) R_arebounds)):Q2 P w K mg base "is_line" ZaE 5 (QA (K:=K) R_isline):=by
 refine H0.ev ZoG (λf ts r h H M D A outer s j=>#[_,(Qy<|QK<|Yq (Q6 m j<|av 0<|Qs Qw Qp)<|Yq (Q6 B j<|Qs (QI QJ u0 Qw) va1)<|YJ<|Q6 q j<|Qs (QI QJ u0 Qw) y2),?_]);cases h with
 |mk C=>exact Zh (VC (b:=true) (QN (Qu Qq<|Qu Qz Q0) .mk) λ_=>VC (QN (Qu (V5 Qq Qz rfl)<|Qu Qq Q0) .mk) λ_=>QN (Qu (V5 Qq Qz rfl)<|Qu Qq Q0)<|.mk C) rfl
noncomputable def lsB(y:Yd):Bool:=(decide (1<=y.ls.length)&&decide (y.ls.length<=5))&&y.ls.zipIdx.all λp=>lnB p.1 p.2 y.T
inductive R_arelines:List OT->OT->Prop
 |mk {y:Yd}(h8:y.T<=8):R_arelines [.fz<|.tuple<|y.ls.map Ya,.fz<|.int (y.T:Int)] (.fz<|.bool<|lsB y)
def Aj:Qo Zar Zar (Q8 RW):=by walk_at"p"
def Zm3(T:Bl mg)(H0:Df K mg "are_lines" RW Zar)(j:Q2 P w K mg base "is_line" ZaE 5 (QA (K:=K) R_isline)):Q2 P w K mg base "are_lines" Zar 6 (QA (K:=K) R_arelines):=by
 refine H0.ev Aj (λf ts r h H D B A outer s m=>#[_,(Qx (QQ (PW.pt<|GG (V3<|ZL<|Zx Dz T.isi Jz<|av 0<|Qs (Ui (v:=.ty "tuple") rfl T.tuple Ba rfl) Qp)<|GO<|V3<|N9 UL UL Qw (Zx Vt T.len Vr y0) Qw) (Qy<|QK Yi) QS)
 (Qy<|QK<|Zx BN T.all BK<|Qs (Yp Aj ["line","part","turns"] [none,none,some 1] (Zjs rfl T.enumerate y0) λ_=>(Q6 j m<|av 1<|av 0 y2)) Qp)),?_])
 cases h with
 |@mk y q=>
  unfold lsB;generalize e:(decide (1<=y.ls.length)&&decide (y.ls.length<=5))=b;refine Q9 (Zc (JW (Vm (b:=true)<|Z2<|GI Qq rfl) λ_=>Vm (b:=b)<|Zq<|Qr.cast (UU Qz (BQ Qq) Qz) ?_) (λc=>Zh Ww<|by simp_all) λc=>QX ?_)
  .rw[<- e,Xe];exact Xz PyData.bool (congr (Xz _<|decide_eq_decide.mpr<|#[])<|decide_eq_decide.mpr<|#[])
  obtain rfl:b=true:=by simpa using c
  refine Zh (Qr.cast (B9 (Qr.cast (EvO.fz<|YV (xs:=y.ls.zipIdx) (enc:=λp=>.tuple [.int (p.2:Int),Ya p.1]) (h:=λp=>.bool<|lnB p.1 p.2 y.T) ?ei (by simp at e ⊢;lia) ?el)<|by rw[Xx];rfl) rfl)<|by rw[List.all_map];rfl) rfl
  case ei=>exact EvI.cast (Ztc<|Qu Qq Q0) (by unfold Ub;rw[List.zipIdx_map,Xx];rfl)
  case el=>exact λx C c=>#[_,WJ (Yl Zw<|Yl Zw J1) rfl,QN (Qu Qq<|Qu Qq<|Qu Qq Q0)<|.mk q]
noncomputable def ydB(y:Yd):Bool:=(decide (1<=y.T)&&decide (y.T<9))&&lsB y
inductive R_isyard:List OT->OT->Prop
 |mk {y:Yd}:R_isyard [.fz<|Zb y] (.fz<|.bool<|ydB y)
def ZnR:Qo ZaX ZaX (Q8 Rs):=by walk_at"p"
def Zqv(T:Bl mg)(H0:Df K mg "is_yard" Rs ZaX)(m:Q2 P w K mg base "is_tuple_of" Zax 1 (QA (K:=K) R_tupof))(q:Q2 P w K mg base "is_whole_within" Zak 2 (QA (K:=K) R_within))(B:Q2 P w K mg base "are_lines" Zar 6 (QA (K:=K) R_arelines)):Q2 P w K mg base "is_yard" ZaX 7 (QA (K:=K) R_isyard):=by
 refine H0.ev ZnR (λf ts r h H M D A outer s j=>#[_,(Qy<|QK<|Yq (Q6 m j<|av 0<|Qs Qw Qp)<|Yq (Q6 q j<|Qs (QI QJ u0 Qw)<|Qs Qw<|Qs Qw Qp)<|YJ<|Q6 B j<|Qs (QI QJ u0 Qw)<|Qs (QI QJ u0 Qw) Qp),?_]);cases h with
 |@mk y=>
  exact Zh (VC (b:=true) (QN (Qu Qq<|Qu Qz Q0) .mk) λ_=>VC (b:=decide (1<=y.T)&&decide (y.T<9)) (Qr.cast (QN (Qu (V5 Qq Qz rfl)<|Qu Qz<|Qu Qz Q0) .mk)<|Xz PyData.bool<|congr (Xz _<|decide_eq_decide.mpr<|#[])<|decide_eq_decide.mpr<|#[]) λc=>QN (Qu (V5 Qq Qz rfl)<|Qu (V5 Qq Qz rfl) Q0)<|.mk<|by simp at c;lia) rfl
def LP:ydB y=true↔y.Ok/\MS y:=by
 have s:∀{k:Nat} {l:Ln},y.ls[k]?=some l->Zn y k=l.up:=λe=>by unfold Zn;rw[e];rfl
 unfold ydB lsB;simp only[XS,decide_eq_true_eq,X5];constructor
 .rintro⟨⟨B,P⟩,⟨D,C⟩,h⟩;have w:∀{k:Nat} {l:Ln},y.ls[k]?=some l->abB l.up k=true/\l.bs.length=y.T/\∀b∈l.bs,0<=b/\b<10^30:=λe=>by
   have:=h _ (List.mk_mem_zipIdx_iff_getElem?.mpr e);simpa only [lnB,bdB,XS,decide_eq_true_eq,X5] using this
  have q:∀l∈y.ls,l.bs.length=y.T/\∀b∈l.bs,0<=b/\b<10^30:=λl f=>by
   obtain⟨k,e⟩:=List.mem_iff_getElem?.mp f;exact(w e).2
  refine#[#[B,#[],D,C,?_,λk k0 K=>?_,λl f=>(q l f).1,λl f b A=>#[((q l f).2 b A).1,GW ((q l f).2 b A).2]],λl f=>(q l f).2]
  .have e:=XJ (show 0<y.ls.length by lia);have a:=(w e).1;rw[s e];cases z:(y.ls[0]).up with
   |none=>rfl
   |some b=>rw[z]at a;simp[abB]at a
  .have e:=XJ K;have a:=(w e).1;rw[s e];cases z:(y.ls[k]).up with
   |none=>rw[z]at a;simp[abB]at a;lia
   |some b=>exact#[b,rfl,by rw[z]at a;simpa [abB] using a]
 .rintro⟨j,b⟩;refine#[#[j.t1,by have:=j.t8;lia],#[j.l1,j.l5],?_];rintro⟨l,k⟩ h;have e:=List.mk_mem_zipIdx_iff_getElem?.mp h;have m:=List.mem_of_getElem? e;simp only[lnB,bdB,XS,decide_eq_true_eq,X5];refine#[?_,j.bl l m,b l m];rw[<- s e];cases k with
  |zero=>rw[j.up0];rfl
  |succ k=>
   apply I0 (j.ups (k+1) #[] (Xh.mp e).1);intro a U M;rw[U];exact Yx M
inductive R_isguest:List OT->OT->Prop
 |is {y:Yd}{g:Gs}{b:Bool}(h:b=true↔G30 y g):R_isguest [.fz<|Zb y,.fz<|QT g] (.fz<|.bool b)
def R_isguest.mk(h:G30 y g):R_isguest [.fz<|Zb y,.fz<|QT g] (.fz<|.bool true):=.is #[λ_=>h,λ_=>rfl]
def R_isguest.no(h:¬G30 y g):R_isguest [.fz<|Zb y,.fz<|QT g] (.fz<|.bool false):=.is #[(nomatch ·),λk=>(h k).elim]
def Zm8:Qo ZaF ZaF (Q8 RA):=by walk_at"p"
def Zom(T:Bl mg)(H0:Df K mg "is_guest" RA ZaF)(M:Q2 P w K mg base "is_tuple_of" Zax 1 (QA (K:=K) R_tupof))(m:Q2 P w K mg base "is_whole_within" Zak 2 (QA (K:=K) R_within))(B:Q2 P w K mg base "is_amount" ZaK 3 (QA (K:=K) R_isamount))(W:Q2 P w K mg base "line_count" ZaH 1 (QA (K:=K) R_count))(C:Q2 P w K mg base "turns_of" ZaH 1 (QA (K:=K) R_turns)):Q2 P w K mg base "is_guest" ZaF 4 (QA (K:=K) R_isguest):=by
 refine H0.ev Zm8 (λf ts r h H o X A outer s j=>#[_,(Qx (QQ (V3<|ZL<|Q6 M j<|av 1<|Qs Qw Qp) (Qy<|QK Yi) QS)
 (Qx (QQ (V3<|ZL<|Q6 m j<|Qs (QI QJ vb1 Qw)<|Qs Qw<|Qs (Q6 W j y0) Qp) (Qy<|QK Yi) QS)
 (Qx (QQ (V3<|ZL<|Q6 m j<|Qs (QI QJ vb1 Qw)<|Qs Qw<|Qs (Q6 C j y0) Qp) (Qy<|QK Yi) QS)
 (Qx (QQ (V3<|ZL<|Q6 m j<|Qs (QI QJ vb1 Qw)<|Qs (QI QJ vb1 Qw)<|Qs (Q6 C j y0) Qp) (Qy<|QK Yi) QS)
 (Qy<|QK<|Yq (Q6 B j<|Qs (QI QJ vb1 Qw)<|Qs Qw Qp)<|YJ<|Q6 B j<|Qs (QI QJ vb1 Qw)<|Qs Qw Qp))))),?_])
 cases h with
 |@is y g b h=>
  try dsimp only[Vu]
  have q:∀{Z:ZbB} {n:Int} {d:PyData},Z[1]?=some _->atI [.int<|g.line,.int<|g.first,.int<|g.last,.int g.want,.int g.most] n=some d->Qr K _ Z d:=λe h=>V5 (Qq e) Qz h
  have D:¬G30 y g->OT.fz (.bool false)=.fz (.bool b):=λk=>by
   cases b with
   |false=>rfl
   |true=>exact(k<|h.mp rfl).elim
  refine Q9 (Zc (Vm (b:=true)<|Z2<|QN (Qu Qq<|Qu Qz Q0) .mk) nf λ_=>QX (Q9 (Zc (Vm<|Z2<|QN (Qu (q rfl rfl)<|Qu Qz<|Qu (QN (Qu Qq Q0) R_count.mk) Q0) .mk) (λc=>Zh Ww (D λk=>by have:=k.ok.ln;simp at c;lia)) λl=>QX (Q9 (Zc (Vm<|Z2<|QN (Qu (q rfl rfl)<|Qu Qz<|Qu (QN (Qu Qq Q0) R_turns.mk) Q0) .mk) (λc=>Zh Ww (D λk=>by have:=k.ok.fl;have:=k.ok.lt;simp at c;lia)) λi=>QX (Q9 (Zc (Vm<|Z2<|QN (Qu (q rfl rfl)<|Qu (q rfl rfl)<|Qu (QN (Qu Qq Q0) R_turns.mk) Q0) .mk) (λc=>Zh Ww (D λk=>by have:=k.ok.fl;have:=k.ok.lt;simp at c;lia)) λY=>QX (Zh (Qr.cast (VC (QN (Qu (q rfl rfl)<|Qu Qz Q0) .mk) λ_=>QN (Qu (q rfl rfl)<|Qu Qz Q0) .mk)<|Xz PyData.bool<|Br.mpr<|Iff.trans ?_ h.symm) rfl))))))));simp only[Bool.not_eq_false',XS,decide_eq_true_eq]at l i Y ⊢;refine#[?_,λk=>#[#[k.ok.w1,k.w],k.ok.m1,k.m]];rintro⟨⟨a,b⟩,c,d⟩;exact#[#[#[],#[],#[],a,GW b,c,GW d],b,d]
def Ec:NoH "now" := λ_ _ _ _ _ _=>rfl
def OY:NoH "leave" := λ_ _ _ _ _ _=>rfl
def DC:NoH "come" := λ_ _ _ _ _ _=>rfl
def OC:NoH "rest" := λ_ _ _ _ _ _=>rfl
def II:NoH "yard_now" := λ_ _ _ _ _ _=>rfl
def LY:NoH "still_there" := λ_ _ _ _ _ _=>rfl
def GV:NoH "refuse_past" := λ_ _ _ _ _ _=>rfl
def Oq:NoH "turn" := λ_ _ _ _ _ _=>rfl
def KW:NoH "refuse_number" := λ_ _ _ _ _ _=>rfl
def Zhf:Qo ZaQ ZaQ (Q8 Bj):=by walk_at"p"
def IB{f:Addr}(T:Bl mg)(h:HandC K CH)(F:Fun K "__init__" "Hand.__init__" Bj f fd):FnOk P w K mg base CX0 1 f fd ZaQ (MY CH):=by
 refine F.ok Zhf (by rintro r H Q J ⟨x,u,y,e,_⟩;rw[e];rfl) ?_;rintro r H Q J ⟨x,u,y,rfl,t,q⟩ v A outer s L;refine#[_,(Qx (W2 u0 vb1 rfl)
 (Qx (W2 u0 Qw rfl)
 (Qx (W2 u0 (Zk Qp) rfl)
 (Qx (W2 u0 (Zk Qp) rfl)
 (Qx (W2 u0 Fj rfl)
 (Qy<|W2 u0 (Zk Qp) rfl)))))),?_]
 refine#[y,rfl,_,rfl,x,CH,u,[],rfl,t,h.cl,h.yd,by decide,#[_,rfl,x,CH,u,[("yard",y)],rfl,by rw[QF];rfl,h.cl,h.pr,(by show(1)<1000;decide),#[XA _,λk Z=>#[_,rfl,x,CH,u,[("yard",y),("present",.int 0)],rfl,?_,h.cl,h.kn,(by show(2)<1000;decide),?_]]]]
 .have C:=Z5 QF Z;rw[Qv C,QF];rfl
 have C:=Z5 QF Z;rw[Qv<|Ne.symm C,Qv<|Ne.symm C]at Z;refine#[XA _,λg X=>#[_,rfl,x,CH,u,[("yard",y),("present",.int 0),("known",.ref k)],rfl,?_,h.cl,h.gv,(by show(3)<1000;decide),?_]]
 .have D:=Z5 QF X;rw[Qv D,QF];rfl
 have D:=Z5 QF X;rw[Qv<|Ne.symm D]at X;have c:=Z5 QF X;rw[Qv<|Ne.symm c,Qv<|Ne.symm D,Qv<|Ne.symm D]at X;refine λd W=>#[_,rfl,x,CH,u,[("yard",y),("present",.int 0),("known",.ref k),("given",.ref g)],rfl,?_,h.cl,h.go,(by show(4)<1000;decide),?_]
 .have M:=Z5 QF W;rw[Qv M,QF];rfl
 have M:=Z5 QF W;rw[Qv<|Ne.symm M]at W;have n:=Z5 QF W;rw[Qv<|Ne.symm n,Qv<|Ne.symm M]at W;have i:=Z5 QF W;rw[Qv<|Ne.symm i,Qv<|Ne.symm M,Qv<|Ne.symm M]at W;refine#[XA _,λm j=>#[_,rfl,x,CH,u,[("yard",y),("present",.int 0),("known",.ref k),("given",.ref g),("gone",.ref d)],rfl,?_,h.cl,h.md,(by show(5)<1000;decide),?_]]
 .have B:=Z5 QF j;rw[Qv B,QF];rfl
 have B:=Z5 QF j;rw[Qv<|Ne.symm B]at j;have o:=Z5 QF j;rw[Qv<|Ne.symm o,Qv<|Ne.symm B]at j;have l:=Z5 QF j;rw[Qv<|Ne.symm l,Qv<|Ne.symm B]at j;have a:=Z5 QF j;rw[Qv<|Ne.symm a,Qv<|Ne.symm B,Qv<|Ne.symm B]at j;refine q k g d m _ Z X W j ?_ ?_ ?_ ?_ ?_ ?_ (λb p=>?_)
 .simp only[XN,Xc,XH,or_false,not_or,not_false_eq_true,MA,and_true];exact#[#[C,D,M,B],#[c,i,a],#[n,l],o]
 .rw[QF];rfl
 .rw[Qv<|Ne.symm C,Qv a,Qv<|Ne.symm C,Qv i,Qv<|Ne.symm C,Qv c,Qv<|Ne.symm C,QF]
 .rw[Qv<|Ne.symm D,Qv l,Qv<|Ne.symm D,Qv n,Qv<|Ne.symm D,QF]
 .rw[Qv<|Ne.symm M,Qv o,Qv<|Ne.symm M,QF]
 .rw[Qv<|Ne.symm B,QF]
 .simp only[Xc,XH,or_false,not_or]at p;apply Hs p;intro Y I G E z;rw[Qv Y,Qv z,Qv Y,Qv E,Qv Y,Qv G,Qv Y,Qv I,Qv Y,Qv Y]
inductive R_hpast(CH:Addr):List OT->(OT->Prop)->Prop
 |mk {N:HandS}{t:Int}(h:N.now<=t):R_hpast CH [.zow<|QY CH N,.fz<|.int t] (λr=>r=.fz .none)
inductive X_hpast(CH:Addr):List OT->(Unit->Prop)->Prop
 |mk {N:HandS}{t:Int}(h:t<N.now):X_hpast CH [.zow<|QY CH N,.fz<|.int t] (λ_=>True)
def ZfH:Qo ZaG ZaG (Q8 SJ):=by walk_at"p"
def Zs4(T:Bl mg)(B:HandC K CH)(q:U0 K mg "NoTime" ct)(H0:Mf K CH "refuse_past" "Hand.refuse_past" SJ ZaG):ZH P w K mg base CH "refuse_past" ZaG 1 (Zg K ct Z6 (R_hpast CH)<|X_hpast CH):=by
 refine H0.evZ ZfH (λf H RR ts C j h m A outer s D=>?_) (λf F H RR ts C j M h m A outer s D=>?_)
 .cases h with
  |@mk N t h=>
   exact#[_,(Qy<|QQ (Ze Jw vb1<|Zp u0) (Qy<|Bd q j<|Qs QG Qp) QS),Zc (QZ.cast (Zq<|Yj Qq<|Mc B rfl)<|XU<|#[]) nf (λ_=>QX rfl)]
 .cases h with
  |@mk N t h=>
   exact#[_,(Qy<|QQ (Ze Jw vb1<|Zp u0) (Qy<|Bd q j<|Qs QG Qp) QS),GB (QZ.cast (Zq<|Yj Qq<|Mc B rfl)<|Yx h) (λ_=>Mw QU trivial M) nt]
def Zfp:Qo Zad Zad (Q8 Bo):=by walk_at"p"
def Zqq{f:Addr}(T:Bl mg)(F:Fun K "__init__" "NoNumber.__init__" Bo f fd)(B:JI K YR CQ f)(xs:HG K CQ)(m:W.takerIn K CQ "number"=some none)(q:mg "YardError"=some (.ref YR)):FnOk P w K mg base CX0 1 f fd Zad (Uj CQ "number"):=by
 refine F.ok Zfp ?_ (λj H Q D h C A outer s M=>#[_,Qx (Zj<|N6 B rfl q rfl Qa)<|Qy<|Nr xs m u0 vb1 rfl,Fa h]);rintro j H Q D ⟨e,x,h,_⟩;rw[h];rfl
inductive R_withw:List OT->OT->Prop
 |mk {g:Gs}{z:Int}:R_withw [.fz<|QT g,.fz<|.int z] (.fz<|QT { g with want:=z })
def Zlz:Qo ZaT ZaT (Q8 Sa):=by walk_at"p"
def Zs8(T:Bl mg)(H0:Df K mg "with_want" Sa ZaT):Q2 P w K mg base "with_want" ZaT 1 (QA (K:=K) R_withw):=by
 refine H0.ev Zlz (λf ts r h H B m A outer s q=>?_);cases h with
 |@mk g z=>
  refine#[_,(Qy<|QK<|Ys<|Qs (QI QJ u0 Qw)<|Qs (QI QJ u0 Qw)<|Qs (QI QJ u0 Qw)<|av 1<|Qs (QI QJ u0 Qw) Qp),?_];have j:∀{Z:ZbB} {n:Int} {d:PyData},Z[0]?=some (zf<|QT g)->atI [.int _,.int _,.int _,.int g.want,.int g.most] n=some d->Qr K _ Z d:=λe h=>V5 (Qq e) Qz h;exact Zh (YW (QM (j rfl rfl)<|QM (j rfl rfl)<|QM (j rfl rfl)<|QM Qq<|QM (j rfl rfl) Zu)<|by show(5)<=1000;decide) rfl
inductive R_stay:List OT->OT->Prop
 |mk {g:Gs}{n:Nat}:R_stay [.fz<|QT g,.fz<|.int (n:Int)] (.fz<|QT { g with first:=max g.first n })
def Ziu:Qo Zap Zap (Q8 SG):=by walk_at"p"
def Og(T:Bl mg)(H0:Df K mg "staying_from" SG Zap):Q2 P w K mg base "staying_from" Zap 1 (QA (K:=K) R_stay):=by
 refine H0.ev Ziu (λf ts r h H B m A outer s q=>?_);cases h with
 |@mk g n=>
  refine#[_,(Qy<|QK<|Ys<|Qs (QI QJ u0 Qw)<|Qs (Zx (ES rfl) T.max K6<|Qs (QI QJ u0 Qw) va1)<|Qs (QI QJ u0 Qw)<|Qs (QI QJ u0 Qw)<|Qs (QI QJ u0 Qw) Qp),?_];have j:∀{Z:ZbB} {n:Int} {d:PyData},Z[0]?=some _->atI [.int<|g.line,.int<|g.first,.int<|g.last,.int g.want,.int g.most] n=some d->Qr K _ Z d:=λe h=>V5 (Qq e) Qz h;refine Zh (Qr.cast (YW (QM (j rfl rfl)<|QM (Tu (j rfl rfl) Qq)<|QM (j rfl rfl)<|QM (j rfl rfl)<|QM (j rfl rfl) Zu)<|by show(5)<=1000;decide) ?_) rfl;have e:max (g.first:Int) (n)=((max g.first n)):=#[]
  rw[e];rfl
def Kw(N:HandS)(k:Nat)(z:Int):Prop := ∃(g:Gs) (x:Int),N.known[k]?=some (QT g)/\N.given[k]?=some x/\z=if (Wf N.gone<|.inl (k:Int)).isSome then 0 else g.want-x
inductive R_hnum(CH:Addr):List OT->(OT->Prop)->Prop
 |mk {N:HandS}{k:Nat}(h:k<N.known.length):R_hnum CH [.zow<|QY CH N,.fz<|.int (k:Int)] (λr=>r=.fz .none)
inductive X_hnum(CH:Addr):List OT->(V->Prop)->Prop
 |mk {N:HandS}{z:Int}(h:z<0\/(N.known.length:Int)<=z):X_hnum CH [.zow<|QY CH N,.fz<|.int z] (λw=>w=.int z)
def ZeP:Qo Zad Zad (Q8 SS):=by walk_at"p"
def IS(T:Bl mg)(M:HandC K CH)(D:XC K mg "NoNumber" YR CQ fQ)(H0:Mf K CH "refuse_number" "Hand.refuse_number" SS Zad)(q:Q2 P w K mg base "is_whole_within" Zak 2 (QA (K:=K) R_within))(B:UB P w K mg base fQ Zad 1 (Uj CQ "number")):ZH P w K mg base CH "refuse_number" Zad 3 (YC K CQ "number" (R_hnum CH)<|X_hnum CH):=by
 refine H0.evZ ZeP (λf H RR ts W j h C A outer s m=>?_) (λf F H RR ts W j X h C A outer s m=>?_)
 .cases h with
  |@mk N k h=>
   refine#[_,(Qy<|QQ (V3<|ZL<|Q6 q m<|av 1<|Qs Qw<|Qs (Zx Vt T.len Vr<|Qs (Zp u0) Qp) Qp) (Qy<|Gb D B j m va1) QS),Zc (Vm (b:=true)<|Z2<|Qr.cast (QN (Qu Qq<|Qu Qz<|Qu (YL<|M3 M rfl) Q0) R_within.mk) ?_) nf (λ_=>QX rfl)];simp_all
 .cases h with
  |@mk N z h=>
   refine#[_,(Qy<|QQ (V3<|ZL<|Q6 q m<|av 1<|Qs Qw<|Qs (Zx Vt T.len Vr<|Qs (Zp u0) Qp) Qp) (Qy<|Gb D B j m va1) QS),GB (Vm (b:=false)<|Z2<|Qr.cast (QN (Qu Qq<|Qu Qz<|Qu (YL<|M3 M rfl) Q0) R_within.mk) ?_) (λ_=>Hd (Φx:=λw=>w=.int z) Qq rfl rfl X) nt];rcases h with h|h
   .rw[XU (show ¬(0)<=z by lia)];rfl
   .simp_all
def Zsb{N:HandS}{k:Nat}{x:Int}(f:N.given[k]?=some x):atI (N.given.map PyData.int) (k:Int)=some (.int x):=ZQ (by rw[XG,f];rfl)
inductive R_hrest(CH:Addr):List OT->(OT->Prop)->Prop
 |mk {N:HandS}{k:Nat}{z:Int}(h:Kw N k z):R_hrest CH [.zow<|QY CH N,.fz<|.int (k:Int)] (λr=>r=.fz (.int z))
def Zla:Qo Zad Zad (Q8 Sf):=by walk_at"p"
def Zsy(T:Bl mg)(B:HandC K CH)(H0:Mf K CH "rest" "Hand.rest" Sf Zad)(q:ZH P w K mg base CH "refuse_number" Zad 3 (YC K CQ "number" (R_hnum CH)<|X_hnum CH))(D:Q2 P w K mg base "want_of" Zaw 1 (QA (K:=K) R_want)):ZH P w K mg base CH "rest" Zad 4 (YC K CQ "number" (R_hrest CH)<|X_hnum CH):=by
 refine H0.evZ Zla (λf H RR ts W j h C A outer s m=>?_) (λf F H RR ts W j Y h C A outer s m=>?_)
 .cases h with
  |@mk N k z h=>
   refine#[_,(Qx (Zj<|YO q B m (V2 j) u0 va1)
 (PSs.nox (Qx (QQ (UT<|KJ (Wy m) vb1<|Zp u0) (Qy<|QK Qw) QS)
 (Qy<|QK<|QL Wi (Q6 D m<|Qs (QI QJ (Zp u0) vb1) Qp)<|QI QJ (Zp u0) vb1)))),?_]
   try dsimp only[Vu]
   apply SF h;rintro g x M X rfl;have Z:=(Xh.mp M).1;refine Q9 (Ga (Mv KW rfl (Qu Qq Q0) (R_hnum.mk Z) j) (Q9 (Zc (Zq<|Zpr (k:=.inl (k)) B Qq rfl) (λc=>?_) λc=>QX ?_)))
   .rw[c];exact Zh Qz rfl
   .rw[c];exact Zh (ZB (QN (Qu (ZZ (M3 B rfl) Qq<|ZQ M) Q0) R_want.mk)<|ZZ (Zoq B rfl) Qq<|Zsb X) rfl
 .cases h with
  |@mk N z h=>
   refine#[_,(Qx (Zj<|YO q B m (V2 j) u0 va1)
 Z9),?_]
   exact Wj (Be bkV KW rfl (Qu Qq Q0) (X_hnum.mk h) j Y)
noncomputable def stl(S:List Gs)(n:Nat)(f:Qn)(k:Nat):Gs:={ S.getD k default with first:=max (S.getD k default).first n,want:=f k }
inductive R_hstill(CH:Addr):List OT->(OT->Prop)->Prop
 |mk {N:HandS}{S:List Gs}{n:Nat}(rs:Qn)(hk:N.known=S.map QT)(hn:N.now=(n:Int))(h:∀k,k<S.length->Kw N k (rs k))(l:S.length<=900):R_hstill CH [.zow<|QY CH N] (λr=>r=.ol ((List.range S.length).map λk=>QT<|stl S n rs k))
def Ht:Qo ["self","guests","number","guest"] Zav (Q8 SK):=by walk_at"p"
def Zqg(T:Bl mg)(D:HandC K CH)(H0:Mf K CH "still_there" "Hand.still_there" SK Zav)(B:Q2 P w K mg base "with_want" ZaT 1 (QA (K:=K) R_withw))(q:Q2 P w K mg base "staying_from" Zap 1 (QA (K:=K) R_stay))(m:ZH P w K mg base CH "rest" Zad 4 (YC K CQ "number" (R_hrest CH)<|X_hnum CH)):ZG P w K mg base CH "still_there" Zav 5 (Zm K<|R_hstill CH):=by
 refine H0.evD Ht (λf ts o h H p g A outer s j=>?_);cases h with
 |@mk N S n Y a Z h l=>
  refine#[_,(Qx (QP 1 Ht.nd<|Zk Qp)
 (Qx (Vx zN rfl (by exact(Hr rfl T.enumerate<|Qs (Zp u0) Qp)) (GP (n:=2) rfl (Wo (ZF 2 Ht.nd)<|Wo (ZF 3 Ht.nd) GX))<|by exact(Qy<|Zj<|ZD zP zS zT V6 vb1<|Qs (Q6 B j<|Qs (Q6 q j<|av 3<|Qs (Zp u0) Qp)<|Qs (YO m D j (WO (C:=CQ)) u0 y2) Qp) Qp))
 (Qy<|QK vb1))),?_]
  try dsimp only[Vu]
  refine Q9 (ZO (ZA Zu<|by decide) (Q9 (BS (λi=>[some _,some<|.ol<|(List.range i).map λk=>QT<|stl S n Y k,none,none]) (BR<|Qu (Qr.cast (M3 D rfl) (show _=PyData.list _ by rw[a])) Q0) #[rfl,rfl,trivial] ?st ?fin)))
  case st=>
   intro i d c;apply I0 (Mt c);rintro e W rfl;have M:=by
    have:=(Xh.mp W).1;simpa using this
   obtain rfl:e=QT (S.getD i default):=by simpa [M] using W.symm
   refine#[_,WJ (Yl Zw<|Yl Zw J1) rfl,Ji rfl (QN (Qu (QN (Qu Qq<|Qu (Qr.cast (Mc D rfl)<|by rw[Z]) Q0) R_stay.mk)<|Qu (Zqz OC rfl (Qu Qq Q0) (R_hrest.mk<|h i M) Ja) Q0) R_withw.mk) (by rw[Xe,List.length_range];lia) #[rfl,?_,trivial]];rw[WF,Xv];rfl
  case fin=>
   refine λX b=>BI b ?_;rw[Mr,Xe];exact J5 rfl rfl
noncomputable def hT(y:Yd)(n:Nat)(S:List Gs)(f:Ql)(h:Qk)(ms:List Zs):HandS:=#[Zb y,(n:Int),S.map QT,f,h.map λ(k:Nat)=>(.inl (k:Int),.bool true),ms]
noncomputable def rsT(S:List Gs)(f:Ql)(h:Qk)(k:Nat):Int:=if k∈h then 0 else (S.getD k default).want-f.getD k 0
theorem Lo(k:Nat):∀f:Qk,(Wf (f.map λ(k:Nat)=>((.inl (k:Int):Key),PyData.bool true))<|.inl (k:Int)).isSome=decide (k∈f)
 |[]=>rfl
 |x::f=>by
  have h:=Lo k f;unfold Wf at h ⊢;rw[Xy,List.find?_cons];by_cases z:x=k
  .subst z;simp
  .have j:¬((.inl (x):Key)=.inl (k)):=λq=>z #[]
   simp only[j,decide_false];rw[h];simp[Ne.symm z]
def LR{y:Yd}(gl:gv.length=S.length)(h:k<S.length):Kw (hT y n S gv go ms) k (rsT S gv go k):=by
 refine#[S.getD k default,gv.getD k 0,by simp[hT,h],by simp[hT,h,gl],?_];show _=if (Wf (go.map λk=>_) _).isSome=true then _ else _;rw[Lo];unfold rsT;simp only[decide_eq_true_eq]
def mT(n:Nat)(S:List Gs)(f:Ql)(h:Qk):List Gs:=(List.range S.length).map (stl S n<|rsT S f h)
def GJ(n:Nat)(S:List Gs)(f:Ql)(h:Qk):(mT n S f h).length=S.length:=by simp[mT]
def Th(n:Nat)(S:List Gs)(f:Ql)(h:Qk):((List.range S.length).map λk=>QT<|stl S n (rsT S f h) k)=(mT n S f h).map QT:=by
 unfold mT;rw[Xx];rfl
def AK(h:k<S.length):(mT n S gv go).getD k default=stl S n (rsT S gv go) k:=by simp[mT,h]
def P7{y:Yd}(hg:∀x∈S,G30 y x)(j:∀k,k<S.length->0<=rsT S gv go k):∀x∈mT n S gv go,GOk y x:=λx h=>by
 apply I0 (Xs.mp h);rintro k f rfl;have f:=YB.mp f;have g:=(hg (S.getD k default)<|by simp[f]).ok;have m:=g.m1;exact#[g.ln,j k f,by show 0<=(S.getD k default).most;lia]
inductive R_hcome:HandS->List OT->(OT->HandS->Prop)->Prop
 |mk {y:Yd}{n:Nat}{S:List Gs}{gv:Ql}{go:Qk}{ms:List Zs}{g:Gs}(ok:y.Ok)(hg:∀x∈S,G30 y x)(gk:G30 y g)(gl:gv.length=S.length)(gn:n<=g.first)(h0:∀k,k<S.length->0<=rsT S gv go k)(l:S.length<=7)(h:∀gs,Yt y (QR<|mT n S gv go++[g]) gs<=0):R_hcome (hT y n S gv go ms) [.fz<|QT g] (λr N'=>r=.fz (.int (S.length:Int))/\N'=hT y n (S++[g]) (gv++[0]) go ms)
inductive X_hcome(CH:Addr):List OT->(Qd->Prop)->Prop
 |mk {y:Yd}{n:Nat}{S:List Gs}{gv:Ql}{go:Qk}{ms:List Zs}{g:Gs}(ok:y.Ok)(hg:∀x∈S,G30 y x)(gk:G30 y g)(gl:gv.length=S.length)(gn:n<=g.first)(h0:∀k,k<S.length->0<=rsT S gv go k)(l:S.length<=7){gs:Qm}(h:0<Yt y (QR<|mT n S gv go++[g]) gs):X_hcome CH [.zow<|QY CH<|hT y n S gv go ms,.fz<|QT g] (λd=>∃gs,0<Yt y (QR<|mT n S gv go++[g]) gs/\d=Y3 (Jp (mT n S gv go++[g]) gs))
def S7:Qo Zaq Zaq (Q8 Mx):=by walk_at"p"
def Ztf(T:Bl mg)(D:HandC K CH)(XR:XC K mg "NoRoom" YR CR fR)(H0:Mf K CH "come" "Hand.come" Mx Zaq)(u:Q2 P w K mg base "is_guest" ZaF 4 (QA (K:=K) R_isguest))(z:ZH P w K mg base CH "refuse_past" ZaG 1 (Zg K ct Z6 (R_hpast CH)<|X_hpast CH))(E:ZI P w K mg base "refuse_lack" Zaa 7 (spX K CR "some" R_refuse X_refuse))(t:ZG P w K mg base CH "still_there" Zav 5 (Zm K<|R_hstill CH)):
 ZH P w K mg base CH "come" Zaq 8 (Av K CH CR "some" R_hcome<|X_hcome CH):=by
 have o:∀{Z:ZbB} {y:Yd} {n:Nat} {S:List Gs} {m:Ql} {B:Qk} {X:List Zs} {g:Gs} {L:XK},m.length=S.length->Z[0]?=some (zz<|QY CH<|hT y n S m B X)->Z[1]?=some (zf<|QT g)->S.length<=7->Qr K (tOp U7 (ZY CH "still_there" (Zm K<|R_hstill CH) [] L (Q5 0) QH)<|Y1<|Q3 (Q5 1) QH) Z (.list<|(mT n S m B++[g]).map QT):=λ{Z y n S m B X g L} gl U R l=>
  Qr.cast (EvO.fz<|WV (Qr.cast (EvO.fz<|Zz.o<|NM LY U Q0<|R_hstill.mk (rsT S m B) rfl rfl (λk O=>LR gl O)<|#[])<|by rw[Th]) (EvO.fz<|ZA (QM (Qq R) Zu)<|by show(1)<=1000;decide)<|by rw[Xe,GJ];show S.length+1<=1000;lia) (by rw[Xv];rfl)
 have p:∀{y:Yd} {n:Nat} {S:List Gs} {m:Ql} {B:Qk} {g:Gs},(∀x∈S,G30 y x)->G30 y g->(∀k,k<S.length->0<=rsT S m B k)->∀x∈mT n S m B++[g],GOk y x:=λc W i x a=>by
  rcases Xu.mp a with a|a
  .exact P7 c i x a
  .rw[Xj.mp a];exact AT W.ok
 refine H0.evHXn S7 (λf H RR v M ts Ψ q h J A outer s j=>?_) (λf F H RR ts Φ q N h J A outer s j=>?_)
 .cases h with
  |@mk y n S m B X g I c W gl Q i l h=>
   refine#[_,(Qx (QQ (V3<|ZL<|Q6 u j<|Qs (Zp u0) va1) Z9 QS)
 (Qx (Zj<|YO z D j (WO (C:=ct)) u0<|Qs (QI QJ vb1 Qw) Qp)
 (Qx (Zj<|VV E j (V2 q)<|Qs (Zp u0)<|Qs (QL YH (Mp t D j u0)<|Zk va1) Qp)
 (PSs.nox (Qx (Zj<|ZD zP zS zT V6 (Zp u0) va1)
 (Qx (Zj<|ZD zP zS zT V6 (Zp u0)<|Qs Qw Qp)
 (Qy<|QK<|QL Wi (Zx Vt T.len Vr<|Qs (Zp u0) Qp) Qw))))))),Nf ?_]
   show EvR K _ [zo v<|Zf CH<|hT y n S m B X,zf<|QT g] _;refine W6 (Zc (b:=false) (Fz 0 rfl (Vm (b:=true)<|Z2<|QN (Qu (Qr.cast (J9 D rfl) rfl)<|Qu Qq Q0)<|R_isguest.mk W)) nf λ_=>QX rfl)<|W6 (Ga (Ml 0 rfl (λr j=>by rw[j];exact Bf rfl)<|Mv GV rfl (Qu ((λ{Z g} e=>V5 (Qq e) Qz rfl) rfl) Q0) (R_hpast.mk<|by show(n:Int)<=(g.first);lia) Ja) rfl) ?_
   try walk_at"d"
   refine W6 (Ga (Ml 0 rfl (λr j=>by rw[j];exact Bf rfl)<|OG (Qu (Qr.cast (J9 D rfl) rfl)<|Qu (o gl rfl rfl l) Q0) (R_refuse.mk I (p c W i) (by rw[Xr,GJ];show S.length+1<=8;lia) h) q) rfl)<|W6 (ZrE D rfl Qq (by show(S.map QT).length<1000;rw[Xe];lia) rfl)<|VQ (λG=>G=[zo v<|Zf CH<|hT y n (S++[g]) (m++[0]) B X,zf<|QT g]) (ZqQ D rfl Qz (by show m.length<1000;lia) ?_) ?_
   .simp[hT]
   rintro _ rfl;refine UO (Qr.cast (NJ (d:=.int ((S.length)+1-1)) 0 rfl rfl (ZB (Qr.cast (YL<|M3 D rfl) ?_) Qz)) ?_) #[_,#[rfl,rfl],rfl]
   .show PyData.int (((S++[g]).map QT).length)=_
    rw[Xe,Xr];rfl
   .rw[Int.add_sub_cancel]
 .cases h with
  |@mk y n S m B X g I c W gl Q i l gs h=>
   refine#[_,(Qx (QQ (V3<|ZL<|Q6 u j<|Qs (Zp u0) va1) Z9 QS)
 (Qx (Zj<|YO z D j (WO (C:=ct)) u0<|Qs (QI QJ vb1 Qw) Qp)
 (Qx (Zj<|VV E j (V2 q)<|Qs (Zp u0)<|Qs (QL YH (Mp t D j u0)<|Zk va1) Qp)
 Z9))),?_]
   exact WS (Zc (b:=false) (Vm (b:=true)<|Z2<|QN (Qu (Qr.cast (J9 D rfl) rfl)<|Qu Qq Q0)<|R_isguest.mk W) nf λ_=>QX rfl)<|WS (Ga (Mv GV rfl (Qu ((λ{Z g} e=>V5 (Qq e) Qz rfl) rfl) Q0) (R_hpast.mk<|by show(n:Int)<=(g.first);lia) Ja) rfl)<|Wj (Ot (Qu (Qr.cast (J9 D rfl) rfl)<|Qu (o gl rfl rfl l) Q0) (X_refuse.mk I (p c W i) (by rw[Xr,GJ];show S.length+1<=8;lia) h) q N)
def gfD(f:Qn)(m:Nat):Zs:=((List.range m).filter λk=>decide (f k > 0)).map λ(k:Nat)=>(.inl (k:Int),.int<|f k)
def gvT(h:Ql)(f:Qn)(m i:Nat):Ql:=(List.range m).map λk=>h.getD k 0+if k<i then f k else 0
def AM{m:Nat}(h:gv.length=m)(f:Qn):gvT gv f m 0=gv:=by
 subst h;apply List.ext_getElem?;intro i;by_cases j:i<gv.length
 .simp[gvT,j]
 .simp[gvT,j]
def Ztb{f:Qn}{m:Nat}(h:m<=i):((gfD f m).any λq=>decide (q.1=(.inl (i:Int):Key)))=false:=by
 rw[List.any_eq_false];intro x s;apply I0 (Xs.mp s);rintro k j rfl;have j:=YB.mp (MB.mp j).1;lia
def O7{f:Qn}(h:f i > 0):B5 (gfD f i) (.inl (i:Int)) (.int<|f i)=gfD f (i+1):=by
 unfold B5;rw[Ztb<|Xm _];unfold gfD;rw[WF];simp[h]
def Oj{f:Qn}(h:¬f i > 0):gfD f (i+1)=gfD f i:=by
 unfold gfD;rw[WF];simp[h]
def IE(f:Qn)(m:Nat):(gfD f m).length<=m:=by
 unfold gfD;rw[Xe];exact Xt (MJ _ _) (by simp)
def Ih{f:Qn}{m:Nat}(q:i<m):(gvT gv f m i).set i (gv.getD i 0+f i)=gvT gv f m (i+1):=by
 apply List.ext_getElem?;intro j;by_cases h:j<m
 .by_cases e:j=i
  .subst e;simp[gvT,h]
  .rw[X7<|Ne.symm e];simp only[gvT,XG,List.getElem?_range h,WE];congr 2;lia
 .rw[List.getElem?_eq_none<|by simp[gvT];lia,List.getElem?_eq_none<|by simp[gvT];lia]
def O1{f:Qn}{m:Nat}(h:f i=0):gvT gv f m (i+1)=gvT gv f m i:=by
 refine Ux λk _=>?_
 congr 1
 grind
def Ek{f:Qn}{m:Nat}(h:k<m):(gvT gv f m i)[k]?=some (gv.getD k 0+if k<i then f k else 0):=by simp[gvT,h]
def ZtF{y:Yd}(h:i<G.m):((WP y G φ).map λf=>PyData.list<|f.map PyData.int)[i]?=some (.list<|(List.range y.T).map λt=>PyData.int<|Zv G φ t i):=by
 unfold WP;simp[h]
inductive R_hturn:HandS->List OT->(OT->HandS->Prop)->Prop
 |mk {y:Yd}{n:Nat}{S:List Gs}{gv:Ql}{go:Qk}{ms:List Zs}(ok:y.Ok)(hg:∀x∈S,G30 y x)(gl:gv.length=S.length)(hn:n<y.T)(h0:∀k,k<S.length->0<=rsT S gv go k)(l:S.length<=8)(ml:ms.length<=8):
  R_hturn (hT y n S gv go ms) [] (λr N'=>∃φ v,Gw y (QR<|mT n S gv go) φ/\r=.own v (dkP<|gfD (Zv (QR<|mT n S gv go) φ n) S.length)/\N'=hT y (n+1) S (gvT gv (Zv (QR<|mT n S gv go) φ n) S.length S.length) go (ms++[gfD (Zv (QR<|mT n S gv go) φ n) S.length]))
inductive X_hturn(CH:Addr):List OT->(Unit->Prop)->Prop
 |mk {y:Yd}{S:List Gs}{gv:Ql}{go:Qk}{ms:List Zs}:X_hturn CH [.zow<|QY CH<|hT y y.T S gv go ms] (λ_=>True)
def M5:Qo ["self","filling","gifts","number","takes"] Zav (Q8 RU):=by walk_at"p"
def ZsG(T:Bl mg)(a:HandC K CH)(H0:Mf K CH "turn" "Hand.turn" RU Zav)(E:ZH P w K mg base CH "refuse_past" ZaG 1 (Zg K ct Z6 (R_hpast CH)<|X_hpast CH))(G:Q2 P w K mg base "turns_of" ZaH 1 (QA (K:=K) R_turns))(Xcd:Q2 P w K mg base "best_filling" Zaa 6 (Zm K R_great))(Xbw:ZG P w K mg base CH "still_there" Zav 5 (Zm K<|R_hstill CH)):
 ZH P w K mg base CH "turn" Zav 7 (G6 K CH ct Z6 R_hturn<|X_hturn CH):=by
 refine H0.evHXn M5 (λf H RR v M ts Ψ X h U A outer s Y=>?_) (λf F H RR ts Φ X hq h U A outer s Y=>?_)
 .cases h with
  |@mk y n S q B p ok hg gl J h0 l ml=>
   refine#[_,(Qx (Zj<|YO E a Y (V2 X) u0<|Qs (QL Wi (Q6 G Y<|Qs (Zp u0) Qp) Qw) Qp)
 (PSs.nox (Qx (QP 1 M5.nd<|Q6 Xcd Y<|Qs (Zp u0)<|Qs (Mp Xbw a Y u0) Qp)
 (Qx (QP 2 M5.nd Fj)
 (Qx (Vx zN rfl (by exact(Hr rfl T.enumerate va1)) (GP (n:=2) rfl (Wo (ZF 3 M5.nd)<|Wo (ZF 4 M5.nd) GX)) (by exact(Qy (QQ (Ze Jv (QI QJ t4<|Zp u0) Qw) (Qx (Ly (Wy Y) u2 y3 (QI QJ t4<|Zp u0) rfl)
 (Qy<|BT (Zp u0) y3 Md (QI QJ t4<|Zp u0) D3 Jh)) QS))))
 (Qx (Zj<|ZD zP zS zT V6 (Zp u0) y2)
 (Qx (ZqR u0 Qw El)
 (Qy<|QK<|Vy Zst T.dict Iw y2)))))))),Nf ?_]
   walk_at"x";refine W6 (Ga (Ml 0 rfl (λr Y=>by rw[Y];exact Bf rfl)<|Mv GV rfl (Qu (ZB (QN (Qu (Qr.cast (J9 a rfl) rfl) Q0) R_turns.mk) Qz) Q0) (R_hpast.mk<|by show(n:Int)<=(y.T)-1;lia) X) rfl)<|VQ (λj=>∃W,Gw y (QR<|mT n S q B) W/\j=[zo v<|Zf CH<|hT y n S q B p,some<|.oll<|(WP y (QR<|mT n S q B) W).map λm=>m.map PyData.int,none,none,none]) (WY (Ml 0 rfl ?th<|YK (Qu (Qr.cast (J9 a rfl) rfl)<|Qu (Qr.cast (EvO.fz<|Zz.o<|NM LY rfl Q0<|R_hstill.mk (rsT S q B) rfl rfl (λk L=>LR gl L)<|#[])<|by rw[Th]) Q0)<|R_great.mk ok (P7 hg h0)<|by rw[GJ];exact l) ?_) ?_
   case th=>
    rintro r ⟨W,_,rfl⟩;refine ZtI λds R=>?_;apply I0 (Xs.mp R);rintro m _ rfl;intro d Q;apply I0 (Xs.mp Q);rintro x _ rfl
    exact#[_,rfl]
   .rintro r ⟨W,D,rfl⟩;exact#[W,D,rfl]
   rintro _ ⟨W,D,rfl⟩;refine E4 1 rfl rfl ?_;rw[Xx];have Gm:(QR<|mT n S q B).m=S.length:=GJ n S q B;have fn:∀k,k<S.length->0<=Zv (QR<|mT n S q B) W n k:=λk L=>(D.1.tak (by rw[Gm];exact L) J).1;have e:∀i,i<S.length->((WP y (QR<|mT n S q B) W).map (PyData.list ∘ λm=>m.map PyData.int))[i]?=some (.list<|(List.range y.T).map λt=>PyData.int<|Zv (QR<|mT n S q B) W t i):=λi b=>ZtF (by rw[Gm];exact b)
   have g:((WP y (QR<|mT n S q B) W).map (PyData.list ∘ λm=>m.map PyData.int)).length=S.length:=by
    rw[Xe];unfold WP;rw[Xe,List.length_range,Gm]
   generalize ((WP y (QR<|mT n S q B) W).map (PyData.list ∘ λm=>m.map PyData.int))=C at e g;refine VQ (λj=>∃w,j=[zo v<|Zf CH<|hT y n S q B p,zf<|.list C,zo w<|dkP [],none,none]) (Ni Zt6 λw=>#[w,rfl]) ?_;rintro _ ⟨w,rfl⟩;generalize O:Zv (QR<|mT n S q B) W n=f at fn;have o:∀i,i<S.length->∃ts,C[i]?=some (.list ts)/\atI ts (n)=some (.int<|f i):=λi b=>#[_,e i b,by rw[PZ #[]<|#[],X8,<- O]];refine VQ (λj=>∃z u:Option OT,j=[zo v<|Zf CH<|hT y n S (gvT q f S.length S.length) B p,zf<|.list C,zo w<|dkP<|gfD f S.length,z,u]) (Yr (λi j=>∃z u:Option OT,j=[zo v<|Zf CH<|hT y n S (gvT q f S.length i) B p,zf<|.list C,zo w<|dkP<|gfD f i,z,u]) (BR<|Qu Qq Q0) #[_,_,by rw[AM gl];rfl] ?st ?fin) ?_
   case fin=>
    intro j h;rwa[Mr,g]at h
   case st=>
    rintro i d _ R ⟨z,u,rfl⟩;apply I0 (Mt R);rintro d1 e1 rfl;have b:i<S.length:=by
     have:=(Xh.mp e1).1;lia
    apply I0 (o i b);intro ts t1 t2;obtain rfl:=by rw[e1]at t1;exact Option.some.inj t1
    refine#[_,WJ (Yl Zw<|Yl Zw J1) rfl,?_];walk_at"d";have I:∀{Z:ZbB} {N:HandS},N.now=(n)->Z[0]?=some (zz<|QY CH N)->Z[4]?=some (zf<|.list ts)->Qr K (tOp (rIx K) (Q5 4)<|Va K (Q5 0) "present") Z (.int<|f i):=λ{Z N} J e0 e4=>ZZ (Qq e4) (Qr.cast (Mc a e0)<|by rw[J]) t2;refine Zc (QZ.cast (Fz 0 rfl (Zq<|Yj (I rfl rfl rfl) Qz)) rfl) (λc=>?_) (λc=>QX ?_)
    .have c:=Wq c;refine Q9 (Zsi (k:=.inl (i)) rfl (NJ 0 rfl rfl (I rfl rfl rfl)) Qq (Hx (IE f i)<|Vz<|#[]) ?_);walk_at"d";rw[O7 c];refine IP a rfl Qq #[] (by show(gvT q f S.length i)[(i:Int).toNat]?=_;rw[X8,Ek b,Xg<|Ym i]) (NJ 0 rfl rfl (I rfl rfl rfl)) ?_;dsimp only[List.set,hT];rw[X8,Int.add_zero,Ih b];exact#[_,_,rfl]
    .have fi:=fn i b;rw[Oj (MG c),O1 (show f i=0 by lia)];exact#[_,_,rfl]
   rintro _ ⟨z,u,rfl⟩;refine ZsJ (by decide) a rfl rfl (by show p.length<1000;lia) λw'=>#[_,#[W,w',D,?_,?_],rfl]
   .rw[O]
   .rw[O];rfl
 .cases h with
  |@mk y S q B p=>
   refine#[_,(Qx (Zj<|YO E a Y (V2 X) u0<|Qs (QL Wi (Q6 G Y<|Qs (Zp u0) Qp) Qw) Qp)
 Z9),?_]
   exact Wj (Be bkN GV rfl (Qu (ZB (QN (Qu (Qr.cast (J9 a rfl) rfl) Q0) R_turns.mk) Qz) Q0) (X_hpast.mk<|by show(y.T:Int)-1<(y.T);lia) X hq)
inductive R_hnow(CH:Addr):List OT->(OT->Prop)->Prop
 |mk {N:HandS}:R_hnow CH [.zow<|QY CH N] (λr=>r=.fz (.int N.now))
def Zm1:Qo Zav Zav (Q8 RJ):=by walk_at"p"
def O4(T:Bl mg)(m:HandC K CH)(H0:Mf K CH "now" "Hand.now" RJ Zav):ZG P w K mg base CH "now" Zav 1 (Zm K<|R_hnow CH):=by
 refine H0.evD Zm1 (λf ts q h H C j A outer s B=>?_);cases h with
 |@mk N=>
  refine#[_,(Qy<|QK<|Zp u0),?_];show QE K _ [_] _
  walk_at"x";exact Zh (Mc m rfl) rfl
def Zhg:Qo Zav Zav (Q8 S8):=by walk_at"p"
def Zsg(T:Bl mg)(j:HandC K CH)(H0:Mf K CH "yard_now" "Hand.yard_now" S8 Zav):ZG P w K mg base CH "yard_now" Zav 1 (spY CH):=by
 refine SF H0.ex λf fd F B C=>#[f,fd,B,C,F.ok Zhg (λm H Q W h=>by apply aZ h;rintro a u y n k g d e⟨rfl,_⟩;rfl) λm H Q W h M A outer s X=>#[_,(Qy<|QK<|Zp u0),?_]];apply aZ h;rintro a u y n k g d e⟨rfl,D,q⟩;exact#[_,rfl,a,CH,u,_,y,rfl,D,j.cl,j.yd,rfl,q]
def We(sep a:Str)(xs:Qh):Str:=xs.foldl (λt x=>t++sep++x) a
def Mq(sep a x:Str)(xs:Qh):We sep a (x::xs)=We sep (a++sep++x) xs:=rfl
def ZpR(sep a x:Str)(xs:Qh):We sep a (xs++[x])=We sep a xs++sep++x:=by
 unfold We;rw[List.foldl_append];rfl
theorem Hk(sep p:Str):∀(xs:Qh) (a:Str),We sep (p++a) xs=p++We sep a xs
 |[],_=>rfl
 |x::xs,a=>by
  rw[Mq,Mq,<- Hk sep p xs];simp only[Str.append_assoc]
theorem Je(sep:Str):∀(xs:Qh) (a:Str),Str.join sep (a::xs)=We sep a xs
 |[],_=>rfl
 |x::xs,a=>by
  show a++sep++Str.join sep _=_;rw[Mq,Je sep xs,Hk]
theorem DU{sep:Str}{B:Nat}:∀(xs:Qh) (a:Str),(∀x∈xs,x.length<=B)->(We sep a xs).length<=a.length+xs.length*(sep.length+B)
 |[],a,_=>by simp[We]
 |x::xs,a,h=>by
  have U:=DU (sep:=sep) xs (a++sep++x) λz f=>h z (Xf _ f);have j:=h x Xb;rw[Mq];rw[Str.length_append,Str.length_append]at U;rw[XY];lia
theorem Lv{B:Nat}:∀(xs:Qh),(∀x∈xs,x.length<=B)->(xs.map (·.length)).sum<=xs.length*B
 |[],_=>by simp
 |x::xs,h=>by
  have U:=Lv xs λz f=>h z (Xf _ f);have j:=h x Xb;rw[Xy,Gp,XY];lia
def DG{B:Nat}{xs:Qh}{sep:Str}(h:∀x∈xs,x.length<=B)(f:sep.length<=1)(hn:xs.length<=n)(j:n*(B+1)<=16777216):(xs.map (·.length)).sum+xs.length*sep.length<=16777216:=by
 have U:=Lv xs h;have q:xs.length*sep.length<=xs.length*1:=Nat.mul_le_mul_left _ f;have m:xs.length*(B+1)<=n*_:=Nat.mul_le_mul_right _ hn;lia
def nS(i:Int):Str:=Str.ofString (toString i)
def sD:PyData->Str
 |.int i=>nS i
 |.str x=>x
 |_=>Str.empty
inductive SOk:PyData->Prop
 |int {i:Int}(h0:0<=i)(U:i<10^300):SOk (.int i)
 |str {x:Str}(h:x.length<=10):SOk (.str x)
def GL{i:Int}(h:0<=i)(U:i<10^300):i.natAbs.log2<1920:=by
 by_cases e:i.natAbs=0
 .rw[e];decide
 .rw[Nat.log2_lt e];have f:(i.natAbs:Int)<((2^1920:Nat)):=by
   have:=Int.natAbs_of_nonneg h;rw[this];exact Int.lt_trans U (by decide +kernel)
  exact Int.ofNat_lt.mp f
def Dt(f:0<=i)(U:i<10^300):(nS i).length<=300:=PyProof.Rows.toString_length_le f (by decide) U
def KH(h:SOk d):(sD d).length<=300:=by
 cases h with
 |int f U=>exact Dt f U
 |str h=>exact Xt h (by decide)
def JQ(w:Str)(ds:Qd):Str:=We " " w (ds.map sD)
def NB{w:Str}(hw:w.length<=10)(hn:ds.length<=10)(h:∀d∈ds,SOk d):(JQ w ds).length<=3100:=by
 have U:=DU (sep := " ") (ds.map sD) w λx f=>by
  apply I0 (Xs.mp f);rintro d j rfl;exact KH (h d j)
 have m:(ds.map sD).length*(Str.length " " + 300)<=10*301:=by
  rw[Xe];exact Nat.mul_le_mul hn (by decide)
 unfold JQ;lia
def upT:Option Nat->PyData
 |none=>.str "-"
 |some a=>.int (a:Int)
def lnD(l:Ln):Qd:=upT l.up::l.bs.map PyData.int
def VO(l:Ln):Str:=JQ "line" (lnD l)
def gsD(g:Gs):Qd:=[.int (g.line:Int),.int (g.first:Int),.int (g.last:Int),.int g.want,.int g.most]
def YY(g:Gs):Str:=JQ "guest" (gsD g)
structure LnT(l:Ln):Prop where
 up:∀a,l.up=some a->a<=8
 ln:l.bs.length<=8
 bs:∀b∈l.bs,0<=b/\b<10^300
structure GsT(g:Gs):Prop where
 line:g.line<=8
 first:g.first<=8
 last:g.last<=8
 w0:0<=g.want
 w:g.want<10^300
 m0:0<=g.most
 m:g.most<10^300
def Uo{a:Nat}(h:a<=8):(a:Int)<10^300:=ME (show _<=8 by lia) (by decide +kernel)
def LnT.ok(h:LnT l):∀d∈lnD l,SOk d:=λd f=>by
 rcases Xc.mp f with rfl|f
 .cases e:l.up with
  |none=>exact .str (by decide)
  |some a=>exact .int #[] (Uo<|h.up a e)
 .apply I0 (Xs.mp f);rintro b j rfl;exact .int (h.bs b j).1 (h.bs b j).2
def GsT.ok(h:GsT g):∀d∈gsD g,SOk d:=λd f=>by
 simp only[gsD,Xc,XH,or_false]at f;rcases f with rfl|rfl|rfl|rfl|rfl
 .exact .int #[] (Uo h.line)
 .exact .int #[] (Uo h.first)
 .exact .int #[] (Uo h.last)
 .exact .int h.w0 h.w
 .exact .int h.m0 h.m
def Oz(h:LnT l):(lnD l).length<=9:=by
 have:=h.ln;simp[lnD];lia
def Zr0(h:LnT l):(VO l).length<=3100:=NB (by decide) (Xt (Oz h)<|by decide) h.ok
def ZnU(h:GsT g):(YY g).length<=3100:=NB (by decide) (by simp[gsD]) h.ok
structure YdT(y:Yd):Prop where
 t:y.T<=8
 n:y.ls.length<=5
 ls:∀l∈y.ls,LnT l
def Zf3(y:Yd):Str:=JQ "yard" [.int (y.T:Int)]
def ZpM(h:YdT y):(Zf3 y).length<=3100:=NB (by decide) (by simp) λd f=>by
 rcases Xc.mp f with rfl|f
 .exact .int #[] (Uo h.t)
 .cases f
noncomputable def Wl(y:Yd)(S:List Gs):Str:=We "\n" (Zf3 y) (y.ls.map VO++S.map YY)
def LX:decide (V.str x=V.str y)=decide (x=y):=by
 simp_all
def WU(h:Qr K ta Z (.str x))(f:Qr K tb Z (.str y)):Qr K (tOp rEq ta tb) Z (.bool<|decide (x=y)):=by
 exact LX▸(TV h f rfl rfl λH Q q=>#[rfl,q])
def T8(h:Qr K ta Z (.str x))(f:Qr K tb Z (.str y)):Qr K (tOp rNe ta tb) Z (.bool<|!decide (x=y)):=by
 exact LX▸(En h f rfl rfl λH Q q=>#[rfl,q])
def Ig:∀d:Nat,d<10->0<d->Nat.digitChar d≠'0':=by decide
def Zt3(m:Nat):0<m->∃c r,Nat.toDigits 10 m=c::r/\c≠'0':=by
 induction m using Nat.strongRecOn with
 |_ m f=>
  intro s;by_cases h:m<10
  .rw[Nat.toDigits_of_lt_base h];exact#[_,_,rfl,Ig m h s]
  .have t:Nat.toDigits 10 (m/10)++Nat.toDigits 10 _=Nat.toDigits 10 _:=Nat.toDigits_append_toDigits (by decide) #[] (Nat.mod_lt m (by decide));rw[Nat.div_add_mod]at t;apply L0 (f (m/10) #[] #[]);intro c r e q;rw[<- t,e];exact#[c,_,rfl,q]
def D1(m:Nat):(nS ((m:Nat):Int)).cps.toList=(Nat.toDigits 10 m).map Char.toNat:=W.KIN.signs_num m
def Dw(j:0<=i):∀c∈(nS i).cps.toList,48<=c/\c<=57:=by
 obtain⟨m,rfl⟩:=HB j;intro c h;rw[D1]at h;apply I0 (Xs.mp h);exact λq f e=>e▸(PyProof.Rows.digit_range (Nat.isDigit_of_mem_toDigits (by decide) (by decide) f))
def Pu(f:0<=i):(nS i).cps.toList≠[]:=by
 obtain⟨m,rfl⟩:=HB f;rw[D1];simp_all
def ZsO(h:0<i):∃c r,(nS i).cps.toList=c::r/\c≠48:=by
 obtain⟨m,rfl⟩:=HB (Int.le_of_lt h);apply L0 (Zt3 m #[]);intro c r e f;rw[D1,e];exact#[c.toNat,r.map Char.toNat,rfl,λz=>f (Char.toNat_inj.mp z)]
def EE(f:0<=i)(U:i<10^300):PySem.intText? (nS i)=some i:=by
 have e:=PySem.intText_digits (Dw f) (Pu f) (Xt (Dt f U)<|by decide);obtain⟨m,rfl⟩:=HB f;rwa[D1,W.KIN.val_back]at e
def YS(c:Nat):Bool:=decide (48<=c)&&decide (c<=57)
def Ob:∀c:Nat,c<128->(!(Builtin.Str.occurrences "0123456789" #[(List.toArray [c])] 0 (Str.length "0123456789") 1).isEmpty)=YS c:=by decide +kernel
def Asc(x:Str):Prop:=x.cps.all (· < 128)=true
def Asc.lt(h:Asc x):∀c∈x.cps.toList,c<128:=by
 unfold Asc at h;rw[<- Array.all_toList,X5]at h;exact λc f=>Wq (h c f)
def KL(h:∀c∈x.cps.toList,c<128):Asc x:=by
 unfold Asc;rw[<- Array.all_toList,X5];exact λc f=>Yx (h c f)
noncomputable def Dp(x:Str):Bool:=decide (x = "0") || !decide (x.cps.toList.head?=some 48)
noncomputable def JV(x:Str):Bool:=decide ((1:Int)<=(x.length:Int))&&decide ((x.length:Int)<=30)
def V0(x:Str):Bool:=(JV x&&x.cps.toList.all YS)&&Dp x
def FP:(Str.ofString "0")=#[(List.toArray [48])]:=by decide +kernel
inductive R_isnum:List OT->OT->Prop
 |mk {x:Str}(h:Asc x)(hl:x.length<=10000000):R_isnum [.fz<|.str x] (.fz<|.bool<|V0 x)
def CY:Qo Zba Zba (Q8 Sb):=by walk_at"p"
def Zt7(T:Bl mg)(H0:Df K mg "is_number" Sb Zba):Q2 P w K mg base "is_number" Zba 1 (QA (K:=K) R_isnum):=by
 refine H0.ev CY (λf ts r h H i Y A outer s d=>?_);cases h with
 |@mk x h Z=>
  refine#[_,(Qx (QQ (PW.pt<|GG (V3<|N9 UL UL Qw (Zx Ow T.len Vr y0) Qw)<|GO<|V3<|ZL<|Zx BN T.all BK<|Qs (Yp CY ["sign"] [none] (EB u0) λ_=>(Wa EM u0 QG)) Qp) (Qy<|QK Yi) QS)
 (Qy<|QK<|P6 (Wa Z3 u0 QG)<|YJ<|Wa PN (QI Tl u0 Qw) QG)),?_]
  show QE K _ [_] _
  walk_at"x";have q:x.length<=sizeLine:=by rw[sizeLine_eq];lia
  have D:V0 x=((JV x&&x.cps.toList.all YS)&&Dp x):=rfl;cases m:JV x with
  |false=>
   rw[D,m];exact Q9 (Zc (b:=true) (JW (b:=true) (c:=true) (Vm (b:=false)<|QZ.cast (Zq<|UU Qz (FM (Qq rfl) q) Qz) m)<|by rintro⟨⟩) (λ_=>Zh Ww rfl)<|by rintro⟨⟩)
  |true=>
  have B:x.length<=30:=by
   unfold JV at m;simp only[XS,decide_eq_true_eq]at m;lia
  have a:1<=x.length:=by
   unfold JV at m;simp only[XS,decide_eq_true_eq]at m;lia
  rw[D,m];refine Q9 (Zc (b := !x.cps.toList.all YS) (JW (b:=false) (c := !x.cps.toList.all YS) (Vm (b:=true)<|QZ.cast (Zq<|UU Qz (FM (Qq rfl) q) Qz) m) λ_=>Vm (b:=x.cps.toList.all YS)<|QZ.cast (Z2<|B9 (bs:=x.cps.toList.map YS) (Qr.cast (EvO.fz<|YV (xs:=x.cps.toList) (enc:=λc=>PyData.str #[(List.toArray [c])]) (h:=λc=>.bool<|YS c) ?ei ?ln ?el)<|by rw[Xx];rfl) rfl)<|by rw[List.all_map];rfl) (λc=>Zh Ww ?_) λc=>QX ?_)
  case ei=>exact EC (Qq rfl) h
  case ln=>
   rw[Array.length_toList];exact Xt B (by decide)
  case el=>
   exact λc M g=>#[_,Zw,Qr.cast (EA (Qq rfl) QU)<|by rw[Ob c<|h.lt c M]]
  .have c:x.cps.toList.all YS=false:=by simpa using c
   rw[c];rfl
  have X:x.cps.toList.all YS=true:=by simpa using c
  rw[X];obtain⟨c,r,C⟩:∃c r,x.cps.toList=c::r:=by
   have:x.cps.toList.length=x.length:=Array.length_toList;cases z:x.cps.toList with
   |nil=>rw[z]at this;simp at this;lia
   |cons c r=>exact#[c,r,rfl]
  have W:(decide ((#[(List.toArray [c])]:Str) = "0"))=decide (x.cps.toList.head?=some 48):=by
   rw[C];refine decide_eq_decide.mpr #[λe=>?_,λe=>?_]
   .rw[FP]at e;cases e;rfl
   .cases e;exact FP.symm
  refine Zh (Qr.cast (Kh (b:=decide (x = "0")) (c := !decide (x.cps.toList.head?=some 48)) (WU (Qq rfl) QU) λ_=>Qr.cast (T8 (OL (c:=c) (Qq rfl) Qz q<|ZQ (j:=0)<|by rw[C];rfl) QU)<|by rw[W]) rfl) ?_;rfl
def UE(ws:Qh):Bool:=ws.all V0
structure Wds(ws:Qh):Prop where
 n:ws.length<=100
 asc:∀w∈ws,Asc w
 len:∀w∈ws,w.length<=10000000
def Wds.sub(h:Wds ws)(m:vs.length<=ws.length)(j:∀w∈vs,w∈ws):Wds vs:=#[Xt m h.n,λw f=>h.asc w<|j w f,λw f=>h.len w<|j w f]
def Wds.drop(h:Wds ws)(k:Nat):Wds (ws.drop k):=h.sub (by rw[Bs];lia) λw f=>Bp f
inductive R_arenums:List OT->OT->Prop
 |mk {ws:Qh}(h:Wds ws):R_arenums [.fz<|.list<|ws.map PyData.str] (.fz<|.bool<|UE ws)
def Ak:Qo Zah Zah (Q8 Sg):=by walk_at"p"
def ZoL(T:Bl mg)(H0:Df K mg "are_numbers" Sg Zah)(j:Q2 P w K mg base "is_number" Zba 1 (QA (K:=K) R_isnum)):Q2 P w K mg base "are_numbers" Zah 2 (QA (K:=K) R_arenums):=by
 refine H0.ev Ak (λf ts r h H W C A outer s B=>?_);cases h with
 |@mk m h=>
  refine#[_,(Qy<|QK<|Zx BN T.all BK<|Qs (Yp Ak Zba [none] (Yv u0) λ_=>(Q6 j B y0)) Qp),?_];show QE K _ [_] _
  walk_at"x";have D:=h.n;refine Zh (Qr.cast (B9 (bs:=m.map V0) (Qr.cast (EvO.fz<|YV (xs:=m) (enc:=PyData.str) (h:=λx=>.bool<|V0 x) ?ei #[] ?el)<|by rw[Xx];rfl) rfl)<|by rw[List.all_map];rfl) rfl
  case ei=>exact Y9 (Qq rfl)
  case el=>
   exact λx q M=>#[_,Zw,QN (Qu (Qq rfl) Q0) (R_isnum.mk (h.asc x q)<|h.len x q)]
def nw(x:Str):Nat:=PySem.NumText.digitsVal x.cps.toList
def nv(x:Str):Int:=((PySem.NumText.digitsVal x.cps.toList:Nat):Int)
def FX(h:V0 x=true):JV x=true/\x.cps.toList.all YS=true/\Dp x=true:=by
 unfold V0 at h;simp only[XS]at h;exact#[h.1.1,h.1.2,h.2]
def DA(h:V0 x=true):1<=x.length/\x.length<=30:=by
 have h:=(FX h).1;unfold JV at h;simp only[XS,decide_eq_true_eq]at h;lia
def Lq(h:V0 x=true):PySem.NumText.AllDigits x.cps.toList:=λc f=>by
 have h:=X5.mp (FX h).2.1 c f;unfold YS at h;simp only[XS,decide_eq_true_eq]at h;exact h
def D6(h:V0 x=true):PySem.intText? x=some (nv x):=by
 obtain⟨j,f⟩:=DA h;refine PySem.intText_digits (Lq h) (λe=>?_) #[];have:x.cps.toList.length=x.length:=Array.length_toList;rw[e]at this;simp at this;lia
inductive R_numsof:List OT->OT->Prop
 |mk {ws:Qh}(h:∀x∈ws,V0 x=true)(hl:ws.length<=100):R_numsof [.fz<|.list<|ws.map PyData.str] (.fz<|.tuple<|ws.map λx=>.int<|nv x)
def Ag:Qo Zah Zah (Q8 Sz):=by walk_at"p"
def Zrz(T:Bl mg)(H0:Df K mg "numbers_of" Sz Zah):Q2 P w K mg base "numbers_of" Zah 1 (QA (K:=K) R_numsof):=by
 refine H0.ev Ag (λf ts r h H M q A outer s B=>?_);cases h with
 |@mk m h C=>
  refine#[_,(Qy<|QK<|Vy Ha T.tuple Ba<|Qs (Yp Ag Zba [none] (Yv u0) λ_=>(Vy Nx T.int BO y0)) Qp),?_];show QE K _ [_] _
  walk_at"x";refine Zh (PX<|EvO.fz<|YV (xs:=m) (enc:=PyData.str) (h:=λx=>.int<|nv x) ?ei #[] ?el) rfl
  case ei=>exact Y9 (Qq rfl)
  case el=>
   exact λx j D=>#[_,Zw,Nu (Qq rfl) (D6<|h x j) (Xt (DA<|h x j).2 (by decide))]
def wA(ws:Qh)(k:Nat):Str:=ws.getD k Str.empty
def Ty(h:k<ws.length):wA ws k=ws[k]:=by simp[wA,h]
def U2{ws:Qh}{k:Nat}(h:k<ws.length):(ws.map PyData.str)[k]?=some (.str<|wA ws k):=by
 rw[XG,XJ h,Ty h];rfl
def KR(h:k<ws.length):wA ws k∈ws:=by
 rw[Ty h];exact XX h
def wsD(ws:Qh):PyData:=.list (ws.map PyData.str)
def J7{f:Type}(xs:List f)(k:Nat)(h:k<=xs.length):cut xs (some ((k:Nat):Int)) none=xs.drop k:=by
 unfold cut;rw[HT.sIx_nat,Nat.min_eq_left h];show(xs.drop k).take (xs.length-k)=_;rw[<- Bs,JE]
def KB{f:Type}(xs:List f)(k:Nat)(h:k<=xs.length):cut xs none (some ((k:Nat):Int))=xs.take k:=by
 unfold cut;rw[HT.sIx_nat,Nat.min_eq_left h];rfl
def UG(ws:Qh)(k:Int):Bool:=decide ((ws.length:Int)=k)
noncomputable def isY(ws:Qh):Bool:=decide (wA ws 0 = "yard")&&(UG ws 2&&V0 (wA ws 1))
def upB(x:Str):Bool:=decide (x = "-")||V0 x
noncomputable def isL(ws:Qh):Bool := !((!decide (wA ws 0 = "line"))||decide ((ws.length:Int)<3))&&(upB (wA ws 1)&&UE (ws.drop 2))
noncomputable def isG(ws:Qh):Bool:=decide (wA ws 0 = "guest")&&(UG ws 6&&UE (ws.drop 1))
def ZrU(h:UG ws k=true):(ws.length:Int)=k:=Wq h
inductive R_isyardrow:List OT->OT->Prop
 |mk {ws:Qh}(h:Wds ws)(U:1<=ws.length):R_isyardrow [.fz<|wsD ws] (.fz<|.bool<|isY ws)
def Zi8:Qo Zah Zah (Q8 Sq):=by walk_at"p"
def ZkM(T:Bl mg)(H0:Df K mg "is_yard_row" Sq Zah)(B:Q2 P w K mg base "is_number" Zba 1 (QA (K:=K) R_isnum)):Q2 P w K mg base "is_yard_row" Zah 2 (QA (K:=K) R_isyardrow):=by
 refine H0.ev Zi8 (λf ts r h H M D A outer s C=>?_);cases h with
 |@mk m h U=>
  refine#[_,(Qy<|QK<|Yq (Wa Z3 (QI QJ u0 Qw) QG)<|Yq (Wa Z3 (Zx Vt T.len Vr y0) Qw)<|YJ<|Q6 B C<|Qs (QI QJ u0 Qw) Qp),?_];show QE K _ [_] _
  walk_at"x";refine Zh (VC (WU (ZZ (ds:=m.map PyData.str) (d:=.str (wA m 0)) (Qq rfl) Qz<|ZQ (j:=0)<|U2 U) QU) λ_=>VC (b:=UG m 2) (Qr.cast (VP (YL (ds:=m.map PyData.str)<|Qq rfl) Qz)<|by rw[Xe];rfl) λc=>?_) rfl;have q:1<m.length:=by have:=ZrU c;lia
  exact QN (Qu (ZZ (ds:=m.map PyData.str) (d:=.str (wA m 1)) (Qq rfl) Qz<|ZQ (j:=1)<|U2 q) Q0) (R_isnum.mk (h.asc _<|KR q)<|h.len _<|KR q)
inductive R_islinerow:List OT->OT->Prop
 |mk {ws:Qh}(h:Wds ws)(U:1<=ws.length):R_islinerow [.fz<|wsD ws] (.fz<|.bool<|isL ws)
def Zi2:Qo Zah Zah (Q8 Sl):=by walk_at"p"
def Zkw(T:Bl mg)(H0:Df K mg "is_line_row" Sl Zah)(B:Q2 P w K mg base "is_number" Zba 1 (QA (K:=K) R_isnum))(q:Q2 P w K mg base "are_numbers" Zah 2 (QA (K:=K) R_arenums)):Q2 P w K mg base "is_line_row" Zah 3 (QA (K:=K) R_islinerow):=by
 refine H0.ev Zi2 (λf ts r h H a X A outer s D=>?_);cases h with
 |@mk m h U=>
  refine#[_,(Qx (QQ (PW.pt<|GG (Ze PN (QI QJ u0 Qw) QG)<|GO<|Ze Jw (Zx Vt T.len Vr y0) Qw) (Qy<|QK Yi) QS)
 (Qy<|QK<|Yq (P6 (Wa Z3 (QI QJ u0 Qw) QG)<|YJ<|Q6 B D<|Qs (QI QJ u0 Qw) Qp)<|YJ<|Q6 q D<|Qs (VS VW u0 (VU Qw) VT) Qp)),?_]
  show QE K _ [_] _
  walk_at"x";have M:isL m=(!((!decide (wA m 0 = "line"))||decide ((m.length:Int)<3))&&(upB (wA m 1)&&UE (m.drop 2))):=rfl;refine Q9 (Zc (b:=(!decide (wA m 0 = "line"))||decide ((m.length:Int)<3)) (JW (Zq<|T8 (ZZ (ds:=m.map PyData.str) (d:=.str (wA m 0)) (Qq rfl) Qz<|ZQ (j:=0)<|U2 U) QU) λ_=>QZ.cast (Zq<|Yj (YL (ds:=m.map PyData.str)<|Qq rfl) Qz)<|by rw[Xe]) (λc=>Zh Ww<|by rw[M,c];rfl) λc=>QX ?_);rw[M,c];have Y:3<=m.length:=by
   simp only[Bool.or_eq_false_iff,decide_eq_false_iff_not]at c;lia
  exact Zh (VC (b:=upB (wA m 1)) (Kh (WU ((λe=>ZZ (ds:=m.map PyData.str) (Qq e) Qz (ZQ (j:=1)<|U2<|#[])) rfl) QU) λ_=>QN (Qu ((λe=>ZZ (ds:=m.map PyData.str) (Qq e) Qz (ZQ (j:=1)<|U2<|#[])) rfl) Q0)<|R_isnum.mk (h.asc _ (KR #[]))<|h.len _ (KR #[])) λ_=>QN (ts:=[.fz<|.list<|(m.drop 2).map PyData.str]) (Qu (Qr.cast (EvO.fz<|Wz (ds:=m.map PyData.str) (Qq rfl) (VF Qz) VE)<|by rw[show cut (m.map PyData.str) (some (2:Int)) none=_ from J7 _ 2<|by rw[Xe];lia,ML]) Q0)<|R_arenums.mk<|h.drop 2) rfl
inductive R_isguestrow:List OT->OT->Prop
 |mk {ws:Qh}(h:Wds ws)(U:1<=ws.length):R_isguestrow [.fz<|wsD ws] (.fz<|.bool<|isG ws)
def Ziq:Qo Zah Zah (Q8 SA):=by walk_at"p"
def ZjG(T:Bl mg)(H0:Df K mg "is_guest_row" SA Zah)(q:Q2 P w K mg base "are_numbers" Zah 2 (QA (K:=K) R_arenums)):Q2 P w K mg base "is_guest_row" Zah 3 (QA (K:=K) R_isguestrow):=by
 refine H0.ev Ziq (λf ts r h H D C A outer s B=>?_);cases h with
 |@mk m h U=>
  refine#[_,(Qy<|QK<|Yq (Wa Z3 (QI QJ u0 Qw) QG)<|Yq (Wa Z3 (Zx Vt T.len Vr y0) Qw)<|YJ<|Q6 q B<|Qs (VS VW u0 (VU Qw) VT) Qp),?_];show QE K _ [_] _
  walk_at"x";exact Zh (VC (WU (ZZ (ds:=m.map PyData.str) (d:=.str (wA m 0)) (Qq rfl) Qz<|ZQ (j:=0)<|U2 U) QU) λ_=>VC (b:=UG m 6) (Qr.cast (VP (YL (ds:=m.map PyData.str)<|Qq rfl) Qz)<|by rw[Xe];rfl) λc=>QN (ts:=[.fz<|.list<|(m.drop 1).map PyData.str]) (Qu (Qr.cast (EvO.fz<|Wz (ds:=m.map PyData.str) (Qq rfl) (VF Qz) VE)<|by rw[show cut (m.map PyData.str) (some (1:Int)) none=_ from J7 _ 1<|by rw[Xe];lia,ML]) Q0)<|R_arenums.mk<|h.drop 1) rfl
def rA(f:List (Qh))(k:Nat):Qh:=f.getD k []
def Ta(h:k<rows.length):rA rows k=rows[k]:=by simp[rA,h]
def HP(h:k<rows.length):(rows.map wsD)[k]?=some (wsD<|rA rows k):=by
 rw[XG,XJ h,Ta h];rfl
def Tv(h:k<rows.length):rA rows k∈rows:=by
 rw[Ta h];exact XX h
def Ju(f:List (Qh)):PyData:=.list (f.map wsD)
structure Rws(rows:List (Qh)):Prop where
 n:rows.length<=100
 ws:∀ws∈rows,Wds ws
 n1:∀ws∈rows,1<=ws.length
noncomputable def Wv(f:List (Qh))(k:Nat):Bool:=if k=0 then isY (rA f k) else if isL (rA f k)=true then !isG (rA f<|k-1) else (decide ((k:Int) > 1)&&isG (rA f k))
inductive R_isrowat:List OT->OT->Prop
 |mk {rows:List (Qh)}{k:Nat}(h:Rws rows)(hk:k<rows.length):R_isrowat [.fz<|Ju rows,.fz<|.int (k:Int)] (.fz<|.bool<|Wv rows k)
def Zk9:Qo ZaU ZaU (Q8 RQ):=by walk_at"p"
def ZnS(T:Bl mg)(H0:Df K mg "is_row_at" RQ ZaU)(Y:Q2 P w K mg base "is_yard_row" Zah 2 (QA (K:=K) R_isyardrow))(a:Q2 P w K mg base "is_line_row" Zah 3 (QA (K:=K) R_islinerow))(B:Q2 P w K mg base "is_guest_row" Zah 3 (QA (K:=K) R_isguestrow)):Q2 P w K mg base "is_row_at" ZaU 4 (QA (K:=K) R_isrowat):=by
 refine H0.ev Zk9 (λf ts r h H o n A outer s C=>?_);cases h with
 |@mk j k h g=>
  refine#[_,(Qx (QQ (Ze Z3 vb1 Qw) (Qy<|QK<|Q6 Y C<|Qs (QI QJ u0 vb1) Qp) QS)
 (Qx (QQ (ZL<|Q6 a C<|Qs (QI QJ u0 vb1) Qp) (Qy<|QK<|T9<|Q6 B C<|Qs (QI QJ u0<|QL Wi vb1 Qw) Qp) QS)
 (Qy<|QK<|Yq (Wa Jv vb1 Qw)<|YJ<|Q6 B C<|Qs (QI QJ u0 vb1) Qp))),?_]
  show QE K _ [_,_] _
  walk_at"x";have W:∀{Z:ZbB},Z[0]?=some (zf<|Ju j)->Z[1]?=some (zi (k:Int))->Qr K (tOp (rIx K) (Q5 0)<|Q5 1) Z (wsD<|rA j k):=λl i=>ZZ (ds:=j.map wsD) (Qq l) (Qq i) (ZQ<|HP g);have D:=h.ws _ (Tv g);have M:=h.n1 _ (Tv g)
  by_cases z:k=0
  .have e:Wv j k=isY (rA j k):=Xi z;rw[e];exact Q9 (Zc (b:=true) (QZ.cast (Zq<|VP (Qq rfl) Qz)<|Yx<|#[]) (λ_=>Zh (QN (Qu (W rfl rfl) Q0)<|R_isyardrow.mk D M) rfl)<|by rintro⟨⟩)
  .have e:Wv j k=if isL (rA j k)=true then !isG (rA j<|k-1) else (decide ((k:Int) > 1)&&isG (rA j k)):=Xg z
   rw[e];refine Q9 (Zc (b:=false) (QZ.cast (Zq<|VP (Qq rfl) Qz)<|XU<|#[]) (by rintro⟨⟩) λ_=>QX ?_);have q:k-1<j.length:=#[]
   have X:atI (j.map wsD) ((k:Int)-1)=some (wsD<|rA j<|k-1):=by
    have:(k:Int)-1=((k-1:Nat):Int):=#[]
    rw[this];exact ZQ (HP q)
   refine Q9 (Zc (b:=isL (rA j k)) (Z2<|QN (Qu (W rfl rfl) Q0)<|R_islinerow.mk D M) (λc=>?_) λc=>QX ?_)
   .rw[Xi c];exact Zh (K3<|QN (Qu (ZZ (ds:=j.map wsD) (Qq rfl) (ZB (Qq rfl) Qz) X) Q0)<|R_isguestrow.mk (h.ws _ (Tv q))<|h.n1 _ (Tv q)) rfl
   .rw[Xg<|by rw[c];decide];exact Zh (VC (Yj (Qq rfl) Qz) λ_=>QN (Qu (W rfl rfl) Q0)<|R_isguestrow.mk D M) rfl
def Zgo:Qo Zaj Zaj (Q8 Bm):=by walk_at"p"
def ZrF{f:Addr}(T:Bl mg)(F:Fun K "__init__" "NoText.__init__" Bm f fd)(B:JI K YR CQ f)(xs:HG K CQ)(m:W.takerIn K CQ "row"=some none)(q:mg "YardError"=some (.ref YR)):FnOk P w K mg base CX0 1 f fd Zaj (Uj CQ "row"):=by
 refine F.ok Zgo ?_ (λj H Q D h C A outer s M=>#[_,Qx (Zj<|N6 (i:=0) B rfl q rfl Qa)<|Qy<|Nr xs m u0 vb1 rfl,Fa h]);rintro j H Q D ⟨e,x,h,_⟩;rw[h];rfl
def Tb:(Str.ofString "\n")=#[(List.toArray [10])]:=by decide +kernel
def Tt:(Str.ofString " ")=#[(List.toArray [32])]:=by decide +kernel
def CL(z p q:Str)(r:Qh):(Str.join z (p::q::r)).cps.toList=p.cps.toList++(z.cps.toList++(Str.join z (q::r)).cps.toList):=by
 show(p++z++Str.join z (q::r)).cps.toList=_
 rw[Mb,Mb,Uv]
def OH(z:Str):∀(ps:Qh) (p:Str),p∈ps->(∀c∈p.cps.toList,c∈(Str.join z ps).cps.toList)/\p.cps.toList.length<=(Str.join z ps).cps.toList.length:=λps=>by
 induction ps with
 |nil=>rintro _ ⟨⟩
 |cons q ps j=>
  intro p h;cases ps with
  |nil=>
   obtain rfl:=Xj.mp h;exact#[λc f=>f,Xm _]
  |cons r ps=>
   rw[CL,Xr,Xr];rcases Xc.mp h with rfl|h
   .exact#[λc f=>Gj _ f,#[]]
   .obtain⟨U,m⟩:=j p h;exact#[λc f=>XV _<|XV _<|U c f,#[]]
def He{p:Str}(h:p∈Txt.split t z):(∀c∈p.cps.toList,c∈t.cps.toList)/\p.length<=t.length:=by
 have:=OH z _ p h;rwa[StrLaws.join_split,Array.length_toList,Array.length_toList]at this
def Asc.split(h:Asc t)(f:p∈Txt.split t z):Asc p:=KL λc j=>h.lt c ((He f).1 c j)
structure TxB(t:Str):Prop where
 asc:Asc t
 len:t.length<=10000000
 rows:(Txt.split t "\n").length<=100
 ws:∀r∈Txt.split t "\n",(Txt.split r " ").length<=100
def ZT(t:Str):List (Qh):=(Txt.split t "\n").map λr=>Txt.split r " "
def TxB.rws(h:TxB t):Rws (ZT t):=by
 have q:=h.len;refine#[by rw[ZT,Xe];exact h.rows,λm f=>?_,λm f=>?_]<;>(apply I0 (Xs.mp f);rintro r j rfl)
 .exact#[h.ws r j,λw f=>(h.asc.split j).split f,λw f=>by have:=(He f).2;have:=(He j).2;lia]
 .exact Gh.mpr (NS _ _)
def NL(t:Str):1<=(ZT t).length:=by
 rw[ZT,Xe];exact Gh.mpr (NS _ _)
def HM(f:List (Qh))(k:Nat):Prop := ∀j,j<k->Wv f j=true
noncomputable def Jn(f:List (Qh)):Option Nat:=((List.range f.length).find? λk => !Wv f k) <|> if f.length<2 then some f.length else none
def L8(f:k<rows.length)(g:HM rows k)(b:Wv rows k=false):Jn rows=some k:=by
 have e:((List.range rows.length).find? λk => !Wv rows k)=some k:=by
  rw[List.find?_range_eq_some];exact#[by rw[b];rfl,YB.mpr f,λj h=>by rw[g j h];rfl]
 unfold Jn;rw[e];rfl
def Fi(g:HM rows rows.length):Jn rows=if rows.length<2 then some rows.length else none:=by
 have e:((List.range rows.length).find? λk => !Wv rows k)=none:=by
  rw[List.find?_eq_none];exact λk f=>by rw[g k<|YB.mp f];decide
 unfold Jn;rw[e];rfl
inductive RC_rows:List OT->(OT->Prop)->(V->Prop)->Prop
 | non {d:PyData}{Φ:OT->Prop}{Φx:V->Prop}(h:(tyD d == "str")=false)(hx:Φx (.int 0)):RC_rows [.fz d] Φ Φx
 |txt {t:Str}{Φ:OT->Prop}{Φx:V->Prop}(h:TxB t)(hx:∀k,Jn (ZT t)=some k->Φx (.int (k:Int)))(hp:Jn (ZT t)=none->Φ (.fz<|Ju<|ZT t)):RC_rows [.fz<|.str t] Φ Φx
def RF:Qo ["text","rows","place"] ZaI (Q8 Re):=by walk_at"p"
def Zqo(T:Bl mg)(Y:XC K mg "NoText" YR CQ fQ)(H0:Df K mg "rows_of" Re ZaI)(X:Q2 P w K mg base "is_row_at" ZaU 4 (QA (K:=K) R_isrowat))(q:UB P w K mg base fQ Zaj 1 (Uj CQ "row")):ZI P w K mg base "rows_of" ZaI 5 (YC K CQ "row" (λts Φ=>RC_rows ts Φ λ_=>False) λts Φx=>RC_rows ts (λ_=>False) Φx):=by
 refine H0.evC RF (λf F H RR ts Φ Φx m W h p A outer s C=>#[_,(Qx (QQ (V3<|ZL<|Zx TB T.isi Jz<|av 0<|Qs (Ui (v:=.ty "str") rfl T.str YX rfl) Qp) (Qy<|Gb Y q m C<|Qs Qw Qp) QS)
 (Qx (Hg 1 RF ["row"] [none] (Yv<|ZD PySem.F.plainAttrs_str PySem.F.slot_str_split PySem.F.type_str_split Mg u0<|Qs QG Qp) λ_=>(ZD PySem.F.plainAttrs_str PySem.F.slot_str_split PySem.F.type_str_split Mg u0<|Qs QG Qp))
 (Qx (Vx PassesOwn.leaving rfl (by exact(Wp rfl T.range<|Qs (Zx Vt T.len Vr va1) Qp)) (ZF 2 RF.nd)<|by exact(Qy<|QQ (V3<|ZL<|Q6 X C<|av 1 y2) (Qy<|Gb Y q m C y2) QS))
 (Qx (QQ (Ze Jw (Zx Vt T.len Vr va1) Qw) (Qy<|Gb Y q m C<|Qs (Zx Vt T.len Vr va1) Qp) QS)
 (PSs.nox<|Qy<|QK vb1))))),?_])
 walk_at"x";cases h with
 |non h B=>exact W5 (GA (Vm<|Z2<|Qr.cast (KC Qq)<|by rw[h]) (λ_=>(Hd Qz rfl B W).c) nt)
 |@txt t _ _ h B l=>
  have r:=h.len;have u:sizeLine=16777216:=sizeLine_eq;have n:=h.rws.n;have y:=h.rows;refine W5 (GA (Vm<|Z2<|KC (a:=.str t) Qq) nf λ_=>(QX (W5 (ZO (EvO.cast (TR (xs:=Txt.split t "\n") (enc:=PyData.str) (h:=λs=>(Txt.split s " ").map PyData.str) ?ei #[] ?el) (show _=OT.oll ((ZT t).map λD=>D.map PyData.str) by rw[ZT,Xx];rfl)) ?_).c)).c)
  case ei=>exact Y9 (EvO.fz<|Mo Qq QU (by decide +kernel)<|#[])
  case el=>
   intro x B c;have:=(He B).2;exact#[_,Zw,Mo Qq QU (by decide +kernel)<|#[]]
  refine Ts 1 rfl rfl ?_;rw[show PyData.list (((ZT t).map λD=>D.map PyData.str).map PyData.list)=Ju (ZT t) by rw[Xx];rfl];refine W5 (IM (ds:=Vp 0 (ZT t).length) (λi=>[zf<|.str t,zf<|Ju<|ZT t,none]) (HM<|ZT t) ?ei2 #[rfl,rfl,trivial] (by rintro _ ⟨⟩) ?st ?fin)
  case ei2=>exact EvI.cast (W9 (Qu (YL (ds:=(ZT t).map wsD) Qq) Q0) (by rw[z62,Xe];lia)<|by rw[z62,Xe];lia) (JA rfl (by rw[Xe];lia))
  case st=>
   intro i d g e;obtain⟨Z,rfl⟩:=Wn e;rw[Go];refine#[_,Zw,?_];have M:=R_isrowat.mk h.rws Z;cases b:Wv (ZT t) i<;>rw[b]at M
   .exact .inr (GB (Vm<|Z2<|QN (Qu Qq<|Qu Qq Q0) M) (λ_=>Hd Qq rfl (B i<|L8 Z g b) W) nt)
   .exact .inl #[λj z=>if c:j<i then g j c else by rw[show j=i by lia];exact b,Zc (Vm<|Z2<|QN (Qu Qq<|Qu Qq Q0) M) nf λ_=>QX #[rfl,rfl,trivial]]
  case fin=>
   intro g k o;rw[Jg]at g;have e:=Fi g;refine Ex o (W5<|GA (QZ.cast (Zq<|Yj (YL (ds:=(ZT t).map wsD) Qq) Qz) rfl) (λc=>?_) λc=>(QX ?_).c)
   .simp at c;rw[Xi<|#[]]at e;exact(Hd (Qr.cast (YL Qq)<|by rw[Xe]) rfl (B _ e) W).c
   .simp at c;rw[Xg<|#[]]at e;exact(Zh Qq<|l e).c
def Zpt(h:isL ws=true):3<=ws.length/\upB (wA ws 1)=true/\∀x∈ws.drop 2,V0 x=true:=by
 unfold isL at h;simp only[XS,HF,Bool.or_eq_false_iff,decide_eq_false_iff_not]at h;exact#[#[],h.2.1,λx f=>X5.mp h.2.2 x f]
noncomputable def WH(ws:Qh):Ln:=#[if wA ws 1 = "-" then none else some<|nw<|wA ws 1,(ws.drop 2).map nv]
inductive R_linetold:List OT->OT->Prop
 |mk {ws:Qh}(h:isL ws=true)(w:Wds ws):R_linetold [.fz<|wsD ws] (.fz<|Ya<|WH ws)
def CW:Qo ["words","above"] Zah (Q8 Sc):=by walk_at"p"
def Zmi(T:Bl mg)(H0:Df K mg "line_told" Sc Zah)(q:Q2 P w K mg base "numbers_of" Zah 1 (QA (K:=K) R_numsof)):Q2 P w K mg base "line_told" Zah 2 (QA (K:=K) R_linetold):=by
 refine H0.ev CW (λf ts r h H a X A outer s M=>#[_,(Qx (QP 1 CW.nd<|F8 (Ze Z3 (QI QJ u0 Qw) QG) UP<|Vy Nx T.int BO<|Qs (QI QJ u0 Qw) Qp)
 (Qy<|QK<|Ys<|av 1<|Qs (Q6 q M<|Qs (VS VW u0 (VU Qw) VT) Qp) Qp)),?_])
 cases h with
 |@mk m h w=>
  walk_at"x";apply KE (Zpt h);intro Y C W;have n:=w.n;refine Q9 (Z1 (d:=upD (WH m).up) (PM (Zq<|WU ((λe=>ZZ (ds:=m.map PyData.str) (Qq e) Qz (ZQ (j:=1)<|U2<|#[])) rfl) QU) (λc=>?_) λc=>?_) ?_)
  .unfold WH;rw[Xi<|Wq c];exact W0
  .have B:V0 (wA m 1)=true:=by
    unfold upB at C;rwa [c]at C
   unfold WH;rw[Xg<|MG c];exact Nu ((λe=>ZZ (ds:=m.map PyData.str) (Qq e) Qz (ZQ (j:=1)<|U2<|#[])) rfl) (D6 B) (Xt (DA B).2 (by decide))
  exact Zh (Qr.cast (YW (QM Qq<|QM (QN (Qu (Qr.cast (EvO.fz<|Wz (ds:=m.map PyData.str) Qq (VF Qz) VE)<|by rw[show cut (m.map PyData.str) (some (2:Int)) none=_ from J7 _ 2<|by rw[Xe];lia,<- ML]) Q0)<|R_numsof.mk W<|by rw[Bs];lia) Zu)<|Nat.le_of_ble_eq_true rfl)<|by unfold Ya WH;rw[Xx];rfl) rfl
noncomputable def U4(f:List (Qh)):Yd:=#[nw<|wA (rA f 0) 1,(f.filter isL).map WH]
inductive RC_yard:List OT->(OT->Prop)->(Unit->Prop)->Prop
 |mk {rows:List (Qh)}{Φ:OT->Prop}{Φx:Unit->Prop}(R:Rws rows)(l:1<=rows.length)(y:isY (rA rows 0)=true)(hp:ydB (U4 rows)=true->Φ (.fz<|Zb<|U4 rows))(hx:ydB (U4 rows)=false->Φx ()):RC_yard [.fz<|Ju rows] Φ Φx
def Su:Qo ["rows","lines","yard"] ["rows"] (Q8 RO):=by walk_at"p"
def Zmh(T:Bl mg)(i:U0 K mg "NoYard" ct)(H0:Df K mg "yard_told" RO ["rows"])(X:Q2 P w K mg base "is_line_row" Zah 3 (QA (K:=K) R_islinerow))(W:Q2 P w K mg base "line_told" Zah 2 (QA (K:=K) R_linetold))(M:Q2 P w K mg base "is_yard" ZaX 7 (QA (K:=K) R_isyard)):ZI P w K mg base "yard_told" ["rows"] 8 (Zg K ct Z6 (λts Φ=>RC_yard ts Φ λ_=>False) λts Φx=>RC_yard ts (λ_=>False) Φx):=by
 refine H0.evC Su (λf F H RR ts Φ Φx C a h g A outer s D=>#[_,(Qx (Hg 1 Su Zah [none] (Yv u0) (λ_=>(Q6 W D y0)) λ_=>(BU<|ZL<|Q6 X D y0))
 (Qx (QP 2 Su.nd<|Ys<|Qs (Vy Nx T.int BO<|Qs (QI QJ (QI QJ u0 Qw) Qw) Qp)<|Qs (Vy Ha T.tuple Ba va1) Qp)
 (Qx (QQ (V3<|ZL<|Q6 M D y2) (Qy<|Bd i C<|Qs QG Qp) QS)
 (PSs.nox<|Qy<|QK u2)))),?_])
 walk_at"x";cases h with
 |@mk m _ _ R l y b Z=>
  have n:=R.n;obtain⟨k,Y⟩:(rA m 0).length=2/\V0 (wA (rA m 0) 1)=true:=by
   unfold isY at y;simp only[XS,UG,decide_eq_true_eq]at y;exact#[#[],y.2.2]
  refine W5 (ZO (BM (xs:=m) (enc:=wsD) (h:=λq=>Ya<|WH q) (p:=isL) (Y9 Qq) #[] λq B c=>#[_,Zw,Z2<|QN (Qu Qq Q0)<|R_islinerow.mk (R.ws q B)<|R.n1 q B,λe=>QN (Qu Qq Q0)<|R_linetold.mk e<|R.ws q B]) (W5 (Z1 (d:=Zb (U4 m)) (Qr.cast (YW (QM (Nu (ZZ (ZZ (ds:=m.map wsD) (d:=wsD (rA m 0)) Qq Qz<|ZQ (j:=0)<|HP l) Qz<|ZQ (j:=1)<|U2<|#[]) (D6 Y)<|Xt (DA Y).2 (by decide))<|QM (D0 rfl) Zu)<|Nat.le_of_ble_eq_true rfl)<|by unfold Zb U4;rw[Xx];rfl) (W5 (GA (Vm<|Z2<|QN (Qu Qq Q0) .mk) (λc=>(Mw QU (Z<|by simpa using c) a).c) λc=>(QX (Zh Qq<|b<|by simpa using c).c).c))).c)).c
noncomputable def SV(ws:Qh):Gs:=#[nw<|wA ws 1,nw<|wA ws 2,nw<|wA ws 3,nv<|wA ws 4,nv<|wA ws 5]
def gsL(f:List (Qh)):List Gs:=(f.filter isG).map SV
structure GsOk(y:Yd)(S:List Gs):Prop where
 n8:S.length<=8
 h:∀g∈S,G30 y g
inductive RC_guests:List OT->(OT->Prop)->(Unit->Prop)->Prop
 |mk {rows:List (Qh)}{y:Yd}{Φ:OT->Prop}{Φx:Unit->Prop}(R:Rws rows)(hp:GsOk y (gsL rows)->Φ (.fz<|.list<|(gsL rows).map QT))(hx:¬GsOk y (gsL rows)->Φx ()):RC_guests [.fz<|Ju rows,.fz<|Zb y] Φ Φx
def SC:Qo ["rows","yard","guests"] ZaY (Q8 Sk):=by walk_at"p"
def Zj1(T:Bl mg)(d:U0 K mg "NoGuest" cg)(H0:Df K mg "guests_told" Sk ZaY)(M:Q2 P w K mg base "is_guest_row" Zah 3 (QA (K:=K) R_isguestrow))(X:Q2 P w K mg base "numbers_of" Zah 1 (QA (K:=K) R_numsof))(W:Q2 P w K mg base "is_guest" ZaF 4 (QA (K:=K) R_isguest)):ZI P w K mg base "guests_told" ZaY 5 (Zg K cg Z6 (λts Φ=>RC_guests ts Φ λ_=>False) λts Φx=>RC_guests ts (λ_=>False) Φx):=by
 refine H0.evC SC (λf F H RR ts Φ Φx q Z h o A outer s C=>#[_,(Qx (Hg 2 SC Zah [none] (Yv u0) (λ_=>(Q6 X C<|Qs (VS VW u0 (VU Qw) VT) Qp)) λ_=>(BU<|ZL<|Q6 M C y0))
 (Qx (QQ (Ze Jv (Zx Vt T.len Vr y2) Qw) (Qy<|Bd d q<|Qs QG Qp) QS)
 (Qx (QQ (V3<|ZL<|Zx BN T.all BK<|Qs (Yp SC ["guest","yard"] [none,some 1] (Yv u2) λ_=>(Q6 W C<|av 1 y0)) Qp) (Qy<|Bd d q<|Qs QG Qp) QS)
 (PSs.nox<|Qy<|QK u2)))),?_])
 walk_at"x";cases h with
 |@mk j y _ _ R i B=>
  have n:=R.n;have gl:(gsL j).length<=100:=by
   unfold gsL;rw[Xe];exact Xt (MJ _ _) n
  refine W5 (ZO (r:=.ol ((gsL j).map QT)) (EvO.cast (BM (xs:=j) (enc:=wsD) (h:=λm=>QT<|SV m) (p:=isG) (Y9 Qq) #[] λm Y c=>#[_,Zw,Z2<|QN (Qu Qq Q0)<|R_isguestrow.mk (R.ws m Y)<|R.n1 m Y,λD=>?_])<|by unfold gsL;rw[Xx];rfl) ?_).c
  .unfold isG at D;simp only[XS,UG,decide_eq_true_eq]at D;exact Qr.cast (QN (Qu (Qr.cast (EvO.fz<|Wz (ds:=m.map PyData.str) Qq (VF Qz) VE)<|by rw[show cut (m.map PyData.str) (some (1:Int)) none=_ from J7 _ 1<|by rw[Xe];lia,<- ML]) Q0)<|R_numsof.mk (λx B=>X5.mp D.2.2 x B)<|by rw[Bs];lia) (by
    match m,show m.length=6 by lia with
    |[_,_,_,_,_,_],_=>rfl)
  refine Ts 2 rfl rfl<|W5 (GA (QZ.cast (Zq<|Yj (YL Qq) Qz) rfl) (λc=>(Mw QU (B λk=>by have:=k.n8;simp at c;lia) Z).c) λt=>(QX ?_).c);have e:∀b:Bool,b=(gsL j).all (λg=>@decide (G30 y g)<|Classical.propDecidable _)->(b=true ↔ ∀g∈gsL j,G30 y g):=λb e=>by rw[e,X5];simp
  refine W5 (GA (Vm<|Z2<|Qr.cast (B9 (Qr.cast (EvO.fz<|YV (xs:=gsL j) (enc:=QT) (h:=λg=>.bool<|@decide (G30 y g)<|Classical.propDecidable _) (Y9 Qq) #[] λg u c=>#[_,Zw,QN (Qu Qq<|Qu Qq Q0)<|.is<|by simp])<|by rw[Xx];rfl) rfl)<|by rw[List.all_map]) (λc=>(Mw QU (B λk=>?_) Z).c) λc=>(QX (Zh Qq<|i #[by simp at t;lia,(e _ rfl).mp (by simpa using c)]).c).c);have:=(e _ rfl).mpr k.h;simp at c this;exact I0 c λx a b=>b (this x a)
structure RdY(t:Str):Prop where
 h:TxB t
 b:Jn (ZT t)=none
def RdY.y(G:RdY t):isY (rA (ZT t) 0)=true:=by
 have l:=NL t;cases e:isY (rA (ZT t) 0) with
 |true=>rfl
 |false=>
  have:=G.b;rw[L8 (k:=0) #[] (by rintro _ ⟨⟩)<|by unfold Wv;rw[Xi rfl];exact e]at this;cases this
abbrev ydT(t:Str):Yd:=U4 (ZT t)
abbrev gsT(t:Str):List Gs:=gsL (ZT t)
structure RdG(t:Str):Prop extends RdY t where
 y1:ydB (ydT t)=true
inductive R_read:List OT->(OT->Prop)->Prop
 |mk {t:Str}(G:RdG t)(g:GsOk (ydT t) (gsT t)):R_read [.fz<|.str t] (λr=>r=.fz (.tuple [Zb<|ydT t,.list<|(gsT t).map QT]))
inductive X_readY:List OT->(Unit->Prop)->Prop
 |mk {t:Str}(G:RdY t)(h:ydB (ydT t)=false):X_readY [.fz<|.str t] (λ_=>True)
inductive X_readG:List OT->(Unit->Prop)->Prop
 |mk {t:Str}(G:RdG t)(h:¬GsOk (ydT t) (gsT t)):X_readG [.fz<|.str t] (λ_=>True)
def RdY.rows(G:RdY t):RC_rows [.fz<|.str t] (λr=>r=.fz (Ju<|ZT t)) λ_=>False:=.txt G.h (λk e=>by rw[G.b]at e;cases e) λ_=>rfl
def RdG.yard(G:RdG t):RC_yard [.fz<|Ju<|ZT t] (λr=>r=.fz (Zb<|ydT t)) λ_=>False:=.mk G.h.rws (NL t) G.y (λ_=>rfl) λe=>by rw[G.y1]at e;cases e
def Jb:Qo ["text","rows","yard"] ZaI (Q8 BF):=by walk_at"p"
def IF(T:Bl mg)(H0:Df K mg "read" BF ZaI)(q:ZI P w K mg base "rows_of" ZaI 5 (YC K CQ "row" (λts Φ=>RC_rows ts Φ λ_=>False) λts Φx=>RC_rows ts (λ_=>False) Φx))(D:ZI P w K mg base "yard_told" ["rows"] 8 (Zg K ct Z6 (λts Φ=>RC_yard ts Φ λ_=>False) λts Φx=>RC_yard ts (λ_=>False) Φx))(M:ZI P w K mg base "guests_told" ZaY 5 (Zg K cg Z6 (λts Φ=>RC_guests ts Φ λ_=>False) λts Φx=>RC_guests ts (λ_=>False) Φx)):ZI P w K mg base "read" ZaI 9 (YC K CQ "row" R_read λts Φx=>RC_rows ts (λ_=>False) Φx):=by
 refine H0.evZ Jb (λf H RR ts Φ j h B A outer s m=>#[_,(Qx (QP 1 Jb.nd<|VV q m (V2 j) y0)
 (Qx (QP 2 Jb.nd<|VV D m (WO (C:=ct)) va1)
 (Qy<|QK<|Ys<|av 2<|Qs (VV M m (WO (C:=cg))<|av 1 y2) Qp))),?_]) (λf F H RR ts Φ j W h B A outer s m=>#[_,(Qx (QP 1 Jb.nd<|VV q m (V2 j) y0)
 Z9),?_])
 .cases h with
  |@mk t G g=>
   exact Q9 (Z1 (UZ (Qu Qq Q0) G.rows j) (Q9 (Z1 (UZ (Qu Qq Q0) G.yard Ja) (Zh (YW (QM Qq<|QM (UZ (Qu Qq<|Qu Qq Q0) (.mk G.h.rws (λ_=>rfl) λe=>e g) Ja) Zu)<|Nat.le_of_ble_eq_true rfl) rfl))))
 .obtain⟨d,rfl⟩:∃d,ts=[.fz d]:=by cases h<;>exact#[_,rfl]
  exact Wj (Nq bkV (Qu Qq Q0) h j W)
def Zqw(T:Bl mg)(H0:Df K mg "read" BF ZaI)(D:ZI P w K mg base "rows_of" ZaI 5 (YC K CQ "row" (λts Φ=>RC_rows ts Φ λ_=>False) λts Φx=>RC_rows ts (λ_=>False) Φx))(B:ZI P w K mg base "yard_told" ["rows"] 8 (Zg K ct Z6 (λts Φ=>RC_yard ts Φ λ_=>False) λts Φx=>RC_yard ts (λ_=>False) Φx)):ZI P w K mg base "read" ZaI 9 (Zg K ct Z6 (λ_ _=>False) X_readY):=by
 refine H0.evZ Jb (λf H RR ts Φ j h q A outer s m=>h.elim) (λf F H RR ts Φ j M h q A outer s m=>#[_,(Qx (QP 1 Jb.nd<|VV D m (WO (C:=CQ)) y0)
 (Qx (QP 2 Jb.nd<|VV B m (V2 j) va1)
 Z9)),?_]) (λ_ _ h=>h.elim)
 cases h with
 |@mk t G h=>
  exact WS (Z1 (UZ (Qu Qq Q0) G.rows Ja) rfl)<|Wj (Nq bkN (Qu Qq Q0) (.mk G.h.rws (NL t) G.y (λe=>by rw[h]at e;cases e) λ_=>trivial) j M)
def ZpB(T:Bl mg)(H0:Df K mg "read" BF ZaI)(D:ZI P w K mg base "rows_of" ZaI 5 (YC K CQ "row" (λts Φ=>RC_rows ts Φ λ_=>False) λts Φx=>RC_rows ts (λ_=>False) Φx))(B:ZI P w K mg base "yard_told" ["rows"] 8 (Zg K ct Z6 (λts Φ=>RC_yard ts Φ λ_=>False) λts Φx=>RC_yard ts (λ_=>False) Φx))(M:ZI P w K mg base "guests_told" ZaY 5 (Zg K cg Z6 (λts Φ=>RC_guests ts Φ λ_=>False) λts Φx=>RC_guests ts (λ_=>False) Φx)):ZI P w K mg base "read" ZaI 9 (Zg K cg Z6 (λ_ _=>False) X_readG):=by
 refine H0.evZ Jb (λf H RR ts Φ j h q A outer s m=>h.elim) (λf F H RR ts Φ j Y h q A outer s m=>#[_,(Qx (QP 1 Jb.nd<|VV D m (WO (C:=CQ)) y0)
 (Qx (QP 2 Jb.nd<|VV B m (WO (C:=ct)) va1)
 (Qy<|QK<|Ys<|av 2<|Qs (VV M m (V2 j)<|av 1 y2) Qp))),?_]) (λ_ _ h=>h.elim)
 cases h with
 |@mk t G h=>
  exact WS (Z1 (UZ (Qu Qq Q0) G.rows Ja) rfl)<|WS (Z1 (UZ (Qu Qq Q0) G.yard Ja) rfl)<|OO rfl λa W E Q X Z=>Mm bkN (Qu Qq<|Qu Qq Q0) (.mk G.h.rws (λk=>h k) λ_=>trivial) j Y X Z
structure N30(i:Int):Prop where
 lo:0<=i
 hi:i<10^30
def N30.b(h:N30 i):i<10^300:=Int.lt_trans h.hi (by decide +kernel)
def Wb{a:Nat}(h:a<=8):N30 (a:Int):=#[#[],ME (show _<=8 by lia)<|by simp]
def UX(h:N30 i):(nS i).length<=30:=PyProof.Rows.toString_length_le h.lo (by decide) h.hi
def BG(h:N30 i):V0 (nS i)=true:=by
 have s:1<=(nS i).length:=Gh.mpr (Pu h.lo);have f:=UX h;unfold V0 JV YS Dp;simp only[XS,Bool.or_eq_true,HF,decide_eq_true_eq,decide_eq_false_iff_not,X5];refine#[#[#[#[],#[]],Dw h.lo],?_]
 by_cases z:i=0
 .subst z;exact .inl rfl
 .apply L0 (ZsO (i:=i) (by have:=h.lo;lia));intro c r m j;rw[m];exact .inr (by simpa using j)
def Ue(h:N30 i):nv (nS i)=i:=Option.some.inj ((D6<|BG h).symm.trans (EE h.lo h.b))
def JX(is:Ql):Qd:=is.map λi=>.str (nS i)
def K7(is:Ql):JX is=(is.map nS).map PyData.str:=by
 unfold JX;rw[Xx];rfl
def DD{is:Ql}(h:∀i∈is,N30 i):∀x∈is.map nS,V0 x=true:=λx f=>by
 apply I0 (Xs.mp f);rintro i j rfl;exact BG (h i j)
def FG{is:Ql}(h:∀i∈is,N30 i):(is.map nS).map nv=is:=by
 rw[Xx];exact(Ux λi f=>Ue<|h i f).trans (List.map_id _)
structure WdOk(b:Nat)(w:Str):Prop where
 c:∀c∈w.cps.toList,c<128/\c≠10/\c≠32
 len:w.length<=b
structure RwOk(b:Nat)(ws:Qh):Prop where
 ne:ws≠[]
 n:ws.length<=20
 ok:∀w∈ws,WdOk b w
structure WOk(b:Nat)(W:List (Qh)):Prop where
 ne:W≠[]
 n:W.length<=40
 ws:∀ws∈W,RwOk b ws
abbrev JR(ws:Qh):Str:=Str.join " " ws
def JJ(W:List (Qh)):Str:=Str.join "\n" (W.map JR)
def Fg : ∀{ps:Qh},c∈(Str.join z ps).cps.toList->c∈z.cps.toList\/∃p∈ps,c∈p.cps.toList:=λ{ps}=>by
 induction ps with
 |nil=>rintro⟨⟩
 |cons p ps j=>
  intro h;cases ps with
  |nil=>exact .inr #[p,Xb,h]
  |cons q r=>
   rw[CL,Xu,Xu]at h;rcases h with h|h|h
   .exact .inr #[p,Xb,h]
   .exact .inl h
   .refine(j h).imp id ?_;rintro⟨f,m,h⟩;exact#[f,Xf _ m,h]
theorem Fh{z:Str}{B:Nat}:∀(ps:Qh),(∀p∈ps,p.length<=B)->(Str.join z ps).length<=ps.length*(z.length+B)
 |[],_=>XA _
 |p::ps,h=>by
  have U:=DU (sep:=z) (B:=B) ps p λx f=>h x (Xf _ f);have j:=h p Xb;rw[Je,XY,Nat.succ_mul];lia
section
variable {b:Nat}{ws:Qh}{W:List (Qh)}
def RwOk.up(h:RwOk b ws):RwOk (b+1) ws:=#[h.ne,h.n,λw f=>#[(h.ok w f).c,Nat.le_succ_of_le (h.ok w f).len]]
def RwOk.c(h:RwOk b ws):∀c∈(JR ws).cps.toList,c<128/\c≠10:=λc z=>by
 rcases Fg z with z|⟨p,f,z⟩
 .rw[Tt]at z;simp at z;lia
 .have:=(h.ok p f).c c z;exact#[this.1,this.2.1]
def RwOk.len(h:RwOk b ws):(JR ws).length<=20*(1+b):=
 Xt (Fh ws λp f=>(h.ok p f).len) (Nat.mul_le_mul h.n<|Xm _)
def RwOk.split(h:RwOk b ws):Txt.split (JR ws) " "=ws:=by
 unfold JR;rw[Tt];exact CI h.ne λp f z=>((h.ok p f).c _ z).2.2 rfl
def WOk.split(h:WOk b W):Txt.split (JJ W) "\n"=W.map JR:=by
 unfold JJ;rw[Tb];refine CI (by simpa using h.ne) λp j z=>?_;obtain⟨ws,f,rfl⟩:=Xs.mp j
 exact((h.ws ws f).c _ z).2 rfl
def WOk.rows(h:WOk b W):ZT (JJ W)=W:=by
 unfold ZT;rw[h.split,Xx];exact(Ux λws f=>(h.ws ws f).split).trans (List.map_id _)
def WOk.len(h:WOk b W):(JJ W).length<=40*(1+20*(1+b)):=by
 refine Xt (Fh _ λp j=>?_) (Nat.mul_le_mul (by rw[Xe];exact h.n)<|Xm _);obtain⟨ws,f,rfl⟩:=Xs.mp j;exact(h.ws ws f).len
theorem WOk.txb(h:WOk b W)(q:b<=300:=by decide):TxB (JJ W) where
 asc:=KL λc z=>by
  rcases Fg z with z|⟨p,m,z⟩
  .rw[Tb]at z;simp at z;lia
  .apply I0 (Xs.mp m);rintro ws f rfl;exact((h.ws ws f).c c z).1
 len:=by have:=h.len;lia
 rows:=by
  rw[h.split,Xe];exact Xt h.n (by decide)
 ws:=λr j=>by
  rw[h.split]at j;apply I0 (Xs.mp j);rintro ws f rfl;rw[(h.ws ws f).split];exact Xt (h.ws ws f).n (by decide)
end
structure TxtOk(y:Yd)(S:List Gs):Prop where
 ok:y.Ok
 y30:MS y
 h:∀g∈S,G30 y g
 n8:S.length<=8
def Dd(f:y.Ok):YdT y:=by
 refine#[f.t8,f.l5,λl h=>?_];obtain⟨i,j,rfl⟩:=List.getElem_of_mem h;have w:=f.l5;refine#[λa e=>?_,by rw[f.bl _ h];exact f.t8,λb q=>f.bb _ h b q];have m:Zn y i=some a:=by
  unfold Zn;rw[XJ j];exact e
 by_cases s:i=0
 .subst s;rw[f.up0]at m;cases m
 .apply I0 (f.ups i #[] j);intro b U A;lia
def Pt(f:y.Ok)(h:g.Ok y):GsT g:=by
 have:=f.t8;have:=f.l5;have:=h.ln;have:=h.fl;have:=h.lt;have:=h.w1;have:=h.m1;exact#[#[],#[],#[],#[],h.w2,#[],h.m2]
noncomputable def ydW(y:Yd):Qh:=["yard",nS (y.T:Int)]
noncomputable def lnW(l:Ln):Qh := "line" :: sD (upT l.up)::l.bs.map nS
noncomputable def gsI(g:Gs):Ql:=[(g.line:Int),(g.first:Int),(g.last:Int),g.want,g.most]
def gsW(g:Gs):Qh := "guest" :: (gsI g).map nS
def VA(y:Yd)(S:List Gs):List (Qh):=ydW y::(y.ls.map lnW++S.map gsW)
def Rw(y:Yd)(S:List Gs):Wl y S=JJ (VA y S):=by
 have j:∀l,JR (lnW l)=VO l:=λl=>by
  unfold VO JQ lnD JR lnW;rw[Je,Xy,Xx];rfl
 have f:JR (ydW y)=Zf3 y:=rfl;unfold JJ VA;rw[Xy,Xv,Xx,Xx,Je,f,show JR ∘ lnW=VO from funext j,show JR ∘ gsW=YY from funext (λg=>Je " " ((gsI g).map nS) "guest")];rfl
def Dk(h:N30 i):WdOk 30 (nS i):=#[λc f=>by have:=Dw h.lo c f;lia,by have:=UX h;lia]
section
variable {y:Yd}{S:List Gs}(X:TxtOk y S)
include X
def TxtOk.gsI(hg:g∈S):∀i∈gsI g,N30 i:=λi f=>by
 have k:=X.h g hg;have t:=Pt X.ok k.ok;simp only[My.gsI,Xc,XH,or_false]at f;rcases f with rfl|rfl|rfl|rfl|rfl
 .exact Wb t.line
 .exact Wb t.first
 .exact Wb t.last
 .exact#[t.w0,k.w]
 .exact#[t.m0,k.m]
def TxtOk.bs{l:Ln}(f:l∈y.ls):∀b∈l.bs,N30 b:=λb h=>#[(X.y30 l f b h).1,(X.y30 l f b h).2]
structure SpW(W:List (Qh)):Prop where
 n2:2<=W.length
 n:W.length<=14
 ws:∀ws∈W,RwOk 30 ws/\2<=ws.length/\ws.length<=10
def TxtOk.spw:SpW (VA y S):=by
 have C:=X.ok.l1;have B:=X.ok.l5;have A:=X.n8;have s:=X.ok.t8;refine#[by simp[VA];lia,by simp[VA];lia,λm f=>?_]
 suffices h:(∀w∈m,WdOk 30 w)/\2<=m.length/\m.length<=10 from#[#[λz=>by rw[z]at h;exact Xo h.2.1<|by decide,#[],h.1],h.2]
 rcases Xc.mp f with rfl|f
 .refine#[λw f=>?_,by simp[ydW],by simp[ydW]];simp only[ydW,Xc,XH,or_false]at f;rcases f with rfl|rfl
  .exact#[by decide +kernel,by decide]
  .exact Dk (Wb s)
 .rcases Xu.mp f with f|f<;>(apply I0 (Xs.mp f);rintro a j rfl)
  .refine#[λw f=>?_,by simp[lnW],by simp[lnW,X.ok.bl a j];lia];simp only[lnW,Xc]at f;rcases f with rfl|rfl|f
   .exact#[by decide +kernel,by decide]
   .cases e:a.up with
    |none=>exact#[by decide +kernel,by decide]
    |some b=>exact Dk (Wb<|((Dd X.ok).ls a j).up b e)
   .apply I0 (Xs.mp f);rintro b q rfl;exact Dk (X.bs j b q)
  .refine#[λw f=>?_,by simp[gsW,My.gsI],by simp[gsW,My.gsI]];rcases Xc.mp f with rfl|f
   .exact#[by decide +kernel,by decide]
   .apply I0 (Xs.mp f);rintro b q rfl;exact Dk (X.gsI j b q)
omit X in
def SpW.ok(h:SpW W):WOk 30 W:=#[λz=>by have:=h.n2;exact Xo (z▸this)<|by decide,Xt h.n<|by decide,λf j=>(h.ws f j).1]
def TxtOk.kind:isY (ydW y)=true/\isL (ydW y)=false/\isG (ydW y)=false/\(∀l∈y.ls,isL (lnW l)=true/\isG (lnW l)=false)/\∀g∈S,isG (gsW g)=true/\isL (gsW g)=false:=by
 have z:decide (Str.ofString "yard"=Str.ofString "line")=false/\decide (Str.ofString "yard"=Str.ofString "guest")=false/\decide (Str.ofString "line"=Str.ofString "guest")=false/\decide (Str.ofString "guest"=Str.ofString "line")=false:=by decide +kernel
 refine#[?_,?_,?_,λl f=>#[?_,?_],λg h=>#[?_,?_]]
 .unfold isY;rw[show wA (ydW y) 0 = "yard" from rfl,show wA (ydW y) 1=nS _ from rfl,BG<|Wb X.ok.t8,Yx rfl];rfl
 .unfold isL;rw[show wA (ydW y) 0 = "yard" from rfl,z.1];rfl
 .unfold isG;rw[show wA (ydW y) 0 = "yard" from rfl,z.2.1];rfl
 .unfold isL;have U:UE ((lnW l).drop 2)=true:=X5.mpr (DD<|X.bs f);have m:upB (wA (lnW l) 1)=true:=by
   show upB (sD<|upT l.up)=true;unfold upB;cases e:l.up with
   |none=>rfl
   |some b=>
    show(_||V0 (nS _))=true
    rw[BG<|Wb<|((Dd X.ok).ls l f).up b e,Bool.or_true]
  have j:decide (((lnW l).length:Int)<3)=false:=XU (by have:=X.ok.t1;simp[lnW,X.ok.bl l f];lia);rw[U,m,j,show wA (lnW l) 0 = "line" from rfl,Yx rfl];rfl
 .unfold isG;rw[show wA (lnW l) 0 = "line" from rfl,z.2.2.1];rfl
 .unfold isG;rw[show wA (gsW g) 0 = "guest" from rfl,show UE ((gsW g).drop 1)=true from X5.mpr<|DD<|X.gsI h,Yx rfl];rfl
 .unfold isL;rw[show wA (gsW g) 0 = "guest" from rfl,z.2.2.2];rfl
def TxtOk.bad:Jn (VA y S)=none:=by
 apply Hs X.kind;intro k1 k2 k3 w A;have C:=X.ok.l1;have s:rA (VA y S) 0=ydW y:=rfl;have h:∀k,k<y.ls.length->∃l∈y.ls,rA (VA y S) (k+1)=lnW l:=λk f=>by
  refine#[y.ls[k],XX f,?_];unfold rA VA;rw[List.getD_cons_succ,JH,Bq<|by simpa using f];simp[f]
 have q:∀k,y.ls.length<=k->k<y.ls.length+S.length->∃g∈S,rA (VA y S) (k+1)=gsW g:=λk U f=>by
  refine#[S[k-y.ls.length],XX<|#[],?_];unfold rA VA;rw[List.getD_cons_succ,JH,M9<|by simpa using U];simp[show k-y.ls.length<S.length by lia]
 have n:(VA y S).length=y.ls.length+S.length+1:=by simp[VA]
 rw[Fi λk f=>?_,Xg<|#[]];unfold Wv;cases k with
 |zero=>exact k1
 |succ k=>
  rw[Xg<|#[]];by_cases c:k<y.ls.length
  .apply I0 (h k c);intro l m e;rw[e,Xi (w l m).1,show k+1-1=k from rfl];cases k with
   |zero=>rw[s,k3];rfl
   |succ j=>
    apply I0 (h j #[]);intro l m e;rw[e,(w l m).2];rfl
  .apply I0 (q k #[] #[]);intro g B e;rw[e,Xg<|by rw[(A g B).2];decide,(A g B).1,Yx<|#[]];rfl
def TxtOk.told:RdG (Wl y S)/\ydT (Wl y S)=y/\gsT (Wl y S)=S:=by
 apply Hs X.kind;intro k1 k2 k3 w A;have s:ZT (Wl y S)=VA y S:=by rw[Rw,X.spw.ok.rows]
 have B:ydT (Wl y S)=y:=by
  unfold ydT U4;have q:(VA y S).filter isL=y.ls.map lnW:=by
   unfold VA;rw[List.filter_cons_of_neg<|by rw[k2];decide,Bt,List.filter_eq_self.mpr λa h=>?_,List.filter_eq_nil_iff.mpr λa h=>?_,Xp]
   .apply I0 (Xs.mp h);rintro g m rfl;rw[(A g m).2];decide
   .apply I0 (Xs.mp h);rintro l f rfl;exact(w l f).1
  have K:nw (nS (y.T:Int))=y.T:=MK.mp (Ue<|Wb X.ok.t8);have D:∀l∈y.ls,WH (lnW l)=l:=λl f=>by
   unfold WH;rw[show(lnW l).drop 2=l.bs.map nS from rfl,FG<|X.bs f,show wA (lnW l) 1=sD (upT l.up) from rfl];obtain⟨M,P⟩:=l;cases M with
   |none=>rfl
   |some b=>
    have j:=Wb (((Dd X.ok).ls _ f).up b rfl);rw[Xg (λe=>by have:=Lq (BG j) 45;exact Xo (((show nS (b:Int) = "-" from e)▸this)<|by decide +kernel)<|by decide),show sD (upT<|some b)=nS (b:Int) from rfl,show nw (nS (b:Int))=b from MK.mp<|Ue j]
  rw[s,q,Xx,show y.ls.map (WH ∘ lnW)=y.ls from(Ux (g:=id) λl f=>D l f).trans (List.map_id _),show wA (rA (VA y S) 0) 1=nS (y.T:Int) from rfl,K]
 have C:gsT (Wl y S)=S:=by
  unfold gsT gsL;have q:(VA y S).filter isG=S.map gsW:=by
   unfold VA;rw[List.filter_cons_of_neg<|by rw[k3];decide,Bt,List.filter_eq_nil_iff.mpr λa h=>?_,List.filter_eq_self.mpr λa h=>?_,List.nil_append]
   .apply I0 (Xs.mp h);rintro g m rfl;exact(A g m).1
   .apply I0 (Xs.mp h);rintro l f rfl;rw[(w l f).2];decide
  rw[s,q,Xx];refine(Ux (g:=id) λg m=>?_).trans (List.map_id _);have k:=X.gsI m;simp only[My.gsI,Xc,XH,or_false,forall_eq_or_imp,forall_eq]at k;apply Hs k;intro a b c d e;show Gs.mk (nw<|nS _) (nw<|nS _) (nw<|nS _) (nv<|nS _) (nv<|nS _)=g;rw[show nw (nS (g.line:Int))=g.line from MK.mp<|Ue a,show nw (nS (g.first:Int))=g.first from MK.mp<|Ue b,show nw (nS (g.last:Int))=g.last from MK.mp<|Ue c,Ue d,Ue e]
 exact#[#[#[by rw[Rw];exact X.spw.ok.txb,by rw[s];exact X.bad],by rw[B];exact LP.mpr #[X.ok,X.y30]],B,C]
end
inductive X_hcomeT(CH:Addr):List OT->(Unit->Prop)->Prop
 |mk {y:Yd}{n:Nat}{S:List Gs}{gv:Ql}{go:Qk}{ms:List Zs}{g:Gs}(h:G30 y g)(hp:g.first<n):X_hcomeT CH [.zow<|QY CH<|hT y n S gv go ms,.fz<|QT g] (λ_=>True)
def Zok(T:Bl mg)(D:HandC K CH)(H0:Mf K CH "come" "Hand.come" Mx Zaq)(B:Q2 P w K mg base "is_guest" ZaF 4 (QA (K:=K) R_isguest))(C:ZH P w K mg base CH "refuse_past" ZaG 1 (Zg K ct Z6 (R_hpast CH)<|X_hpast CH)):
 ZH P w K mg base CH "come" Zaq 8 (Zg K ct Z6 (λ_ _=>False)<|X_hcomeT CH):=by
 refine H0.evZ S7 (λf H RR ts M j h q A outer s m=>h.elim) (λf F H RR ts M j W h q A outer s m=>?_);cases h with
 |@mk y n S Z a X g h Y=>
  refine#[_,(Qx (QQ (V3<|ZL<|Q6 B m<|Qs (Zp u0) va1) Z9 QS)
 (Qx (Zj<|YO C D m (V2 j) u0<|Qs (QI QJ vb1 Qw) Qp)
 Z9)),?_]
  exact WS (Zc (Vm<|Z2<|QN (Qu (Qr.cast (J9 D rfl) rfl)<|Qu Qq Q0)<|R_isguest.mk h) nf λ_=>QX rfl)<|Wj (Be bkN GV rfl (Qu (V5 Qq Qz rfl) Q0) (X_hpast.mk<|by show(g.first:Int)<(n);lia) j W)
def ON:Str.ofString "guest "=Str.ofString "guest" ++ Str.ofString " " := by decide +kernel
def ZqS(h:l.bs≠[]):Str.ofString "line " ++ sD (upT l.up)++Str.ofString " " ++ Str.join " " (l.bs.map nS)=VO l:=by
 unfold VO JQ lnD;cases e:l.bs with
 |nil=>exact Xo e h
 |cons b r=>
  rw[Xy,Je,<- Hk, Xy,Xx];rfl
def ZnQ(g:Gs):Str.ofString "guest " ++ Str.join " " ((gsD g).map sD)=YY g:=by
 unfold YY JQ gsD;rw[Xy,Je,<- Hk,ON,Mq]
def Zrm(y:Yd):Str.ofString "yard " ++ nS (y.T:Int)=Zf3 y:=by
 rfl
def On(h:Qr K ta Z d)(f:SOk d):Qr K (tCB GK<|Q3 ta QH) Z (.str<|sD d):=by
 cases f with
 |int j U=>exact GR h (GL j U)
 |str _=>exact O3 h
def Pa{B:Nat}(h:ps.length<=9)(f:∀p∈ps,p.length<=300):(ps.map (·.length)).sum+ps.length*Str.length " " <= 16777216:=DG f (by decide) h (by decide)
def Pw(h:ps.length<=9)(f:∀p∈ps,p.length<=300):(Str.join " " ps).length<=3100:=by
 cases ps with
 |nil=>exact XA _
 |cons a r=>
  rw[Je];have U:=DU (sep := " ") r a λx j=>f x (Xf _ j);have q:=f a Xb;have m:r.length*(Str.length " " + 300)<=8*301:=Nat.mul_le_mul (by simp at h;lia) (by decide)
  lia
inductive R_ltext:List OT->OT->Prop
 |mk {y:Yd}{S:List Gs}(hy:YdT y)(hb:∀l∈y.ls,l.bs≠[])(hg:∀g∈S,GsT g)(hn:S.length<=8):R_ltext [.fz<|Zb y,.fz<|.list<|S.map QT] (.fz<|.str<|Wl y S)
def JB:Qo ["_law_yard_here","_law_guests","_law_rows","_law_above","_law_bounds","_law_word","_law_guest_here"] Zay (Q8 Sd):=by walk_at"p"
def OP(T:Bl mg)(H0:Df K mg "_law_text" Sd Zay):Q2 P w K mg base "_law_text" Zay 1 (QA (K:=K) R_ltext):=by
 refine H0.ev JB (λf ts r h H N E A outer s G=>?_);cases h with
 |@mk y S D q z I=>
  refine#[_,(Qx (QP 2 JB.nd<|Zk<|Qs (QL Y8 QG<|Vy W3 T.str YX<|Qs (QI QJ u0 Qw) Qp) Qp)
 (Qx (Vx zN rfl (by exact(BB<|QI QJ u0 Qw)) (GP (n:=2) rfl (Wo (ZF 3 JB.nd)<|Wo (ZF 4 JB.nd) GX)) (by exact(Qx (QP 5 JB.nd QG)
 (Qx (QQ (UT<|Li y3) (Qy<|QP 5 JB.nd<|Vy W3 T.str YX v3) QS)
 (Qy<|Zj<|ZD zP zS zT V6 u2<|Qs (QL Y8 (QL Y8 (QL Y8 QG<|pv 5) QG)<|ZD PySem.F.plainAttrs_str PySem.F.slot_str_join PySem.F.type_str_join Uf QG<|Qs (Yp JB ["_law_bound"] [none] (BB t4) λ_=>(Vy W3 T.str YX y0)) Qp) Qp)))))
 (Qx (Vx zN rfl (by exact(Yv vb1)) (ZF 6 JB.nd)<|by exact(Qy<|Zj<|ZD zP zS zT V6 u2<|Qs (QL Y8 QG<|ZD PySem.F.plainAttrs_str PySem.F.slot_str_join PySem.F.type_str_join Uf QG<|Qs (Yp JB ["_law_number"] [none] (BB v6) λ_=>(Vy W3 T.str YX y0)) Qp) Qp))
 (Qy<|QK<|ZD PySem.F.plainAttrs_str PySem.F.slot_str_join PySem.F.type_str_join Uf QG y2)))),?_]
  show QE K _ [_,_,_,_,_,_,_] _
  walk_at"x";have F:=D.n;refine Q9 (ZO (ZA (ds:=[.str<|Zf3 y]) (QM (Qr.cast (W7 QU (GR (i:=(y.T:Int)) (V5 (Qq rfl) Qz rfl)<|GL #[]<|Uo D.t)<|Xt (Ut (show _<=5 by decide)<|Dt #[]<|Uo D.t)<|by decide)<|Xz PyData.str<|Zrm y) Zu) JN) ?_);walk_at"d";refine Q9 (BS (ds:=y.ls.map Ya) (λi=>[zf<|Zb y,zf<|.list<|S.map QT,some<|.ol<|(Zf3 y::(y.ls.take i).map VO).map PyData.str,none,none,none,none]) ?ei #[rfl,rfl,rfl,trivial] ?st ?fin)
  case ei=>exact GH (V5 (Qq rfl) Qz rfl)
  case st=>
   intro i d W;have C:i<y.ls.length:=by
    have:=(Xh.mp W).1;simpa using this
   obtain rfl:d=Ya y.ls[i]:=by simpa [C] using W.symm
   have Z:y.ls.take (i+1)=y.ls.take i++[y.ls[i]]:=by rw[Uu];simp[C]
   have j:=D.ls _ (XX C);have M:=q _ (XX C);have v:(Zf3 y::(y.ls.take<|i+1).map VO).map PyData.str=(Zf3 y::(y.ls.take i).map VO).map PyData.str++[.str<|VO y.ls[i]]:=by rw[Z,Xv,<- JD,Xv];rfl
   rw[v];have u:((Zf3 y::(y.ls.take i).map VO).map PyData.str).length<=100:=by simp;lia
   generalize (Zf3 y::(y.ls.take i).map VO).map PyData.str=L at u;generalize y.ls[i]=l at j M;have J:=j.ln;have k:=KH (j.ok _ Xb);refine#[_,WJ (Yl Zw<|Yl Zw J1) rfl,?_];walk_at"d";refine Q9 (Z1 QU ?_);walk_at"d";have rest:∀{H0:PEnds} {t:TS},(H0.nx [zf<|Zb y,zf<|.list<|S.map QT,some<|.ol L,zf<|upD l.up,zf<|.tuple<|l.bs.map PyData.int,zf<|.str<|sD<|upT l.up,none])->QE K (Ws (Jr<|Kt<|Q5 3) (ZM (tCB GK<|Q3 (Q5 3) QH)<|Vk 5) UA) [zf<|Zb y,zf<|.list<|S.map QT,some<|.ol L,zf<|upD l.up,zf<|.tuple<|l.bs.map PyData.int,zf<|.str "-",none] H0:=λ{H0 t} h=>by
    cases e:l.up with
    |none=>
     rw[e]at h;exact Zc (b:=false) (QZ.cast (Zq<|D5<|Qq rfl) rfl) nf (λ_=>QX h)
    |some a=>
     rw[e]at h;exact Zc (b:=true) (QZ.cast (Zq<|D5<|Qq rfl) rfl) (λ_=>Z1 (GR (i:=(a:Int)) (Qq rfl)<|GL #[]<|Uo<|j.up a e) h) nt
   refine Q9 (rest (t:=UA) ?_);have X:∀p∈l.bs.map nS,p.length<=300:=λp m=>by
    apply I0 (Xs.mp m);rintro b q rfl;exact Dt (j.bs b q).1 (j.bs b q).2
   refine Ji rfl (Qr.cast (W7 (W7 (W7 QU (Qq rfl) ?l1) QU ?l2) (GU (ys:=l.bs.map nS) QU (Qr.cast (EvO.fz<|YV (xs:=l.bs) (enc:=PyData.int) (h:=λb=>.str<|nS b) ?ei2 #[] ?el)<|by rw[Xx];rfl)<|Pa (B:=0) (by rw[Xe];lia) X) ?l3)<|Xz PyData.str<|ZqS M) #[] ?_
   case l1=>exact Xt (Ut (show _<=5 by decide) k) (by decide)
   case l2=>
    rw[Str.length_append];exact Xt (Ut (Ut (show _<=5 by decide) k) (show _<=1 by decide)) (by decide)
   case l3=>
    rw[Str.length_append,Str.length_append];exact Xt (Ut (Ut (Ut (show _<=5 by decide) k) (show _<=1 by decide))<|Pw (by rw[Xe];lia) X) (by decide)
   case ei2=>exact GH (Qq rfl)
   case el=>
    exact λb q c=>#[_,Zw,GR (Qq rfl)<|GL (j.bs b q).1 (j.bs b q).2]
   exact#[rfl,rfl,rfl,trivial]
  case fin=>
   refine λY o=>BI o ?_;rw[Xe,JE];refine Q9 (BS (ds:=S.map QT) (λi=>[zf<|Zb y,zf<|.list<|S.map QT,some<|.ol<|(Zf3 y::(y.ls.map VO++(S.take i).map YY)).map PyData.str,none,none,none,none]) ?ei3 #[rfl,rfl,by simp,trivial] ?st3 ?fin3)
   case ei3=>exact Y9 (Qq rfl)
   case st3=>
    intro i d W;have C:i<S.length:=by
     have:=(Xh.mp W).1;simpa using this
    obtain rfl:d=QT S[i]:=by simpa [C] using W.symm
    have Z:S.take (i+1)=S.take i++[S[i]]:=by rw[Uu];simp[C]
    have j:=z _ (XX C);have v:(Zf3 y::(y.ls.map VO++(S.take<|i+1).map YY)).map PyData.str=(Zf3 y::(y.ls.map VO++(S.take i).map YY)).map PyData.str++[.str<|YY S[i]]:=by rw[Z,Xv (f:=YY),<- Uv,<- JD,Xv (f:=PyData.str)];rfl
    rw[v];have u:((Zf3 y::(y.ls.map VO++(S.take i).map YY)).map PyData.str).length<=100:=by simp;lia
    generalize (Zf3 y::(y.ls.map VO++(S.take i).map YY)).map PyData.str=L at u;generalize S[i]=g at j;have X:∀p∈(gsD g).map sD,p.length<=300:=λp m=>by
     apply I0 (Xs.mp m);rintro b q rfl;exact KH (j.ok b q)
    refine#[_,Zw,?_];walk_at"d";refine Ji rfl (Qr.cast (W7 QU (GU (ys:=(gsD g).map sD) QU (Qr.cast (EvO.fz<|YV (xs:=gsD g) (enc:=id) (h:=λd=>.str<|sD d) ?ei4 (by show(5:Nat)<=1000;decide) ?el4)<|by rw[Xx];rfl)<|Pa (B:=0) (by rw[Xe];show(5:Nat)<=9;decide) X) ?l4)<|Xz PyData.str<|ZnQ g) #[] ?_
    case l4=>exact Xt (Ut (show _<=6 by decide)<|Pw (by rw[Xe];show(5:Nat)<=9;decide) X) (by decide)
    case ei4=>exact EvI.cast (GH<|Qq rfl) (List.map_id<|gsD g).symm
    case el4=>
     exact λb q c=>#[_,Zw,On (Qq rfl)<|j.ok b q]
    exact#[rfl,rfl,rfl,trivial]
   case fin3=>
    refine λY o=>BI o ?_;rw[Xe,JE];refine YF 2 rfl ?_;walk_at"d";refine Zh (Qr.cast (GU QU (Qq rfl)<|DG (B:=3100) (n:=14) (λp m=>?_) (by decide) (by simp;lia)<|by decide)<|Xz PyData.str<|Je _ _ _) rfl;rcases Xc.mp m with rfl|m
    .exact ZpM D
    .rcases Xu.mp m with m|m
     .apply I0 (Xs.mp m);rintro l j rfl;exact Zr0 (D.ls l j)
     .apply I0 (Xs.mp m);rintro g j rfl;exact ZnU (z g j)
inductive R_letin:HandS->List OT->(OT->HandS->Prop)->Prop
 |mk {y:Yd}{n:Nat}{S:List Gs}{gv:Ql}{go:Qk}{ms:List Zs}{g:Gs}(ok:y.Ok)(hg:∀x∈S,G30 y x)(gk:G30 y g)(gl:gv.length=S.length)(gn:n<=g.first)(h0:∀k,k<S.length->0<=rsT S gv go k)(l:S.length<=7):
  R_letin (hT y n S gv go ms) [.fz<|QT g] (λr N'=>r=.fz .none/\(((∀gs,Yt y (QR<|mT n S gv go++[g]) gs<=0)/\N'=hT y n (S++[g]) (gv++[0]) go ms)\/((∃gs,0<Yt y (QR<|mT n S gv go++[g]) gs)/\N'=hT y n S gv go ms)))
def ZpJ:Qo ZaV ZaV (Q8 NI):=by walk_at"p"
def OM(T:Bl mg)(J:HandC K CH)(G:XC K mg "NoRoom" YR CR fR)(I:W.exmOne K (.ref CR) (.ref CR)=some true)(H0:Df K mg "let_in" NI ZaV)(D:ZH P w K mg base CH "come" Zaq 8 (Av K CH CR "some" R_hcome<|X_hcome CH)):Q2 P w K mg base "let_in" ZaV 9 (spP K (Zf CH) R_letin):=by
 refine H0.evPN ZpJ (λf v M ts L h H O F A outer s E=>?_);cases h with
 |@mk y n S B C Y g X a t gl p i l=>
  refine#[_,(Qy<|ZrO I rfl rfl rfl G.m rfl (λH0 u=>(Qy<|Zj<|Zs2 D J E Zrl u0 va1)) λe u=>(Qy Ia)),?_]
  by_cases h:∀m,Yt y (QR<|mT n S B C++[g]) m<=0
  .refine VQ (λq=>q=[zo v<|Zf CH<|hT y n (S++[g]) (B++[0]) C Y,zf<|QT g]) (Q9<|ZrB DC rfl (Qu Qq Q0) (R_hcome.mk X a t gl p i l h) ?_) ?_
   .rintro r N ⟨_,rfl⟩;exact QX rfl
   .rintro _ rfl;exact UO W0<|#[_,#[rfl,.inl #[h,rfl]],rfl]
  .obtain⟨m,b⟩:∃m,0<Yt y _ m:=Classical.byContradiction λc=>h λm=>Int.not_lt.mp λz=>c #[m,z]
   refine W6 (e:=[zo v<|Zf CH<|hT y n S B C Y,zf<|QT g]) (Q9<|ZsL (j:=2) (λ_ _ _ _ h=>.inr h) xfP DC rfl (Qu Qq Q0) (X_hcome.mk X a t gl p i l b) (λd e o _ Z=>?_) λd h=>?_) ?_
   .exact QX (QX rfl)
   .obtain⟨m,_,rfl⟩:=h;exact λx Z=>by apply I0 (Xs.mp Z);rintro k _ rfl;exact#[_,rfl]
   .exact UO W0<|#[_,#[rfl,.inr #[#[m,b],rfl]],rfl]
noncomputable def Kf:List (Str×Int):=[("come",5),("turn",0),("leave",1),("got",1),("rest",1),("bound",3),("open",0),("now",0)]
structure CnT(K:W.Frag)(mg:Str->Qf)(w:World)(gC:Addr):Prop where
 k:KCnt K w gC Kf
 m:mg "COUNTS"=some (.ref gC)
structure RowW(x w:Str)(is:Ql):Prop where
 sp:Txt.split x " "=w::is.map nS
 l:x.length<=1000
 c:MV Kf w=.int (is.length:Int)
 n:∀i∈is,N30 i
 h5:is.length<=5
inductive R_words:List OT->OT->Prop
 |mk {x w:Str}{is:Ql}(h:RowW x w is):R_words [.fz<|.str x] (.fz<|.list (.str w::JX is))
def MQ{f:Type}(a:f)(xs:List f):cut (a::xs) (some (1:Int)) none=xs:=J7 _ 1 (by simp)
def Tp:Vi (.int i):=#[rfl,show(_)<=60 by simp[PyData.depth]]
def Eg(h:0<=i):Asc (nS i):=KL λc f=>by
 have:=Dw h c f;lia
def R_arenums.is{is:Ql}(h:∀i∈is,N30 i)(l:is.length<=5):R_arenums [.fz<|.list<|JX is] (.fz<|.bool true):=by
 have U:Wds (is.map nS):=#[by rw[Xe];lia,λw f=>?_,λw f=>?_]
 .have:=R_arenums.mk U;rwa[show UE (is.map nS)=true from X5.mpr<|DD h,<- K7]at this
 all_goals apply I0 (Xs.mp f);rintro i j rfl
 .exact Eg (h i j).lo
 .exact Xt (UX<|h i j) (by decide)
def R_numsof.is{is:Ql}(h:∀i∈is,N30 i)(l:is.length<=5):R_numsof [.fz<|.list<|JX is] (.fz<|.tuple<|is.map PyData.int):=by
 have:=R_numsof.mk (DD h) (by rw[Xe];lia);rwa[<- K7,show((is.map nS).map λx=>PyData.int<|nv x)=((is.map nS).map nv).map PyData.int from Xx.symm,FG h]at this
def C8:Qo ["row","words"] ["row"] (Q8 R1):=by walk_at"p"
def ZsW(T:Bl mg)(B:CnT K mg w gC)(H0:Df K mg "words_of" R1 ["row"])(m:Q2 P w K mg base "are_numbers" Zah 2 (QA (K:=K) R_arenums)):Q2 P w K mg base "words_of" ["row"] 3 (QA (K:=K) R_words):=by
 refine H0.ev C8 (λf ts r h H Z X A outer s q=>?_);cases h with
 |@mk x C j h=>
  refine#[_,(Qx (QQ (V3<|ZL<|Zx TB T.isi Jz<|av 0<|Qs (Ui (v:=.ty "str") rfl T.str YX rfl) Qp) Z9 QS)
 (Qx (QP 1 C8.nd<|ZD PySem.F.plainAttrs_str PySem.F.slot_str_split PySem.F.type_str_split Mg u0<|Qs QG Qp)
 (Qx (QQ (PW.pt<|GG (Ze (Ud q.units) (Ov B.k B.m (QI QJ vb1 Qw) #[rfl,rfl,rfl,rfl])<|QL Wi (Zx Vt T.len Vr va1) Qw)<|GO<|V3<|ZL<|Q6 m q<|Qs (VS VW vb1 (VU Qw) VT) Qp) Z9 QS)
 (Qy<|QK vb1)))),?_]
  have Y:=h.l;refine Q9 (Zc (Vm<|Z2<|KC (a:=.str x) Qq) nf λ_=>QX (Q9 (ZO (EvO.cast (Mo Qq QU (by decide +kernel)<|Xt (show x.length+2<=1002 by lia)<|by decide) (d':=.ol (.str C::JX j))<|by rw[h.sp,Xy,<- K7]) (YF 1 rfl ?_))));have D:(JX j).length=j.length:=by simp[JX]
  exact Q9 (Zc (JW (b:=false) (QZ.cast (Z2<|B8 (Qr.cast (Iv<|ZZ Qq Qz<|ZQ rfl) h.c) (Qr.cast (ZB (YL Qq) Qz) (d':=.int (j.length:Int))<|by rw[XY,D];exact Xz PyData.int<|#[]) Tp Tp)<|by simp[PyData.eqv]) λ_=>Vm (b:=true)<|Z2<|QN (Qu (Qr.cast (EvO.fz<|Wz Qq (VF Qz) VE)<|by rw[MQ]) Q0)<|.is h.n h.h5) nf λ_=>QX (Zh Qq rfl))
inductive R_joined:List OT->OT->Prop
 | mk {ss:Qh}(h:ss.length<=8)(hl:∀x∈ss,x.length<=100):R_joined [.fz<|.list<|ss.map PyData.str] (.fz<|.str (if ss=[] then "-" else Str.join " " ss))
def Zpa:Qo ["parts"] ["parts"] (Q8 NR):=by walk_at"p"
def Zr1(T:Bl mg)(H0:Df K mg "joined" NR ["parts"]):Q2 P w K mg base "joined" ["parts"] 1 (QA (K:=K) R_joined):=by
 refine H0.ev Zpa (λf ts r h H M C A outer s D=>?_);cases h with
 |@mk j h m=>
  refine#[_,(Qy<|QK<|F8 (Fr u0 λ_=>rfl) (ZD PySem.F.plainAttrs_str PySem.F.slot_str_join PySem.F.type_str_join Uf QG y0) QG),?_]
  try dsimp only[Vu]
  have e:(!(j.map PyData.str).isEmpty) = !decide (j=[]):=by cases j<;>simp
  refine Zh (PM (QZ.cast (Lm Qq) e) (λc=>?_) λc=>?_) rfl
  .rw[Xg<|by simpa using c];refine GU QU Qq ?_;have a:(j.map (·.length)).sum<=j.length*100:=by
    clear h e c;induction j with
    |nil=>simp
    |cons x r q=>
     have:=m x Xb;have:=q λy B=>m y (Xf _ B)
     simp only[Xy,Gp,XY];lia
   have b:Str.length " "=1:=rfl;lia
  .rw[Xi<|by simpa using c];exact QU
def gfS(f:Qn)(m:Nat):Qh:=((List.range m).filter λk=>decide (f k > 0)).map λ(k:Nat)=>nS (k:Int) ++ ":" ++ nS (f k)
inductive R_gans:List OT->(OT->Prop)->Prop
 | mk {f:Qn}{m:Nat}(l:m<=8)(h:∀k,k<m->N30 (f k)):R_gans [.zow<|DkZ<|gfD f m] (λr=>r=.fz (.str (if gfS f m=[] then "-" else Str.join " "<|gfS f m)))
def Ap:Qo ["gifts"] ["gifts"] (Q8 SH):=by walk_at"p"
def Ic(T:Bl mg)(H0:Df K mg "gifts_answer" SH ["gifts"])(M:Q2 P w K mg base "joined" ["parts"] 1 (QA (K:=K) R_joined)):Q2 P w K mg base "gifts_answer" ["gifts"] 2 (Zm K R_gans):=by
 refine H0.evD Ap (λf ts o h H p n A outer s e=>?_);cases h with
 |@mk f m l h=>
  refine#[_,(Qy<|QK<|Q6 M e<|Qs (Yp Ap ["number","gift"] [none,none] (Yv<|OI rfl u0 rfl T.sorted ZrD) λ_=>(AE u0 QG vb1)) Qp),?_];walk_at"x";generalize B:((List.range m).filter λk=>decide (f k > 0))=L;have C:∀k∈L,k<m:=λk j=>by
   rw[<- B]at j;exact YB.mp (MB.mp j).1
  have b:L.length<=8:=by
   exact B▸(Xt (MJ _ _) (by simpa using l))
  have Z:(L.map λ(k:Nat)=>(k:Int)).Pairwise (· < ·):=by
   rw[List.pairwise_map,<- B];exact(List.pairwise_lt_range.imp λh=>#[]).filter _
  have D:gfD f m=L.map λ(k:Nat)=>((.inl<|k),PyData.int<|f k):=by unfold gfD;rw[B]
  have g:gfS f m=L.map λ(k:Nat)=>nS (k) ++ ":" ++ nS (f k):=by unfold gfS;rw[B]
  rw[g];have a:∀k∈L,(nS<|k).length<=30/\(nS<|f k).length<=30:=λk j=>#[UX<|Wb (by have:=C k j;lia),UX<|h k<|C k j]
  have W:∀k∈L,(nS (k) ++ ":" ++ nS (f k)).length<=61:=λk j=>by
   have:=a k j;rw[Str.length_append,Str.length_append];have:Str.length ":"=1:=rfl;lia
  have X:∀i:Int,N30 i->i.natAbs.log2<1920:=λi Y=>GL Y.lo Y.b;refine Zh (Qr.cast (QN (Qu (Qr.cast (EvO.fz<|YV (xs:=L) (enc:=λ(k:Nat)=>PyData.tuple [.int<|k,.int<|f k]) (h:=λ(k:Nat)=>.str<|nS (k) ++ ":" ++ nS (f k)) ?ei #[] ?el)<|by rw[Xx];rfl) Q0)<|R_joined.mk (by rw[Xe];exact b) λx d=>?ln) rfl) rfl
  case ei=>
   refine Y9 (Qr.cast (OR rfl (by rw[D,Xx,Xx];rfl) Z<|by rw[D,Xe];lia)<|by rw[D,Xx];rfl)
  case el=>
   refine λk j c=>#[_,WJ (Yl Zw<|Yl Zw J1) rfl,?_];have q:=W k j;exact AF Qq Qq (X _<|Wb (by have:=C k j;lia)) (X _<|h k<|C k j) (Xt (show _<=61 by rw[Str.length_append]at q;exact Xt (Nat.le_add_right _ _) q)<|by decide) (Xt q<|by decide)
  case ln=>
   apply I0 (Xs.mp d);rintro k j rfl;have:=W k j;lia
def OW(S:List Gs)(k:Nat):rsT S (List.replicate S.length 0) [] k=(S.getD k default).want:=by
 unfold rsT;rw[Xg λh=>nomatch h];have:(List.replicate S.length (0:Int)).getD k 0=0:=by
  rw[JH,HC];split<;>rfl
 rw[this,Int.sub_zero]
def rs0(hg:∀x∈a,G30 y x):∀k,k<a.length->0<=rsT a (List.replicate a.length 0) [] k:=λk f=>by
 rw[OW];have:=(hg (a.getD k default)<|by simp[f]).ok.w1;lia
def h0S(y:Yd)(a:List Gs):HandS:=hT y 0 a (List.replicate a.length 0) [] []
structure DeskC(K:W.Frag)(CD:Addr):Prop where
 cl:Cls K CD
 hd:Ve K CD "hand"
inductive R_dinit:Option HandS->List OT->(OT->Option HandS->Prop)->Prop
 |mk {t:Str}(G:RdG t)(g:GsOk (ydT t) (gsT t)):R_dinit none [.fz<|.str t] (λr N'=>r=.fz .none/\∃a,a.length<=(gsT t).length/\(∀x∈a,G30 (ydT t) x)/\N'=some (h0S (ydT t) a))
def M7:Qo ["self","text","told","guest"] Zao (Q8 Gg):=by walk_at"p"
def EX{f:Addr}(T:Bl mg)(B:DeskC K CD)(F:Fun K "__init__" "Desk.__init__" Gg f fd)(b:ZI P w K mg base "read" ZaI 9 (YC K CX "row" R_read λts Φx=>RC_rows ts (λ_=>False) Φx))(Y:Kp P w K mg base "Hand" CH ZaQ 1)(X:Q2 P w K mg base "let_in" ZaV 9 (spP K (Zf CH) R_letin)):FnOk P w K mg base CX0 10 f fd Zao (spP K (G4 CD "hand"<|Zf CH) R_dinit):=by
 refine F.evPN M7 (λv M ts u h H J p A outer s W=>?_);cases h with
 |@mk t G g=>
  refine#[_,(Qx (QP 2 M7.nd<|VV b W (WO (C:=CX)) va1)
 (Qx (W2 u0 (ZsS Y W<|Qs (QI QJ u2 Qw) Qp) rfl)
 (Qy<|Vx zN rfl (by exact(Yv<|QI QJ u2 Qw)) (ZF 3 M7.nd)<|by exact(Qy<|Zj<|Q6 X W<|Qs (Zp u0) v3)))),?_]
  try dsimp only[Vu]
  have y:=g.n8;refine VQ (λm=>∃a q,a.length<=(gsT t).length/\(∀x∈a,G30 (ydT t) x)/\m=[zo v<|InP CD "hand"<|Zf CH<|h0S (ydT t) a,zf<|.str t,zf<|.tuple [Zb<|ydT t,.list<|(gsT t).map QT],q]) ?bd ?_
  case bd=>
   refine Q9 (Z1 (UZ (Qu Qq Q0) (R_read.mk G g) Ja) (Q9 (Zt8 B.cl B.hd rfl (Zsc<|(λe=>V5 (Qq e) Qz rfl) rfl) (Q9 (Yr (λi m=>∃a q,a.length<=i/\(∀x∈a,G30 (ydT t) x)/\m=[zo v<|InP CD "hand"<|Zf CH<|h0S (ydT t) a,zf<|.str t,zf<|.tuple [Zb<|ydT t,.list<|(gsT t).map QT],q]) (Y9<|(λe=>V5 (Qq e) Qz rfl) rfl) #[[],none,Xm _,λ_ h=>(nomatch h),rfl] ?st ?fin)))))
   case fin=>
    rintro _ ⟨a,q,l,j,rfl⟩;rw[Xe]at l;exact QX #[a,q,l,j,rfl]
   case st=>
    rintro i d _ c ⟨a,q,l,j,rfl⟩;rw[XG]at c;apply I0 (HA.mp c);rintro x e rfl;have E:=(Xh.mp e).1;have k:=g.h x (List.mem_of_getElem? e);refine#[_,Zw,?_];walk_at"d";refine Q9 (Zpx B.cl B.hd rfl (Qu Qq Q0) (R_letin.mk (LP.mp G.y1).1 j k List.length_replicate (XA _) (rs0 j) #[]) ?_);rintro r I ⟨_,h|h⟩<;>obtain⟨_,rfl⟩:=h
    .have e:List.replicate a.length (0:Int)++[0]=List.replicate (a++[x]).length 0:=by rw[Xr,List.length_singleton,List.replicate_succ']
     rw[e];exact QX #[a++[x],_,by simp;lia,λz D=>(Xu.mp D).elim (j z) λD=>by rw[Xj.mp D];exact k,rfl]
    .exact QX #[a,_,#[],j,rfl]
  .rintro _ ⟨a,q,l,j,rfl⟩;exact UO W0 #[_,#[rfl,a,l,j,rfl],rfl]
def KS{CE:Addr}{f:Addr}{fd:FuncData}{δ:Type}{FL:Addr->Hp->Hp->Hp->Qj->δ->Prop}{R:List OT->(OT->Prop)->Prop}{X:List OT->(δ->Prop)->Prop}(M:BackF FL)(T:Bl mg)(F:Fun K "__init__" "Desk.__init__" Gg f fd)(q:ZI P w K mg base "read" ZaI 9 (Zg K CE FL R X)):FnOk P w K mg base (CX1 P w) 10 f fd Zao (Zg K CE FL (λ_ _=>False)<|X_ini X):=by
 refine F.evZ M7 (λ_ _ h=>h.elim) (λ_ _ h=>by cases h;rfl) (λH RR ts C j h m A outer s B=>h.elim) (λF H RR ts C j D h m A outer s B=>#[_,(Qx (QP 2 M7.nd<|VV q B (V2 j) va1)
 Z9),?_])
 cases h with
 |mk h=>exact Wj (Nq M (Qu Qq Q0) h j D)
inductive X_hcomeG(CH:Addr):List OT->(Unit->Prop)->Prop
 |mk {y:Yd}{n:Nat}{S:List Gs}{gv:Ql}{go:Qk}{ms:List Zs}{g:Gs}(h:¬G30 y g):X_hcomeG CH [.zow<|QY CH<|hT y n S gv go ms,.fz<|QT g] (λ_=>True)
def ZoF(T:Bl mg)(W:HandC K CH)(M:U0 K mg "NoGuest" cg)(H0:Mf K CH "come" "Hand.come" Mx Zaq)(q:Q2 P w K mg base "is_guest" ZaF 4 (QA (K:=K) R_isguest)):ZH P w K mg base CH "come" Zaq 8 (Zg K cg Z6 (λ_ _=>False)<|X_hcomeG CH):=by
 refine H0.evZ S7 (λf H RR ts C j h m A outer s B=>h.elim) (λf F H RR ts C j D h m A outer s B=>#[_,(Qx (QQ (V3<|ZL<|Q6 q B<|Qs (Zp u0) va1) (Qy<|Bd M j<|Qs QG Qp) QS)
 Z9),?_]) (λ_ _ h=>h.elim)
 cases h with
 |mk h=>exact Wj (GB (Vm<|Z2<|QN (Qu (Qr.cast (J9 W rfl) rfl)<|Qu Qq Q0)<|.no h) (λ_=>Mw QU trivial D) nt)
def Zjz:Qo Zad Zad (Q8 Ss):=by walk_at"p"
def Zr7(T:Bl mg)(M:HandC K CH)(H0:Mf K CH "leave" "Hand.leave" Ss Zad)(q:ZH P w K mg base CH "refuse_number" Zad 3 (YC K CQ "number" (R_hnum CH)<|X_hnum CH)):ZH P w K mg base CH "leave" Zad 4 (YC K CQ "number" (λ_ _=>False)<|X_hnum CH):=by
 refine H0.evZ Zjz (λf H RR ts C j h m A outer s B=>h.elim) (λf F H RR ts C j D h m A outer s B=>#[_,(Qx (Zj<|YO q M B (V2 j) u0 va1)
 Z9),?_]) (λ_ _ h=>h.elim)
 cases h with
 |mk h=>exact Wj (Be bkV KW rfl (Qu Qq Q0) (.mk h) j D)
structure Over(N:HandS)(l t:Int):Prop where
 h:t<N.now
 y:∃y,N.yard=Zb y/\l<(y.ls.length:Int)/\t<(y.T:Int)
inductive X_hset(CH:Addr):List OT->(Unit->Prop)->Prop
 |mk {N:HandS}{l t b:Int}(h:Over N l t):X_hset CH [.zow<|QY CH N,.fz<|.int l,.fz<|.int t,.fz<|.int b] (λ_=>True)
def Zg0:Qo ["self","line","turn","bound","changed"] ZaA (Q8 SN):=by walk_at"p"
def IJ(T:Bl mg)(M:HandC K CH)(H0:Mf K CH "set_bound" "Hand.set_bound" SN ZaA)(q:ZH P w K mg base CH "refuse_past" ZaG 1 (Zg K ct Z6 (R_hpast CH)<|X_hpast CH)):ZH P w K mg base CH "set_bound" ZaA 8 (Zg K ct Z6 (λ_ _=>False)<|X_hset CH):=by
 refine H0.evZ Zg0 (λf H RR ts C j h m A outer s B=>h.elim) (λf F H RR ts C j D h m A outer s B=>#[_,(Qx (Zj<|YO q M B (V2 j) u0 y2)
 Z9),?_]) (λ_ _ h=>h.elim)
 cases h with
 |mk h=>exact Wj (Be bkN GV rfl (Qu Qq Q0) (.mk h.h) j D)
def Ao:Qo ["hand","line","turn","bound","yard"] ZaB (Q8 SI):=by walk_at"p"
def Ib(T:Bl mg)(W:HandC K CH)(H0:Df K mg "bound_answer" SI ZaB)(C:ZG P w K mg base CH "yard_now" Zav 1 (spY CH))(D:Q2 P w K mg base "line_count" ZaH 1 (QA (K:=K) R_count))(M:Q2 P w K mg base "turns_of" ZaH 1 (QA (K:=K) R_turns))(B:ZH P w K mg base CH "set_bound" ZaA 8 (Zg K ct Z6 (λ_ _=>False)<|X_hset CH)):ZI P w K mg base "bound_answer" ZaB 9 (Zg K ct Z6 (λ_ _=>False)<|X_hset CH):=by
 refine H0.evZ Ao (λf H RR ts X j h q A outer s m=>h.elim) (λf F H RR ts X j Z h q A outer s m=>#[_,(Qx (QP 4 Ao.nd<|Mp C W m u0)
 (Qx (QQ (PW.pt<|GG (Ze PB vb1<|Q6 D m g4)<|GO<|Ze PB u2<|Q6 M m g4) Z9 QS)
 (Qx (Zj<|YO B W m (V2 j) u0<|av 1<|av 2 v3)
 Z9))),?_]) (λ_ _ h=>h.elim)
 cases h with
 |mk h=>
  exact L3 h.y λy Y c a=>WS (Z1 (OZ II rfl Y) rfl)<|WS (Zc (JW (b:=false) (QZ.cast (Zq<|Yj Qq<|QN (Qu Qq Q0) .mk)<|XU<|#[]) λ_=>QZ.cast (Zq<|Yj Qq<|QN (Qu Qq Q0) .mk)<|XU<|#[]) nf λ_=>QX rfl)<|Wj (Be bkN Om rfl (Qu Qq<|Qu Qq<|Qu Qq Q0) (.mk h) j Z)
def Mu:Qo Zab Zab (Q8 UY):=by walk_at"p"
def K0(e:zg Z i<|zf<|.str x)(h:decide (x=c)=false)(k:EvZ K F0 D dx Z):EvZ K F0 D (Vh (Ws (Jr<|tOp rEq (Q5 i)<|tC<|.str c) t UA) dx) Z:=WS (Zc (QZ.cast (Zq<|WU (Qq e) QU) h) nf λ_=>QX rfl) k
def Dl(e:zg Z i<|zf<|.str x)(k:EvZ K F0 D t Z):EvZ K F0 D (Vh (Ws (Jr<|tOp rEq (Q5 i)<|tC<|.str x) t UA) dx) Z:=Wj (GB (QZ.cast (Zq<|WU (Qq e) QU)<|Yx rfl) (λ_=>k) nt)
inductive R_ansZ(CH:Addr):List OT->(OT->Prop)->Prop
 | now {N:HandS}(h:N.now.natAbs.log2<1920):R_ansZ CH [.zow<|QY CH N,.fz<|.str "now",.fz<|.tuple []] (λr=>r=.fz (.str<|nS N.now))
def Oe(T:Bl mg)(B:HandC K CH)(H0:Df K mg "answer" UY Zab)(j:ZG P w K mg base CH "now" Zav 1 (Zm K<|R_hnow CH)):Q2 P w K mg base "answer" Zab 10 (Zm K<|R_ansZ CH):=by
 refine H0.evD Mu (λf ts C h H D q A outer s m=>#[_,(Qx (QQ (Ze Z3 vb1 QG) Z9 QS)
 (Qx (QQ (Ze Z3 vb1 QG) Z9 QS)
 (Qx (QQ (Ze Z3 vb1 QG) Z9 QS)
 (Qx (QQ (Ze Z3 vb1 QG) Z9 QS)
 (Qx (QQ (Ze Z3 vb1 QG) Z9 QS)
 (Qx (QQ (Ze Z3 vb1 QG) Z9 QS)
 (Qx (QQ (Ze Z3 vb1 QG) Z9 QS)
 (Qy<|QK<|Vy W3 T.str YX<|Qs (Mp j B m u0) Qp)))))))),?_])
 cases h with
 |now h=>
  iterate 7 refine Q9 (Zc (QZ.cast (Zq<|WU Qq QU)<|by decide +kernel) nf λ_=>QX ?_)
  exact Zh (GR (OU Ec rfl Q0 R_hnow.mk) h) rfl
inductive X_ansN(CH:Addr):List OT->(V->Prop)->Prop
 | mk {N:HandS}{z:Int}(h:z<0\/(N.known.length:Int)<=z):X_ansN CH [.zow<|QY CH N,.fz<|.str "leave",.fz<|.tuple [.int z]] (λw=>w=.int z)
def Zsl(T:Bl mg)(W:HandC K CH)(H0:Df K mg "answer" UY Zab)(q:ZH P w K mg base CH "leave" Zad 4 (YC K CQ "number" (λ_ _=>False)<|X_hnum CH)):ZI P w K mg base "answer" Zab 10 (Zg K CQ (WI "number") (λ_ _=>False)<|X_ansN CH):=by
 refine H0.evZ Mu (λf H RR ts C j h m A outer s B=>h.elim) (λf F H RR ts C j D h m A outer s B=>#[_,(Qx (QQ (Ze Z3 vb1 QG) Z9 QS)
 (Qx (QQ (Ze Z3 vb1 QG) Z9 QS)
 (Qx (QQ (Ze Z3 vb1 QG) (Qy<|QK<|Vy W3 T.str YX<|Qs (YO q W B (V2 j) u0<|Qs (QI QJ u2 Qw) Qp) Qp) QS)
 Z9))),?_]) (λ_ _ h=>h.elim)
 cases h with
 |mk h=>exact K0 rfl (by decide +kernel) (K0 rfl (by decide +kernel)<|Dl rfl λX O E Y x M=>DY bkV OY rfl (Qu (V5 Qq Qz rfl) Q0) (.mk h) j D x M)
inductive X_ansD(CH:Addr):List OT->(Unit->Prop)->Prop
 | mk {y:Yd}{n:Nat}{S:List Gs}{gv:Ql}{go:Qk}{ms:List Zs}{g:Gs}(h:¬G30 y g):X_ansD CH [.zow<|QY CH<|hT y n S gv go ms,.fz<|.str "come",.fz<|QT g] (λ_=>True)
def Zs0(T:Bl mg)(W:HandC K CH)(H0:Df K mg "answer" UY Zab)(q:ZH P w K mg base CH "come" Zaq 8 (Zg K cg Z6 (λ_ _=>False)<|X_hcomeG CH)):ZI P w K mg base "answer" Zab 10 (Zg K cg Z6 (λ_ _=>False)<|X_ansD CH):=by
 refine H0.evZ Mu (λf H RR ts C j h m A outer s B=>h.elim) (λf F H RR ts C j D h m A outer s B=>#[_,(Qx (QQ (Ze Z3 vb1 QG) (Qy<|QK<|Vy W3 T.str YX<|Qs (YO q W B (V2 j) u0 y2) Qp) QS)
 Z9),?_]) (λ_ _ h=>h.elim)
 cases h with
 |mk h=>exact Dl rfl λX O E Y x M=>DY bkN DC rfl (Qu Qq Q0) (.mk h) j D x M
inductive X_ansE(CH:Addr):List OT->(Unit->Prop)->Prop
 | come {y:Yd}{n:Nat}{S:List Gs}{gv:Ql}{go:Qk}{ms:List Zs}{g:Gs}(h:G30 y g)(hp:g.first<n):X_ansE CH [.zow<|QY CH<|hT y n S gv go ms,.fz<|.str "come",.fz<|QT g] (λ_=>True)
 | bound {N:HandS}{l t b:Int}(h:Over N l t):X_ansE CH [.zow<|QY CH N,.fz<|.str "bound",.fz<|.tuple [.int l,.int t,.int b]] (λ_=>True)
def Zsj(T:Bl mg)(a:HandC K CH)(H0:Df K mg "answer" UY Zab)(C:ZH P w K mg base CH "come" Zaq 8 (Zg K ct Z6 (λ_ _=>False)<|X_hcomeT CH))(B:ZI P w K mg base "bound_answer" ZaB 9 (Zg K ct Z6 (λ_ _=>False)<|X_hset CH)):ZI P w K mg base "answer" Zab 10 (Zg K ct Z6 (λ_ _=>False)<|X_ansE CH):=by
 refine H0.evZ Mu (λf H RR ts M j h q A outer s m=>h.elim) (λf F H RR ts M j D h q A outer s m=>#[_,(Qx (QQ (Ze Z3 vb1 QG) (Qy<|QK<|Vy W3 T.str YX<|Qs (YO C a m (V2 j) u0 y2) Qp) QS)
 (Qx (QQ (Ze Z3 vb1 QG) Z9 QS)
 (Qx (QQ (Ze Z3 vb1 QG) Z9 QS)
 (Qx (QQ (Ze Z3 vb1 QG) Z9 QS)
 (Qx (QQ (Ze Z3 vb1 QG) Z9 QS)
 (Qx (QQ (Ze Z3 vb1 QG) (Qy<|QK<|VV B m (V2 j)<|av 0<|Qs (QI QJ u2 Qw)<|Qs (QI QJ u2 Qw)<|Qs (QI QJ u2 Qw) Qp) QS)
 Z9)))))),?_]) (λ_ _ h=>h.elim)
 cases h with
 |come h W=>exact Dl rfl λc O E g x Y=>DY bkN DC rfl (Qu Qq Q0) (.mk h W) j D x Y
 |@bound N l t b h=>
  iterate 5 refine K0 rfl (by decide +kernel) ?_
  exact Dl rfl (Lh bkN (Dy rfl (Qu ((λU X=>V5 (Qq U) Qz X) rfl rfl)<|Qu ((λU X=>V5 (Qq U) Qz X) rfl rfl)<|Qu ((λU X=>V5 (Qq U) Qz X) rfl rfl) Q0)) (.mk h) j D)
inductive R_sayZ(CD CH:Addr):List OT->(OT->Prop)->Prop
 | mk {N:HandS}{x w:Str}{is:Ql}{Φ:OT->Prop}(h:RowW x w is)(a:R_ansZ CH [.zow<|QY CH N,.fz<|.str w,.fz<|.tuple<|is.map PyData.int] Φ):R_sayZ CD CH [.zow<|InZ CD "hand"<|QY CH N,.fz<|.str x] Φ
def Bi:Qo ["self","row","words"] Zaj (Q8 Mz):=by walk_at"p"
def Ix(T:Bl mg)(C:DeskC K CD)(H0:Mf K CD "say" "Desk.say" Mz Zaj)(q:Q2 P w K mg base "words_of" ["row"] 3 (QA (K:=K) R_words))(B:Q2 P w K mg base "numbers_of" Zah 1 (QA (K:=K) R_numsof))(m:Q2 P w K mg base "answer" Zab 10 (Zm K<|R_ansZ CH)):ZG P w K mg base CD "say" Zaj 11 (Zm K<|R_sayZ CD CH):=by
 refine H0.evD Bi (λf ts M h H W D A outer s j=>#[_,(Qx (QP 2 Bi.nd<|Q6 q j va1)
 (Qy<|QK<|Q6 m j<|Qs (Zp u0)<|Qs (QI QJ u2 Qw)<|Qs (Q6 B j<|Qs (VS VW u2 (VU Qw) VT) Qp) Qp)),?_])
 cases h with
 |mk h a=>
  exact Q9 (Z1 (QN (Qu Qq Q0)<|.mk h) (Ng (YK (Lb C.cl C.hd rfl (Qu (ZZ Qq Qz<|ZQ rfl)<|Qu (QN (Qu (Qr.cast (EvO.fz<|Wz Qq (VF Qz) VE)<|by rw[MQ]) Q0)<|.is h.n h.h5) Q0)) a) (λr h=>h)))
inductive X_sayG(CD CH:Addr){δ:Type}(X:List OT->(δ->Prop)->Prop):List OT->(δ->Prop)->Prop
 | mk {N:HandS}{x w:Str}{is:Ql}{Φ:δ->Prop}(h:RowW x w is)(a:X [.zow<|QY CH N,.fz<|.str w,.fz<|.tuple<|is.map PyData.int] Φ):X_sayG CD CH X [.zow<|InZ CD "hand"<|QY CH N,.fz<|.str x] Φ
def NK{CD CE:Addr}{δ:Type}{FL:Addr->Hp->Hp->Hp->Qj->δ->Prop}{X:List OT->(δ->Prop)->Prop}(Z:BackF FL)(T:Bl mg)(M:DeskC K CD)(H0:Mf K CD "say" "Desk.say" Mz Zaj)(C:Q2 P w K mg base "words_of" ["row"] 3 (QA (K:=K) R_words))(D:Q2 P w K mg base "numbers_of" Zah 1 (QA (K:=K) R_numsof))(B:ZI P w K mg base "answer" Zab 10 (Zg K CE FL (λ_ _=>False) X)):ZH P w K mg base CD "say" Zaj 11 (Zg K CE FL (λ_ _=>False)<|X_sayG CD CH X):=by
 refine H0.evZ Bi (λf H RR ts W j h q A outer s m=>h.elim) (λf F H RR ts W j Y h q A outer s m=>#[_,(Qx (QP 2 Bi.nd<|Q6 C m va1)
 (Qy<|QK<|VV B m (V2 j)<|Qs (Zp u0)<|Qs (QI QJ u2 Qw)<|Qs (Q6 D m<|Qs (VS VW u2 (VU Qw) VT) Qp) Qp)),?_]) (λ_ _ h=>h.elim) (λ_ _ h=>by cases h;rfl)
 cases h with
 |mk h a=>
  exact WS (Z1 (QN (Qu Qq Q0)<|.mk h) rfl)<|Lh Z (Lb M.cl M.hd rfl (Qu (ZZ Qq Qz<|ZQ rfl)<|Qu (QN (Qu (Qr.cast (EvO.fz<|Wz Qq (VF Qz) VE)<|by rw[MQ]) Q0)<|.is h.n h.h5) Q0)) a j Y
def EK(hg:∀x∈S,G30 y x)(f:Gw y (QR<|mT n S gv go) φ)(hn:n<y.T)(h:k<S.length):N30 (Zv (QR<|mT n S gv go) φ n k):=by
 obtain⟨a,b⟩:=f.1.tak (show k<(mT n S gv go).length by rw[GJ];exact h) hn;refine#[a,ME b ?_];unfold moT;split
 .show((mT n S gv go).getD k default).most<10^30
  rw[AK h];exact(hg (S.getD k default)<|by simp[h]).m
 .decide +kernel
noncomputable def gfT(f:Qn)(m:Nat):Str:=if gfS f m=[] then "-" else Str.join " " (gfS f m)
inductive R_ansT:HandS->List OT->(OT->HandS->Prop)->Prop
 |mk {y:Yd}{n:Nat}{S:List Gs}{gv:Ql}{go:Qk}{ms:List Zs}(ok:y.Ok)(hg:∀x∈S,G30 y x)(gl:gv.length=S.length)(hn:n<y.T)(h0:∀k,k<S.length->0<=rsT S gv go k)(l:S.length<=8)(ml:ms.length<=8):
  R_ansT (hT y n S gv go ms) [.fz<|.str "turn",.fz<|.tuple []] (λr N'=>∃φ,Gw y (QR<|mT n S gv go) φ/\r=.fz (.str<|gfT (Zv (QR<|mT n S gv go) φ n) S.length)/\N'=hT y (n+1) S (gvT gv (Zv (QR<|mT n S gv go) φ n) S.length S.length) go (ms++[gfD (Zv (QR<|mT n S gv go) φ n) S.length]))
def Zs5(T:Bl mg)(g:HandC K CH)(H0:Df K mg "answer" UY Zab)(q:Q2 P w K mg base "gifts_answer" ["gifts"] 2 (Zm K R_gans))(m:ZH P w K mg base CH "turn" Zav 7 (G6 K CH ct Z6 R_hturn<|X_hturn CH)):Q2 P w K mg base "answer" Zab 10 (spP K (Zf CH) R_ansT):=by
 refine H0.evP Mu (λf v M ts i h H z d A outer s B=>?_);cases h with
 |@mk y n S t u p Y W gl D b l Z=>
  refine#[_,(Qx (QQ (Ze Z3 vb1 QG) Z9 QS)
 (Qx (QQ (Ze Z3 vb1 QG) (Qy<|QK<|Q6 q B<|Qs (ZrG m g B (WO (C:=ct)) u0) Qp) QS)
 Z9)),?_]
  refine W6 (Zc (QZ.cast (Zq<|WU Qq QU) rfl) nf λ_=>QX rfl)<|Nf (AG (QZ.cast (Zq<|WU Qq QU) rfl) (λ_=>EN Oq rfl Q0 (R_hturn.mk Y W gl D b l Z) Ja ?_) nt);rintro r x ⟨X,c,j,rfl,rfl⟩;refine#[c,_,_,rfl,R_gans.mk l λk a=>EK W j D a,λo e=>#[_,_,e,rfl,_,#[X,j,rfl,rfl],rfl]]
inductive R_sayT:HandS->List OT->(OT->HandS->Prop)->Prop
 |mk {N:HandS}{x w:Str}{is:Ql}{Ψ:OT->HandS->Prop}(h:RowW x w is)(a:R_ansT N [.fz<|.str w,.fz<|.tuple<|is.map PyData.int] Ψ):R_sayT N [.fz<|.str x] Ψ
def ZsN(T:Bl mg)(D:DeskC K CD)(H0:Mf K CD "say" "Desk.say" Mz Zaj)(B:Q2 P w K mg base "words_of" ["row"] 3 (QA (K:=K) R_words))(C:Q2 P w K mg base "numbers_of" Zah 1 (QA (K:=K) R_numsof))(q:Q2 P w K mg base "answer" Zab 10 (spP K (Zf CH) R_ansT)):ZG P w K mg base CD "say" Zaj 11 (spP K (λN=>InP CD "hand"<|Zf CH N) R_sayT):=by
 refine H0.evP Bi (by intro _ _ _ h;cases h;rfl) (λf X A outer s H d v M ts W m h=>?_);cases h with
 |@mk x Z b W h a=>
  refine#[_,(Qx (QP 2 Bi.nd<|Q6 B m va1)
 (Qy<|QK<|Q6 q m<|Qs (Zp u0)<|Qs (QI QJ u2 Qw)<|Qs (Q6 C m<|Qs (VS VW u2 (VU Qw) VT) Qp) Qp)),?_]
  have c:=h.h5;exact W6 (Z1 (QN (Qu (Qq rfl) Q0)<|R_words.mk h) rfl)<|ZqB D.cl D.hd rfl (Qu (ZZ (Qq rfl) Qz<|ZQ rfl)<|Qu (QN (Qu (Qr.cast (EvO.fz<|Wz (Qq rfl) (VF Qz) VE)<|by rw[MQ]) Q0)<|R_numsof.is h.n h.h5) Q0) a (λr Y j=>#[Y,j,rfl])
inductive R_said(CD CH:Addr):List OT->(OT->Prop)->Prop
 | tell {N:HandS}{x s:Str}(h:R_sayZ CD CH [.zow<|InZ CD "hand"<|QY CH N,.fz<|.str x] (λr=>r=.fz (.str s))):R_said CD CH [.zow<|InZ CD "hand"<|QY CH N,.fz<|.str x] (λr=>r=.ol [.str "says",.str s])
 | num {N:HandS}{x:Str}{z:Int}(h:X_sayG CD CH (X_ansN CH) [.zow<|InZ CD "hand"<|QY CH N,.fz<|.str x] (λw=>w=.int z)):R_said CD CH [.zow<|InZ CD "hand"<|QY CH N,.fz<|.str x] (λr=>r=.ol [.str "number",.int z])
 | time {N:HandS}{x:Str}(h:X_sayG CD CH (X_ansE CH) [.zow<|InZ CD "hand"<|QY CH N,.fz<|.str x] (λ_=>True)):R_said CD CH [.zow<|InZ CD "hand"<|QY CH N,.fz<|.str x] (λr=>r=.ol [.str "time"])
 | guest {N:HandS}{x:Str}(h:X_sayG CD CH (X_ansD CH) [.zow<|InZ CD "hand"<|QY CH N,.fz<|.str x] (λ_=>True)):R_said CD CH [.zow<|InZ CD "hand"<|QY CH N,.fz<|.str x] (λr=>r=.ol [.str "guest"])
noncomputable def sW:Qh:=["guest","time","room","number","row"]
def wF(h:PyData.strOk x=true):Vi (.list [.str x]):=(BV (m:=0)<|Ma #[by unfold PyData.canLay0;exact h,XA _] D2).fine (by decide)
def DE(e:Z[2]?=some (some<|.ol [.str a]))(U:PyData.strOk a=true)(f:PyData.strOk x=true)(h:PyData.eqv (.list [.str a]) (.list [.str x])=b):QZ K (Jr<|tOp MN (Q5 2)<|Y1<|Q3 (tC<|.str x) QH) Z b:=
 ZsI 2 e rfl (QZ.cast (Zq<|Ky (Qq<|X6 (Xh.mp e).1) (EvO.fz<|ZA (QM QU Zu)<|by simp) (wF U)<|wF f) h)
def Lc{rest:TS}
(is:∀{Z:ZbB} {c:Addr} {b:Bool},Z[3]?=some (some o)->W.kitOne K (.ref C) (.ref c)=some b->Qr K (tCB (Y2 K C)<|Q3 (Q5 3)<|Q3 (tC<|.ref c) QH) Z (.bool b))
(th:∀{Z:ZbB} {t:TE} {s:Qd},Z[3]?=some (some o)->Jx s->(∀q:ZP,(∀f:ZbB,f[3]?=some (zz q)->EvI K (B3 C e<|Q3 (tC<|.int 5) QH) f (Vp 0 5))->EvO K t (Z.set 3<|zz q) (.ol s))->EvO K t Z (.ol s))
(m:Uy K mg Xa6 C cg ct CR CQ cu (decide (0=j)) (decide (1=j)) (decide (2=j)) (decide (3=j)) (decide (4=j)))(M:j<5)
(h:∀B A,QE K rest [none,none,some<|.ol [.str<|sW.getD j Str.empty],some o,B,A] H0):
 QE K (Vh (ZM (Y1<|Q3 (tCB (Y2 K C)<|Q3 (Q5 3)<|Q3 (tC<|.ref cg) QH)<|Q3 (tCB (Y2 K C)<|Q3 (Q5 3)<|Q3 (tC<|.ref ct) QH)<|Q3 (tCB (Y2 K C)<|Q3 (Q5 3)<|Q3 (tC<|.ref CR) QH) QH)<|Vk 4)
  (Vh (ZM (tOp U7 (Q5 4)<|Y1<|Q3 (tCB (Y2 K C)<|Q3 (Q5 3)<|Q3 (tC<|.ref CQ) QH)<|Q3 (tCB (Y2 K C)<|Q3 (Q5 3)<|Q3 (tC<|.ref cu) QH) QH)<|Vk 4)
  (Vh (ZM (Y1<|Q3 (tC<|.str "guest")<|Q3 (tC<|.str "time")<|Q3 (tC<|.str "room")<|Q3 (tC<|.str "number")<|Q3 (tC<|.str "row") QH)<|Vk 5)
  (Vh (ZM (tLC [none,some 5,some 4] (B3 C e<|Q3 (tC<|.int 5) QH) (λ_=>Vk 0) (λ_=>tB<|tOp (rIx K) (Q5 2)<|Q5 0) λ_=>tOp (rIx K) (Q5 1)<|Q5 0)<|Vk 2) rest)))) [none,none,none,some o,none,none] H0:=by
 refine Q9 (ZO (ZA (ds:=[.bool<|decide (0=j),.bool<|decide (1=j),.bool<|decide (2=j)]) (QM (is rfl m.k1)<|QM (is rfl m.k2)<|QM (is rfl m.k3) Zu)<|by show(3:Nat)<=1000;decide) ?_);walk_at"d";refine YF 4 rfl ?_;walk_at"d";refine Q9 (ZO (WV (bs:=[.bool<|decide (3=j),.bool<|decide (4=j)]) (Qq rfl) (EvO.fz<|ZA (QM (is rfl m.k4)<|QM (is rfl m.k5) Zu) HY)<|by show(5:Nat)<=1000;decide) ?_);walk_at"d";refine YF 4 rfl ?_;walk_at"d";refine Q9 (ZO (ZA (ds:=sW.map PyData.str) (QM QU<|QM QU<|QM QU<|QM QU<|QM QU Zu)<|by show(5:Nat)<=1000;decide) ?_);walk_at"d";refine YF 5 rfl ?_;walk_at"d";have Y:Jx [PyData.str<|sW.getD j Str.empty]:=λd P=>by rw[Xj.mp P];exact#[_,rfl]
 refine Q9 (ZO (r:=.ol [.str<|sW.getD j Str.empty]) (th rfl Y λq X=>EvO.cast (BM (xs:=List.range 5) (enc:=λ(k:Nat)=>PyData.int (k:Int)) (h:=λ(k:Nat)=>.str<|sW.getD k Str.empty) (p:=λk=>decide (k=j)) ?ei (by decide) ?el) ?eq)<|h _ _)
 case ei=>exact EvI.cast (X _ rfl) rfl
 case eq=>
  have:∀j:Nat,j<5->(List.range 5).filter (λk=>decide (k=j))=[j]:=by decide
  rw[this j M];rfl
 case el=>
  intro k w c;have w:=YB.mp w;refine#[_,Zw,?_];walk_at"e";have D:atI ([PyData.bool<|decide (0=j),.bool<|decide (1=j),.bool<|decide (2=j)]++[.bool<|decide (3=j),.bool<|decide (4=j)]) (k:Int)=some (PyData.bool<|decide (k=j)):=by
   obtain rfl|rfl|rfl|rfl|rfl:k=0\/k=1\/k=2\/k=3\/k=4:=#[]
   all_goals rfl
  refine#[QZ.cast (Z2<|ZZ (Qq rfl) (Qq rfl) D) rfl,λa=>ZZ (ds:=sW.map PyData.str) (Qq rfl) (Qq rfl) ?_];obtain rfl|rfl|rfl|rfl|rfl:k=0\/k=1\/k=2\/k=3\/k=4:=#[]
  all_goals rfl
def VX:Qo Zac ZaL (Q8 Bh):=by walk_at"p"
def Tg{X:List OT->(Unit->Prop)->Prop}(p:j=0\/j=1)(T:Bl mg)(I:DeskC K CD)(m:Uy K mg YR CE cg ct CR CQ cu (decide (0=j)) (decide (1=j)) (decide (2=j)) (decide (3=j)) (decide (4=j)))(W:ZH P w K mg base CD "say" Zaj 11 (Zg K CE Z6 (λ_ _=>False)<|X_sayG CD CH X))  (h:X_sayG CD CH X [.zow<|InZ CD "hand"<|QY CH N,.fz<|.str x] (λ_=>True)){f:Addr}  (q:Φ (.ol [.str<|sW.getD j Str.empty])):B0 P w K mg base Zac "_law_said" Bh 11 f H H1 λt=>QE K t (ini Zac [.zow<|InZ CD "hand"<|QY CH N,.fz<|.str x]) { nx:=λ_=>Φ<|.fz .none,rt:=Φ }:=λG A outer s a=>by
 refine#[_,(Qx (QP 2 VX.nd UP)
 (Qx (Bc (j:=3) m.em rfl rfl rfl m.my VX.nd rfl (.inl rfl) (λH0 k=>(Qy<|QP 2 VX.nd<|Zk<|Qs QG<|Qs (D8 W I.cl a Gc u0 va1) Qp)) (λe k=>(Qx (QP 4 VX.nd<|Zk<|Qs (V4 m.is T.isi<|av 3<|Qs (ZK (v:=.ref _) rfl m.m1 rfl) Qp)<|Qs (V4 m.is T.isi<|av 3<|Qs (ZK (v:=.ref _) rfl m.m2 rfl) Qp)<|Qs (V4 m.is T.isi<|av 3<|Qs (ZK (v:=.ref _) rfl m.m3 rfl) Qp) Qp)
 (Qx (QP 4 VX.nd<|QL YH t4<|Zk<|Qs (V4 m.is T.isi<|av 3<|Qs (ZK (v:=.ref _) rfl m.m4 rfl) Qp)<|Qs (V4 m.is T.isi<|av 3<|Qs (ZK (v:=.ref _) rfl m.m5 rfl) Qp) Qp)
 (Qx (QP 5 VX.nd<|BZ<|ZS QG (ZS QG (ZS QG (ZS QG (ZS QG BD Vn) Vn) Vn) Vn) Vn)
 (Qx (Rc (i:=2) VX.nd rfl rfl (NX:=Zac) (sc:=Q8 Bh) (N:=Zau) (f:=[none,some 5,some 4]) (by decide +kernel) rfl rfl (Cl (C:=CE) (e:=e) (by rfl) (by rfl) T.range<|Qs Qw Qp) (λ_=>(ZF 0 (show(Zau:Qh).Nodup by decide +kernel))) (λ_=>Uh) (λ_=>(BU<|ZL<|QI (show IxR _ (rIx K) from QJ) u2 u0)) (λ_=>(QI (show IxR _ (rIx K) from QJ) vb1 u0)) rfl)
 (Qx (QQ (Ze (GQ a.units) u2<|Zk<|Qs QG Qp) (Qy<|Zj (show PE _ _ (tBM K "list" VI _ _) from ZD zP zS zT V6 u2<|Qs Dx Qp)) QS)
 (Qy<|QQ (Ze (GQ a.units) u2<|Zk<|Qs QG Qp) (Qy<|Zj (show PE _ _ (tBM K "list" VI _ _) from ZD zP zS zT V6 u2<|Qs Dx Qp)) QS))))))))
 (Qy<|QK u2))),?_]
 refine Q9 (Z1 W0<|Q9 ?_);apply DP (n:=6) (j:=3) xfN (λ_=>True) (λ_ h=>h) (by decide)
 case hz=>
  exact λE' F0 D F O J x St l=>TF QU (Q1.refl St.sub) St λF1 E c L Q=>LV bkN (by decide +kernel) rfl (Qu (Qq rfl) Q0) h Ge (λR Y e M d u g r z=>l R Y e M d u g r z) c L
 case hth=>
  rintro _ e _ _ rfl;refine Lc (λU B=>KZ U rfl B) (λU B y=>Zrk 3 U B<|y _ λb o=>Zqt o (Qu Qz Q0) (by decide)<|by decide) m #[] λu4 S=>?_;obtain rfl|rfl:=p
  all_goals
   exact Q9 (Zc (DE rfl (by decide +kernel) (by decide +kernel)<|by decide +kernel) nf λ_=>QX (Zc (DE rfl (by decide +kernel) (by decide +kernel)<|by decide +kernel) nf (λ_=>QX (J5 rfl q))))
def Iu(T:Bl mg)(M:DeskC K CD)(m:Uy K mg YR CQ cg ct CR CQ cu false false false true false)(q:Uy K mg YR ct cg ct CR CQ cu false true false false false)(l:Uy K mg YR cg cg ct CR CQ cu true false false false false)(p:A3 K mg YR CQ)(H0:Df K mg "_law_said" Bh ZaL)(c:ZG P w K mg base CD "say" Zaj 11 (Zm K<|R_sayZ CD CH))(b:ZH P w K mg base CD "say" Zaj 11 (Zg K CQ (WI "number") (λ_ _=>False)<|X_sayG CD CH<|X_ansN CH))(k:ZH P w K mg base CD "say" Zaj 11 (Zg K ct Z6 (λ_ _=>False)<|X_sayG CD CH<|X_ansE CH))(g:ZH P w K mg base CD "say" Zaj 11 (Zg K cg Z6 (λ_ _=>False)<|X_sayG CD CH<|X_ansD CH)):Q2 P w K mg base "_law_said" ZaL 12 (Zm K<|R_said CD CH):=by
 refine H0.evD VX (λf ts Φ h H H1=>?_);cases h with
 |time h=>exact Tg (Φ:=λr=>r=_) (.inr rfl) T M q k h rfl
 |guest h=>exact Tg (Φ:=λr=>r=_) (.inl rfl) T M l g h rfl
 |tell h=>
  refine λa A outer s B=>have X:=B.units;#[_,(Qx (QP 2 VX.nd UP)
 (Qx (Bc (j:=3) q.em rfl rfl rfl q.my VX.nd rfl (.inl rfl) (λH0 W=>(Qy<|QP 2 VX.nd<|Zk<|Qs QG<|Qs (D8 c M.cl B Js u0 va1) Qp)) λe W=>Z9)
 (Qy<|QK u2))),?_]
  exact Q9 (Z1 W0 (Q9 (L7 λE'=>ZO (ZA (QM QU<|QM (EW (by decide +kernel) rfl (Qu (Qq rfl) Q0) h) Zu)<|by show(2)<=1000;decide) (J5 rfl rfl))))
 |@num N x z h=>
  refine λa A outer s B=>have X:=B.units;#[_,(Qx (QP 2 VX.nd UP)
 (Qx (Bc (j:=3) m.em rfl rfl rfl m.my VX.nd rfl (.inl rfl) (λH0 W=>(Qy<|QP 2 VX.nd<|Zk<|Qs QG<|Qs (D8 b M.cl B Gc u0 va1) Qp)) (λe W=>(Qx (QP 4 VX.nd<|Zk<|Qs (V4 m.is T.isi<|av 3<|Qs (ZK (v:=.ref _) rfl m.m1 rfl) Qp)<|Qs (V4 m.is T.isi<|av 3<|Qs (ZK (v:=.ref _) rfl m.m2 rfl) Qp)<|Qs (V4 m.is T.isi<|av 3<|Qs (ZK (v:=.ref _) rfl m.m3 rfl) Qp) Qp)
 (Qx (QP 4 VX.nd<|QL YH t4<|Zk<|Qs (V4 m.is T.isi<|av 3<|Qs (ZK (v:=.ref _) rfl m.m4 rfl) Qp)<|Qs (V4 m.is T.isi<|av 3<|Qs (ZK (v:=.ref _) rfl m.m5 rfl) Qp) Qp)
 (Qx (QP 5 VX.nd<|BZ<|ZS QG (ZS QG (ZS QG (ZS QG (ZS QG BD Vn) Vn) Vn) Vn) Vn)
 (Qx (Rc (i:=2) VX.nd rfl rfl (NX:=Zac) (sc:=Q8 Bh) (N:=Zau) (f:=[none,some 5,some 4]) (by decide +kernel) rfl rfl (Cl (C:=CQ) (e:=e) (by rfl) (by rfl) T.range<|Qs Qw Qp) (λ_=>(ZF 0 (show(Zau:Qh).Nodup by decide +kernel))) (λ_=>Uh) (λ_=>(BU<|ZL<|QI (show IxR _ (rIx K) from QJ) u2 u0)) (λ_=>(QI (show IxR _ (rIx K) from QJ) vb1 u0)) rfl)
 (Qx (QQ (Ze (GQ X) u2<|Zk<|Qs QG Qp) (Qy<|Zj (show PE _ _ (tBM K "list" VI _ _) from ZD zP zS zT V6 u2<|Qs Dx Qp)) QS)
 (Qy<|QQ (Ze (GQ X) u2<|Zk<|Qs QG Qp) (Qy<|Zj (show PE _ _ (tBM K "list" VI _ _) from ZD zP zS zT V6 u2<|Qs (LN p.gt p.na y3) Qp)) QS))))))))
 (Qy<|QK u2))),?_]
  refine Q9 (Z1 W0<|Q9 ?_);apply DP (n:=6) (j:=3) xfV (λw=>w=.int z) (λ_ _=>trivial) (by decide)
  case hz=>
   exact λE' F0 D F O J x St I=>TF QU (Q1.refl St.sub) St λF1 E y S1 Q=>LV bkV (by decide +kernel) rfl (Qu (Qq rfl) Q0) h Ge (λF' o e Z d S G R fl=>I F' o e Z d S G R fl) y S1
  case hth=>
   rintro _ e _ rfl ⟨u,rfl⟩;exact Lc (j:=3) (λU Y=>KP U rfl Y) (λU Y h3=>Zp2 3 U Y<|h3 _ λt L=>Zpp L (Qu Qz Q0) (by decide)<|by decide) m (by decide) λu4 u5=>Q9 (Zc (DE rfl (by decide +kernel) (by decide +kernel)<|by decide +kernel) nf λ_=>QX (Zc (DE rfl (by decide +kernel) (by decide +kernel)<|by decide +kernel) (λ_=>Ji rfl (Tn rfl (λ_=>.int _)) (by decide) (J5 rfl rfl)) nt))
inductive MadeW:PyData->Qd->Prop
 |ok {t:Str}(G:RdG t)(g:GsOk (ydT t) (gsT t)):MadeW (.str t) []
 |tx {d:PyData}{n:Int}(h:RC_rows [.fz d] (λ_=>False) (λw=>w=.int n)):MadeW d [.bool true,.bool false,.bool false,.bool true,.bool false,.int n]
 |yd {t:Str}(h:X_readY [.fz<|.str t] (λ_=>True)):MadeW (.str t) [.bool false,.bool true,.bool false,.bool true,.bool false]
 |gu {t:Str}(h:X_readG [.fz<|.str t] (λ_=>True)):MadeW (.str t) [.bool false,.bool false,.bool true,.bool true,.bool false]
def MadeW.fine(h:MadeW d ds):Vi (.list ds):=by
 refine(BV (m:=0) λx f=>?_).fine (by decide);cases h<;>simp only[Xc,XH,or_false]at f
 .rcases f with rfl|rfl|rfl|rfl|rfl|rfl<;>exact#[rfl,XA _]
 all_goals rcases f with rfl|rfl|rfl|rfl|rfl<;>exact#[rfl,XA _]
def B2(d:PyData):Prop:=(tyD d == "str")=false\/∃t,d=.str t/\TxB t
def Zta(h:B2 d):∃ds,MadeW d ds:=by
 rcases h with h|⟨t,rfl,h⟩
 .exact#[_,.tx<|.non h rfl]
 cases e:Jn (ZT t) with
 |some k=>exact#[_,.tx (n:=k)<|.txt h (λj z=>by rw[e]at z;cases z;rfl) λz=>by rw[e]at z;cases z]
 |none=>
  cases y:ydB (ydT t) with
  |false=>exact#[_,.yd<|.mk #[h,e] y]
  |true=>
   by_cases g:GsOk (ydT t) (gsT t)
   .exact#[_,.ok #[#[h,e],y] g]
   .exact#[_,.gu<|.mk #[#[h,e],y] g]
inductive R_made:List OT->(OT->Prop)->Prop
 |mk {d:PyData}{ds:Qd}{b:Bool}(h:MadeW d ds):R_made [.fz d,.fz<|.bool b] (λr=>r=.ol ds)
def Ls{rest:TS}
(is:∀{Z:ZbB} {c:V} {j:Value} {b:Bool},Z[3]?=some (some o)->Bz c=some j->W.kitOne K (.ref C) j=some b->Qr K (tCB (Y2 K C)<|Q3 (Q5 3)<|Q3 (tC c) QH) Z (.bool b))
(it:∀{Z:ZbB},Z[3]?=some (some o)->Qr K (tCB r<|Q3 (Q5 3)<|Q3 (Wu<|G9 [q1,q2,q3,q4]) QH) Z (.bool false))
(f:Uz K mg YR C CX cy cg q1 q2 q3 q4 b1 b2 b3)(h:∀m,QE K rest [none,none,some<|.ol [.bool b1,.bool b2,.bool b3,.bool true,.bool false],some o,m] H0):
 QE K (Vh (ZM (Y1<|Q3 (tCB (Y2 K C)<|Q3 (Q5 3)<|Q3 (tC<|.ref CX) QH)<|Q3 (tCB (Y2 K C)<|Q3 (Q5 3)<|Q3 (tC<|.ref cy) QH)<|Q3 (tCB (Y2 K C)<|Q3 (Q5 3)<|Q3 (tC<|.ref cg) QH)<|Q3 (tCB (Y2 K C)<|Q3 (Q5 3)<|Q3 (tC<|.ty "ValueError") QH) QH)<|Vk 4)
  (Vh (ZM (tOp U7 (Q5 4)<|Y1<|Q3 (tCB r<|Q3 (Q5 3)<|Q3 (Wu<|G9 [q1,q2,q3,q4]) QH) QH)<|Vk 2) rest)) [none,none,none,some o,none] H0:=by
 exact Q9 (ZO (ZA (QM (is rfl rfl f.k1)<|QM (is rfl rfl f.k2)<|QM (is rfl rfl f.k3)<|QM (is rfl rfl f.k4) Zu)<|by show(4:Nat)<=1000;decide) (YF 4 rfl<|Q9 (ZO (WV (as:=[.bool b1,.bool b2,.bool b3,.bool true]) Qq (EvO.fz<|ZA (QM (it rfl) Zu) JN)<|by show(5:Nat)<=1000;decide)<|h _)))
def WC:Qo Zan Zaz (Q8 Hm):=by walk_at"p"
def TX{X:List OT->(Unit->Prop)->Prop}  (T:Bl mg)(m:Uz K mg YR CE CX cy cg q1 q2 q3 q4 false b1 b2)(i:Uc P w K mg base "Desk" CD Zao 10 (Zg K CE Z6 (λ_ _=>False)<|X_ini X))(g:ZI P w K mg base "read" ZaI 9 (Zg K CE Z6 R' X))  (h:X [.fz d] (λ_=>True)){f:Addr}  (W:Φ (.ol [.bool false,.bool b1,.bool b2,.bool true,.bool false])):B0 P w K mg base Zan "_law_made" Hm 11 f H H1 λt=>QE K t (ini Zan [.fz d,.fz<|.bool b]) { nx:=λ_=>Φ<|.fz .none,rt:=Φ }:=λy A outer s Y=>by
 have G:=Y.units;refine#[_,(Qx (QP 2 WC.nd<|Zk Qp)
 (Qx (Bc (j:=3) m.em rfl rfl rfl m.my WC.nd rfl (.inl rfl) (λH0 p=>(Qy<|QQ (ZL vb1) (Qy<|Zj<|F6 i Y Gc y0)<|Qy<|Zj<|VV g Y Gc y0)) (λe p=>(Qx (QP 4 WC.nd<|Zk<|Qs (V4 m.is T.isi<|av 3<|Qs (ZK (v:=.ref _) rfl m.m1 rfl) Qp)<|Qs (V4 m.is T.isi<|av 3<|Qs (ZK (v:=.ref _) rfl m.m2 rfl) Qp)<|Qs (V4 m.is T.isi<|av 3<|Qs (ZK (v:=.ref _) rfl m.m3 rfl) Qp)<|Qs (V4 m.is T.isi<|av 3<|Qs (Ui (v:=.ty "ValueError") rfl T.ValueError Al rfl) Qp) Qp)
 (Qx (QP 2 WC.nd<|QL YH t4<|Zk<|Qs (Zx (show ZC _ (.builtin "isinstance") (Kj K CE) from Ox m.is) T.isi Jz<|av 3<|Qs (Ys<|Qs (ZK (v:=.ref _) rfl m.n1 rfl)<|Qs (ZK (v:=.ref _) rfl m.n2 rfl)<|Qs (ZK (v:=.ref _) rfl m.n3 rfl)<|Qs (ZK (v:=.ref _) rfl m.n4 rfl) Qp) Qp) Qp)
 (Qy<|QQ (ZL<|V4 m.is T.isi<|av 3<|Qs (ZK (v:=.ref _) rfl m.m1 rfl) Qp) (Qy<|Zj (show PE _ _ (tBM K "list" VI _ _) from ZD zP zS zT V6 u2<|Qs Dx Qp)) QS)))))
 (Qy<|QK u2))),?_]
 refine Q9 (ZO (ZA Zu<|by decide)<|Q9 ?_);apply DP (n:=5) (j:=3) xfN (λ_=>True) (λ_ h=>h) (by decide)
 case hz=>
  exact λL F0 D F O J x St o=>P8 (Z2 Qq) (Q1.refl St.sub) St (λ_ z E C k=>FH bkN (Qu Qq Q0) h Ge (λl B e q d a M Z c=>o l B e q d a M Z c) C k) (λ_ z E C k=>Mm bkN (Qu Qq Q0) h Ge (λl B e q d a M Z c=>o l B e q d a M Z c) C k)
 case hth=>
  rintro _ e _ _ rfl;exact Ls (λU u r=>KZ U u r) (λU=>IH U (by show(4:Nat)<=1000;decide) m.ka) m λI=>Zc (Z2<|KZ rfl rfl m.k1) nf (λ_=>QX<|J5 rfl W)
def Oy(T:Bl mg)(m:Uz K mg YR CX CX cy cg q1 q2 q3 q4 true false false)(z:Uz K mg YR cy CX cy cg q1 q2 q3 q4 false true false)(I:Uz K mg YR cg CX cy cg q1 q2 q3 q4 false false true)(gt:SU K CX)(R:Ve K CX "row")(H0:Df K mg "_law_made" Hm Zaz)(y:De P w K mg base "Desk" CD Zao 10 (spP K (G4 CD "hand"<|Zf CH) R_dinit))(o:Uc P w K mg base "Desk" CD Zao 10 (Zg K CX (WI "row") (λ_ _=>False)<|X_ini λts Φx=>RC_rows ts (λ_=>False) Φx))(l:Uc P w K mg base "Desk" CD Zao 10 (Zg K cy Z6 (λ_ _=>False)<|X_ini X_readY))(k:Uc P w K mg base "Desk" CD Zao 10 (Zg K cg Z6 (λ_ _=>False)<|X_ini X_readG))(M:ZI P w K mg base "read" ZaI 9 (YC K CX "row" R_read λts Φx=>RC_rows ts (λ_=>False) Φx))(t:ZI P w K mg base "read" ZaI 9 (Zg K cy Z6 (λ_ _=>False) X_readY))(p:ZI P w K mg base "read" ZaI 9 (Zg K cg Z6 (λ_ _=>False) X_readG)):Q2 P w K mg base "_law_made" Zaz 12 (Zm K R_made):=by
 refine H0.evD WC (λf ts Φ h H H1=>?_);obtain⟨h⟩:=h;cases h with
 |yd h=>exact TX (Φ:=λr=>r=_) T z l t h rfl
 |gu h=>exact TX (Φ:=λr=>r=_) T I k p h rfl
 |ok G g=>
  refine λi A outer s q=>have S:=q.units;#[_,(Qx (QP 2 WC.nd<|Zk Qp)
 (Qx (Bc (j:=3) m.em rfl rfl rfl m.my WC.nd rfl (.inl rfl) (λH0 Y=>(Qy<|QQ (ZL vb1) (Qy<|Zj<|Fu y q y0)<|Qy<|Zj<|VV M q Gc y0)) λe Y=>Z9)
 (Qy<|QK u2))),?_]
  refine Q9 (ZO (ZA Zu<|by decide)<|Q9<|L7 λE'=>Zc (Z2 Qq) (λ_=>Ga (Cr (Θ:=λ_=>True) (Qu Qq Q0) (R_dinit.mk G g) ?_) ?_) λ_=>Ga (Fp (Qu Qq Q0) (R_read.mk G g) Ge) ?_)
  .rintro r N' ⟨rfl,a,_,_,rfl⟩;exact#[rfl,_,rfl,trivial]
  all_goals exact J5 rfl rfl
 |@tx _ n h=>
  refine λi A outer s q=>have S:=q.units;#[_,(Qx (QP 2 WC.nd<|Zk Qp)
 (Qx (Bc (j:=3) m.em rfl rfl rfl m.my WC.nd rfl (.inl rfl) (λH0 Y=>(Qy<|QQ (ZL vb1) (Qy<|Zj<|F6 o q Gc y0)<|Qy<|Zj<|VV M q Gc y0)) (λe Y=>(Qx (QP 4 WC.nd<|Zk<|Qs (V4 m.is T.isi<|av 3<|Qs (ZK (v:=.ref _) rfl m.m1 rfl) Qp)<|Qs (V4 m.is T.isi<|av 3<|Qs (ZK (v:=.ref _) rfl m.m2 rfl) Qp)<|Qs (V4 m.is T.isi<|av 3<|Qs (ZK (v:=.ref _) rfl m.m3 rfl) Qp)<|Qs (V4 m.is T.isi<|av 3<|Qs (Ui (v:=.ty "ValueError") rfl T.ValueError Al rfl) Qp) Qp)
 (Qx (QP 2 WC.nd<|QL YH t4<|Zk<|Qs (Zx (show ZC _ (.builtin "isinstance") (HX K CX) from Ey m.is) T.isi Jz<|av 3<|Qs (Ys<|Qs (ZK (v:=.ref _) rfl m.n1 rfl)<|Qs (ZK (v:=.ref _) rfl m.n2 rfl)<|Qs (ZK (v:=.ref _) rfl m.n3 rfl)<|Qs (ZK (v:=.ref _) rfl m.n4 rfl) Qp) Qp) Qp)
 (Qy<|QQ (ZL<|V4 m.is T.isi<|av 3<|Qs (ZK (v:=.ref _) rfl m.m1 rfl) Qp) (Qy<|Zj (show PE _ _ (tBM K "list" VI _ _) from ZD zP zS zT V6 u2<|Qs (LN gt R y3) Qp)) QS)))))
 (Qy<|QK u2))),?_]
  refine Q9 (ZO (ZA Zu<|by decide)<|Q9 ?_);apply DP (n:=5) (j:=3) xfV (λw=>w=.int n) (λ_ _=>trivial) (by decide)
  case hz=>
   exact λE' F0 D F O J x St Q=>P8 (Z2 Qq) (Q1.refl St.sub) St (λ_ F1 E W L=>FH bkV (Qu Qq Q0) h Ge (λN C e B d b X Z c=>Q N C e B d b X Z c) W L) (λ_ F1 E W L=>Mm bkV (Qu Qq Q0) h Ge (λN C e B d b X Z c=>Q N C e B d b X Z c) W L)
  case hth=>
   rintro _ e _ rfl ⟨u,rfl⟩;exact Ls (λU h2 h3=>KP U h2 h3) (λU=>Ou U (by show(4:Nat)<=1000;decide) m.ka) m λdx=>Zc (Z2<|KP rfl rfl m.k1) (λ_=>Ji rfl (Tn rfl (λ_=>.int _)) (by show(5:Nat)<1000;decide)<|J5 rfl rfl) nt
def Lf(h:W≠[])(ws:Qh):JJ (W++[ws])=JJ W ++ "\n" ++ JR ws:=by
 cases W with
 |nil=>exact Xo rfl h
 |cons a W=>
  unfold JJ;simp only[JD,Xy,Xv,List.map_nil,Je,ZpR]
def Np{h m:Type}(f:h->m)(xs:List h)(lo j:Option Int):cut (xs.map f) lo j=(cut xs lo j).map f:=by
 unfold cut;rw[Xe,List.map_take,ML]
def gW:Qh:=["guest","0","0","0","1","1"]
def AJ:RwOk 31 gW:=#[by simp[gW],by simp[gW],λw f=>by
 simp only[gW,Xc,XH,or_false]at f;rcases f with rfl|rfl|rfl|rfl|rfl|rfl<;>exact#[by decide +kernel,by decide]]
theorem Ld{W:List (Qh)}(h:W≠[]):∀n:Nat,JJ W++YD "\nguest 0 0 0 1 1" n=JJ (W++List.replicate n gW)
 |0=>by rw[List.replicate_zero,Xp];show(#[_ ++ (List.toArray [])]:Str)=_;rw[Array.append_empty]
 |n+1=>by
  rw[List.replicate_succ',<- Uv,Lf<|by simp[h],<- Ld h n,Ri];simp only[Str.append_assoc];exact Xz (λs=>JJ W++(YD _ n++s)) (by decide +kernel)
def SpW.put{M:List (Qh)}(h:SpW W)(a b:Nat)(A:M.length<=1)(q:∀ws∈M,RwOk 31 ws)(j:M=[]->a<W.length->b<=a+1)(m:a<W.length):B2 (.str<|JJ<|W.take a++M++W.drop b):=by
 refine .inr #[_,rfl,WOk.txb (b:=31) #[λz=>?_,by have:=h.n;simp;lia,λws f=>?_]]
 .simp only[List.append_eq_nil_iff]at z;have:=j z.1.2 m;have w:=Xz List.length z.1.1;have s:=Xz List.length z.2;have:=h.n2;simp at w s;lia
 .simp only[Xu]at f;rcases f with (f|f)|f
  .exact(h.ws ws<|Hy f).1.up
  .exact q ws f
  .exact(h.ws ws<|Bp f).1.up
def MZ{L:Qh}{m:Nat}(f:m<L.length):atI (L.map PyData.str) (m:Int)=some (.str<|L.getD m Str.empty)/\L.getD m Str.empty∈L:=#[ZQ<|by simp[f],by rw[show L.getD m Str.empty=L[m] by simp[f]];exact XX f]
def UR(c:Int)(h:0<n):∃a:Nat,a<n/\c%(n:Int)=(a:Int):=#[(c%(n:Int)).toNat,by have:=Hv c (show(0:Int)<n by lia);lia,(Wr<|Int.emod_nonneg c<|#[]).symm]
def w31{w:Str}(h:w∈([ "x","", "9","guest","line","-",YD "1" 31, "0","7","8",YD "1" 30, "3","1"]:Qh)):WdOk 31 w:=by
 simp only[Xc,XH,or_false]at h;rcases h with rfl|rfl|rfl|rfl|rfl|rfl|rfl|rfl|rfl|rfl|rfl|rfl|rfl<;>exact#[by decide +kernel,by decide +kernel]
inductive R_spo:List OT->(OT->Prop)->Prop
 |mk {W:List (Qh)}{c:Int}(h:SpW W):R_spo [.fz<|.str<|JJ W,.fz<|.int c] (λr=>∃d,r=.fz d/\B2 d)
def Us:Qo ["_law_text_here","_law_cell","_law_rows","_law_at","_law_words","_law_place","_law_way"] ZaC (Q8 S9):=by walk_at"p"
def Ea(T:Bl mg)(H0:Df K mg "_law_spoiled" S9 ZaC):Q2 P w K mg base "_law_spoiled" ZaC 1 (Zm K R_spo):=by
 refine H0.evD Us (λf ts Φ h H H1 cdv A outer s hr=>have hu:=hr.units;#[_,(Qx (QP 2 Us.nd<|ZD PySem.F.plainAttrs_str PySem.F.slot_str_split PySem.F.type_str_split Mg u0<|Qs QG Qp)
 (Qx (QP 3 Us.nd<|QL Y6 (QL Jf vb1 Qw)<|Zx Vt T.len Vr y2)
 (Qx (QP 4 Us.nd<|ZD PySem.F.plainAttrs_str PySem.F.slot_str_split PySem.F.type_str_split Mg (QI QJ u2 y3)<|Qs QG Qp)
 (Qx (QP 5 Us.nd<|QL Y6 (QL Jf vb1 Qw)<|Zx Vt T.len Vr g4)
 (Qx (QP 6 Us.nd<|QL Y6 vb1 Qw)
 (Qx (QQ (Ze Z3 v6 Qw) (Qy<|BJ (QI QJ (BZ<|ZS (QL Y8 QG<|QI QJ t4<|pv 5) (ZS QG (ZS QG (ZS QG (ZS QG (ZS QG (ZS QG (ZS (QL N3 QG Qw) BD DR) Vn) Vn) Vn) Vn) Vn) Vn) DR)<|QL Y6 (QL Jf vb1 Qw) Qw)<|BL t4 (pv 5) Jh) QS)
 (Qx (QQ (Ze Z3 v6 Qw) (Qy<|QP 4 Us.nd<|QL YH (VS VW t4 VT<|VU<|pv 5)<|VS VW t4 (VU<|QL VB (pv 5) Qw) VT) QS)
 (Qx (QQ (Ze Z3 v6 Qw) (Qy<|QP 4 Us.nd<|QL YH (QL YH (VS VW t4 VT<|VU<|pv 5)<|Zk<|Qs QG Qp)<|VS VW t4 (VU<|pv 5) VT) QS)
 (Qx (QQ (Ze Z3 v6 Qw) (Qy<|QK<|ZD PySem.F.plainAttrs_str PySem.F.slot_str_join PySem.F.type_str_join Uf QG<|Qs (QL YH (VS VW u2 VT<|VU y3)<|VS VW u2 (VU<|QL VB y3 Qw) VT) Qp) QS)
 (Qx (QQ (Ze Z3 v6 Qw) (Qy<|QK<|ZD PySem.F.plainAttrs_str PySem.F.slot_str_join PySem.F.type_str_join Uf QG<|Qs (QL YH (QL YH (VS VW u2 VT<|VU y3)<|Zk<|Qs (QI QJ u2 y3) Qp)<|VS VW u2 (VU y3) VT) Qp) QS)
 (Qx (QQ (Ze Z3 v6 Qw) (Qy<|QK<|QL Y8 u0<|QL N3 QG<|QL Y6 (QL Jf vb1 Qw) Qw) QS)
 (Qx (QQ (Ze Z3 v6 Qw) (Qy<|QK<|QI QJ (BZ<|ZS UP (ZS Qw (ZS QG (ZS (Zk y0) (ZS (QL Y8 u0 QG) (ZS Yi BD Vn) DR) IY) Vn) Vn) Vn)<|QL Y6 (QL Jf vb1 Qw) Qw) QS)
 (Qx (QQ (Ze Z3 v6 Qw) (Qy<|BJ (QI QJ (BZ<|ZS QG (ZS QG (ZS QG (ZS (QL N3 QG Qw) (ZS QG BD Vn) DR) Vn) Vn) Vn)<|QL Y6 (QL Jf vb1 Qw) Qw)<|BL t4 (pv 5) Jh) QS)
 (Qy<|QK<|ZD PySem.F.plainAttrs_str PySem.F.slot_str_join PySem.F.type_str_join Uf QG<|Qs (QL YH (QL YH (VS VW u2 VT<|VU y3)<|Zk<|Qs (ZD PySem.F.plainAttrs_str PySem.F.slot_str_join PySem.F.type_str_join Uf QG g4) Qp)<|VS VW u2 (VU<|QL VB y3 Qw) VT) Qp)))))))))))))),?_])
 cases h with
 |@mk W c h=>
  have sz:sizeLine=16777216:=sizeLine_eq;have F:=h.ok.len;have n2:=h.n2;have n14:=h.n;refine Q9 (ZO (EvO.cast (Mo Qq QU (by decide +kernel)<|#[])<|by rw[h.ok.split]) (YF 2 rfl ?_));walk_at"d";refine I0 (UR (c/9) (show 0<W.length by lia)) λa ha ea=>Q9 (Z1 (d:=.int (a:Int)) (Qr.cast (Z8 (Z8 Qq Qz<|Jl (by decide)<|by decide) (Qr.cast (YL Qq) (show _=PyData.int (W.length:Int) by simp))<|#[])<|Xz PyData.int ea) ?_);obtain⟨D,ew,hws⟩:∃D,W[a]?=some D/\D∈W:=⟨W[a],XJ ha,XX ha⟩;apply KE (h.ws D hws);intro k0 k2 k10;have jl:=k0.len;refine Q9 (ZO (EvO.cast (Mo (ZZ (d:=.str (JR D)) Qq Qq<|ZQ<|by simp[ew]) QU (by decide +kernel)<|#[])<|by rw[k0.split]) ?_);walk_at"d";refine I0 (UR (c/90) (show 0<D.length by lia)) λp g ep=>Q9 (Z1 (d:=.int (p:Int)) (Qr.cast (Z8 (Z8 Qq Qz<|Jl (by decide)<|by decide) (Qr.cast (PV rfl) (show _=PyData.int (D.length:Int) by simp))<|#[])<|Xz PyData.int ep) (I0 (UR c (show 0<9 by decide)) λk hk ek=>Q9 (Z1 (d:=.int (k:Int)) (Qr.cast (Z8 Qq Qz<|by decide)<|Xz PyData.int ek) ?_)));walk_at"d";have Q:∀{C L:Qh} {m:Nat} {te:TE} {H0:PEnds},RwOk 31 C->p<C.length->m<L.length->(∀w∈L,WdOk 31 w)->(∀d,atI (L.map PyData.str) (m:Int)=some d->Qr K te [zf<|.str<|JJ W,zi c,zf<|.list<|(W.map JR).map PyData.str,zi (a:Int),some<|.ol<|C.map PyData.str,zi (p:Int),zi (k:Int)] d)->(∀M,RwOk 31 M->M.length=C.length->H0.nx [zf<|.str<|JJ W,zi c,zf<|.list<|(W.map JR).map PyData.str,zi (a:Int),some<|.ol<|M.map PyData.str,zi (p:Int),zi (k:Int)])->QE K (ZM te<|MW (Q5 4) (Q5 5) UF) [zf<|.str<|JJ W,zi c,zf<|.list<|(W.map JR).map PyData.str,zi (a:Int),some<|.ol<|C.map PyData.str,zi (p:Int),zi (k:Int)] H0:=λ{C L m te H0} r g i hL he hn=>by
   refine TJ (j:=p) rfl (he _ (MZ i).1) Qq (by rw[Pp #[]<|by simp;lia];simp) ?_;rw[<- List.map_set];refine hn _ #[λz=>r.ne<|by simpa using z,by simpa using r.n,λw q=>?_] (by simp);rcases List.mem_or_eq_of_mem_set q with q|rfl
   .exact r.ok w q
   .exact hL _ (MZ i).2
  refine Q9 (B4 (λX=>∃C,RwOk 31 C/\C.length=D.length/\X=[zf<|.str<|JJ W,zi c,zf<|.list<|(W.map JR).map PyData.str,zi (a:Int),some<|.ol<|C.map PyData.str,zi (p:Int),zi (k:Int)]) (Zc (Zq<|VP Qq Qz) (λ_=>?_) λ_=>QX #[D,k0.up,rfl,rfl]) ?_)
  .apply I0 (UR (c/900) (show 0<8 by decide));intro m i y;have t:=k0.ok _ (MZ g).2;refine Q (L:=[Str.ofString "0" ++ D.getD p Str.empty, "x","", "9","guest","line","-",YD "1" 31]) k0.up g i (λw q=>?_) (λd e=>ZZ (EvO.fz<|ZA (QM (W7 QU (Pl rfl Qq ((MZ g).1)) (by have:=t.len;show 1+_<=_;lia))<|QM QU<|QM QU<|QM QU<|QM QU<|QM QU<|QM QU<|QM (Nn (n:=31) QU Qz (by decide)<|by decide) Zu)<|by show(8:Nat)<=1000;decide) (Qr.cast (Z8 (Z8 Qq Qz<|Jl (by decide)<|by decide) Qz<|by decide)<|Xz PyData.int y) e) λM r e=>#[M,r,e,rfl]
   rcases Xc.mp q with rfl|q
   .refine#[λc I=>?_,by rw[Str.length_append];have:=t.len;show 1+_<=_;lia];rw[Mb]at I;rcases Xu.mp I with I|I
    .exact(by decide +kernel:∀c∈(Str.ofString "0").cps.toList,c<128/\c≠10/\c≠32) c I
    .exact t.c c I
   .exact w31 (by simp only[Xc,XH,or_false]at q ⊢;lia)
  rintro _ ⟨C,r,l,rfl⟩;have i5:∀{M:Qh} {S hi:Option Int} {F th:TO},EvP K F [zf<|.str<|JJ W,zi c,zf<|.list<|(W.map JR).map PyData.str,zi (a:Int),zf<|.list<|M.map PyData.str,zi (p:Int),zi (k:Int)] S->EvP K th [zf<|.str<|JJ W,zi c,zf<|.list<|(W.map JR).map PyData.str,zi (a:Int),zf<|.list<|M.map PyData.str,zi (p:Int),zi (k:Int)] hi->Qr K (tSl (Db K) (Q5 4) F th) [zf<|.str<|JJ W,zi c,zf<|.list<|(W.map JR).map PyData.str,zi (a:Int),zf<|.list<|M.map PyData.str,zi (p:Int),zi (k:Int)] (.list<|(cut M S hi).map PyData.str):=λU v=>Qr.cast (EvO.fz<|Wz Qq U v) (by rw[Np])
  have O:∀{M:Qh} {b:Nat},RwOk 31 M->∀w∈M.take p++M.drop b,WdOk 31 w:=λr w q=>by
   rcases Xu.mp q with q|q
   .exact r.ok w (Hy q)
   .exact r.ok w (Bp q)
  refine Q9 (B4 (λX=>∃C,RwOk 31 C/\C.length<=10/\(k≠1->p<C.length)/\X=[zf<|.str<|JJ W,zi c,zf<|.list<|(W.map JR).map PyData.str,zi (a:Int),some<|.ol<|C.map PyData.str,zi (p:Int),zi (k:Int)]) (Zc (Zq<|VP Qq Qz) (λc1=>?_) λ_=>QX #[C,r,#[],λ_=>#[],rfl]) ?_)
  .have J:cut C none (some (p:Int))=C.take p:=KB C p #[];have Y:cut C (some<|(p:Int)+1) none=C.drop (p+1):=J7 C (p+1) #[];refine YF 4 rfl (ZO (r:=.ol ((C.take p++C.drop (p+1)).map PyData.str)) (EvO.cast (WV (i5 VE<|VF Qq) (i5 (VF<|ZB Qq Qz) VE) ?_) ?_) ?_)
   .rw[J,Y];simp;lia
   .rw[J,Y,Xv]
   .exact#[C.take p++C.drop (p+1),#[λz=>by have:=Xz List.length z;simp only[Xr,MC,Bs,List.length_nil]at this;lia,by simp;lia,O r],by simp;lia,λz=>Xo (by simp at c1;lia) z,rfl]
  rintro _ ⟨C,r,l,g,rfl⟩;refine Q9 (B4 (λX=>∃C,RwOk 31 C/\(k=7->p<C.length)/\X=[zf<|.str<|JJ W,zi c,zf<|.list<|(W.map JR).map PyData.str,zi (a:Int),some<|.ol<|C.map PyData.str,zi (p:Int),zi (k:Int)]) (Zc (Zq<|VP Qq Qz) (λc1=>?_) λ_=>QX #[C,r,λ_=>g<|#[],rfl]) ?_)
  .have g:=g (by simp at c1;lia);have J:cut C none (some (p:Int))=C.take p:=KB C p #[];refine YF 4 rfl (ZO (r:=.ol ((C.take p++[Str.ofString "1"]++C.drop p).map PyData.str)) (EvO.cast (WV (EvO.fz<|WV (i5 VE<|VF Qq) (EvO.fz<|ZA (ds:=[.str "1"]) (QM QU Zu) JN) ?_) (i5 (VF Qq) VE) ?_) ?_) ?_)
   .rw[J];simp;lia
   .rw[J,J7 C p #[]];simp;lia
   .rw[J,J7 C p #[],Xv,Xv];rfl
   .refine#[C.take p++[Str.ofString "1"]++C.drop p,#[λz=>by have:=Xz List.length z;simp at this,by simp;lia,λw q=>?_],λ_=>by simp;lia,rfl];simp only[Xu,Xj]at q;rcases q with (q|rfl)|q
    .exact r.ok w (Hy q)
    .exact w31 (by simp)
    .exact r.ok w (Bp q)
  rintro _ ⟨C,r,g,rfl⟩;have G:∀{v4:Option OT} {S hi:Option Int} {F th:TO},EvP K F [zf<|.str<|JJ W,zi c,zf<|.list<|(W.map JR).map PyData.str,zi (a:Int),v4,zi (p:Int),zi (k:Int)] S->EvP K th [zf<|.str<|JJ W,zi c,zf<|.list<|(W.map JR).map PyData.str,zi (a:Int),v4,zi (p:Int),zi (k:Int)] hi->Qr K (tSl (Db K) (Q5 2) F th) [zf<|.str<|JJ W,zi c,zf<|.list<|(W.map JR).map PyData.str,zi (a:Int),v4,zi (p:Int),zi (k:Int)] (.list<|((cut W S hi).map JR).map PyData.str):=λU v=>Qr.cast (EvO.fz<|Wz Qq U v) (by rw[Np,Np]);have jn:∀{Z:ZbB} {te:TE} {V:List (Qh)},Qr K te Z (.list<|(V.map JR).map PyData.str)->V.length<=40->(∀D∈V,RwOk 31 D)->Qr K (tBM K "str" Kl (tC<|.str "\n")<|Q3 te QH) Z (.str<|JJ V):=λ{Z te V} U v h3=>GU QU U (DG (B:=640) (n:=40) (λx u=>by apply I0 (Xs.mp u);rintro D q rfl;have:=(h3 D q).len;lia) (by decide) (by rw[Xe];exact v)<|by decide);have ct:cut W none (some (a:Int))=W.take a:=KB W a #[];have E:cut W (some<|(a:Int)+1) none=W.drop (a+1):=J7 W (a+1) #[];refine Q9 (Zc (Zq<|VP Qq Qz) (λ_=>Zh (jn (V:=W.take a++[]++W.drop (a+1)) (Qr.cast (EvO.fz<|WV (G VE<|VF Qq) (G (VF<|ZB Qq Qz) VE) ?_) ?_) ?_ ?_) #[_,rfl,h.put a (a+1) (by simp) (by simp) (λ_ _=>Xm _) ha]) λ_=>QX ?_)
  .rw[ct,E];simp;lia
  .rw[ct,E,Xp,Xv,Xv]
  .simp;lia
  .rw[Xp];exact λD q=>(Xu.mp q).elim ((λD q=>(h.ws D<|Hy q).1.up) D) ((λD q=>(h.ws D<|Bp q).1.up) D)
  have o:∀{b:Nat} {M:Qh},RwOk 31 M->(W.take a++[M]++W.drop b).length<=40/\∀D∈W.take a++[M]++W.drop b,RwOk 31 D:=λ{b M} r=>#[by simp;lia,λD q=>by
   simp only[Xu,Xj]at q;rcases q with (q|rfl)|q
   .exact (λD q=>(h.ws D<|Hy q).1.up) D q
   .exact r
   .exact (λD q=>(h.ws D<|Bp q).1.up) D q]
  have R:∀{Z:ZbB} {N t2 t3:TE} {b:Nat} {M:Qh},Qr K N Z (.list<|((W.take a).map JR).map PyData.str)->Qr K t2 Z (.str<|JR M)->Qr K t3 Z (.list<|((W.drop b).map JR).map PyData.str)->Qr K (tOp U7 (tOp U7 N<|Y1<|Q3 t2 QH) t3) Z (.list<|((W.take a++[M]++W.drop b).map JR).map PyData.str):=λU v h3=>Qr.cast (EvO.fz<|WV (EvO.fz<|WV U (EvO.fz<|ZA (QM v Zu) JN)<|by simp;lia) h3<|by simp;lia) (by simp only[Xv,Xy,List.map_nil]);refine Q9 (Zc (Zq<|VP Qq Qz) (λ_=>Zh (jn (R (Qr.cast (G VE<|VF Qq)<|by rw[ct]) (ZZ (d:=.str (JR D)) Qq Qq<|ZQ<|by simp[ew])<|Qr.cast (G (VF Qq) VE)<|by rw[J7 W a #[]]) (o k0.up).1 (o k0.up).2) #[_,rfl,h.put a a (by simp) (λx u=>by rw[Xj.mp u];exact k0.up) (by simp) ha]) λ_=>QX (Q9 (Zc (Zq<|VP Qq Qz) (λ_=>?_) λ_=>QX ?_)))
  .apply I0 (UR (c/9) (show 0<10 by decide));intro m i y;have ml:=Fs "\nguest 0 0 0 1 1" m;have e16:Str.length "\nguest 0 0 0 1 1"=16:=by decide
   refine Zh (Qr.cast (W7 Qq (Nn (n:=m) QU (Qr.cast (Z8 (Z8 Qq Qz<|Jl (by decide)<|by decide) Qz<|by decide)<|Xz PyData.int y) (by decide)<|#[])<|#[])<|Xz PyData.str<|Ld h.ok.ne m) #[_,rfl,.inr #[_,rfl,WOk.txb (b:=31) #[by simp[h.ok.ne],by simp;lia,λD q=>?_]]];rcases Xu.mp q with q|q
   .exact(h.ws D q).1.up
   .rw[(List.mem_replicate.mp q).2];exact AJ
  refine Q9 (Zc (Zq<|VP Qq Qz) (λ_=>?_) λ_=>QX ?_)
  .apply I0 (UR (c/9) (show 0<6 by decide));intro m i y;have N:∀V:List (Qh),WOk 30 V->B2 (.str<|JJ V):=λV k=>.inr #[_,rfl,k.txb];have e5:RwOk 30 [Str.empty]:=#[by simp,by simp,λw q=>by rw[Xj.mp q];exact#[λ_ h=>(nomatch h),by decide]]
   have e6:JJ W ++ "\n"=JJ (W++[[Str.empty]]):=by
    rw[Lf h.ok.ne];show _=(#[(JJ W ++ "\n").cps ++ (List.toArray [])]:Str);rw[Array.append_empty]
   have it:∀m:Nat,m<6->∃d,atI [PyData.none,.int 7,.str "",.list [.str<|JJ W],.str<|JJ W ++ "\n",.bool true] (m:Int)=some d/\B2 d:=λm i=>by
    obtain rfl|rfl|rfl|rfl|rfl|rfl:m=0\/m=1\/m=2\/m=3\/m=4\/m=5:=#[]
    .exact#[_,rfl,.inl rfl]
    .exact#[_,rfl,.inl rfl]
    .exact#[_,rfl,N [[Str.empty]] #[by simp,by simp,λD q=>by rw[Xj.mp q];exact e5]]
    .exact#[_,rfl,.inl rfl]
    .refine#[_,rfl,?_];rw[e6];exact N _ #[by simp,by simp;lia,λD q=>(Xu.mp q).elim (h.ok.ws D) λq=>by rw[Xj.mp q];exact e5]
    .exact#[_,rfl,.inl rfl]
   exact I0 (it m i) λd e k=>Zh (ZZ (EvO.fz<|ZA (QM W0<|QM Qz<|QM QU<|QM (EvO.fz<|ZA (QM Qq Zu) JN)<|QM (W7 Qq QU<|by show _+1<=_;lia)<|QM Ww Zu)<|by show(6:Nat)<=1000;decide) (Qr.cast (Z8 (Z8 Qq Qz<|Jl (by decide)<|by decide) Qz<|by decide)<|Xz PyData.int y) e) #[_,rfl,k]
  refine Q9 (B4 (λX=>∃C,RwOk 31 C/\X=[zf<|.str<|JJ W,zi c,zf<|.list<|(W.map JR).map PyData.str,zi (a:Int),some<|.ol<|C.map PyData.str,zi (p:Int),zi (k:Int)]) (Zc (Zq<|VP Qq Qz) (λc1=>?_) λ_=>QX #[C,r,rfl]) ?_)
  .exact I0 (UR (c/900) (show 0<5 by decide)) λm i y=>Q (L:=["0","7","8",YD "1" 30, "3"]) r (g<|by simp at c1;lia) i (λw q=>w31<|by simp only[Xc,XH,or_false]at q ⊢;lia) (λd e=>ZZ (EvO.fz<|ZA (QM QU<|QM QU<|QM QU<|QM (Nn (n:=30) QU Qz (by decide)<|by decide)<|QM QU Zu)<|by show(5:Nat)<=1000;decide) (Qr.cast (Z8 (Z8 Qq Qz<|Jl (by decide)<|by decide) Qz<|by decide)<|Xz PyData.int y) e) λM r e=>#[M,r,rfl]
  rintro _ ⟨C,r,rfl⟩;refine YF 4 rfl (Zh (jn (R (Qr.cast (G VE<|VF Qq)<|by rw[ct]) (GU QU Qq<|DG (B:=31) (n:=20) (λx u=>(r.ok x u).len) (by decide) r.n<|by decide)<|Qr.cast (G (VF<|ZB Qq Qz) VE)<|by rw[E]) (o r).1 (o r).2) #[_,rfl,h.put a (a+1) (by simp) (λx u=>by rw[Xj.mp u];exact r) (by simp) ha])
noncomputable def Gu(x w:Str)(is:Ql):Bool:=decide (Txt.split x " "=w::is.map nS)&&(decide (x.length<=1000)&&(decide ((Kf.find? λp=>p.1==w)=some (w,(is.length:Int)))&&(decide (is.length<=5)&&is.all λi=>decide (0<=i)&&decide (i<=20))))
def G1{w:Str}(h:Gu x w is=true):RowW x w is:=by
 unfold Gu at h;simp only[XS,decide_eq_true_eq,X5]at h;exact Hs h λU s q m j=>#[U,s,by unfold MV;rw[q],λi f=>#[(j i f).1,ME (j i f).2 (by decide +kernel)],m]
def A6:∀k:Nat,k<6->Gu (Str.ofString "come " ++ nS (k:Int)++Str.ofString " 0 0 1 1") "come" [(k:Int),0,0,1,1]=true:=by decide +kernel
def PH:∀k:Nat,k<9->Gu (Str.ofString "come " ++ (Str.ofString "0 0 " ++ nS (k:Int)++Str.ofString " 1 1")) "come" [0,0,(k:Int),1,1]=true/\Gu (Str.ofString "come 0 0 " ++ nS (k:Int)++Str.ofString " 1 1") "come" [0,0,(k:Int),1,1]=true:=by decide +kernel
def UV     (q:∀{ta j:TE} {a c:PyData},Qr K ta Z a->Qr K j Z c->Vi a->Vi c->Qr K (tOp r ta j) Z (.bool<|b==PyData.eqv a c))(e:zg Z 6<|zz<|InZ CD "hand"<|QY CH N)(m:Qr K te Z (.str x))(h:R_said CD CH [.zow<|InZ CD "hand"<|QY CH N,.fz<|.str x] (λr=>r=.ol ds))(s:Qr K tl Z (.list ds))(f:Vi (.list ds)):Qr K (tOp r (Vd (Zm K<|R_said CD CH) [] E'<|Q3 (Q5 6)<|Q3 te QH) tl) Z (.bool b):=
 Qr.cast (q (EvO.fz<|Zz.o<|YK (Dy e<|Qu m Q0) h) s f f) (by rw[NG f];cases b<;>rfl)
def Jy:Qo ["_law_script","_law_yard_here","_law_guests","_law_k","_law_text_here","_law_spoiled_here","_law_desk","_law_words"] ["_law_script"] (Q8 Jq):=by walk_at"p"
def Eb{f:Addr}(T:Bl mg)(UD:DeskC K CD)(F:Fun K "law" "law" Jq f fd)(E:Q2 P w K mg base "_law_cell_at" ZaD 1 (QA (K:=K) R_cell))(XbR:Q2 P w K mg base "_law_feed" ["_law_cell"] 1 (Zm K R_feed))(XcF:Q2 P w K mg base "_law_yard" ZaW 2 (spP K olP R_dyard))(XcG:Q2 P w K mg base "_law_guest" Zal 2 (spP K olP R_dguest))(XcH:Q2 P w K mg base "_law_text" Zay 1 (QA (K:=K) R_ltext))(XcI:Q2 P w K mg base "_law_spoiled" ZaC 1 (Zm K R_spo))(L:Q2 P w K mg base "_law_made" Zaz 12 (Zm K R_made))(XbE:De P w K mg base "Desk" CD Zao 10 (spP K (G4 CD "hand"<|Zf CH) R_dinit))(C:Q2 P w K mg base "_law_said" ZaL 12 (Zm K<|R_said CD CH))(XcJ:ZG P w K mg base CD "say" Zaj 11 (spP K (λN=>InP CD "hand"<|Zf CH N) R_sayT)):FnOk P w K mg base CX0 13 f fd ["_law_script"] (Du K):=by
 refine F.evLaw Jy (λO hl hb H H1 cdv A outer s B=>?_);have u:=B.units;refine#[_,(Qx (QP 1 Jy.nd<|Q6 XcF B<|Qs (Q6 XbR B<|Qs (Q6 E B<|av 0<|Qs Qw Qp) Qp) Qp)
 (Qx (QP 2 Jy.nd<|Zk Qp)
 (Qx (Vx zN rfl (by exact(Wp rfl T.range<|Qs (QL Y6 (Q6 E B<|av 0<|Qs Qw Qp) Qw) Qp)) (ZF 3 Jy.nd)<|by exact(Qy<|Zj<|ZD zP zS zT V6 u2<|Qs (Q6 XcG B<|Qs (Q6 XbR B<|Qs (Q6 E B<|av 0<|Qs (QL VB Qw y3) Qp) Qp)<|av 1<|Qs Qw Qp) Qp))
 (Qx (QP 4 Jy.nd<|Q6 XcH B<|av 1 y2)
 (Qx (Vx zN rfl (by exact(Wp rfl T.range<|Qs Qw Qp)) (ZF 3 Jy.nd) (by exact(Qx (QP 5 Jy.nd<|Q6 XcI B<|av 4<|Qs (QL Y6 (QL VB (Q6 E B<|av 0<|Qs (QL VB Qw y3) Qp)<|QL UM Qw y3)<|QL Dv Qw Qw) Qp)
 (Qy<|QQ (Ze (Ud u) (Q6 L B<|av 5<|Qs Yi Qp)<|Q6 L B<|av 5<|Qs Yi Qp) (Qy<|QK Yi) QS))))
 (Qx (QQ (Ze (Ud u) (Q6 L B<|av 4<|Qs Yi Qp)<|Zk Qp) (Qy<|QK Yi) QS)
 (Qx (QP 6 Jy.nd<|Fu XbE B g4)
 (Qx (QQ (Ze (Ud u) (Q6 C B<|av 6<|Qs (QL Y8 (QL Y8 QG<|Vy W3 T.str YX<|Qs (Zx Vt T.len Vr<|Qs (QI QJ vb1 Qw) Qp) Qp) QG) Qp)<|Zk<|Qs QG Qp) (Qy<|QK Yi) QS)
 (Qx (QQ (PW.pt<|GG (Ze (Ud u) (Q6 C B<|av 6<|Qs QG Qp)<|Zk<|Qs QG Qp)<|GO<|Ze (Ud u) (Q6 C B<|av 6<|Qs QG Qp)<|Zk<|Qs QG<|Qs Qw Qp) (Qy<|QK Yi) QS)
 (Qx (Vx zN rfl (by exact(Yv<|Zk<|Qs QG<|Qs (QL Y8 (QL Y8 QG<|Vy W3 T.str YX<|Qs (QI QJ vb1 Qw) Qp) QG)<|Qs QG<|Qs QG Qp)) (ZF 7 Jy.nd)<|by exact(Qy<|QQ (Ze (Ud u) (Q6 C B<|av 6<|Qs (QL Y8 QG<|pv 7) Qp)<|Zk<|Qs QG Qp) (Qy<|QK Yi) QS))
 (Qx (Zj<|D8 XcJ UD.cl B Js v6<|Qs QG Qp)
 (Qx (QQ (Ze (Ud u) (Q6 C B<|av 6<|Qs (QL Y8 (QL Y8 QG<|Vy W3 T.str YX<|Qs (QL Wi (QI QJ vb1 Qw) Qw) Qp) QG) Qp)<|Zk<|Qs QG Qp) (Qy<|QK Yi) QS)
 (Qy<|QK<|Yq (Wa (GQ u) (Q6 C B<|av 6<|Qs QG Qp)<|Zk<|Qs QG Qp)<|YJ<|Wa (GQ u) (Q6 C B<|av 6<|Qs QG Qp)<|Zk<|Qs QG<|Qs QG Qp))))))))))))),?_]
 walk_at"x";have sz:sizeLine=16777216:=sizeLine_eq;have D:∀{Z:ZbB} {te:TE} {k:Int} {E':XK},Z[0]?=some (some<|.scr O)->Qr K te Z (.int k)->0<=k->Qr K (Vd (QA (K:=K) R_cell) [] E'<|Q3 (Q5 0)<|Q3 te QH) Z (.int<|WN O k):=λe h hk=>QN (Px e<|Qu h Q0) (R_cell.mk hk);refine Q9 (WY (Ac (Φ:=λr=>∃y:Yd,y.Ok/\MS y/\r=.fz (Zb y)) (YK (Qu (D rfl Qz<|by decide) Q0) R_feed.mk) Q0 λr j=>?_) λr j=>?_)
 .apply aL j;rintro a b rfl;exact#[_,_,rfl,R_dyard.mk,λr ds' h=>h]
 apply L3 j;rintro y o y30 rfl;have t1:=o.t1;have t8:=o.t8;have l1:=o.l1;have l5:=o.l5;walk_at"d";refine Q9 (ZO (ZA (ds:=[]) Zu<|by decide) ?_);walk_at"d";refine Q9 (Yr (ds:=Vp 0 (WN O 1%4).toNat) (λi W=>∃(S:List Gs) (I:Option OT),S.length=i/\(∀g∈S,G30 y g)/\W=[some<|.scr O,zf<|Zb y,some<|.ol<|S.map QT,I,none,none,none,none]) ?ei #[[],none,rfl,(by rintro _ ⟨⟩),rfl] ?st ?fin)
 case ei=>exact W9 (Qu (Z8 (D rfl Qz<|by decide) Qz<|by decide) Q0) (by rw[z62];lia) (by rw[z62];lia)
 case st=>
  rintro i d _ t ⟨S,I,e,hg,rfl⟩;obtain⟨hi,rfl⟩:=Wn t;refine#[_,Zw,?_];walk_at"d";refine IN rfl (Ac (Φ:=λr=>∃g:Gs,G30 y g/\r=.fz (QT g)) (YK (Qu (D rfl (ZB Qz<|Qq rfl)<|#[]) Q0) R_feed.mk) (Qu (Qq rfl)<|Qu Qz Q0) λr j=>?_) (by simp;lia) (λr j=>?_)
  .apply aL j;rintro a b rfl;exact#[_,_,rfl,R_dguest.mk (nw:=0) o,λr ds' h=>h]
  .apply I0 j;rintro g h rfl;refine#[_,rfl,S++[g],_,by simp[e],λx J=>?_,by rw[Xv];rfl];rcases Xu.mp J with J|J
   .exact hg x J
   .rw[Xj.mp J];exact h
 case fin=>
  rintro _ ⟨S,I,e,hg,rfl⟩;rw[Jg]at e;have n3:S.length<=3:=#[]
  refine YF 2 rfl ?_;walk_at"d";have X:TxtOk y S:=#[o,y30,hg,#[]];apply KE X.told;intro G e1 e2;have gk:GsOk (ydT<|Wl y S) (gsT<|Wl y S):=by rw[e1,e2];exact#[#[],hg]
  refine Q9 (Z1 (QN (Qu (Qq rfl)<|Qu (Qq rfl) Q0)<|R_ltext.mk (Dd o) (λl hl z=>by have:=o.bl l hl;rw[z]at this;simp at this;lia) (λg h=>Pt o (hg g h).ok)<|#[]) ?_);walk_at"d";refine Q9 (Yr (ds:=Vp 0 6) (λi W=>∃I u',W=[some<|.scr O,zf<|Zb y,zf<|.list<|S.map QT,I,zf<|.str<|Wl y S,u',none,none]) ?ei2 #[_,_,rfl] ?st2 ?fin2)
  case ei2=>exact EvI.cast (W9 (Qu Qz Q0) (by decide)<|by decide) (JA rfl (by decide))
  case st2=>
   rintro i d _ t ⟨I,u',rfl⟩;obtain⟨hi,rfl⟩:=Wn t;refine#[_,Zw,?_];walk_at"d";refine Q9 (WY (YK (Qu (Qq rfl)<|Qu (Z8 (ZB (D rfl (ZB Qz<|Qq rfl)<|#[])<|Z8 Qz (Qq rfl)<|.inl #[by decide,by decide]) (Z8 Qz Qz (show Kg 10 12 from#[by decide,by decide,by decide]))<|by decide +kernel) Q0)<|by rw[Rw];exact R_spo.mk X.spw) λr j=>?_);apply I0 j;rintro d rfl t;obtain⟨ds,hm⟩:=Zta t;walk_at"d";exact Zc (QZ.cast (Zq<|B8 ((λe=>EvO.fz (Zz.o<|YK (Qu (Qq e)<|Qu Ww Q0)<|R_made.mk hm)) rfl) ((λe=>EvO.fz (Zz.o<|YK (Qu (Qq e)<|Qu Ww Q0)<|R_made.mk hm)) rfl) hm.fine hm.fine)<|by rw[NG hm.fine];rfl) nf (λ_=>QX #[_,_,rfl])
  case fin2=>
   rintro _ ⟨I,u',rfl⟩;refine Q9 (Zc (QZ.cast (Zq<|B8 (EvO.fz<|Zz.o<|YK (Qu (Qq rfl)<|Qu Ww Q0)<|R_made.mk<|.ok G gk) (EvO.fz<|ZA (ds:=[]) Zu<|by decide) NQ NQ)<|by rw[NG NQ];rfl) nf λ_=>QX (Q9 (WY (Cr (Θ:=λN=>∃a:List Gs,a.length<=3/\(∀x∈a,G30 y x)/\N=h0S y a) (Qu (Qq rfl) Q0) (R_dinit.mk G gk) ?_) λr j=>?_)))
   .rintro r N' ⟨rfl,a,l,ha,rfl⟩;rw[e1]at ha ⊢;exact#[rfl,_,rfl,a,by rw[e2]at l;lia,ha,rfl]
   apply L0 j;rintro v _⟨a,la,ag,rfl⟩rfl;walk_at"d";clear G gk X;generalize PyData.str (Wl y S)=dt;generalize PyData.list (S.map QT)=dg;have Y:∀{Z:ZbB} {k:Nat} {p q:Str} {te:TE},k<=8->Qr K te Z (.int (k:Int))->p.length<=20->q.length<=20->Qr K (tOp Dn (tOp Dn (tC<|.str p)<|tCB GK<|Q3 te QH)<|tC<|.str q) Z (.str<|p++nS (k:Int)++q):=λhk h hp hq=>by
    have n3:=Wb hk;have l3:=UX n3;exact W7 (W7 QU (GR h<|GL n3.lo n3.b)<|#[]) QU (by rw[Str.length_append];lia)
   have nT:∀{Z:ZbB},Z[1]?=some (zf<|Zb y)->Qr K (tOp (rIx K) (Q5 1)<|tC<|.int 0) Z (.int (y.T:Int)):=λe=>V5 (ds:=[PyData.int (y.T:Int),.tuple<|y.ls.map Ya]) (Qq e) Qz rfl;have fG:Vi (.list [.str "guest"]):=wF (by decide +kernel);have R:∀{Z:ZbB} {ta Q:TE} {a c:PyData},Qr K ta Z a->Qr K Q Z c->Vi a->Vi c->Qr K (tOp HU ta Q) Z (.bool<|false==PyData.eqv a c):=λU h2 h3 h4=>Qr.cast (B8 U h2 h3 h4) (by cases PyData.eqv _ _<;>rfl);have eq:∀{Z:ZbB} {ta Q:TE} {a c:PyData},Qr K ta Z a->Qr K Q Z c->Vi a->Vi c->Qr K (tOp MN ta Q) Z (.bool<|true==PyData.eqv a c):=λU h2 h3 h4=>Qr.cast (Ky U h2 h3 h4) (by cases PyData.eqv _ _<;>rfl);have n:∀{Z:ZbB} {x:Str},Qr K (Y1<|Q3 (tC<|.str x) QH) Z (.list [.str x]):=EvO.fz (ZA (QM QU Zu) JN);have M:∀{g:Gs} {x:Str},Gu x "come" [(g.line:Int),g.first,g.last,g.want,g.most]=true->¬G30 y g->R_said CD CH [.zow<|InZ CD "hand"<|QY CH<|h0S y a,.fz<|.str x] (λr=>r=.ol [.str "guest"]):=λU h2=>.guest (.mk (G1 U)<|.mk h2);refine Q9 (Zc (Ms 6 rfl (Zq<|UV R rfl (Y #[] ((λe=>Qr.cast (BQ<|V5 (ds:=[PyData.int (y.T:Int),.tuple<|y.ls.map Ya]) (Qq e) Qz rfl) (by rw[Xe])) rfl) (by decide)<|by decide) (M (g:=#[y.ls.length,0,0,1,1]) (A6 _<|#[]) λk=>Ym _ k.ok.ln) n fG)) nf λ_=>QX (Q9 (Zc (JW (b:=false) (Ms 6 rfl (Zq<|UV R rfl QU (M (g:=#[0,0,0,0,1]) (by decide +kernel) λk=>Xo k.ok.w1<|by decide) n fG)) λ_=>Ms 6 rfl (Zq<|UV R rfl QU (.num<|.mk (is:=[11]) (G1<|by decide +kernel)<|.mk<|.inr<|by show((a.map QT).length:Int)<=11;rw[Xe];lia) (EvO.fz<|ZA (QM QU<|QM Qz Zu) HY)<|(BV (m:=0)<|Ma #[by decide +kernel,XA _]<|Ma (Et _ _) D2).fine (by decide))) nf λ_=>QX ?_)));have n2:=UX (Wb t8)
   have rd:∀d∈[PyData.str "0 1 0 1 1",.str<|Str.ofString "0 0 " ++ nS (y.T:Int)++Str.ofString " 1 1",.str "0 0 0 1 0",.str "0 7 3 1 1"],∃x:Str,d=.str x/\x.length<=1000/\R_said CD CH [.zow<|InZ CD "hand"<|QY CH<|h0S y a,.fz<|.str<|Str.ofString "come " ++ x] (λr=>r=.ol [.str "guest"]):=λd t=>by
    simp only[Xc,XH,or_false]at t;rcases t with rfl|rfl|rfl|rfl
    .exact#[_,rfl,by decide,M (g:=#[0,1,0,1,1]) (by decide +kernel) λk=>Xo k.ok.fl<|by decide]
    .exact#[_,rfl,by rw[Str.length_append,Str.length_append];show 4+(nS _).length+4<=_;lia,M (g:=#[0,0,y.T,1,1]) (PH _<|#[]).1 λk=>Ym _ k.ok.lt]
    .exact#[_,rfl,by decide,M (g:=#[0,0,0,1,0]) (by decide +kernel) λk=>Xo k.ok.m1<|by decide]
    .exact#[_,rfl,by decide,M (g:=#[0,7,3,1,1]) (by decide +kernel) λk=>Xo k.ok.fl<|by decide]
   refine Q9 (Yr (λi W=>∃u7,W=[some<|.scr O,zf<|Zb y,zf dg,I,zf dt,u',zo v<|InP CD "hand"<|Zf CH<|h0S y a,u7]) (Y9<|EvO.fz<|ZA (QM QU<|QM (Y t8 (nT rfl) (by decide)<|by decide)<|QM QU<|QM QU Zu)<|by show(4:Nat)<=1000;decide) #[none,rfl] ?st3 ?fin3)
   case st3=>
    rintro i d _ t ⟨u7,rfl⟩;apply L3 (rd d (List.mem_of_getElem? t));rintro x rfl xl J;refine#[_,Zw,?_];walk_at"d";exact Zc (Ms 6 rfl (Zq<|UV R rfl (W7 QU (Qq rfl)<|by show 5+x.length<=_;lia) J n fG)) nf (λ_=>QX #[_,rfl])
   case fin3=>
    rintro _ ⟨u7,rfl⟩;refine Q9 (Zo8 (by decide +kernel) rfl (Qu QU Q0) (R_sayT.mk (is:=[]) (G1<|by decide +kernel)<|R_ansT.mk o ag List.length_replicate t1 (rs0 ag) #[]<|XA _) ?_);rintro r N' ⟨φ,_,rfl,rfl⟩;walk_at"d";generalize gvT _ _ _ _=gv;generalize []++[gfD _ _]=ms;have p3:(1:Int)<10^30/\(1:Int)<10^300:=by decide +kernel
    exact Q9 (Zc (Ms 6 rfl (Zq<|UV R rfl (Y (k:=y.T-1) #[] (Qr.cast (ZB (nT rfl) Qz)<|Xz PyData.int<|#[]) (by decide)<|by decide) (.time<|.mk (G1 (PH _<|#[]).2)<|.come (g:=#[0,0,y.T-1,1,1]) (#[#[l1,XA _,by show y.T-1<_;lia,Gk 1,p3.2,Gk 1,p3.2],p3.1,p3.1])<|by show 0<1;decide) n (wF (by decide +kernel)))) nf λ_=>QX (Zh (VC (b:=true) (c:=true) (Cm 6 rfl rfl (UV eq rfl QU (.time<|.mk (is:=[0,0,1]) (G1<|by decide +kernel)<|.bound #[by show(0:Int)<((0+1:Nat):Int);decide,y,rfl,#[],#[]]) n (wF (by decide +kernel)))) λ_=>Cm 6 rfl rfl (UV eq rfl QU (.tell<|.mk (is:=[]) (G1<|by decide +kernel)<|.now<|by show((0+1:Nat):Int).natAbs.log2<1920;decide) (EvO.fz<|ZA (QM QU<|QM QU Zu) HY) ((show Vi (.list [.str "says",.str<|nS ((0+1:Nat):Int)]) from(BV (m:=0)<|Ma #[by decide +kernel,XA _]<|Ma #[by decide +kernel,XA _] D2).fine (by decide))))) rfl))
end
inductive DH(K:W.Frag)(x:Str)(st:Stmt):Prop
 |mk {f:Addr}{oc kV dc pm cd ct:Value}{od an:Qj}{sl:Array (Qf)}(a:W.nsIn K mainGlobals x=some (some<|.ref f))(l:K.lookup f=some #[oc,od,.func<|W.fnOf x x (Yw st) (VG st) (Q8 st) .none kV dc pm an cd ct,sl])(c:W.codeIn K cd x=true)(k:W.keepIn K (.ref f)=true):DH K x st
def DH.df{x:Str}{st:Stmt}(X:K.In h)(G:h.Ns mainGlobals mg)(H:DH K x st)(m:∀(z:Value×Value×Value×Qj×Value×Value) (us:Qe),us.length=ps.length->bindArgs (W.fnOf x x (Yw st) (VG st) (Q8 st) .none z.1 z.2.1 z.2.2.1 z.2.2.2.1 z.2.2.2.2.1 z.2.2.2.2.2) #[us,[]]=pure (ps.zip us):=by exact λ_ _ c=>by first|exact ln1 c λ_=>rfl|exact ln2 c λ_ _=>rfl|exact ln3 c λ_ _ _=>rfl|exact ln4 c λ_ _ _ _=>rfl):Df K mg x st ps:=by
 cases H with
 |mk a l c k=>exact#[_,_,W4 l c k,W.mg_of X G a,(W4 l c k).binds λkV q f A cd s us j=>m (kV,q,f,A,cd,s) us j]
inductive MH(K:W.Frag)(C:Addr)(m q:Str)(st:Stmt):Prop
 |mk {f:Addr}{oc kV dc pm cd ct:Value}{od an:Qj}{sl:Array (Qf)}(a:W.findIn K (.ref C) m=some (some<|.ref f))(i:W.isFn K (.ref f)=true)(l:K.lookup f=some #[oc,od,.func<|W.fnOf m q (Yw st) (VG st) (Q8 st) .none kV dc pm an cd ct,sl])(c:W.codeIn K cd q=true)(k:W.keepIn K (.ref f)=true):MH K C m q st
def MH.mf{st:Stmt}(H:MH K C m q st)(j:∀(z:Value×Value×Value×Qj×Value×Value) (us:Qe),us.length=ps.length->bindArgs (W.fnOf m q (Yw st) (VG st) (Q8 st) .none z.1 z.2.1 z.2.2.1 z.2.2.2.1 z.2.2.2.2.1 z.2.2.2.2.2) #[us,[]]=pure (ps.zip us):=by exact λ_ _ c=>by first|exact ln1 c λ_=>rfl|exact ln2 c λ_ _=>rfl|exact ln3 c λ_ _ _=>rfl|exact ln4 c λ_ _ _ _=>rfl):Mf K C m q st ps:=by
 cases H with
 |mk a i l c k=>exact#[_,_,W4 l c k,#[a,i,k],(W4 l c k).binds λkV s f B cd A us h=>j (kV,s,f,B,cd,A) us h]
@[elab_as_elim] theorem ln1{α:Type}{p:List α->Prop}{us:List α}(h:us.length=1)(k:∀a0,p [a0]):p us:=by
 match us,h with
 |[a0],_=>exact k a0
@[elab_as_elim] theorem ln2{α:Type}{p:List α->Prop}{us:List α}(h:us.length=2)(k:∀a0 a1,p [a0,a1]):p us:=by
 match us,h with
 |[a0,a1],_=>exact k a0 a1
@[elab_as_elim] theorem ln3{α:Type}{p:List α->Prop}{us:List α}(h:us.length=3)(k:∀a0 a1 a2,p [a0,a1,a2]):p us:=by
 match us,h with
 |[a0,a1,a2],_=>exact k a0 a1 a2
@[elab_as_elim] theorem ln4{α:Type}{p:List α->Prop}{us:List α}(h:us.length=4)(k:∀a0 a1 a2 a3,p [a0,a1,a2,a3]):p us:=by
 match us,h with
 |[a0,a1,a2,a3],_=>exact k a0 a1 a2 a3
def ZxO{w:World}  {fa gS gE:Addr}(X:K.In h)(G:h.Ns mainGlobals mg)(hfa:mg "law"=some (.ref fa))
{Z gC iJ:Addr}{epC:_}{ta0 tb0 ta1 tb1 ta2 tb2 ta3 tb3 ta4 tb4 ta5 tb5 ta6 tb6 ta7 tb7:Tok}
{q fX B:Addr}{odW anW:Qj}{slW:Array (Qf)}{kVW dcW pmW cdW ctW:Value}
{j m:Addr}
{M CR fR:Addr}{odR anR:Qj}{slR:Array (Qf)}{kVR dcR pmR cdR ctR:Value}
{f fQ:Addr}{odQ anQ:Qj}{slQ:Array (Qf)}{kVQ dcQ pmQ cdQ ctQ:Value}
{f62 H F E:Addr}{od62 an62 od81 an81 od82 an82 od83 an83 dS dE:Qj}{sl62 sl81 sl82 sl83 slS slE:Array (Qf)}{oc62 kV62 dc62 pm62 r ct62 oc81 kV81 dc81 pm81 cd81 ct81 oc82 kV82 dc82 pm82 cd82 ct82 oc83 kV83 dc83 pm83 cd83 ct83:Value}{tS tE nS nE:Nat}
(aC:W.nsIn K mainGlobals "Net"=some (some<|.ref C))
(aH:W.nsIn K mainGlobals "Hand"=some (some<|.ref CH))
(aD:W.nsIn K mainGlobals "Desk"=some (some<|.ref Z))
(h0:DH K "is_whole" RE)
(U:DH K "is_whole_within" SO)
(h2:DH K "is_amount" RZ)
(h3:DH K "is_tuple_of" Sm)
(h4:DH K "is_above" RL)
(h5:DH K "are_bounds" Sx)
(h6:DH K "is_line" Rq)
(h7:DH K "are_lines" RW)
(h8:DH K "is_yard" Rs)
(h9:DH K "is_guest" RA)
(h10:DH K "turns_of" RD)
(h11:DH K "line_count" S5)
(h12:DH K "above_of" R8)
(h13:DH K "bound_at" RH)
(h14:DH K "line_of" Rv)
(h15:DH K "is_there" RK)
(h16:DH K "want_of" Rj)
(h17:DH K "most_of" Ro)
(h18:DH K "with_want" Sa)
(h19:DH K "staying_from" SG)
(h20:DH K "guest_node" S6)
(h21:DH K "line_node" RT)
(h22:DH K "lay_guest" RP)
(h23:DH K "lay_turn" R9)
(h24:DH K "filled_net" RN)
(h25:DH K "takes_by" R7)
(h26:DH K "greatest_filling" SR)
(h27:DH K "guests_reached" SM)
(h28:DH K "reaching_at" Sh)
(h29:DH K "given_at" RI)
(h30:DH K "given_most" Sy)
(h31:DH K "short_of" R4)
(h32:DH K "best_filling" SE)
(h33:DH K "lacking_set" Si)
(h34:DH K "refuse_lack" Sn)
(h35:DH K "is_number" Sb)
(h36:DH K "are_numbers" Sg)
(h37:DH K "is_yard_row" Sq)
(h38:DH K "is_line_row" Sl)
(h39:DH K "is_guest_row" SA)
(h40:DH K "is_row_at" RQ)
(h41:DH K "rows_of" Re)
(h42:DH K "numbers_of" Sz)
(h43:DH K "line_told" Sc)
(h44:DH K "yard_told" RO)
(h45:DH K "guests_told" Sk)
(h46:DH K "read" BF)
(h47:DH K "words_of" R1)
(h48:DH K "joined" NR)
(h49:DH K "gifts_answer" SH)
(h50:DH K "bound_answer" SI)
(p:DH K "answer" UY)
(h52:DH K "let_in" NI)
(h53:DH K "_law_cell_at" SB)
(h54:DH K "_law_feed" Se)
(h55:DH K "_law_digit" Sv)
(h56:DH K "_law_yard" RV)
(h57:DH K "_law_guest" Sw)
(h58:DH K "_law_text" Sd)
(h59:DH K "_law_said" Bh)
(h60:DH K "_law_spoiled" S9)
(h61:DH K "_law_made" Hm)
(a62:W.nsIn K mainGlobals "law"=some (some<|.ref f62))
(l62:K.lookup f62=some #[oc62,od62,.func<|W.fnOf "law" "law" (Yw Jq) (VG Jq) (Q8 Jq) .none kV62 dc62 pm62 an62 r ct62,sl62])
(c62:W.codeIn K r "law"=true)
(k62:W.keepIn K (.ref f62)=true)
(m63:MH K C "lay" "Net.lay" Rr)
(m64:MH K C "lay_one" "Net.lay_one" Sj)
(m65:MH K C "flow" "Net.flow" Ry)
(m66:MH K C "reached" "Net.reached" So)
(m67:MH K C "push" "Net.push" RB)
(m68:MH K C "fill" "Net.fill" RG)
(m69:MH K C "way_to" "Net.way_to" Sr)
(m70:MH K CH "now" "Hand.now" RJ)
(m71:MH K CH "come" "Hand.come" Mx)
(m72:MH K CH "turn" "Hand.turn" RU)
(m73:MH K CH "leave" "Hand.leave" Ss)
(m74:MH K CH "rest" "Hand.rest" Sf)
(m75:MH K CH "set_bound" "Hand.set_bound" SN)
(m76:MH K CH "yard_now" "Hand.yard_now" S8)
(m77:MH K CH "still_there" "Hand.still_there" SK)
(m78:MH K CH "refuse_past" "Hand.refuse_past" SJ)
(m79:MH K CH "refuse_number" "Hand.refuse_number" SS)
(n:MH K Z "say" "Desk.say" Mz)
(a81:W.findIn K (.ref C) "__init__"=some (some<|.ref H))
(i81:W.isFn K (.ref H)=true)
(l81:K.lookup H=some #[oc81,od81,.func<|W.fnOf "__init__" "Net.__init__" (Yw Bn) (VG Bn) (Q8 Bn) .none kV81 dc81 pm81 an81 cd81 ct81,sl81])
(c81:W.codeIn K cd81 "Net.__init__"=true)
(k81:W.keepIn K (.ref H)=true)
(a82:W.findIn K (.ref CH) "__init__"=some (some<|.ref F))
(i82:W.isFn K (.ref F)=true)
(l82:K.lookup F=some #[oc82,od82,.func<|W.fnOf "__init__" "Hand.__init__" (Yw Bj) (VG Bj) (Q8 Bj) .none kV82 dc82 pm82 an82 cd82 ct82,sl82])
(c82:W.codeIn K cd82 "Hand.__init__"=true)
(k82:W.keepIn K (.ref F)=true)
(I:W.findIn K (.ref Z) "__init__"=some (some<|.ref E))
(z:W.isFn K (.ref E)=true)
(l83:K.lookup E=some #[oc83,od83,.func<|W.fnOf "__init__" "Desk.__init__" (Yw Gg) (VG Gg) (Q8 Gg) .none kV83 dc83 pm83 an83 cd83 ct83,sl83])
(c83:W.codeIn K cd83 "Desk.__init__"=true)
(k83:W.keepIn K (.ref E)=true)
(pg:W.plainGet K C Str.empty=true)
(hd:W.hasDictIn K C=true)
(po:W.plainOver K C=true)
(sa:W.findIn K (.ref C) "__setattr__"=some (some<|.builtin "object.__setattr__"))
(mk:W.makesIn K C=true)
(kc:W.keepIn K (.ref C)=true)
(Hpg:W.plainGet K CH Str.empty=true)
(Hhd:W.hasDictIn K CH=true)
(Hpo:W.plainOver K CH=true)
(Hsa:W.findIn K (.ref CH) "__setattr__"=some (some<|.builtin "object.__setattr__"))
(Hmk:W.makesIn K CH=true)
(Hkc:W.keepIn K (.ref CH)=true)
(Hn0:W.findIn K (.ref CH) "yard"=some none)
(Hn1:W.findIn K (.ref CH) "present"=some none)
(Hn2:W.findIn K (.ref CH) "known"=some none)
(Hn3:W.findIn K (.ref CH) "given"=some none)
(Hn4:W.findIn K (.ref CH) "gone"=some none)
(Hn5:W.findIn K (.ref CH) "made"=some none)
(Dpg:W.plainGet K Z Str.empty=true)
(Dhd:W.hasDictIn K Z=true)
(Dpo:W.plainOver K Z=true)
(Dsa:W.findIn K (.ref Z) "__setattr__"=some (some<|.builtin "object.__setattr__"))
(R:W.makesIn K Z=true)
(S:W.keepIn K (.ref Z)=true)
(Dn0:W.findIn K (.ref Z) "hand"=some none)
(cM:W.nsIn K mainGlobals "COUNTS"=some (some<|.ref gC))
(cL:K.lookup gC=some #[.type "dict",none,.dict (List.toArray [#[hashStr w "come",.str "come" ta0,.int 5 tb0],#[hashStr w "turn",.str "turn" ta1,.int 0 tb1],#[hashStr w "leave",.str "leave" ta2,.int 1 tb2],#[hashStr w "got",.str "got" ta3,.int 1 tb3],#[hashStr w "rest",.str "rest" ta4,.int 1 tb4],#[hashStr w "bound",.str "bound" ta5,.int 3 tb5],#[hashStr w "open",.str "open" ta6,.int 0 tb6],#[hashStr w "now",.str "now" ta7,.int 0 tb7]]) epC,(List.toArray [])])
(cN:(gC==sysModules)=false)
(uN:W.nsIn K mainGlobals "NoRow"=some (some<|.ref iJ))
(n0:W.findIn K (.ref C) "ends"=some none)
(n1:W.findIn K (.ref C) "rooms"=some none)
(n2:W.findIn K (.ref C) "leaving"=some none)
(n3:W.findIn K (.ref C) "laid"=some none)
(aS:W.nsIn K mainGlobals "START"=some (some<|.ref gS))
(lS:K.lookup gS=some #[.type "tuple",dS,.seq (List.toArray [.str "start" tS]) nS,slS])
(aE:W.nsIn K mainGlobals "END"=some (some<|.ref gE))
(lE:K.lookup gE=some #[.type "tuple",dE,.seq (List.toArray [.str "end" tE]) nE,slE])
(rC:W.nsIn K mainGlobals "NoRoom"=some (some<|.ref CR))
(y:W.nsIn K mainGlobals "YardError"=some (some<|.ref M))
(rf:W.findIn K (.ref CR) "__init__"=some (some<|.ref fR))
(rl:K.lookup fR=some #[.type "function",odR,.func<|W.fnOf "__init__" "NoRoom.__init__" (Yw Bk) (VG Bk) (Q8 Bk) .none kVR dcR pmR anR cdR ctR,slR])
(rc:W.codeIn K cdR "NoRoom.__init__"=true)
(rk:W.keepIn K (.ref fR)=true)
(rx:BH K CR fR=true)
(rg:W.specialIn K (.ref M) "__getattribute__"=some (some<|.builtin "type.__getattribute__"))
(rr:W.readsIn K M (.type "type")=true)
(ri:W.findCls K (.ref M) (.type "type") "__init__"=some (.val<|.builtin "ValueError.__init__"))
(rs:W.findIn K (.ref CR) "__setattr__"=some (some<|.builtin "object.__setattr__"))
(ro:((W.clsIn K CR).any λcd=>W1 cd.mro)=true)
(rd:W.hasDictIn K CR=true)
(rt:W.takerIn K CR "some"=some none)
(rK:W.keepIn K (.ref CR)=true)
(qC:W.nsIn K mainGlobals "NoNumber"=some (some<|.ref f))
(qf:W.findIn K (.ref f) "__init__"=some (some<|.ref fQ))
(ql:K.lookup fQ=some #[.type "function",odQ,.func<|W.fnOf "__init__" "NoNumber.__init__" (Yw Bo) (VG Bo) (Q8 Bo) .none kVQ dcQ pmQ anQ cdQ ctQ,slQ])
(qc:W.codeIn K cdQ "NoNumber.__init__"=true)
(qk:W.keepIn K (.ref fQ)=true)
(qx:BH K f fQ=true)
(qs:W.findIn K (.ref f) "__setattr__"=some (some<|.builtin "object.__setattr__"))
(qo:((W.clsIn K f).any λcd=>W1 cd.mro)=true)
(qd:W.hasDictIn K f=true)
(qt:W.takerIn K f "number"=some none)
(qK:W.keepIn K (.ref f)=true)
(qe:W.exmOne K (.ref f) (.ref M)=some true)
(qp:W.findIn K (.ref f) "__getattribute__"=some (some<|.builtin "BaseException.__getattribute__"))
(qn:W.findIn K (.ref f) "number"=some none)
(qq:W.findIn K (.ref f) "__getattr__"=some none)
(qb:W.mroIn K f (.type "BaseException")=some true)
(qcl:W.findIn K (.ref f) "__class__"=some (some<|.builtin "object.__class__"))
(qm:W.mroIn K f (.type "object")=some true)
(qk1:W.kitOne K (.ref f) (.ref f)=some true)
(qk2:W.kitOne K (.ref f) (.type "ValueError")=some true)
(xs:W.specialIn K (.builtin "object.__class__") "__get__"=some (some<|.builtin "getset_descriptor.__get__"))
(xt:W.takesIn K (.builtin "object.__class__")=some true)
(b:W.nsIn K mainGlobals "NoGuest"=some (some<|.ref j))
(aJ:W.nsIn K mainGlobals "NoTime"=some (some<|.ref m))
(xdnk0:W.kitOne K (.ref f) (.ref j)=some false)
(xdnk1:W.kitOne K (.ref f) (.ref m)=some false)
(xdnk2:W.kitOne K (.ref f) (.ref CR)=some false)
(xdnk4:W.kitOne K (.ref f) (.ref iJ)=some false)
(xdte:W.exmOne K (.ref m) (.ref M)=some true)
(xdtp:W.findIn K (.ref m) "__getattribute__"=some (some<|.builtin "BaseException.__getattribute__"))
(xdtq:W.findIn K (.ref m) "__getattr__"=some none)
(xdtb:W.mroIn K m (.type "BaseException")=some true)
(xdtd:W.hasDictIn K m=true)
(xdtc:W.findIn K (.ref m) "__class__"=some (some<|.builtin "object.__class__"))
(xdtm:W.mroIn K m (.type "object")=some true)
(xdtk0:W.kitOne K (.ref m) (.ref j)=some false)
(xdtk1:W.kitOne K (.ref m) (.ref m)=some true)
(xdtk2:W.kitOne K (.ref m) (.ref CR)=some false)
(xdtk3:W.kitOne K (.ref m) (.ref f)=some false)
(xdtk4:W.kitOne K (.ref m) (.ref iJ)=some false)
(xdge:W.exmOne K (.ref j) (.ref M)=some true)
(xdgp:W.findIn K (.ref j) "__getattribute__"=some (some<|.builtin "BaseException.__getattribute__"))
(xdgq:W.findIn K (.ref j) "__getattr__"=some none)
(xdgb:W.mroIn K j (.type "BaseException")=some true)
(xdgd:W.hasDictIn K j=true)
(xdgc:W.findIn K (.ref j) "__class__"=some (some<|.builtin "object.__class__"))
(xdgm:W.mroIn K j (.type "object")=some true)
(xdgk0:W.kitOne K (.ref j) (.ref j)=some true)
(xdgk1:W.kitOne K (.ref j) (.ref m)=some false)
(xdgk2:W.kitOne K (.ref j) (.ref CR)=some false)
(xdgk3:W.kitOne K (.ref j) (.ref f)=some false)
(xdgk4:W.kitOne K (.ref j) (.ref iJ)=some false)
(wC:W.nsIn K mainGlobals "NoText"=some (some<|.ref q))
(yC:W.nsIn K mainGlobals "NoYard"=some (some<|.ref B))
(wf:W.findIn K (.ref q) "__init__"=some (some<|.ref fX))
(wl:K.lookup fX=some #[.type "function",odW,.func<|W.fnOf "__init__" "NoText.__init__" (Yw Bm) (VG Bm) (Q8 Bm) .none kVW dcW pmW anW cdW ctW,slW])
(wc:W.codeIn K cdW "NoText.__init__"=true)
(wk:W.keepIn K (.ref fX)=true)
(wx:BH K q fX=true)
(ws:W.findIn K (.ref q) "__setattr__"=some (some<|.builtin "object.__setattr__"))
(wo:((W.clsIn K q).any λcd=>W1 cd.mro)=true)
(wt:W.takerIn K q "row"=some none)
(wK:W.keepIn K (.ref q)=true)
(wn:W.findIn K (.ref q) "row"=some none)
(yx:BC K B=true)
(yK:W.keepIn K (.ref B)=true)
(we:W.exmOne K (.ref q) (.ref M)=some true)
(wp:W.findIn K (.ref q) "__getattribute__"=some (some<|.builtin "BaseException.__getattribute__"))
(wq:W.findIn K (.ref q) "__getattr__"=some none)
(wb:W.mroIn K q (.type "BaseException")=some true)
(wd:W.hasDictIn K q=true)
(wcl:W.findIn K (.ref q) "__class__"=some (some<|.builtin "object.__class__"))
(wm:W.mroIn K q (.type "object")=some true)
(ye:W.exmOne K (.ref B) (.ref M)=some true)
(yp:W.findIn K (.ref B) "__getattribute__"=some (some<|.builtin "BaseException.__getattribute__"))
(yq:W.findIn K (.ref B) "__getattr__"=some none)
(yb:W.mroIn K B (.type "BaseException")=some true)
(yd:W.hasDictIn K B=true)
(ycl:W.findIn K (.ref B) "__class__"=some (some<|.builtin "object.__class__"))
(ym:W.mroIn K B (.type "object")=some true)
(mwk0:W.kitOne K (.ref q) (.ref q)=some true)
(mwk1:W.kitOne K (.ref q) (.ref B)=some false)
(mwk2:W.kitOne K (.ref q) (.ref j)=some false)
(mwk3:W.kitOne K (.ref q) (.type "ValueError")=some true)
(mwa:W.kitAny K (.ref q) [.ref f,.ref CR,.ref iJ,.ref m]=some false)
(myk0:W.kitOne K (.ref B) (.ref q)=some false)
(myk1:W.kitOne K (.ref B) (.ref B)=some true)
(myk2:W.kitOne K (.ref B) (.ref j)=some false)
(myk3:W.kitOne K (.ref B) (.type "ValueError")=some true)
(mya:W.kitAny K (.ref B) [.ref f,.ref CR,.ref iJ,.ref m]=some false)
(mgk0:W.kitOne K (.ref j) (.ref q)=some false)
(mgk1:W.kitOne K (.ref j) (.ref B)=some false)
(mgk2:W.kitOne K (.ref j) (.ref j)=some true)
(mgk3:W.kitOne K (.ref j) (.type "ValueError")=some true)
(mga:W.kitAny K (.ref j) [.ref f,.ref CR,.ref iJ,.ref m]=some false)
(ul:W.exmOne K (.ref CR) (.ref CR)=some true)
(tx:BC K m=true)
(tK:W.keepIn K (.ref m)=true)
(gx:BC K j=true)
(gK:W.keepIn K (.ref j)=true)
(z0:W.nsIn K mainGlobals "abs"=some none)
(z1:W.nsIn K mainGlobals "len"=some none)
(z2:W.nsIn K mainGlobals "max"=some none)
(z3:W.nsIn K mainGlobals "min"=some none)
(z4:W.nsIn K mainGlobals "sum"=some none)
(z5:W.nsIn K mainGlobals "any"=some none)
(z6:W.nsIn K mainGlobals "all"=some none)
(z7:W.nsIn K mainGlobals "isinstance"=some none)
(z8:W.nsIn K mainGlobals "int"=some none)
(z9:W.nsIn K mainGlobals "bool"=some none)
(z10:W.nsIn K mainGlobals "list"=some none)
(z11:W.nsIn K mainGlobals "tuple"=some none)
(z12:W.nsIn K mainGlobals "range"=some none)
(z13:W.nsIn K mainGlobals "zip"=some none)
(z14:W.nsIn K mainGlobals "enumerate"=some none)
(z15:W.nsIn K mainGlobals "str"=some none)
(z16:W.nsIn K mainGlobals "sorted"=some none)
(z17:W.nsIn K mainGlobals "set"=some none)
(z18:W.nsIn K mainGlobals "dict"=some none)
(z19:W.nsIn K mainGlobals "ValueError"=some none)
 : (∃gS gE,W.nsIn K mainGlobals "START"=some (some<|.ref gS)/\W.nsIn K mainGlobals "END"=some (some<|.ref gE)/\KTup K gS "start" /\ KTup K gE "end")/\∃fd:FuncData,(∀(s:Shared) (v:Value),BindsTo s fd #[[v],[]] [("_law_script",v)])/\∀base:Heap,K.In base->base.Ns mainGlobals mg->FnOk P w K mg base CX0 13 fa fd ["_law_script"] (Du K):=by
 cases (hfa.symm.trans (W.mg_of X G a62));have T:Bl mg:=#[W.mg_none_of X G z0,W.mg_none_of X G z1,W.mg_none_of X G z2,W.mg_none_of X G z3,W.mg_none_of X G z4,W.mg_none_of X G z5,W.mg_none_of X G z6,W.mg_none_of X G z7,W.mg_none_of X G z8,W.mg_none_of X G z9,W.mg_none_of X G z10,W.mg_none_of X G z11,W.mg_none_of X G z12,W.mg_none_of X G z13,W.mg_none_of X G z14,W.mg_none_of X G z15,W.mg_none_of X G z16,W.mg_none_of X G z17,W.mg_none_of X G z18,W.mg_none_of X G z19];have g:Tx K mg C gS gE:=#[#[#[pg,hd,po,sa],n0,n1,n2,n3],W.mg_of X G aS,W.mg_of X G aE,aS,aE];have UD:DeskC K Z:=#[#[Dpg,Dhd,Dpo,Dsa],Dn0];have D:HandC K CH:=#[#[Hpg,Hhd,Hpo,Hsa],Hn0,Hn1,Hn2,Hn3,Hn4,Hn5];have XR:XC K mg "NoRoom" M CR fR:=#[KY rx rl rfl rg rr ri,rK,W.mg_of X G rC];have XcK:=W4 (st:=Bk) rl rc rk;have XQ:XC K mg "NoNumber" M f fQ:=#[KY qx ql rfl rg rr ri,qK,W.mg_of X G qC];have XB:A3 K mg M f:=#[qe,W.mg_of X G y,#[#[qp,qq,qb],qd],qn,#[#[qp,qq,qb],qd,qcl,xs,xt,qm],qk1,qk2];have XcL:=W4 (st:=Bo) ql qc qk;have Q:Uy K mg M j j m CR f iJ true false false false false:=#[xdge,W.mg_of X G y,#[#[xdgp,xdgq,xdgb],xdgd,xdgc,xs,xt,xdgm],xdgk0,xdgk1,xdgk2,xdgk3,xdgk4,W.mg_of X G b,W.mg_of X G aJ,W.mg_of X G rC,W.mg_of X G qC,W.mg_of X G uN];have XTX:XC K mg "NoText" M q fX:=#[KY wx wl rfl rg rr ri,wK,W.mg_of X G wC];have XcM:=W4 (st:=Bm) wl wc wk;have XcN:=W4 (st:=Bn) l81 c81 k81;have XcO:=W4 (st:=Bj) l82 c82 k82;have x:=W4 (st:=Gg) l83 c83 k83;have A:=x.binds (ps:=Zao) λ_ _ _ _ _ _ us o=>ln2 o λ_ _=>rfl;refine#[#[gS,gE,aS,aE,#[_,_,_,_,lS],#[_,_,_,_,lE]],W.fnOf "law" "law" (Yw Jq) (VG Jq) (Q8 Jq) .none kV62 dc62 pm62 an62 r ct62,λs v=>.of_eq rfl,λbase _ _=>?_];have Xa9:=ZtJ (P:=P) (w:=w) (base:=base) T (h55.df X G);have Xbn:=Zt7 (P:=P) (w:=w) (base:=base) T (h35.df X G);have Xbo:=ZoL T (h36.df X G) Xbn;have XbC:=Zkw T (h38.df X G) Xbn Xbo;have Xbx:=ZjG T (h39.df X G) Xbo;have Xbk:=Zqo T XTX (h41.df X G) (ZnS T (h40.df X G) (ZkM T (h37.df X G) Xbn) XbC Xbx) (#[_,XcM.binds (ps:=Zaj) λ_ _ _ _ _ _ us o=>ln2 o λ_ _=>rfl,ZrF (P:=P) (w:=w) (base:=base) T XcM XTX.cl #[ws,wo,wd] wt<|W.mg_of X G y]);have c:=Zrz (P:=P) (w:=w) (base:=base) T (h42.df X G);have J:=ZsT (P:=P) (w:=w) (base:=base) T (h3.df X G);have u:=ZqK T (U.df X G) (Zo2 (P:=P) (w:=w) (base:=base) T (h0.df X G));have Xbu:=Zme T (h2.df X G) u;have Xbp:=Zmh T (#[KG yx,yK,W.mg_of X G yC]) (h44.df X G) XbC (Zmi T (h43.df X G) c) (Zqv T (h8.df X G) J u (Zm3 T (h7.df X G) (Zq6 T (h6.df X G) J (Zo1 T (h4.df X G) u) (Zly T (h5.df X G) J Xbu))));have N:=ZtL (P:=P) (w:=w) (base:=base) T (h11.df X G);have d:=ZtC (P:=P) (w:=w) (base:=base) T (h10.df X G);have L:=Zom T (h9.df X G) J u Xbu N d;have XbD:=Zj1 T (#[KG gx,gK,W.mg_of X G b]) (h45.df X G) Xbx c L;have Xbs:=IF T (h46.df X G) Xbk Xbp XbD;have O:=Zs4 (P:=P) (w:=w) (base:=base) T D (#[KG tx,tK,W.mg_of X G aJ]) m78.mf;have Xbr:=Ez T g m63.mf (IZ (P:=P) (w:=w) (base:=base) T g m64.mf);have Xbm:=IU (P:=P) (w:=w) (base:=base) T (h16.df X G);have Xbj:=ZsB (P:=P) (w:=w) (base:=base) T (h20.df X G);have Xby:=Zsd (P:=P) (w:=w) (base:=base) T (h15.df X G);have Xbz:=Ip (P:=P) (w:=w) (base:=base) T (h17.df X G);have Xbg:=ZsF (P:=P) (w:=w) (base:=base) T (h21.df X G);have Xbl:=ZpT (P:=P) (w:=w) (base:=base) T (h14.df X G);have Xbi:=ZtG (P:=P) (w:=w) (base:=base) T (h13.df X G);have XbA:=Zss (P:=P) (w:=w) (base:=base) T (h12.df X G);have Xbt:=ZoA (P:=P) (w:=w) (base:=base) T g m66.mf;have XbB:=ZpL T g (h24.df X G) (#[_,_,#[mk,a81,i81,kc],W.mg_of X G aC,XcN.binds (ps:=Zav) λ_ _ _ _ _ _ us o=>ln1 o λ_=>rfl,Ew (P:=P) (w:=w) (base:=base) T g XcN]) (ZqL T g (h22.df X G) Xbr Xbm Xbj d Xby Xbz Xbg Xbl) d (Zt4 T g (h23.df X G) Xbr Xbi Xbg N XbA) (Io T g m68.mf Xbt (IX (P:=P) (w:=w) (base:=base) T g m67.mf) (Eu (P:=P) (w:=w) (base:=base) T g m69.mf));have Xbv:=IS T D XQ m79.mf u (#[_,XcL.binds (ps:=Zad) λ_ _ _ _ _ _ us o=>ln2 o λ_ _=>rfl,Zqq (P:=P) (w:=w) (base:=base) T XcL XQ.cl #[qs,qo,qd] qt<|W.mg_of X G y]);have Xbw:=Zqg T D m77.mf (Zs8 (P:=P) (w:=w) (base:=base) T (h18.df X G)) (Og (P:=P) (w:=w) (base:=base) T (h19.df X G)) (Zsy T D m74.mf Xbv Xbm);have XbE:De P w K mg base "Desk" Z Zao 10 (spP K (G4 Z "hand"<|Zf CH) R_dinit):=#[_,_,#[R,I,z,S],W.mg_of X G aD,A,EX (P:=P) (w:=w) (base:=base) T UD x Xbs (#[_,_,#[Hmk,a82,i82,Hkc],W.mg_of X G aH,XcO.binds (ps:=ZaQ) λ_ _ _ _ _ _ us o=>ln2 o λ_ _=>rfl,IB (P:=P) (w:=w) (base:=base) T D XcO]) (OM T D XR ul (h52.df X G) (Ztf T D XR m71.mf L O (Zpd T XR (h34.df X G) (IW T (h33.df X G) (ZlQ T g (h27.df X G) XbB Xbt Xbj)) (Zsf T (h31.df X G) Xbm (Zr4 T (h30.df X G) d (ZrT T (h29.df X G) (Zm7 T (h28.df X G) N Xby Xbl Xbz XbA Xbi) Xbi))) (#[_,XcK.binds (ps:=ZaP) λ_ _ _ _ _ _ us o=>ln2 o λ_ _=>rfl,Zrt (P:=P) (w:=w) (base:=base) T XcK XR.cl #[rs,ro,rd] rt<|W.mg_of X G y])) Xbw))];have XbP:=Zqw T (h46.df X G) Xbk Xbp;have XbQ:=ZpB T (h46.df X G) Xbk Xbp XbD;have t:=ZsW T (#[#[#[_,_,cL,.cons<|.cons<|.cons<|.cons<|.cons<|.cons<|.cons<|.cons .nil],cN],W.mg_of X G cM]) (h47.df X G) Xbo;exact Eb T UD (W4 (st:=Jq) l62 c62 k62) (IG (P:=P) (w:=w) (base:=base) T (h53.df X G)) (IT (P:=P) (w:=w) (base:=base) T (h54.df X G)) (Zt5 T (h56.df X G) Xa9) (Zrs T (h57.df X G) Xa9) (OP (P:=P) (w:=w) (base:=base) T (h58.df X G)) (Ea (P:=P) (w:=w) (base:=base) T (h60.df X G)) (Oy T (#[we,W.mg_of X G y,#[#[wp,wq,wb],wd,wcl,xs,xt,wm],mwk0,mwk1,mwk2,mwk3,mwa,W.mg_of X G wC,W.mg_of X G yC,W.mg_of X G b,W.mg_of X G qC,W.mg_of X G rC,W.mg_of X G uN,W.mg_of X G aJ]) (#[ye,W.mg_of X G y,#[#[yp,yq,yb],yd,ycl,xs,xt,ym],myk0,myk1,myk2,myk3,mya,W.mg_of X G wC,W.mg_of X G yC,W.mg_of X G b,W.mg_of X G qC,W.mg_of X G rC,W.mg_of X G uN,W.mg_of X G aJ]) (#[Q.em,Q.my,Q.is,mgk0,mgk1,mgk2,mgk3,mga,W.mg_of X G wC,W.mg_of X G yC,W.mg_of X G b,W.mg_of X G qC,W.mg_of X G rC,W.mg_of X G uN,W.mg_of X G aJ]) #[#[wp,wq,wb],wd] wn (h61.df X G) XbE (#[_,_,#[R,I,z,S],W.mg_of X G aD,A,KS bkV T x Xbs]) (#[_,_,#[R,I,z,S],W.mg_of X G aD,A,KS bkN T x XbP]) (#[_,_,#[R,I,z,S],W.mg_of X G aD,A,KS bkN T x XbQ]) Xbs XbP XbQ) XbE (Iu T UD (#[qe,W.mg_of X G y,XB.is,xdnk0,xdnk1,xdnk2,qk1,xdnk4,W.mg_of X G b,W.mg_of X G aJ,W.mg_of X G rC,W.mg_of X G qC,W.mg_of X G uN]) (#[xdte,W.mg_of X G y,#[#[xdtp,xdtq,xdtb],xdtd,xdtc,xs,xt,xdtm],xdtk0,xdtk1,xdtk2,xdtk3,xdtk4,W.mg_of X G b,W.mg_of X G aJ,W.mg_of X G rC,W.mg_of X G qC,W.mg_of X G uN]) Q XB (h59.df X G) (Ix T UD n.mf t c (Oe T D (p.df X G) (O4 (P:=P) (w:=w) (base:=base) T D m70.mf))) (NK (CH:=CH) bkV T UD n.mf t c (Zsl T D (p.df X G) (Zr7 T D m73.mf Xbv))) (NK (CH:=CH) bkN T UD n.mf t c (Zsj T D (p.df X G) (Zok T D m71.mf L O) (Ib T D (h50.df X G) (Zsg (P:=P) (w:=w) (base:=base) T D m76.mf) N d (IJ T D m75.mf O)))) (NK (CH:=CH) bkN T UD n.mf t c (Zs0 T D (p.df X G) (ZoF T D (#[KG gx,gK,W.mg_of X G b]) m71.mf L)))) (ZsN T UD n.mf t c (Zs5 T D (p.df X G) (Ic T (h49.df X G) (Zr1 (P:=P) (w:=w) (base:=base) T (h48.df X G))) (ZsG T D m72.mf O d (Ol T (h32.df X G) (ZrY T g (h26.df X G) XbB (ZsU T g (h25.df X G) d (OF (P:=P) (w:=w) (base:=base) T g m65.mf) Xbg Xbl Xbj))) Xbw)))
end My
namespace PySem.W.Fast
local macro_rules|`(unseal $x*)=>do return Lean.mkNullNode (<-x.mapM λx=>do return(<-`(def $x:ident:=Nat)).raw)
unseal tw6204954007613179235 tw1423456377251991629 tw9295057901178696617 tw1613288962562395342 tw16940964552503309014 tw2288042786417665785 tw18313359302229417056 tw10689569887908558861 tw5705328726208059162 tw9382366936843047499 tw334985893812367739 tw2408832012836040844 tw6227074081676681399 tw3114058866331183887 tw11116516809003904738 tw4819027178863098815 tw13199587822072496538 tw707660575099230097 tw7592000650237171222 tw12903094101468093832 tw16080687091510867154 tw12994522789500593599 tw8204630194685851931 tw1364829016166361675 tw14947593140235238051 tw4042846491299001731 tw5560070528006345942 tw8982437916704229913 tw9438133394781118708 tw9457215065912767403 tw4598595185347971078 tw1496711911880047925 tw14016642573009627462 tw1166060676084753027 tw15804958568200931267 tw8854807729970780767 tw3044045723346506859 tw17430771530745238614 tw9715066824458250754 tw13681537336554925953 tw12862504253525451878 tw2045104454554147614 tw1348773453008298824 tw13465500136833403021 tw17410313058340118267 tw15831457824020660764 tw387839502576349309 tw11694427745954328098 tw13273478415540332065 tw2999162723784730873 tw1357258143101944477 tw16541783842132599541 tw2351091239565709751 tw12732173731440649404 tw15796094671694394123 tw357591132791445949 tw721001555155894107 tw7183926958257482306 tw16907315513827468959 tw16205902497127347261 tw8981668599131146526 tw5945951958294825079 tw17750978516693814260 tw16481339763329038681 tw16319569923173286837 tw10058144550817177460 tw7342888088618562081 tw1405026263999138000 tw5768370277396098752 tw9735137325285326335 tw1329672570613266596 tw2527901386021326551 tw10089288169371881537 tw7771058785487351520 tw15620063533910060095 tw5965033559737485403 tw3444767624481355625 tw11026309188677849673 tw10602371987100162351 tw7979686957068740945 tw6152543462520843717 tw16809440299069429284 tw90530878216895769 tw7136203085753528939 tw8301025089983351480 tw9932968482051949316 tw2434506020618337359 tw12712067121836566397 tw4149118797895933216 tw10428364188264878688 tw13621672896291889514 tw15938968643294493568 tw1700099569266076893 tw7089475628253782169 tw10480073027621669123 tw3904024773450110555 tw4490500160130845762 tw1822562361875298808 tw9250991223039242907 tw10873291663751826623 tw10835692401853800171 tw17505838558196370391 tw17846819412668416441 tw2935521073108096379 tw13413913832216338157 tw8392205462152989753 tw15598060654101490922 tw6286516452528327155 tw6323799499614378812 tw6153538722154997248 tw13979779424906312169 tw15148941225218660351 tw14599198355920601180 tw18129350983055752086 tw6057322063669536088 tw762269049550614139 tw12979973489746183751 tw1991170628220023875 tw10817412208930278959 tw7974756688139334671 tw11245507006529956386 tw3807744252692141949 tw2379593013045883851 tw4302221233680792670 tw1982968904978428323 tw17066034922466385659 tw6655986912904155936 tw14432718324957938246 tw372030390563886324 tw18004390032245384361 tw4072231471028430429 tw13097689229636007493 tw11864129617343520542 tw6175025571910236751 tw11963484555721025480 tw11696774010204630596 tw5870597878249930805 tw3165948162019600262 tw10808641035994664916 tw14412793859155624360 tw12366239914644098629 tw13265210813537312049 tw7588304107321055617 tw12770789706548384466 tw8069168046589142782 tw13335182683004067891 tw10071409353883753967 tw8754863551321687825 tw5757904757292260929 tw17337864191032070611 tw4278122017965943753 tw14772212669288421980 tw9899676751237264698 tw17270260938730000306 tw16123546773903803883 tw11560954117276195942 tw4761938254207053710 tw3077853239301829345 tw4242377561559564934 tw4075825368945146728 tw14449165260624863241 tw3241540054899778809 tw3881024189347931875 tw11332005182503100769 tw16425368281476324184 tw5634631300923342060 tw8815071838654198346 tw644000440766682677 tw2257313464691771481 tw275284670317309122 tw13222875390455770229 tw12330514777926503321 tw13976903912868186181 tw2607241296187990367 tw7682012211890945204 tw8167413637675706814 tw4242656393042225483 tw14901102565976514150 tw6995224251617532702 tw7333597895327046708 tw13255603857044049609 tw5348327974808529190 tw8178468423048102540 tw16039212206186704993 tw7827370682189975117 tw4068138928359616161 tw6675656008991588240 tw1398497993791700123 tw5917434030713728310 tw523484385452966848 tw236029765257012954 tw8093297160898142756 tw232555392633223445 tw2810248546831079659 tw9091726744733080938 tw7963557631837025612 tw8002278712211781734 tw4869485578711811589 tw9378547638090566259 tw17705018152972062365 tw2835539061204213773 tw3655161349237814020 tw16779321598428634083 tw18116593826835835872 tw2367457874979838891 tw13458066447436751538 tw13178108790327851883 tw16742709285342034825 tw16555447291614394165 tw14936291909830372285 tw7570841817887105600 tw11803239620100624313 tw10223766596680576438 tw8249044688119610402 tw336536499412679585 tw5912304264791895885 tw9281902544069518502 tw5653943650342929684 tw15257859234060386617 tw6112452689469049536 tw17422330073502263039 tw5683105741337510932 tw4161035818816916803 tw14363736235711343240 tw10469334098026406284 tw299195271214497689 tw14671917531639922902 tw6241021484304857660 tw12858278617545114211 tw17331960058861011339 tw13532741139191040795 tw15836436929636817861 tw13989931944335587970 tw516791684713401799 tw3004862143079250864 tw17097511014201201178 tw16245793496000858763 tw13946544701239833124 tw13938596806738951639 tw149071477312667666 tw6731967351395633381 tw4874022839096324194 tw6175326994583400283 tw15012237428474697044 tw286117549399735393 tw3572574687703626629 tw3913315210995480776 tw11970140890927101509 tw8419214368854939678 tw17462918105130342659 tw11476748015892110445 tw12174358943621321129 tw9263718984841857247 tw11678314519696529433 tw8178525504792941515 tw5492977466226685216 tw5375681902105237870 tw9604883645179874050 tw3065708507911722416 tw17160865931684396056 tw9688768131883624994 tw7586522116797059206 tw7340938523544978159 tw13354529969080860639 tw10053604596132274648 tw973195587575608911 tw12239390050657511667 tw4464464075513302872 tw3572844480499603571 tw1678014290484775864 tw15379192403638539035 tw1448835232523109870 tw12012625896737439405 tw8364405075559504029 tw2188502302092200797 tw1320038057543056313 tw6520963186645502339 tw16112521341240683354 tw12955210749799070444 tw8715135033447736480 tw5848429951602628200 tw559028554518309183 tw16599132639109445796 tw11530026631125698475 tw2827044337527306580 tw2778628827125756849 tw8218874069875548618 tw13208600434065242475 tw12338910209771450249 tw268763360025877677 tw16735221389169634812 tw25172292708377365 tw3281839626020071977 tw2580870957090244979 tw16913374149476258933 tw9655906078759842146 tw3218298469861533149 tw16867234653062834710 tw6713570089518299546 tw3821961220291211713 tw9508837799664820853 tw6708810155213714014 tw14882770829737236252 tw7330756536772725633 tw16082979349746715918 tw15188738889247537092 tw14200676331587723905 tw11912548843635022820 tw10613683958103934670 tw2052753850456839740 tw13349931424986078195 tw109487697794920291 tw14597121793955217397 tw3712098881873274295 tw18237873331735795211 tw10357439421502394591 tw13638669048843685211 tw6772494094746573212 tw8455081233260758934 tw7018465291358356530 tw4893875002734038012 tw2258341725336065438 tw15082387803462606557 tw11830215412300825673 tw2163543530323861803 tw8799721544029728181
end PySem.W.Fast
open PySem PySem.W PyProof.Rows
set_option maxRecDepth 100000 in
set_option maxHeartbeats 0 in
theorem PySem.Challenge.cw_chargeyard_k83_desks_refused_holds : PySem.Challenge.rw_chargeyard_k83_desks_refused.Holds := by
 w_on; o_law; k_head; (case hw=>w_witness2)
 k_fill
 refine L2.Zq5 (l:=PySem.Challenge.rw_chargeyard_k83_desks_refused) (k:=13) (x := "_law_script") rfl rfl #[rfl,by decide,by decide] (λw h Y=>W.kIn_of Y) ?F
 case F=>
  intro w mg fa h KX G hmg
  apply My.ZxO KX G hmg
  all_goals try k_is
  all_goals first | kit_is | kts_exm | decide | (refine' My.DH.mk ?a ?l ?c ?k; case a | l | c | k=>k_is) | (refine' My.MH.mk ?a ?i ?l ?c ?k; case a | i | l | c | k=>k_is) | with_unfolding_all exact Eq.refl true
end
end
