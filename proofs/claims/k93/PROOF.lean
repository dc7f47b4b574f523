import PyProof.Rows.All
import Wide.All
import OpenK.AllK
import Lean
import PySem.Challenge.RW_chargeyard_k93_whole_days
local macro_rules|`(#[])=>`(by lia)|`(#[$x])=>`(⟨$x⟩)|`(#[$x,$y,*])=>`(⟨$x,$y,*⟩)
set_option Elab.async false
set_option linter.all false
set_option maxRecDepth 100000
set_option maxHeartbeats 4000000
set_option compiler.extract_closed false
set_option genSizeOf false
section
open PySem PySem.Spec PyProof.Rows
section
variable{α β γ δ ε ζ η θ ι κ μ ν ξ ο π ρ σ:Sort _}{g:Prop}{A0 B0 C0 D0 E0 F0:Prop}{A1 B1 C1 D1 E1:α->Prop}{A2 B2 C2 D2 E2 F2:α->β->Prop}{A3 B3 C3 D3 E3:α->β->γ->Prop}{A4 B4 C4 D4 E4:α->β->γ->δ->Prop}{A5:α->β->γ->δ->ε->Prop}{A6 B6 C6 D6:α->β->γ->δ->ε->ζ->Prop}{A8:α->β->γ->δ->ε->ζ->η->θ->Prop}{A9 B9 C9 D9:α->β->γ->δ->ε->ζ->η->θ->ι->Prop}{A11:α->β->γ->δ->ε->ζ->η->θ->ι->κ->μ->Prop}{A17:α->β->γ->δ->ε->ζ->η->θ->ι->κ->μ->ν->ξ->ο->π->ρ->σ->Prop}
def At(h:∃u,A1 u/\B1 u)(f:∀u,A1 u->B1 u->g):g:=by obtain⟨u,H,h1⟩:=h;exact f u H h1
def By(h:A0/\∃u v,A2 u v/\B2 u v)(f:A0->∀u v,A2 u v->B2 u v->g):g:=by obtain⟨H,u,v,h1,h2⟩:=h;exact f H u v h1 h2
def Do(h:A0/\∃u,A1 u/\B1 u)(f:A0->∀u,A1 u->B1 u->g):g:=by obtain⟨H,u,h1,h2⟩:=h;exact f H u h1 h2
def FB(h:A0/\B0/\∃u,A1 u/\∃v w x,A4 u v w x/\B4 u v w x)(f:A0->B0->∀u,A1 u->∀v w x,A4 u v w x->B4 u v w x->g):g:=by obtain⟨H,h1,u,h2,v,w,x,h3,h4⟩:=h;exact f H h1 u h2 v w x h3 h4
def Gr(h:∃u v w,A3 u v w)(f:∀u v w,A3 u v w->g):g:=by obtain⟨u,v,w,H⟩:=h;exact f u v w H
def Hs(h:A0/\B0/\C0/\D0/\E0)(f:A0->B0->C0->D0->E0->g):g:=by obtain⟨H,h1,h2,h3,h4⟩:=h;exact f H h1 h2 h3 h4
def I0(h:A0/\B0/\C0)(f:A0->B0->C0->g):g:=by obtain⟨H,h1,h2⟩:=h;exact f H h1 h2
def JH(h:A0/\B0/\C0/\D0/\∃u,A1 u/\B1 u)(f:A0->B0->C0->D0->∀u,A1 u->B1 u->g):g:=by obtain⟨H,h1,h2,h3,u,h4,h5⟩:=h;exact f H h1 h2 h3 u h4 h5
def KE(h:∃u v,A2 u v/\B2 u v)(f:∀u v,A2 u v->B2 u v->g):g:=by obtain⟨u,v,H,h1⟩:=h;exact f u v H h1
def L0(h:∃u v w,A3 u v w/\B3 u v w)(f:∀u v w,A3 u v w->B3 u v w->g):g:=by obtain⟨u,v,w,H,h1⟩:=h;exact f u v w H h1
def aA(h:∃u,A1 u/\B1 u/\C1 u)(f:∀u,A1 u->B1 u->C1 u->g):g:=by obtain⟨u,H,h1,h2⟩:=h;exact f u H h1 h2
def aB(h:∃u v w,A3 u v w/\B3 u v w/\C3 u v w)(f:∀u v w,A3 u v w->B3 u v w->C3 u v w->g):g:=by obtain⟨u,v,w,H,h1,h2⟩:=h;exact f u v w H h1 h2
def aD(h:∃u v,A2 u v/\B2 u v/\C2 u v/\D2 u v)(f:∀u v,A2 u v->B2 u v->C2 u v->D2 u v->g):g:=by obtain⟨u,v,H,h1,h2,h3⟩:=h;exact f u v H h1 h2 h3
def aF(h:∃u v,A2 u v/\B2 u v/\C2 u v)(f:∀u v,A2 u v->B2 u v->C2 u v->g):g:=by obtain⟨u,v,H,h1,h2⟩:=h;exact f u v H h1 h2
def aG(h:A0/\B0/\C0/\D0/\E0/\F0)(f:A0->B0->C0->D0->E0->F0->g):g:=by obtain⟨H,h1,h2,h3,h4,h5⟩:=h;exact f H h1 h2 h3 h4 h5
def aI(h:∃u,A1 u/\B1 u/\C1 u/\D1 u)(f:∀u,A1 u->B1 u->C1 u->D1 u->g):g:=by obtain⟨u,H,h1,h2,h3⟩:=h;exact f u H h1 h2 h3
def aJ(h:A0/\B0/\C0/\D0)(f:A0->B0->C0->D0->g):g:=by obtain⟨H,h1,h2,h3⟩:=h;exact f H h1 h2 h3
def aK(h:∃u v w x y,A5 u v w x y)(f:∀u v w x y,A5 u v w x y->g):g:=by obtain⟨u,v,w,x,y,H⟩:=h;exact f u v w x y H
def aL(h:A0/\B0/\∃u,A1 u/\B1 u)(f:A0->B0->∀u,A1 u->B1 u->g):g:=by obtain⟨H,h1,u,h2,h3⟩:=h;exact f H h1 u h2 h3
def aM(h:∃u v w,A3 u v w/\B3 u v w/\C3 u v w/\D3 u v w/\E3 u v w)(f:∀u v w,A3 u v w->B3 u v w->C3 u v w->D3 u v w->E3 u v w->g):g:=by obtain⟨u,v,w,H,h1,h2,h3,h4⟩:=h;exact f u v w H h1 h2 h3 h4
def aN(h:∃u v,A2 u v)(f:∀u v,A2 u v->g):g:=by obtain⟨u,v,H⟩:=h;exact f u v H
def aO(h:∃u,A1 u/\B1 u/\C1 u/\D1 u/\E1 u)(f:∀u,A1 u->B1 u->C1 u->D1 u->E1 u->g):g:=by obtain⟨u,H,h1,h2,h3,h4⟩:=h;exact f u H h1 h2 h3 h4
def aP(h:∃u v,A2 u v/\B2 u v/\C2 u v/\D2 u v/\E2 u v/\F2 u v)(f:∀u v,A2 u v->B2 u v->C2 u v->D2 u v->E2 u v->F2 u v->g):g:=by obtain⟨u,v,H,h1,h2,h3,h4,h5⟩:=h;exact f u v H h1 h2 h3 h4 h5
def aQ(h:∃u,A1 u/\B1 u/\∃v,A2 u v)(f:∀u,A1 u->B1 u->∀v,A2 u v->g):g:=by obtain⟨u,H,h1,v,h2⟩:=h;exact f u H h1 v h2
def aR(h:∃u v w x,A4 u v w x/\B4 u v w x/\C4 u v w x/\D4 u v w x/\E4 u v w x)(f:∀u v w x,A4 u v w x->B4 u v w x->C4 u v w x->D4 u v w x->E4 u v w x->g):g:=by obtain⟨u,v,w,x,H,h1,h2,h3,h4⟩:=h;exact f u v w x H h1 h2 h3 h4
def aT(h:∃u v,A2 u v/\B2 u v/\C2 u v/\D2 u v/\E2 u v)(f:∀u v,A2 u v->B2 u v->C2 u v->D2 u v->E2 u v->g):g:=by obtain⟨u,v,H,h1,h2,h3,h4⟩:=h;exact f u v H h1 h2 h3 h4
def aU(h:∃u v w x y z i j k,A9 u v w x y z i j k/\B9 u v w x y z i j k/\C9 u v w x y z i j k)(f:∀u v w x y z i j k,A9 u v w x y z i j k->B9 u v w x y z i j k->C9 u v w x y z i j k->g):g:=by obtain⟨u,v,w,x,y,z,i,j,k,H,h1,h2⟩:=h;exact f u v w x y z i j k H h1 h2
def aV(h:A0/\∃u,A1 u/\∃v,A2 u v/\B2 u v/\∃w,A3 u v w)(f:A0->∀u,A1 u->∀v,A2 u v->B2 u v->∀w,A3 u v w->g):g:=by obtain⟨H,u,h1,v,h2,h3,w,h4⟩:=h;exact f H u h1 v h2 h3 w h4
def aW(h:∃u v w x,A4 u v w x/\B4 u v w x/\C4 u v w x/\D4 u v w x)(f:∀u v w x,A4 u v w x->B4 u v w x->C4 u v w x->D4 u v w x->g):g:=by obtain⟨u,v,w,x,H,h1,h2,h3⟩:=h;exact f u v w x H h1 h2 h3
def aX(h:A0/\∃u,A1 u/\B1 u/\C1 u)(f:A0->∀u,A1 u->B1 u->C1 u->g):g:=by obtain⟨H,u,h1,h2,h3⟩:=h;exact f H u h1 h2 h3
def aY(h:∃u,A1 u/\B1 u/\C1 u/\∃v,A2 u v/\B2 u v)(f:∀u,A1 u->B1 u->C1 u->∀v,A2 u v->B2 u v->g):g:=by obtain⟨u,H,h1,h2,v,h3,h4⟩:=h;exact f u H h1 h2 v h3 h4
def aZ(h:∃u,A1 u/\∃v,A2 u v/\B2 u v/\C2 u v/\∃w,A3 u v w/\B3 u v w)(f:∀u,A1 u->∀v,A2 u v->B2 u v->C2 u v->∀w,A3 u v w->B3 u v w->g):g:=by obtain⟨u,H,v,h1,h2,h3,w,h4,h5⟩:=h;exact f u H v h1 h2 h3 w h4 h5
def aa(h:∃u v w x y z i j k,A9 u v w x y z i j k/\B9 u v w x y z i j k/\C9 u v w x y z i j k/\D9 u v w x y z i j k)(f:∀u v w x y z i j k,A9 u v w x y z i j k->B9 u v w x y z i j k->C9 u v w x y z i j k->D9 u v w x y z i j k->g):g:=by obtain⟨u,v,w,x,y,z,i,j,k,H,h1,h2,h3⟩:=h;exact f u v w x y z i j k H h1 h2 h3
def ac(h:A0/\∃u v,A2 u v/\B2 u v/\C2 u v/\D2 u v/\E2 u v)(f:A0->∀u v,A2 u v->B2 u v->C2 u v->D2 u v->E2 u v->g):g:=by obtain⟨H,u,v,h1,h2,h3,h4,h5⟩:=h;exact f H u v h1 h2 h3 h4 h5
def ae(h:∃u v w x y z i j,A8 u v w x y z i j)(f:∀u v w x y z i j,A8 u v w x y z i j->g):g:=by obtain⟨u,v,w,x,y,z,i,j,H⟩:=h;exact f u v w x y z i j H
def af(h:∃u,A1 u/\B1 u/\∃v w,A3 u v w/\B3 u v w/\C3 u v w)(f:∀u,A1 u->B1 u->∀v w,A3 u v w->B3 u v w->C3 u v w->g):g:=by obtain⟨u,H,h1,v,w,h2,h3,h4⟩:=h;exact f u H h1 v w h2 h3 h4
def ag(h:∃u v w x y z i j k l m n o p q r s,A17 u v w x y z i j k l m n o p q r s)(f:∀u v w x y z i j k l m n o p q r s,A17 u v w x y z i j k l m n o p q r s->g):g:=by obtain⟨u,v,w,x,y,z,i,j,k,l,m,n,o,p,q,r,s,H⟩:=h;exact f u v w x y z i j k l m n o p q r s H
def ah(h:∃u v w x y z i j k l m,A11 u v w x y z i j k l m)(f:∀u v w x y z i j k l m,A11 u v w x y z i j k l m->g):g:=by obtain⟨u,v,w,x,y,z,i,j,k,l,m,H⟩:=h;exact f u v w x y z i j k l m H
def ai(h:A0/\∃u v w,A3 u v w/\B3 u v w/\C3 u v w/\D3 u v w/\E3 u v w)(f:A0->∀u v w,A3 u v w->B3 u v w->C3 u v w->D3 u v w->E3 u v w->g):g:=by obtain⟨H,u,v,w,h1,h2,h3,h4,h5⟩:=h;exact f H u v w h1 h2 h3 h4 h5
def aj(h:A0/\∃u v,A2 u v)(f:A0->∀u v,A2 u v->g):g:=by obtain⟨H,u,v,h1⟩:=h;exact f H u v h1
def ak(h:A0/\∃u v w x y z,A6 u v w x y z/\B6 u v w x y z/\C6 u v w x y z/\D6 u v w x y z)(f:A0->∀u v w x y z,A6 u v w x y z->B6 u v w x y z->C6 u v w x y z->D6 u v w x y z->g):g:=by obtain⟨H,u,v,w,x,y,z,h1,h2,h3,h4⟩:=h;exact f H u v w x y z h1 h2 h3 h4
def am(h:∃u v w x y z,A6 u v w x y z/\B6 u v w x y z/\C6 u v w x y z)(f:∀u v w x y z,A6 u v w x y z->B6 u v w x y z->C6 u v w x y z->g):g:=by obtain⟨u,v,w,x,y,z,H,h1,h2⟩:=h;exact f u v w x y z H h1 h2
end
def Qa{b:Sort _}{a:b}{q:Prop}:a=a\/q:=Or.inl rfl
def zP:=@PySem.F.plainAttrs_list
def zS:=@PySem.F.slot_list_append
def zT:=@PySem.F.type_list_append
def zN:=@PassesOwn.never
abbrev Qb:=Value->Shared->Prop
abbrev Qc:=List (Addr×Obj)
abbrev Qd:=List PyData
abbrev Qe:=List Value
abbrev Qf:=Option Value
abbrev Qg:=List Addr
abbrev Qh:=List Str
abbrev Zaa:Qh:=["_law_hand","_law_day","_law_feed_here"]
abbrev Zab:Qh:=["self","number"]
abbrev Zac:Qh:=["yard","guests"]
abbrev Zad:Qh:=["_law_yard_here","_law_rows","_law_gifts","_law_turn","_law_load","_law_number","_law_line","_law_first","_law_last","_law_lack","_law_most","_law_k","_law_above","_law_bounds"]
abbrev Zae:Qh:=["self","start","end","room"]
abbrev Zaf:Qh:=["net","yard","number","guest"]
abbrev Zag:Qh:=["yard","guests","some"]
abbrev Zah:Qh:=["yard","guests","some","turn"]
abbrev Zai:Qh:=["_law_some","_law_yard_here","_law_rows","_law_now"]
abbrev Zaj:Qh:=["_law_hand","_law_guest_here","_law_told","e","_law_marks"]
abbrev Zak:Qh:=["self"]
abbrev Zal:Qh:=["_law_feed_here","_law_many"]
abbrev Zam:Qh:=["_law_yard_here","_law_rows","_law_picked","_law_turn"]
abbrev Zan:Qh:=["_law_feed_here","_law_yard_here","_law_now","_law_first","_law_last","_law_line","_law_scale","_law_want"]
abbrev Zao:Qh:=["_law_hand","_law_day"]
abbrev Zap:Qh:=["_law_yard_here","_law_line","_law_turn","_law_bound"]
abbrev Zaq:Qh:=["_law_yard_here","_law_rows","_law_picked","_law_now"]
abbrev Zar:Qh:=["_law_yard_here","_law_rows","_law_gifts","_law_turn"]
abbrev Zas:Qh:=["self","line","turn","bound"]
abbrev Zat:Qh:=["_law_feed_here","_law_yard_here","_law_now"]
abbrev Zau:Qh:=["self","start","end"]
abbrev Zav:Qh:=["_law_hand","_law_day","_law_yard_here","_law_rows","_law_wants","_law_gone","_law_k"]
abbrev Zaw:Qh:=["_law_yard_here","_law_rows","_law_picked","_law_now","_law_total","_law_turn"]
abbrev Zax:Qh:=["_law_k","_law_marks","e"]
abbrev Zay:Qh:=["guest","turn"]
abbrev Zaz:Qh:=["thing","least","end"]
abbrev ZaA:Qh:=["yard","line","turn","bound"]
abbrev ZaB:Qh:=["yard","line","turn"]
abbrev ZaC:Qh:=["yard","guests","some","turn","reaching","number","guest","line"]
abbrev ZaD:Qh:=["guest"]
abbrev ZaE:Qh:=["_law_hand","_law_guest_here"]
abbrev ZaF:Qh:=["self","turn"]
abbrev ZaG:Qh:=["_law_script","_law_k"]
abbrev ZaH:Qh:=["self","guest"]
abbrev ZaI:Qh:=["yard"]
abbrev ZaJ:Qh:=["yard","line"]
abbrev ZaK:Qh:=["line","turn"]
abbrev ZaL:Qh:=["number","guest","net","yard"]
abbrev ZaM:Qh:=["yard","thing"]
abbrev ZaN:Qh:=["self","edges","end"]
abbrev ZaO:Qh:=["_law_above","_law_bounds"]
abbrev ZaP:Qh:=["thing","length"]
abbrev ZaQ:Qh:=["net","yard","turn"]
abbrev ZaR:Qh:=["self","some"]
abbrev ZaS:Qh:=["self","yard"]
abbrev ZaT:Qh:=["thing","least"]
abbrev ZaU:Qh:=["self","start"]
abbrev ZaV:Qh:=["guest","want"]
abbrev ZaW:Qh:=["_law_feed_here"]
abbrev ZaX:Qh:=["number"]
abbrev Qi:=List Expr
abbrev Qj:=Option Addr
abbrev Qk:=List Nat
abbrev Ql:=List Int
abbrev Qm:=Nat->Bool
abbrev Qn:=Nat->Int
def Xa:=@wpAny_bind
def Xb:=@List.mem_cons_self
def Xc:=@List.getElem?_eq_some_iff
def Xd:=@if_neg
def Xe:=@if_pos
def Xf:=@List.mem_cons
def Xg:=@Heap.get?_push_of_some
def Xh:=@List.mem_cons_of_mem
def Xi:=@List.mem_singleton
def Xj:=@List.length_map
def Xk:=@List.getElem?_set_self
def Xl:=@wpAny_pure
def Xm:=@Nat.le_refl
def Xn:=@List.length_append
def Xo:=@Heap.lt_size
def Xp:=@List.getElem?_set_ne
def Xq:=@decide_eq_true
def Xr:=@Int.toNat_natCast
def Xs:=@List.size_toArray
def Xt:=@decide_eq_false
def Xu:=@List.nodup_cons
def Xv:=@absurd
def Xw:=@Bool.false_ne_true
def Xx:=@List.append_nil
def Xy:=@List.getElem?_map
def Xz:=@List.mem_append
def XD:=@Heap.get?_push_size
def XF:=@Nat.ne_of_lt
def XG:=@Nat.lt_of_lt_of_le
def XH:=@List.mem_map
def XI:=@List.map_cons
def XJ:=@Nat.zero_le
def XL:=@List.map_append
def XM:=@List.mem_append_right
def XN:=@List.mem_range
def XS:=@congrArg
def XT:=@Heap.get?_update_other
def XU:=@List.lookup_cons
def XV:=@Int.toNat_of_nonneg
def XW:=@List.getElem?_eq_getElem
def XX:=@of_decide_eq_true
def X4:=@Nat.le_trans
def X5:=@List.not_mem_nil
def X6:=@List.map_congr_left
def X7:=@List.length_set
def X8:=@Nat.lt_irrefl
def X9:=@List.mem_append_left
def Yg:=@List.map_map
def Jt:=@Heap.get?_update_self
def YK:=@List.range_succ
def Wb:=@List.getElem_mem
def U6:=@List.getElem?_append_left
def Y3:=@Nat.ne_of_gt
def Wo:=@Bool.and_eq_true
def Gu:=@List.getElem?_append_right
def Wn:=@Option.map_some
def WG:=@List.length_cons
def YJ:=@Nat.le_of_lt
def U5:=@List.length_singleton
def WF:=@List.mem_filter
def Js:=@List.length_take
def Jr:=@List.take_length
def YI:=@Int.le_refl
def JO:=@List.nodup_append
def JN:=@Nat.lt_succ_self
def Jq:=@Heap.size_push
def U4:=@Option.isSome_map
def JM:=@List.take_succ
def WE:=@wpAny_field
def BA:=@List.mem_iff_getElem
def Jp:=@Int.add_zero
def Gq:=@List.length_range
def B9:=@List.filter_append
def BH:=@of_decide_eq_false
def JP:=@Int.zero_add
def MI:=@List.getElem?_eq_none
def BG:=@List.append_assoc
def BF:=@Nat.lt_succ_of_lt
def HI:=@List.getElem?_eq_none_iff
def Gz:=@List.nodup_nil
def BE:=@List.length_drop
def BD:=@List.cons_append
def MG:=@List.flatMap_append
def HH:=@List.filter_cons_of_neg
def Gy:=@List.sum_cons
def Sz:=@List.eq_nil_of_length_eq_zero
def HG:=@List.pairwise_flatMap
def Gx:=@Int.le_trans
def MF:=@List.mem_nil_iff
def Gw:=@Nat.le_succ
def HF:=@List.replicate_succ
def HE:=@List.length_pos_iff
def ME:=@List.nil_append
def Sy:=@List.drop_eq_getElem_cons
def Sx:=@List.pairwise_iff_getElem
def HD:=@Nat.lt_of_le_of_lt
def BC:=@List.map_set
def BB:=@Nat.sub_self
def Sw:=@List.getElem?_replicate
def S6:=@List.filter_cons_of_pos
def HL:=@Heap.get?_push_at
def BI:=@Int.mul_sub
def MJ:=@List.any_cons
def HK:=@List.filter_cons
def HJ:=@List.mem_flatMap
end
namespace L2
open PySem PySem.Spec PyProof.Rows
abbrev Key:=Sum Int Str
def UG:Key->Value->Bool
 |.inl k,v=>Value.isInt k v
 |.inr x,v=>Value.isStrOf x v
def CL(w:World):Key->Int
 |.inl k=>hashInt k
 |.inr x=>hashStr w x
theorem Jo:∀{k:Key} {v:Value},UG k v=true->(∃i t,k=Sum.inl i/\v=Value.int i t)\/(∃x t,k=Sum.inr x/\v=Value.str x t)
 |.inl i,v,h=>by
  obtain⟨t,e⟩:=Value.isInt_shape h;exact .inl #[i,t,rfl,e]
 |.inr x,v,h=>by
  obtain⟨t,e⟩:=Value.isStrOf_shape h;exact .inr #[x,t,rfl,e]
def Zp7(i:Int)(t:Tok):UG (.inl i) (.int i t)=true:=by simp[UG,Value.isInt]
def ZpW(x:Str)(t:Tok):UG (.inr x) (.str x t)=true:=by simp[UG,Value.isStrOf]
def AW(a b:Int):decide ((Sum.inl a:Key)=Sum.inl b)=(a==b):=by
 grind
def Ec(a b:Str):decide ((Sum.inr a:Key)=Sum.inr b)=decide (a=b):=by
 simp_all
def Ai(a:Int)(b:Str):decide ((Sum.inl a:Key)=Sum.inr b)=false:=Xt (by rintro⟨⟩)
def Ap(a:Str)(b:Int):decide ((Sum.inr a:Key)=Sum.inl b)=false:=Xt (by rintro⟨⟩)
def Vr(prog:Program)(w:World):PySem.KeyKind prog w Key where
 is:=UG
 hash:=CL w
 inj:=λv a b l f=>by
  rcases Jo l with ⟨i,t,rfl,rfl⟩|⟨x,t,rfl,rfl⟩
  .rcases Jo f with ⟨j,u,rfl,e⟩|⟨y,u,rfl,e⟩
   .injection e with c _;rw[c]
   .exact nomatch e
  .rcases Jo f with ⟨j,u,rfl,e⟩|⟨y,u,rfl,e⟩
   .exact nomatch e
   .injection e with c _;rw[c]
 byValue:=λk v h=>by
  rcases Jo h with ⟨i,t,rfl,rfl⟩|⟨x,t,rfl,rfl⟩<;>rfl
 pyHash:=λd h=>by
  rcases Jo d with ⟨i,t,rfl,rfl⟩|⟨x,t,rfl,rfl⟩
  .exact wpAny_pyHash_int h
  .exact wpAny_pyHash_str h
 eqBool:=λg d h=>by
  rcases Jo g with ⟨i,t,rfl,rfl⟩|⟨x,t,rfl,rfl⟩
  .rcases Jo d with ⟨j,u,rfl,rfl⟩|⟨y,u,rfl,rfl⟩
   .rw[AW]at h;exact wpAny_eqBool_int h
   .rw[Ai]at h;exact SeqAt.EqAt.int_str i t y u _ _ _ _ h
  .rcases Jo d with ⟨j,u,rfl,rfl⟩|⟨y,u,rfl,rfl⟩
   .rw[Ap]at h;exact SeqAt.EqAt.str_int x t j u _ _ _ _ h
   .rw[Ec]at h;exact wpAny_eqBool_str h
 «strs» := λk x t v h=>by
  rcases Jo h with ⟨i,u,rfl,e⟩|⟨y,u,rfl,e⟩
  .exact nomatch e
  .injection e with c _;subst c;cases v<;>rfl
def Zmq(prog:Program)(w:World)(i:Int)(t:Tok):(Vr prog w).is (.inl i) (.int i t)=true:=Zp7 i t
def ZlH(prog:Program)(w:World)(x:Str)(t:Tok):(Vr prog w).is (.inr x) (.str x t)=true:=ZpW x t
end L2
open PySem PySem.Spec PyProof.Rows
variable {P prog:Program}{w:World}{h h':Heap}{B:Qc}{s s0:Shared}{b tg:Expr}{T1 L3 hpos np pos pos':Pos}{A:Around}{K:W.Frag}{C D ρ L f0:Addr}{f m nm qual:Str}{es:Qi}{fd:FuncData}{ps sn:Qh}{mg:Str->Qf}{i j:Nat}{g:Array GenState}{bm L1:Qe}{ab SF:Bool}{col:Option Bool}{dd:Qj}{k0 k1 k2 k3 k5:Qf}{Xa6 initId newId:String}{M:Model}{scope:Scope}{cd:Value}{outer:List Env}{ds:Qd}{body suite:List Stmt}{b0:Stmt}{rest:List ExceptHandler}{d0:PyData}{X3:List (Qd)}
namespace L2
inductive V where
 |non|bl (b:Bool)|int (i:Int)|str (x:Str)|byt (b:Array UInt8)|flt (b:UInt64)|ref (a:Addr)|ty (n:String)
 deriving DecidableEq
def QN:V->Value->Prop
 |.non,u=>u=Value.none
 |.bl b,u=>u=Value.bool b
 |.int i,u=>∃t,u=Value.int i t
 |.str x,u=>∃t,u=Value.str x t
 |.byt b,u=>∃t,u=Value.bytes b t
 |.flt b,u=>∃t,u=Value.float b t
 |.ref a,u=>u=Value.ref a
 |.ty n,u=>u=Value.type n
abbrev QU:List V->Qe->Prop:=Paired QN
def QU.length(r:QU xs us):xs.length=us.length:=Paired.length r
theorem QU.get:∀{xs:List V} {us:Qe} {i:Nat} {x:V},QU xs us->xs[i]?=some x->∃u,us[i]?=some u/\QN x u
 |_,_,_,_,.nil,e=>by simp at e
 |_,_,0,_,.cons r _,e=>by simp at e;subst e;exact#[_,rfl,r]
 |_,_,i+1,x,.cons _ t,e=>by
  exact At (QU.get t (by simpa using e)) λu f b=>#[u,by simpa using f,b]
theorem QU.set{x:V}{u:Value}(r:QN x u):∀{xs:List V} {us:Qe} (i:Nat),QU xs us->QU (xs.set i x) (us.set i u)
 |_,_,_,.nil=>.nil
 |_,_,0,.cons _ t=>.cons r t
 |_,_,i+1,.cons q t=>.cons q (QU.set r i t)
theorem QU.append:∀{xs b:List V} {us ws:Qe},QU xs us->QU b ws->QU (xs++b) (us++ws)
 |_,_,_,_,.nil,s=>s
 |_,_,_,_,.cons r t,s=>.cons r (QU.append t s)
theorem QU.take:∀{xs:List V} {us:Qe} (n:Nat),QU xs us->QU (xs.take n) (us.take n)
 |_,_,0,_=>.nil
 |_,_,_+1,.nil=>.nil
 |_,_,n+1,.cons r t=>.cons r (QU.take n t)
theorem QU.drop:∀{xs:List V} {us:Qe} (n:Nat),QU xs us->QU (xs.drop n) (us.drop n)
 |_,_,0,r=>r
 |_,_,_+1,.nil=>.nil
 |_,_,n+1,.cons _ t=>QU.drop n t
def Vn:Option V->Qf->Prop
 |some v,some u=>QN v u
 |none,none=>True
 |_,_=>False
def KV{b:Type}:List (b×V)->List (b×Value)->Prop:=Paired λ(p:b×V) (q:b×Value)=>p.1=q.1/\QN p.2 q.2
def kV:Key->V
 |.inl i=>.int i
 |.inr x=>.str x
inductive HO where
 |lst (xs:List V)
 |tup (xs:List V)
 |dK (kvs:List (Key×V))|dT (kvs:List (List Key×V))
 |set (S:Int->Bool)(n:Nat)
 |ins (C L:Addr)(fs:List (Str×V))
 |own (x:Addr)
 |xd (fs:List (Str×V))
 |met (f x:Addr)
 |rng (lo E:Int)
 |frz (o:Obj)(u:HO)
 |tbl (ps:Array Value)
 |ext (φ:Heap->Prop)
abbrev Hp:=Addr->Option HO
def upd(H:Hp)(a:Addr)(o:HO):Hp:=λb=>if b=a then some o else H b
def Q8 : upd H a o a=some o:=by unfold upd;rw[Xe rfl]
def Qs{b:Addr}(h:b≠a):upd H a o b=H b:=by unfold upd;rw[Xd h]
def Po{H:Hp}{a b:Addr}{o u:HO}(h:H a=some o)(h':H b=some u)(d:o≠u):a≠b:=by
 intro e;subst e;exact d (Option.some.inj (h▸h'))
def ZB{H:Hp}{a b:Addr}{o:HO}(h:H a=some o)(h':H b=none):a≠b:=by
 grind
def G6:1<=1000:=by decide
def SZ:2<=1000:=by decide
section
variable (P:Program)(w:World)
def ZZ(H:Hp)(h:Heap)(a:Addr):HO->Prop
 |.lst i=>i.length<=sizeLine/\∃(g:Qe) (n:Nat),QU i g/\h.get? a=some { cls:=.type "list",data:=.seq g.toArray n }
 |.tup i=>i.length<=sizeLine/\∃g:Qe,QU i g/\IsTup h a g.toArray
 |.dK b=>b.length<=sizeLine/\(a==sysModules)=false/\∃A,KV b A/\h.DictOf (Vr P w) a A
 |.dT b=>b.length<=sizeLine/\(a==sysModules)=false/\∃i:List (List Key×Addr×Value),
  Paired (λ(p:List Key×V) (q:List Key×Addr×Value)=>p.1=q.1/\H q.2.1=some (.tup<|p.1.map kV)/\QN p.2 q.2.2) b i/\
  ∃o es M,h.get? a=some o/\o.ExactDict/\o.data=.dict es M/\es.toList=i.map (entryOfKey<|tupleKind<|Vr P w)/\(i.map (·.1)).Nodup
 |.set S n=>h.SetOf (intKind P w) a S n
 |.ins C L m=>H L=some (.own a)/\m.length<=1000/\L≠a/\h.get? a=some (W.instObj C L)/\
  ∃j,h.Ns1 L j/\(∀f,Vn (m.lookup f)<|j f)/\PySem.Within j (m.map (·.1))
 |.own _=>∃o,h.get? a=some o
 |.xd m=>∃j,h.Ns1 a j/\∀f,Vn (m.lookup f) (j f)
 |.rng K E=>∃t u v,h.get? a=some { cls:=.type "range",data:=.fields (List.toArray [.int K t,.int E u,.int 1 v]) }
 |.frz o u=>h.get? a=some o/\ZZ H h a u
 |.tbl ps=>h.get? a=some { cls:=.none,data:=.fields ps }
 |.met f x=>h.get? a=some (W.methodObj (.ref f)<|.ref x)
 |.ext s=>s h/\(∃o,h.get? a=some o)/\∀D B:Heap,s D->(∀o,D.get? a=some o->B.get? a=some o)->s B
def HOk(H:Hp)(h:Heap):Prop := ∀a o,H a=some o->ZZ P w H h a o
end
section
variable {H Z:Hp}{a:Addr}{o:HO}
def ZZ.lt(x:ZZ P w H h a o):a<h.objs.size:=by
 cases o with
 |lst g=>exact By x λ_ _ _ _ e=>Xo e
 |tup g=>exact Do x λ_ _ _ p=>p.lt
 |dK b=>exact FB x λ_ _ _ _ o _ _ e _=>Xo e
 |dT b=>exact FB x λ_ _ _ _ o _ _ e _=>Xo e
 |set S n=>apply Gr x;rintro o _ _⟨_,e,_⟩;exact Xo e
 |ins C L i=>exact Hs x λ_ _ _ e _=>Xo e
 |own y=>obtain⟨_,e⟩:=x;exact Xo e
 |xd i=>apply At x;rintro _⟨_,_,_,e,_⟩_;exact Xo e
 |rng s E=>exact Gr x λ_ _ _ e=>Xo e
 |frz m u=>obtain⟨e,_⟩:=x;exact Xo e
 |tbl ps=>exact Xo (x)
 |met f y=>exact Xo (x)
 |ext j=>apply I0 x;rintro _⟨_,e⟩_;exact Xo e
theorem Paired.mapP{h g:Type}{F G:h->g->Prop}:∀{j:List h} {i:List g},Paired F j i->(∀a b,F a b->G a b)->Paired G j i
 |_,_,.nil,_=>.nil
 |_,_,.cons r t,f=>.cons (f _ _ r) (Paired.mapP t f)
def ZZ.stay(x:ZZ P w H h a o)(k:∀b u,(b=a\/H b=some (.own a))->h.get? b=some u->h'.get? b=some u)
(l:∀b,H b=some (.own a)->Z b=some (.own a))(W:∀b xs,H b=some (.tup xs)->Z b=some (.tup xs)):ZZ P w Z h' a o:=by
 induction o with
 |lst xs=>exact By x λz j n r e=>#[z,j,n,r,k _ _ (.inl rfl) e]
 |tup xs=>apply Do x;rintro z j r⟨g,e,c⟩;exact#[z,j,r,g,k _ _ (.inl rfl) e,c]
 |dK A=>exact FB x λz y D r g es i e c=>#[z,y,D,r,g,es,i,k _ _ (.inl rfl) e,c]
 |dT A=>
  exact FB x λz y xs r g es i e c=>#[z,y,xs,Paired.mapP r λp q z=>#[z.1,W _ _ z.2.1,z.2.2],g,es,i,k _ _ (.inl rfl) e,c]
 |set S n=>apply Gr x;rintro g es i⟨t,e,c⟩;exact#[g,es,i,t,k _ _ (.inl rfl) e,c]
 |ins C L F=>
  apply JH x;rintro d z K e s⟨m,es,i,G,c⟩r;exact#[l _ d,z,K,k _ _ (.inl rfl) e,s,#[m,es,i,k _ _ (.inr d) G,c],r]
 |own y=>obtain⟨g,e⟩:=x;exact#[g,k _ _ (.inl rfl) e]
 |xd F=>apply At x;rintro s⟨m,es,i,e,c⟩r;exact#[s,#[m,es,i,k _ _ (.inl rfl) e,c],r]
 |rng J E=>exact Gr x λt u v e=>#[t,u,v,k _ _ (.inl rfl) e]
 |frz g u M=>obtain⟨e,q⟩:=x;exact#[k _ _ (.inl rfl) e,M q]
 |tbl ps=>
  exact k a _ (.inl rfl) x
 |met f y=>
  have e:=x;exact k a _ (.inl rfl) x
 |ext I=>apply I0 x;rintro p⟨o,x⟩B;exact#[B _ _ p λo q=>k _ _ (.inl rfl) q,#[o,k _ _ (.inl rfl) x],B]
def HOk.lt(x:HOk P w H h)(e:H a=some o):a<h.objs.size:=(x a o e).lt
def HOk.fresh(x:HOk P w H h)(e:h.objs.size<=a):H a=none:=by
 cases q:H a with
 |none=>rfl
 |some u=>exact Xv (XG (x.lt q) e) (X8 _)
def HOk.kept(x:HOk P w H h)(k:∀b u,h.get? b=some u->h'.get? b=some u):HOk P w H h':=λa o e=>
 (x a o e).stay (λb u _ q=>k b u q) (λ_ q=>q) λ_ _ q=>q
def HOk.laid(x:HOk P w H h)(k:∀b u,h.get? b=some u->h'.get? b=some u)(j:h.objs.size<=a)(f:ZZ P w (upd H a o) h' a o):HOk P w (upd H a o) h':=λb u e=>by
 have g:=x.fresh j
 by_cases i:b=a
 .subst i;rw[Q8]at e;cases e;exact f
 .rw[Qs i]at e;exact(x b u e).stay (λc v _ q=>k c v q) (λc q=>by rw[Qs<|ZB q g];exact q) λc m q=>by rw[Qs<|ZB q g];exact q
end
def Rd(H:Hp)(a:Addr)(u:HO):Prop:=H a=some u\/∃o,H a=some (.frz o u)
def Rd.of(h:H a=some u):Rd H a u:=.inl h
def Rd.ok(r:Rd H a u)(x:HOk P w H h):ZZ P w H h a u:=by
 rcases r with r|⟨o,r⟩
 .exact x a u r
 .obtain⟨_,q⟩:=x a _ r;exact q
def Mut:Option HO->Prop
 |some (.lst _)=>True
 |some (.dK _)=>True
 |some (.dT _)=>True
 |some (.set _ _)=>True
 |some (.ins _ _ _)=>True
 |some (.ext _)=>True
 |_=>False
section
variable {H:Hp}{x e:Addr}{o':HO}
def HOk.write(D:HOk P w H h)(m:Mut (H x))(he:e=x\/H e=some (.own x))(k:∀b u,b≠e->h.get? b=some u->h'.get? b=some u)(A:∃u,h'.get? e=some u)
(s:ZZ P w (upd H x o') h' x o'):HOk P w (upd H x o') h':=λb u q=>by
 have i:∀c y,H c=some (.own y)->c≠x:=λc y r z=>by subst z;rwa[r]at m
 have g:∀c j,H c=some (.tup j)->c≠x:=λc j r z=>by subst z;rwa[r]at m
 by_cases B:b=x
 .subst B;rw[Q8]at q;cases q;exact s
 .rw[Qs B]at q
  by_cases f:b=e
  .have C:H b=some (.own x):=by
    rcases he with z|z
    .exact Xv (f.trans z) B
    .exact f▸z
   rw[q]at C;cases C;obtain⟨v,K⟩:=A;exact#[v,by exact f▸K]
  .refine(D b u q).stay (λc v L r=>k c v ?_ r) (λc r=>by rw[Qs<|i c b r];exact r) λc j r=>by rw[Qs<|g c j r];exact r
   grind
end
structure Un(fs ex:Qg)(H Z:Hp)(h h':Heap):Prop where
 keep:∀b o,h.get? b=some o->H b=none->b∉fs->b∉ex->h'.get? b=some o
 slot:∀b o,h.get? b=some o->H b=none->b∈fs->b∉ex->∃sl,h'.get? b=some { o with slots:=sl }
 free:∀b o,h.get? b=some o->H b=none->b∉ex->Z b=none
 there:∀b o,h.get? b=some o->b∉ex->∃o',h'.get? b=some o'
 tups:∀b xs,H b=some (.tup xs)->Z b=some (.tup xs)
 frzs:∀b o u,H b=some (.frz o u)->Z b=some (.frz o u)
 tupo:∀b xs o,H b=some (.tup xs)->h.get? b=some o->b∉ex->h'.get? b=some o
 tbls:∀b ps,H b=some (.tbl ps)->∃more,Z b=some (.tbl<|ps++more)
section
variable {fs ex:Qg}{H U:Hp}{h1:Heap}{a x e:Addr}{o:HO}
def Un.any(u:Un fs ex H U h h1){b:Addr}(q:h.get? b=some ob)(n:H b=none)(hx:b∉ex):∃e,h1.get? b=some { ob with slots:=e }:=by
 by_cases a:b∈fs
 .exact u.slot b ob q n a hx
 .exact#[ob.slots,u.keep b ob q n a hx]
def Un.kept(k:∀b u,h.get? b=some u->h'.get? b=some u):Un fs ex H H h h':=
 #[λb a q _ _ _=>k b a q,λb a q _ _ _=>#[a.slots,k b a q],λ_ _ _ n _=>n,λb a q _=>#[a,k b a q],λ_ _ q=>q,λ_ _ _ q=>q,λb _ a _ e _=>k b a e,λ_ ps q=>#[(List.toArray []),by rw[q];simp]]
def Un.refl:Un fs ex H H h h:=Un.kept λ_ _ q=>q
theorem Un.laid(k:∀b u,h.get? b=some u->h'.get? b=some u)(i:h.objs.size<=a)(hn:H a=none):Un fs ex H (upd H a o) h h' where
 keep:=λb u q _ _ _=>k b u q
 slot:=λb u q _ _ _=>#[u.slots,k b u q]
 free:=λb u q n _=>by rw[Qs<|XF<|XG (Xo q) i];exact n
 there:=λb u q _=>#[u,k b u q]
 tups:=λb f q=>by rw[Qs<|ZB q hn];exact q
 frzs:=λb u f q=>by rw[Qs<|ZB q hn];exact q
 tupo:=λb _ g _ e _=>k b g e
 tbls:=λb ps q=>#[(List.toArray []),by rw[Qs<|ZB q hn,q];simp]
def Un.write(a:Mut (H x))(he:e=x\/H e=some (.own x))(k:∀b u,b≠e->h.get? b=some u->h'.get? b=some u)(s:∃u,h'.get? e=some u):Un fs ex H (upd H x o) h h':=by
 have m:∀b,H b=none->b≠x:=λb n z=>by subst z;rwa[n]at a
 have j:∀b,H b=none->b≠e:=λb n z=>by
  grind
 have f:∀b u,H b=some u->¬Mut (some u)->b≠x:=λb u q nm z=>by subst z;exact nm (q▸a)
 refine#[λb u q n _ _=>k b u (j b n) q,λb u q n _ _=>#[u.slots,k b u (j b n) q],λb u q n _=>by rw[Qs<|m b n];exact n,λb u q _=>?_,
  λb i q=>by rw[Qs<|f b _ q λz=>z];exact q,λb u i q=>by rw[Qs<|f b _ q λz=>z];exact q,λb i u q w _=>k b u (λz=>by
   rcases he with r|r
   .exact f b _ q (λy=>y) (z.trans r)
   .rw[<- z,q]at r;cases r) w,λb ps q=>#[(List.toArray []),by rw[Qs<|f b _ q λz=>z,q];simp]]
 by_cases g:b=e
 .simp_all
 .exact#[u,k b u g q]
end
def trk(h:Heap)(H:Hp):Qg:=(List.range h.objs.size).filter λa=>(H a).isSome
def JW(h:Heap)(H:Hp):Heap:=W.hideAll h (trk h H)
def ZoT(h:Heap)(H:Hp):(JW h H).objs.size=h.objs.size:=W.hideAll_size _ _
def OC{b:Addr}(e:h.get? b=some o)(n:H b=none):(JW h H).get? b=some o:=
 W.hideAll_get _ e λf=>by
  have q:=(WF.mp f).2;rw[n]at q;simp at q
def ES{b:Addr}(e:(JW h H).get? b=some o):h.get? b=some o/\H b=none:=by
 have f:=W.of_hideAll _ e;refine#[f,?_];cases q:H b with
 |none=>rfl
 |some x=>
  have z:(JW h H).get? b=none:=W.hideAll_none _ (WF.mpr #[XN.mpr<|Xo f,by simp[q]])
  grind
end L2
variable {xs ys:List L2.V}{c v y:L2.V}{F0 H0:L2.Hp}{RR:Addr->Qj->L2.Hp->Prop}{δ:Type}{FL:Addr->L2.Hp->L2.Hp->L2.Hp->Qj->δ->Prop}
namespace L2
structure Mod(K:W.Frag)(mg:Str->Qf)(base:Heap):Prop where
 kin:K.In base
 glob:base.Ns mainGlobals mg
 blt:∃mb,base.Ns builtinsNs mb/\∀x:Str,x ≠ "__name__" -> mb x=bootBuiltins x
 nolimit:base.NoLimit
structure Cx where
 prog:Program
 w:World
 K:W.Frag
 mg:Str->Qf
 base:Heap
 A:Around
 N:Qh
 s₀:Shared
 H₀:Hp
 env:Env
 outer:List Env
 stack:List Env
 ex:Qg
 fn:Str->Bool
 calm:Bool
 pn:Qc
 xe:Qb
def frs(l:List Env):Qg:=l.filterMap (·.frame)
abbrev Cx.fs(X:Cx):Qg:=frs X.outer
def Vis(sc:Scope)(x:Str):Prop:=sc.names.lookup x=some .local\/sc.names.lookup x=some .cell\/sc.names.lookup x=some .free
def Loc(sc:Scope)(x:Str):Prop:=sc.names.lookup x=some .local\/sc.names.lookup x=some .cell
def BO(b:Env)(h:Heap)(m:Str->Qf)(x:Str)(u:Value):Prop:=
 (b.kindOf x=some .local/\m x=some u)\/((b.kindOf x=some .cell\/b.kindOf x=some .free)/\∃c,b.cells.lookup x=some c/\h.IsCell c (some u))
structure Cx.Ok(X:Cx):Prop where
 mod:Mod X.K X.mg X.base
 kind:X.env.scope.kind=.function
 glob:X.env.globals=mainGlobals
 blt:X.env.builtins=builtinsNs
 above:X.s₀.heap.objs.size<=X.env.locals
 inj:∀x y c,X.env.cells.lookup x=some c->X.env.cells.lookup y=some c->x=y
 has:∀x,(X.env.kindOf x=some .cell\/X.env.kindOf x=some .free)->∃c,X.env.cells.lookup x=some c
 cab:∀x c,X.fn x=true->X.env.cells.lookup x=some c->X.s₀.heap.objs.size<=c
 hd:X.calm=true->X.A.handled=none
 frames:X.A.frames=some X.stack
 stk:X.stack=X.outer\/(X.stack=X.env::X.outer/\X.env.frame=some X.env.locals)
 exf:∀b∈X.ex,b≠X.env.locals/\∀x c,X.env.cells.lookup x=some c->c≠b
 bs:∀b o,X.base.get? b=some o->X.s₀.heap.get? b=some o/\(X.H₀ b=none\/∃xs,X.H₀ b=some (.tup xs))
 bsz:X.base.objs.size<=X.s₀.heap.objs.size
 noex:∀b o,X.base.get? b=some o->b∉X.ex
 exfs:∀b∈X.ex,b∉X.fs
 funs:X.s₀.heap.FunFrames X.base X.outer
 frf:∀b∈X.fs,X.H₀ b=none
structure Qt(X:Cx)(B:Qc)(O:List (Option V))(H:Hp)(s:Shared):Prop where
 ok:X.Ok
 os:s.os=X.s₀.os
 bare:AllBare s.gens
 base:Un X.fs X.ex X.H₀ H X.s₀.heap s.heap
 loc:∃m,s.heap.Ns X.env.locals m/\∀(i:Nat) (x:Str) (v:V),X.N[i]?=some x->O[i]?=some (some v)->Vis X.env.scope x->∃u,QN v u/\BO X.env s.heap m x u
 cell:∀x c,X.env.cells.lookup x=some c->∃v,s.heap.IsCell c v
 free:H X.env.locals=none
 freeC:∀x c,X.env.cells.lookup x=some c->H c=none
 pin:∀p∈X.pn++B,s.heap.get? p.1=some p.2/\H p.1=none/\p.1≠X.env.locals/\p.1∉X.fs/\∀v,p.2.data≠.cell v
 hok:HOk X.prog X.w H s.heap
 len:O.length=X.N.length
section
variable {X:Cx}{O:List (Option V)}{H Z:Hp}
def Cx.Ok.nofr(c:X.Ok){b:Addr}(e:X.base.get? b=some o):b∉X.fs:=λf=>by
 have:=(c.funs.mem f).1
 grind
def Qt.bs(I:Qt X B O H s):∀b o,X.base.get? b=some o->s.heap.get? b=some o/\(H b=none\/∃xs,H b=some (.tup xs)):=λb o e=>by
 obtain⟨f,c⟩:=I.ok.bs b o e;rcases c with c|⟨xs,c⟩
 .exact#[I.base.keep b o f c (I.ok.nofr e)<|I.ok.noex b o e,.inl<|I.base.free b o f c<|I.ok.noex b o e]
 .exact#[I.base.tupo b xs o c f<|I.ok.noex b o e,.inr #[xs,I.base.tups b xs c]]
def Qt.bk(I:Qt X B O H s):∀b o,X.base.get? b=some o->s.heap.get? b=some o:=λb o e=>(I.bs b o e).1
def Qt.mod(I:Qt X B O H s):Mod X.K X.mg X.base:=I.ok.mod
def Qt.kIn(I:Qt X B O H s):X.K.In s.heap:=I.ok.mod.kin.keeps I.bk
def Qt.fr(I:Qt X B O H s):∃m,Fr X.base X.env.locals s.heap m:=
 let ⟨m,hn,_⟩:=I.loc
 #[m,hn,I.bk,X4 I.ok.bsz I.ok.above]
def Qt.lt(I:Qt X B O H s):X.env.locals<s.heap.objs.size:=let ⟨_,hn,_⟩:=I.loc;hn.lt
def Qt.sz(I:Qt X B O H s):X.s₀.heap.objs.size<=s.heap.objs.size:=X4 I.ok.above (YJ I.lt)
def Qt.nofs(I:Qt X B O H s){a:Addr}(h:s.heap.objs.size<=a):a∉X.fs:=λc=>by
 exact Do (I.ok.funs.mem c) λ_ o b _=>Xv (XG (Xo b)<|X4 I.sz h) (X8 _)
def Qt.cne(I:Qt X B O H s):∀x c,X.env.cells.lookup x=some c->c≠X.env.locals:=λx c e z=>by
 apply KE (I.cell x c e);intro v o h i;obtain⟨m,⟨g,es,j,b,f,_⟩,_⟩:=I.loc
 grind
def Qt.funs(I:Qt X B O H s):s.heap.FunFrames X.base X.outer:=by
 have i:∀l,(∀b∈frs l,b∈X.fs)->X.s₀.heap.FunFrames X.base l->s.heap.FunFrames X.base l:=by
  intro l;induction l with
  |nil=>intro _ _;trivial
  |cons K r m=>
   intro j A;apply I0 A;rintro C⟨c,o,f,y,w,D⟩v;have h:=j c (by unfold frs;rw[List.filterMap_cons,f];exact Xb);obtain⟨L,e⟩:=I.base.slot c o w (I.ok.frf c h) h λz=>I.ok.exfs c z h
   exact#[C,#[c,_,f,y,e,D],m (λb g=>j b<|by unfold frs;rw[List.filterMap_cons,f];exact Xh _ g) v]
 exact i X.outer (λ_ g=>g) I.ok.funs
def Qt.stack(I:Qt X B O H s):s.heap.FunFrames X.base X.stack:=by
 rcases I.ok.stk with e|⟨e,c⟩
 .exact e▸I.funs
 .rw[e];exact At I.loc λm b _=>.cons (by rw[I.ok.kind];decide) c b (Heap.get?_none_of_le (X4 I.ok.bsz I.ok.above)) I.funs
def Qt.stkSub(I:Qt X B O H s):∀b∈frs X.stack,b∈X.env.locals::X.fs:=λb c=>by
 rcases I.ok.stk with e|⟨e,f⟩
 .rw[e]at c;exact Xh _ c
 .rw[e]at c;unfold frs at c;rwa[List.filterMap_cons,f]at c
def Qt.stkFree(I:Qt X B O H s):∀b∈frs X.stack,H b=none:=λb c=>by
 rcases Xf.mp (I.stkSub b c) with e|c
 .exact e▸I.free
 .exact Do (I.ok.funs.mem c) λ_ o f _=>I.base.free b o f (I.ok.frf b c) λz=>I.ok.exfs b z c
def Qt.step{t':Nat}{ch:Qg}(I:Qt X B O H s)
(y:∀b∈ch,(b∈X.ex\/X.s₀.heap.objs.size<=b)/\b≠X.env.locals/\(∀x c,X.env.cells.lookup x=some c->c≠b)/\∀p∈X.pn++B,p.1≠b)
(w:∀b o,b≠X.env.locals->b∉X.fs->b∉ch->s.heap.get? b=some o->H b=none->h'.get? b=some o)
(D:∀b o,b≠X.env.locals->b∈X.fs->b∉ch->s.heap.get? b=some o->H b=none->∃Q,h'.get? b=some { o with slots:=Q })(g:∀b o,b∉ch->s.heap.get? b=some o->H b=none->Z b=none)
(K:∀b o,b∉ch->s.heap.get? b=some o->∃t,h'.get? b=some t)
(P:∀b xs,H b=some (.tup xs)->Z b=some (.tup xs))(G:∀b o u,H b=some (.frz o u)->Z b=some (.frz o u))(a:∀b ps,H b=some (.tbl ps)->∃F,Z b=some (.tbl<|ps++F))
(ns:∀m,s.heap.Ns X.env.locals m->h'.Ns X.env.locals m)(R:HOk X.prog X.w Z h')(hg:AllBare g')(W:∀b xs o,b∉ch->H b=some (.tup xs)->s.heap.get? b=some o->h'.get? b=some o):
 Qt X B O Z { s with heap:=h',gens:=g',drawn:=d',toks:=t' }:=by
 have E:∀b o,X.s₀.heap.get? b=some o->b≠X.env.locals:=λb o e=>XF (XG (Xo e) I.ok.above)
 have h:∀b o,X.s₀.heap.get? b=some o->b∉X.ex->b∉ch:=λb o e f L=>by
  rcases(y b L).1 with z|z
  .exact f z
  .exact Xv (XG (Xo e) z) (X8 _)
 have A:∀x c,X.env.cells.lookup x=some c->∀v,s.heap.IsCell c v->h'.IsCell c v:=λx c e v ⟨o,M,S⟩=>by
  have j:=λz=>(y c z).2.2.1 x c e rfl
  by_cases Y:c∈X.fs
  .obtain⟨Q,q⟩:=D c o (I.cne x c e) Y j M (I.freeC x c e);exact#[_,q,S]
  .exact#[o,w c o (I.cne x c e) Y j M<|I.freeC x c e,S]
 refine#[I.ok,I.os,hg,#[λb o e n L f=>?_,λb o e n L f=>?_,λb o e n f=>?_,λb o e f=>?_,λb xs e=>P b xs<|I.base.tups b xs e,λb o xs e=>G b o xs<|I.base.frzs b o xs e,λb xs o q e f=>W b xs o (h b o e f) (I.base.tups b xs q)<|I.base.tupo b xs o q e f,λb ps e=>?_],?_,λx c e=>?_,?_,λx c e=>?_,λp U=>?_,R,I.len]
 .exact w b o (E b o e) L (h b o e f) (I.base.keep b o e n L f) (I.base.free b o e n f)
 .obtain⟨Q,C⟩:=I.base.slot b o e n L f;obtain⟨N,J⟩:=D b _ (E b o e) L (h b o e f) C (I.base.free b o e n f);exact#[N,J]
 .obtain⟨t,C⟩:=I.base.there b o e f;exact g b t (h b o e f) C (I.base.free b o e n f)
 .obtain⟨t,C⟩:=I.base.there b o e f;exact K b t (h b o e f) C
 .obtain⟨m1,C⟩:=I.base.tbls b ps e;obtain⟨m2,J⟩:=a b _ C;exact#[m1++m2,by rw[J,Array.append_assoc]]
 .refine At I.loc λm hn hl=>#[m,ns m hn,λi x v C J e3=>At (hl i x v C J e3) λu r l=>#[u,r,?_]];rcases l with l|⟨k,c,e,z⟩
  .exact .inl l
  .exact .inr #[k,c,e,A x c e _ z]
 .obtain⟨v,z⟩:=I.cell x c e;exact#[v,A x c e v z]
 .apply At I.loc;rintro m⟨o,_,_,M,_⟩_;exact g _ o (λz=>(y _ z).2.1 rfl) M I.free
 .exact KE (I.cell x c e) λv o M S=>g c o (λz=>(y c z).2.2.1 x c e rfl) M (I.freeC x c e)
 .apply Hs (I.pin p U);intro e n T nf d;have j:=λz=>(y p.1 z).2.2.2 p U rfl
  exact#[w p.1 p.2 T nf j e n,g p.1 p.2 j e n,T,nf,d]
def Qt.un(I:Qt X B O H s)(u:Un X.fs [] H Z s.heap h')(f:HOk X.prog X.w Z h'):Qt X B O Z { s with heap:=h',toks:=t' }:=by
 apply At (id I.loc);rintro m⟨o,es,K,j,r⟩_;obtain⟨A,y⟩:=u.any j I.free (by simp);exact I.step (ch:=[]) (by rintro _ ⟨⟩) (λb o _ g _ e n=>u.keep b o e n g<|by simp) (λb o _ g _ e n=>u.slot b o e n g<|by simp) (λb o _ e n=>u.free b o e n<|by simp) (λb o _ e=>u.there b o e<|by simp) u.tups u.frzs u.tbls (λD w=>by
  apply L0 w;intro C h i c v;rw[j]at c;cases c;exact#[_,h,i,y,v]) f I.bare (λb xs o _ q e=>u.tupo b xs o q e<|by simp)
def Qt.call(I:Qt X B O H s)(u:Un (frs X.stack) ch H Z s.heap h')(i:HOk X.prog X.w Z h')(D:AllBare g')
(h:∀b∈ch,(b∈X.ex\/X.s₀.heap.objs.size<=b)/\b≠X.env.locals/\(∀x c,X.env.cells.lookup x=some c->c≠b)/\∀p∈X.pn++B,p.1≠b):
 Qt X B O Z { s with heap:=h',gens:=g',drawn:=d',toks:=t' }:=by
 apply At (id I.loc);rintro m⟨o,es,W,y,r⟩_;obtain⟨L,j⟩:=u.any y I.free λz=>(h _ z).2.1 rfl
 exact I.step h (λb o j K f e n=>u.keep b o e n (λz=>(Xf.mp<|I.stkSub b z).elim j K) f) (λb o _ _ f e n=>u.any e n f) (λb o f e n=>u.free b o e n f) (λb o f e=>u.there b o e f) u.tups u.frzs u.tbls (λP C=>by
  apply L0 C;intro M v w g A;rw[y]at g;cases g;exact#[_,v,w,j,A]) i D (λb xs o f q e=>u.tupo b xs o q e f)
def Qt.turned(I:Qt X B O H s)(k:∀b o,b≠it->s.heap.get? b=some o->h'.get? b=some o)(hn:H it=none)(h:it≠X.env.locals)
(C:it∈X.ex\/X.s₀.heap.objs.size<=it)(A:∀x c,X.env.cells.lookup x=some c->c≠it)(y:∀p∈X.pn++B,p.1≠it):Qt X B O H { s with heap:=h',toks:=t' }:=by
 have g:∀b u,H b=some u->b≠it:=λb u e z=>by rw[z,hn]at e;cases e
 refine I.step (ch:=[it]) (λb w=>?_) (λb o _ _ f e _=>k b o (λz=>f<|by simp[z]) e) (λb o _ _ f e _=>#[o.slots,k b o (λz=>f<|by simp[z]) e]) (λ_ _ _ _ n=>n)
  (λb o f e=>#[o,k b o (λz=>f<|by simp[z]) e]) (λ_ _ e=>e) (λ_ _ _ e=>e) (λb ps e=>#[(List.toArray []),by rw[e];simp]) (λm j=>?_) (λb u e=>?_) I.bare (λb _ o f _ e=>k b o (λz=>f<|by simp[z]) e)
 .have e:=by simpa using w
  subst e;exact#[C,h,A,y]
 .exact L0 j λo es D i r=>#[o,es,D,k _ o (Ne.symm h) i,r]
 .refine(I.hok b u e).stay (λc v f q=>k c v ?_ q) (λ_ q=>q) λ_ _ q=>q
  rcases f with z|z
  .rw[z];exact g b u e
  .exact g c _ z
def Qt.tok(I:Qt X B O H s)(t:Nat):Qt X B O H { s with toks:=t }:=I.un Un.refl I.hok
def Qt.kept(I:Qt X B O H s)(k:∀b u,s.heap.get? b=some u->h'.get? b=some u):Qt X B O H { s with heap:=h',toks:=t' }:=I.un (Un.kept k) (I.hok.kept k)
def Qt.laid{a:Addr}{o:HO}{t':Nat}(I:Qt X B O H s)(k:∀b u,s.heap.get? b=some u->h'.get? b=some u)(f:s.heap.objs.size<=a)(c:ZZ X.prog X.w (upd H a o) h' a o):
 Qt X B O (upd H a o) { s with heap:=h',toks:=t' }:=I.un (Un.laid k f<|I.hok.fresh f) (I.hok.laid k f c)
def Qt.write(I:Qt X B O H s)(g:Mut (H x))(he:e=x\/H e=some (.own x))(k:∀b u,b≠e->s.heap.get? b=some u->h'.get? b=some u)(c:∃u,h'.get? e=some u)
(f:ZZ X.prog X.w (upd H x o) h' x o):Qt X B O (upd H x o) { s with heap:=h',toks:=t' }:=I.un (Un.write g he k c) (I.hok.write g he k c f)
def Qt.weak(I:Qt X B O H s)(b:σ'.length=O.length)(w:∀(i:Nat) v,σ'[i]?=some (some v)->O[i]?=some (some v)):Qt X B σ' H s:=
 #[I.ok,I.os,I.bare,I.base,let ⟨m,hn,hl'⟩:=I.loc;#[m,hn,λi x v g f c=>hl' i x v g (w i v f) c],I.cell,I.free,I.freeC,I.pin,I.hok,b.trans I.len]
def Qt.pins_of(I:Qt X B O H s)(h:∀p∈pins',s.heap.get? p.1=some p.2/\H p.1=none/\p.1≠X.env.locals/\p.1∉X.fs/\∀v,p.2.data≠.cell v):Qt X pins' O H s:=
 #[I.ok,I.os,I.bare,I.base,I.loc,I.cell,I.free,I.freeC,λp b=>(Xz.mp b).elim (λz=>I.pin p<|X9 _ z) (h p),I.hok,I.len]
def O5{N:Qh}(c:N.Nodup)(a:N[i]?=some x)(b:N[j]?=some x):i=j:=by
 obtain⟨m,g⟩:=Xc.mp a;obtain⟨h,f⟩:=Xc.mp b;exact(List.getElem_inj c).mp (g.trans f.symm)
def Qt.poke{m:Str->Qf}(I:Qt X B O H s)(l:X.N.Nodup)(E:X.N[i]?=some x)(hs:Heap.SameBut a s.heap h')(ab:X.s₀.heap.objs.size<=a)(Q:H a=none)
(D:a=X.env.locals\/(∃v,s.heap.IsCell a v)/\∃w,h'.IsCell a w)(hn:h'.Ns X.env.locals m')(Z:∀(i:Nat) (x:Str) (v:V),X.N[i]?=some x->O[i]?=some (some v)->Vis X.env.scope x->∃u,QN v u/\BO X.env s.heap m x u)
(M:∀v,ov=some v->∃u,QN v u/\BO X.env h' m' x u)(W:∀y u,y≠x->BO X.env s.heap m y u->BO X.env h' m' y u):Qt X B (O.set i ov) H { s with heap:=h',toks:=tk }:=by
 have k:∀{b o o'},X.s₀.heap.get? b=some o->s.heap.get? b=some o'->h'.get? b=some o':=λe q=>(hs.2 _<|XF<|XG (Xo e) ab).trans q;refine#[I.ok,I.os,I.bare,#[λb o e n A f=>k e<|I.base.keep b o e n A f,λb o e n A f=>(I.base.slot b o e n A f).imp λ_=>k e,I.base.free,λb o e f=>(I.base.there b o e f).imp λ_=>k e,I.base.tups,I.base.frzs,λb xs o q e f=>k e<|I.base.tupo b xs o q e f,I.base.tbls],#[m',hn,λj y v g K t=>?_],λy c e=>?_,I.free,I.freeC,λp P=>?_,λb L e=>(I.hok b L e).stay (λc J N q=>(hs.2 c<|by rintro rfl;grind).trans q) (λ_ q=>q) λ_ _ q=>q,by simpa using I.len]
 .by_cases h:j=i
  .subst h;rw[E]at g;cases g;exact M _ (by grind)
  .exact At (Z j y v g ((Xp<|Ne.symm h)▸K) t) λu r q=>#[u,r,W y u (λe=>h<|O5 l g<|e▸E) q]
 .by_cases z:c=a
  .subst z;exact D.elim (λz=>Xv z<|I.cne y c e) And.right
  .exact(I.cell y c e).imp λ_ q=>q.sameBut hs z
 .refine Hs (I.pin p P) λe n C nf d=>#[(hs.2 p.1 λq=>?_).trans e,n,C,nf,d];rcases D with z|⟨⟨v,o,F,G⟩,_⟩
  .exact C (q.trans z)
  .rw[q,F]at e;cases e;exact d _ G
def Fz(I:Qt X B O H s)(W:X.N.Nodup)(E:X.N[i]?=some x)(hx:Loc X.env.scope x)(r:QN v u)
(h:∀w,Qt X B (O.set i<|some v) H w->(∃a,Heap.SameBut a s.heap w.heap/\(a=X.env.locals\/X.env.cells.lookup x=some a))->Q () w)(d:X.fn x=true\/X.env.scope.names.lookup x=some .local:=by first|exact .inl rfl|exact .inr rfl|assumption):wpAny M A (storeName X.env x u) Q hi s:=by
 apply At (id I.loc);intro m L P;rcases hx with f|f
 .refine wpAny_storeName_local f L (λh' D b=>h _ (I.poke (ov:=some v) W E b I.ok.above I.free (.inl rfl) D P (λ_ e=>by cases e;exact#[u,r,.inl #[f,by simp]]) λy u C q=>q.imp ?_<|by rintro⟨k,c,e,z⟩;exact#[k,c,e,z.sameBut b<|I.cne y c e]) #[_,b,.inl rfl]) (by rw[I.ok.kind];rfl);rintro⟨k,e⟩;exact#[k,by simp[C,e]]
 .have K:X.fn x=true:=d.elim id λz=>by rw[z]at f;cases f
  obtain⟨c,g⟩:=I.ok.has x (.inl f);obtain⟨n,z⟩:=I.cell x c g;refine wpAny_storeName_cell I.ok.kind f g z λh' j b=>h { s with heap:=h' } (I.poke (ov:=some v) W E b (I.ok.cab x c K g) (I.freeC x c g) (.inr #[#[_,z],_,j]) (L.sameBut b<|Ne.symm<|I.cne x c g) P (λ_ e=>by cases e;exact#[u,r,.inr #[.inl f,c,g,j]]) λy u C q=>q.imp id ?_) #[c,b,.inr g];rintro⟨k,l,e,Z⟩;exact#[k,l,e,Z.sameBut b λq=>C<|I.ok.inj _ _ _ (q▸e) g]
def DD(I:Qt X B O H s)(f:X.N.Nodup)(E:X.N[i]?=some x)(hx:Loc X.env.scope x)(r:QN v u)
(h:∀b,Qt X B (O.set i<|some v) H b->Q () b)(c:X.fn x=true\/X.env.scope.names.lookup x=some .local:=by first|exact .inl rfl|exact .inr rfl|assumption):wpAny M A (storeName X.env x u) Q hi s:=
 Fz I f E hx r (λb g _=>h b g) c
def Qt.call'(I:Qt X B O H s)(h:s'.os=s.os)(u:Un (frs X.stack) ch H Z s.heap s'.heap)(f:HOk X.prog X.w Z s'.heap)(i:AllBare s'.gens)
(g:∀b∈ch,(b∈X.ex\/X.s₀.heap.objs.size<=b)/\b≠X.env.locals/\(∀x c,X.env.cells.lookup x=some c->c≠b)/\∀p∈X.pn++B,p.1≠b):Qt X B O Z s':=by
 obtain⟨h',v,w,j,m⟩:=s';subst h;exact I.call u f i g
end
abbrev XK:=Value->Qj->Hp->Prop
abbrev St:=List (Option V)
abbrev VK:=V->Hp->Prop
abbrev TE:=St->Hp->VK->Prop
abbrev TT:=St->Hp->(Bool->Hp->Prop)->Prop
abbrev TA:=St->Hp->(List V->Hp->Prop)->Prop
structure Ends where
 nx:St->Hp->Prop
 rt:VK
 bk:St->Hp->Prop:=λ_ _=>False
 ct:St->Hp->Prop:=λ_ _=>False
abbrev TS:=Ends->St->Hp->Prop
def EP(X:Cx)(B:Qc)(O:St)(Q:VK)(u:Value)(b:Shared):Prop := ∃v Z,Qt X B O Z b/\QN v u/\Q v Z
def TP(X:Cx)(B:Qc)(O:St)(Q:Bool->Hp->Prop)(b:Bool)(c:Shared):Prop := ∃Z,Qt X B O Z c/\Q b Z
def AP(X:Cx)(B:Qc)(O:St)(Q:List V->Hp->Prop)(us:Qe)(c:Shared):Prop := ∃b Z,Qt X B O Z c/\QU b us/\Q b Z
def SP(X:Cx)(B:Qc)(g:Ends)(f:Flow)(c:Shared):Prop:=
 match f with
 |.next=>∃b Z,Qt X B b Z c/\g.nx b Z
 |.brk=>∃b Z,Qt X B b Z c/\g.bk b Z
 |.cont=>∃b Z,Qt X B b Z c/\g.ct b Z
 |.ret u=>∃v b Z,Qt X B b Z c/\QN v u/\g.rt v Z
def PE(X:Cx)(e:Expr)(t:TE):Prop:=
 ∀(B:Qc) (s:Shared) (O:St) (H:Hp) (Q:VK),Qt X B O H s->t O H Q->wpAny (model X.prog X.w) X.A (eval e X.env) (EP X B O Q) X.xe s
def PT(X:Cx)(e:Expr)(t:TT):Prop:=
 ∀(B:Qc) (s:Shared) (O:St) (H:Hp) (Q:Bool->Hp->Prop),Qt X B O H s->t O H Q->wpAny (model X.prog X.w) X.A (isTrue e X.env<|eval e X.env) (TP X B O Q) X.xe s
def PW(X:Cx)(e:Expr)(t:TT):Prop:=
 ∀(b:Sem Value) (B:Qc) (s:Shared) (O:St) (H:Hp) (Q:Bool->Hp->Prop),Qt X B O H s->t O H Q->wpAny (model X.prog X.w) X.A (isTrue e X.env b) (TP X B O Q) X.xe s
def PW.pt(h:PW X e t):PT X e t:=h _
def PA(X:Cx)(es:Qi)(t:TA):Prop:=
 ∀(pos:Pos) (B:Qc) (s:Shared) (O:St) (H:Hp) (Q:List V->Hp->Prop),Qt X B O H s->t O H Q->wpAny (model X.prog X.w) X.A (spliced<|backTo pos<|starEach es X.env) (AP X B O Q) X.xe s
def PS(X:Cx)(st:Stmt)(t:TS):Prop:=
 ∀(B:Qc) (s:Shared) (O:St) (H:Hp) (b:Ends),Qt X B O H s->t b O H->wpAny (model X.prog X.w) X.A (exec st X.env) (SP X B b) X.xe s
def PSs(X:Cx)(st:List Stmt)(t:TS):Prop:=
 ∀(B:Qc) (s:Shared) (O:St) (H:Hp) (b:Ends),Qt X B O H s->t b O H->wpAny (model X.prog X.w) X.A (execs st X.env) (SP X B b) X.xe s
def QD{b:Type}{t:Sem b}{Q f:b->Shared->Prop}{c:Qb}(h:wpAny M A t Q c s)(g:∀a s,Q a s->f a s):wpAny M A t f c s:=wpAny_mono h g λ_ _ x=>x
end L2
variable {X:L2.Cx}{ta tc td te tv tx:L2.TE}{tA tB':L2.TT}{th:Addr->L2.TS}{E':L2.XK}
namespace L2
section
def Q3(i:Nat):TE:=λO H Q=>∃v,O[i]?=some (some v)/\Q v H
def tC(v:V):TE:=λ_ H Q=>Q v H
def PJ  (L:X.N[i]?=some x)(A:Vis X.env.scope x)(j:(x==("__debug__" : Str))=false:=by decide)(w:(x==("__classdict__" : Str))=false:=by decide):PE X (.Name x pos) (Q3 i):=by
 refine λB s O H Q I h=>At h λv e h=>At I.loc λm C K=>At (K i x v L e A) λu r l=>?_;have g:EP X B O Q u s:=#[v,H,I,r,h]
 rcases l with ⟨f,D⟩|⟨f,c,y,b⟩
 .exact wpAny_Name (wpAny_loadName_local I.ok.kind f C D g) j
 .rcases f with f|f
  .exact wpAny_Name (wpAny_loadName_cell I.ok.kind f y b g) j
  .exact wpAny_Name (wpAny_loadName_free I.ok.kind f y b g w) j
def Qx{i j pos}:PE X (.Constant (.int i) j pos) (tC<|.int i):=λ_ _ _ H _ I h=>wpAny_Constant_int #[.int i,H,I.tok _,#[_,rfl],h]
def Vj{b j pos}:PE X (.Constant (.bool b) j pos) (tC<|.bl b):=λ_ _ _ H _ I h=>Constant_bool #[.bl b,H,I,rfl,h]
def Ui{j pos}:PE X (.Constant .none j pos) (tC .non):=λ_ _ _ H _ I h=>Constant_none #[.non,H,I,rfl,h]
def Vd{x j pos}:PE X (.Constant (.str x) j pos) (tC<|.str x):=λ_ _ _ H _ I h=>Calls.Constant_str #[.str x,H,I.tok _,#[_,rfl],h]
def Gl(X:Cx)(x:Str):Prop:=X.env.kindOf x=some .globalImplicit
def J7{c:Qb}{O:St}{H:Hp}{x:Str}{u:Value}{Q:Qb}(I:Qt X B O H s)(f:Gl X x)(b:X.mg x=some u)(h:Q u s)
(g:(x==("__debug__" : Str))=false:=by decide):wpAny (model X.prog X.w) X.A (eval (.Name x pos) X.env) Q c s:=
 Calls.Name_function_global I.ok.kind f (Calls.loadGlobal_global (by rw[I.ok.glob];exact I.mod.glob.keeps I.bk) b h) g
def Uk{f:Qb}{O:St}{H:Hp}{x:Str}{u:Value}{Q:Qb}(I:Qt X B O H s)(g:Gl X x)(c:X.mg x=none)(b:bootBuiltins x=some u)(h:Q u s)
(hn:x ≠ "__name__" := by decide)(i:(x==("__debug__" : Str))=false:=by decide):wpAny (model X.prog X.w) X.A (eval (.Name x pos) X.env) Q f s:=by
 exact At I.mod.blt λv m j=>Calls.Name_function_global I.ok.kind g (Calls.loadGlobal_builtin (by rw[I.ok.glob];exact I.mod.glob.keeps I.bk) c (by rw[I.ok.blt];exact m.keeps I.bk) ((j x hn).trans b) h) i
def Yc   (c:Gl X x)(b:X.mg x=some u)(r:QN v u)(f:(x==("__debug__" : Str))=false:=by decide):PE X (.Name x pos) (tC v):=
 λ_ _ _ H _ I h=>J7 I c b #[v,H,I,r,h] f
def Jc   (f:Gl X x)(c:X.mg x=none)(b:bootBuiltins x=some u)(r:QN v u)(hn:x ≠ "__name__" := by decide)(g:(x==("__debug__" : Str))=false:=by decide):PE X (.Name x pos) (tC v):=
 λ_ _ _ H _ I h=>Uk I f c b #[v,H,I,r,h] hn g
variable {a:Expr}{tb:TE}
def PC(X:Cx)(op:CmpOp)(a b:Expr)(t:TE):Prop:=
 ∀(B:Qc) (s:Shared) (O:St) (H:Hp) (Q:VK),Qt X B O H s->t O H Q->
  wpAny (model X.prog X.w) X.A (eval a X.env) (λv f=>wpAny (model X.prog X.w) X.A (eval b X.env) (λu c=>wpAny (model X.prog X.w) X.A (compareOp op v u) (EP X B O Q) X.xe c) X.xe f) X.xe s
def LM(b:Expr)(h:op≠.In)(a:op≠.NotIn):behindInMarks op b=false:=by
 have f:(op==CmpOp.In)=false:=by cases op<;>first|rfl|exact Xv rfl h
 have c:(op==CmpOp.NotIn)=false:=by cases op<;>first|rfl|exact Xv rfl a
 cases b<;>simp[behindInMarks,f,c]
def SE(ta:TE):TE:=λO H Q=>ta O H λx U=>Q (.bl<|decide (x=.non)) U
def P7(ta:TE):TE:=λO H Q=>ta O H λx U=>Q (.bl<|!decide (x=.non)) U
def QN.none_iff{v:Value}(r:QN x v):(v==Value.none)=decide (x=.non):=by
 cases x with
 |non=>cases r;rfl
 |bl _=>cases r;rfl
 |int _=>obtain⟨t,rfl⟩:=r;rfl
 |str _=>obtain⟨t,rfl⟩:=r;rfl
 |byt _=>obtain⟨t,rfl⟩:=r;rfl
 |flt _=>obtain⟨t,rfl⟩:=r;rfl
 |ref _=>cases r;rfl
 |ty _=>cases r;rfl
def Ts{j pos'}(f:PE X a ta):PC X .Is a (.Constant .none j pos') (SE ta):=by
 refine λB s O H Q I h=>QD (f B s O H _ I h) ?_;rintro v i ⟨x,U,g,b,c⟩;exact Constant_none (is_none_gen #[.bl _,U,g,by rw[b.none_iff];rfl,c])
def Ib{j pos'}(f:PE X a ta):PC X .IsNot a (.Constant .none j pos') (P7 ta):=by
 refine λB s O H Q I h=>QD (f B s O H _ I h) ?_;rintro v i ⟨x,U,g,b,c⟩;exact Constant_none (isnot_none_gen #[.bl _,U,g,by rw[b.none_iff];rfl,c])
def tB(t:TE):TT:=λO H Q=>t O H λx U=>∃c,x=.bl c/\Q c U
def Ao(h:PC X op a b t)(f:behindInMarks op b=false:=by first|exact LM _ (by decide) (by decide)|rfl):PE X (.Compare a [op] [b] pos) t:=λB s O H Q I c=>wpAny_Compare1 (h B s O H Q I c) f
def Wz(h:PC X op a b t)(f:behindInMarks op b=false:=by first|exact LM _ (by decide) (by decide)|rfl):PT X (.Compare a [op] [b] pos) (tB t):=by
 refine λB s O H Q I j=>wpAny_isTrue_Compare1 (QD (h B s O H _ I j) λv C f=>QD f λu A m=>QD m ?_) f;rintro c y ⟨x,U,w,g,i⟩;apply At i;rintro d rfl q;cases g;exact wpAny_truthy_bool #[U,w,q]
def ZO(h:PE X e t)(he:∀a,isTrue e X.env a=(do let v <- a;standAt e.pos;holding [v] (truthy v)):=by intro _;rfl):PT X e (tB t):=by
 refine λB s O H Q I f=>isTrue_plain (QD (h B s O H _ I f) ?_) (he _);rintro v i ⟨x,U,g,b,c⟩;apply At c;rintro d rfl q;cases b;exact wpAny_truthy_bool #[U,g,q]
variable {rest:Qi}
def HU(t u:TT):TT:=λO H Q=>t O H λc U=>if c=true then u O U Q else Q false U
def tOr(t u:TT):TT:=λO H Q=>t O H λc U=>if c=true then Q true U else u O U Q
def JS(t:TT):TT:=λO H Q=>t O H λc U=>Q (!c) U
def Ge(b:PT X a tA):PW X (.BoolOp .And [a] pos) tA:=by
 refine λf B s O H Q I h=>isTrue_and (QD (b B s O H Q I h) λc g e=>?_);cases c with
 |true=>exact isTrue_and_nil e
 |false=>exact e
def WU(b:PT X a tA):PW X (.BoolOp .Or [a] pos) tA:=by
 refine λf B s O H Q I h=>isTrue_or (QD (b B s O H Q I h) λc g e=>?_);cases c with
 |false=>exact isTrue_or_nil e
 |true=>exact e
def UQ(v:PT X a tA)(m:PW X (.BoolOp .And (b::rest) pos) tB'):PW X (.BoolOp .And (a::b::rest) pos) (HU tA tB'):=by
 refine λi B s O H Q I h=>isTrue_and (QD (v B s O H _ I h) ?_);rintro c j ⟨U,g,f⟩;cases c with
 |true=>exact m i B j O U Q g f
 |false=>exact#[U,g,f]
def YQ(v:PT X a tA)(m:PW X (.BoolOp .Or (b::rest) pos) tB'):PW X (.BoolOp .Or (a::b::rest) pos) (tOr tA tB'):=by
 refine λi B s O H Q I h=>isTrue_or (QD (v B s O H _ I h) ?_);rintro c j ⟨U,g,f⟩;cases c with
 |true=>exact#[U,g,f]
 |false=>exact m i B j O U Q g f
def VG(b:PT X a tA):PT X (.UnaryOp .Not a pos) (JS tA):=by
 exact λB s O H Q I h=>isTrue_not (b B s O H _ I h)
def Pk(ta tb:TE):TE:=λO H Q=>ta O H λx U=>∃c,x=.bl c/\if c=true then tb O U Q else Q (.bl false) U
def Pn(ta:TE):TE:=λO H Q=>ta O H λx U=>∃c,x=.bl c/\Q (.bl<|!c) U
def Mm{op}(h:PE X a t):PE X (.BoolOp op [a] pos) t:=λB s O H Q I b=>BoolOp_one (h B s O H Q I b)
def Mi(w:PE X a ta)(m:PE X (.BoolOp .And (b::rest) pos) tb):PE X (.BoolOp .And (a::b::rest) pos) (Pk ta tb):=by
 refine λB s O H Q I h=>BoolOp_and (QD (w B s O H _ I h) ?_);rintro v i ⟨x,U,g,j,f⟩;obtain⟨c,rfl,f⟩:=f;cases j;refine wpAny_truthy_bool ?_;cases c with
 |true=>exact m B i O U Q g f
 |false=>exact#[.bl false,U,g,rfl,f]
def AC(g:PE X a ta):PE X (.UnaryOp .Not a pos) (Pn ta):=by
 refine λB s O H Q I h=>UnaryOp_ (QD (g B s O H _ I h) ?_);rintro v j ⟨x,U,i,f,b⟩;apply At b;rintro c rfl b;cases f;exact not_of (wpAny_truthy_bool #[.bl<|!c,U,i,rfl,b])
end
end L2
namespace L2
def SqL(K:W.Frag)(H:Hp)(a:Addr)(xs:List V):Prop:=
 Rd H a (.lst xs) \/
  ∃(o:Obj) (b:Array Value) (n:Nat),K.lookup a=some o/\o.cls=.type "list" /\ o.dict=none/\o.data=.seq b n/\b.size<=sizeLine/\QU xs b.toList
def SqT(K:W.Frag)(H:Hp)(a:Addr)(xs:List V):Prop:=
 Rd H a (.tup xs) \/
  ∃(o:Obj) (b:Array Value) (n:Nat),K.lookup a=some o/\o.cls=.type "tuple" /\ o.data=.seq b n/\b.size<=sizeLine/\QU xs b.toList
def CP:Value->Option V
 |.none=>some .non
 |.bool b=>some (.bl b)
 |.int i _=>some (.int i)
 |.str x _=>some (.str x)
 |.bytes b _=>some (.byt b)
 |.float b _=>some (.flt b)
 |.ref a=>some (.ref a)
 |.type n=>some (.ty n)
 |_=>none
def QN.abs(r:QN x u):CP u=some x:=by
 cases x with
 |non=>cases r;rfl
 |bl _=>cases r;rfl
 |int _=>obtain⟨t,rfl⟩:=r;rfl
 |str _=>obtain⟨t,rfl⟩:=r;rfl
 |byt _=>obtain⟨t,rfl⟩:=r;rfl
 |flt _=>obtain⟨t,rfl⟩:=r;rfl
 |ref _=>cases r;rfl
 |ty _=>cases r;rfl
def QN.inj(r:QN x u)(q:QN y u):x=y:=Option.some.inj (r.abs.symm.trans q.abs)
theorem QU.inj:∀{xs ys:List V} {us:Qe},QU xs us->QU ys us->xs=ys
 |_,_,_,.nil,.nil=>rfl
 |_,_,_,.cons r t,.cons c b=>by rw[r.inj c,QU.inj t b]
section
variable {O:St}{H:Hp}{a:Addr}
def SqL.of(h:H a=some (.lst xs)):SqL K H a xs:=.inl (.inl h)
def SqT.of(h:H a=some (.tup xs)):SqT K H a xs:=.inl (.inl h)
def Qt.list(I:Qt X B O H s)(h:SqL X.K H a xs):∃b:Qe,QU xs b/\PlainL s.heap a b.toArray/\xs.length<=sizeLine:=by
 rcases h with h|⟨o,b,n,f,i,g,c,j,r⟩
 .exact By (h.ok I.hok) λz b n r e=>#[b,r,#[_,n,e,rfl,rfl,rfl],z]
 .refine#[b.toList,r,#[o,n,I.kIn a o f,i,g,by simpa using c],?_];have e:=r.length;simp_all
def Qt.tuple(I:Qt X B O H s)(h:SqT X.K H a xs):∃b:Qe,QU xs b/\IsTup s.heap a b.toArray/\xs.length<=sizeLine:=by
 rcases h with h|⟨o,b,n,f,g,c,i,r⟩
 .exact Do (h.ok I.hok) λz b r p=>#[b,r,p,z]
 .refine#[b.toList,r,#[o,I.kIn a o f,g,n,by simpa using c],?_];have e:=r.length;simp only[Array.length_toList]at e;lia
def Qt.list_inj(I:Qt X B O H s)(h:SqL X.K H a xs)(h':SqL X.K H a ys):xs=ys:=by
 apply aA (I.list h);rintro i r⟨o,n,e,_,_,d⟩_;apply aA (I.list h');rintro b g⟨m,v,c,_,_,f⟩_;rw[e]at c;cases c;rw[d]at f;injection f with j _;have:=by simpa using XS Array.toList j
 subst this;exact r.inj g
def Qt.tuple_inj(I:Qt X B O H s)(h:SqT X.K H a xs)(h':SqT X.K H a ys):xs=ys:=by
 apply aA (I.tuple h);rintro i r⟨o,e,_,n,d⟩_;apply aA (I.tuple h');rintro b g⟨m,c,_,v,f⟩_;rw[e]at c;cases c;rw[d]at f;injection f with j _;have:=by simpa using XS Array.toList j
 subst this;exact r.inj g
end
abbrev Cx.wish(X:Cx)(hi:Qb):Cx:={ X with xe:=hi }
abbrev Cx.nox(X:Cx):Cx:=X.wish λ_ _=>False
def Cx.Ok.wish(b:X.Ok)(c:Qb):(X.wish c).Ok:=
 #[b.mod,b.kind,b.glob,b.blt,b.above,b.inj,b.has,b.cab,b.hd,b.frames,b.stk,b.exf,b.bs,b.bsz,b.noex,b.exfs,b.funs,b.frf]
def Cx.Ok.unwish(b:(X.wish hi).Ok):X.Ok:=
 #[b.mod,b.kind,b.glob,b.blt,b.above,b.inj,b.has,b.cab,b.hd,b.frames,b.stk,b.exf,b.bs,b.bsz,b.noex,b.exfs,b.funs,b.frf]
section
variable {O:St}{H:Hp}{hi:Qb}
def Qt.wish(I:Qt X B O H s)(hi:Qb):Qt (X.wish hi) B O H s:=#[I.ok.wish hi,I.os,I.bare,I.base,I.loc,I.cell,I.free,I.freeC,I.pin,I.hok,I.len]
def Qt.unwish(I:Qt (X.wish hi) B O H s):Qt X B O H s:=#[I.ok.unwish,I.os,I.bare,I.base,I.loc,I.cell,I.free,I.freeC,I.pin,I.hok,I.len]
def SP.unwish{f:Flow}(h:SP (X.wish hi) B CH f s'):SP X B CH f s':=by
 cases f with
 |next=>exact KE h λb Z I q=>#[b,Z,I.unwish,q]
 |brk=>exact KE h λb Z I q=>#[b,Z,I.unwish,q]
 |cont=>exact KE h λb Z I q=>#[b,Z,I.unwish,q]
 |ret u=>exact aB h λv b Z I r q=>#[v,b,Z,I.unwish,r,q]
def PSs.nox{st:List Stmt}(h:PSs X.nox st t):PSs X st t:=λB s O H c I b=>
 wpAny_mono (h B s O H c (I.wish _) b) (λ_ _ q=>q.unwish) λ_ _ z=>False.elim z
end
section
variable {st:Stmt}{rest:List Stmt}{t u:TS}{e:Expr}
def Kn:TS:=λb O H=>b.nx O H
def YC(t u:TS):TS:=λb O H=>t { b with nx:=u b } O H
def Za:PSs X [] Kn:=λ_ _ O H _ I h=>wpAny_execs_nil #[O,H,I,h]
def Qw(i:PS X st t)(g:PSs X rest u):PSs X (st::rest) (YC t u):=by
 refine λB s O H c I h=>wpAny_execs_cons (QD (i B s O H { c with nx:=u c } I h) λf e q=>?_);cases f with
 |next=>
  exact KE q λb Z j q=>g B e b Z c j q
 |ret v=>exact q
 |brk=>exact q
 |cont=>exact q
def Qy(b:PS X st t):PSs X [st] t:=by
 refine λB s O H c I h=>wpAny_execs_cons (QD (b B s O H c I h) λf e q=>?_);cases f with
 |next=>exact wpAny_execs_nil q
 |ret v=>exact q
 |brk=>exact q
 |cont=>exact q
def Qt.quiet{O:St}{H:Hp}(I:Qt X B O H s):interactive X.env=false:=by simp[interactive,I.ok.kind]
def VB(te:TE):TS:=λb O H=>te O H λ_ U=>b.nx O U
def Zp(he:PE X e te)(hs:swapsWith e none pos.line X.env=pure false:=by rfl):PS X (.Expr e pos) (VB te):=by
 refine λB s O H i I h=>wpAny_Expr_any (QD (he B s O H _ I h) ?_) I.quiet hs;rintro v f ⟨x,U,c,g,b⟩;exact#[O,U,c,b]
def Ys(te:TE):TS:=λb O H=>te O H b.rt
def QK(he:PE X e te):PS X (.Return (some e) pos) (Ys te):=by
 refine λB s O H i I h=>wpAny_Return_some (QD (he B s O H _ I h) ?_);rintro v g ⟨x,U,f,b,c⟩;exact#[x,O,U,f,b,c]
def YB(c:TT)(t u:TS):TS:=λe O H=>c O H λb U=>if b=true then t e O U else u e O U
def Zb{c:Expr}{b:List Stmt}{tc:TT}(j:PT X c tc)(v:PSs X a t)(m:PSs X b u):PS X (.If c a b pos) (YB tc t u):=by
 refine λB s O H i I h=>wpAny_If (QD (j B s O H _ I h) ?_);rintro d e ⟨U,g,f⟩;cases d with
 |true=>exact v B e O U i g f
 |false=>exact m B e O U i g f
def Ee:TS:=λ_ _ _=>False
def NA:PS X st Ee:=λ_ _ _ _ _ _ h=>h.elim
end
abbrev TG:=V->St->Hp->(St->Hp->Prop)->Prop
abbrev TGs:=List V->St->Hp->(St->Hp->Prop)->Prop
def PG(X:Cx)(b:Expr)(t:TG):Prop:=
 ∀(B:Qc) (s:Shared) (O:St) (H:Hp) (v:V) (u:Value) (Q:St->Hp->Prop),Qt X B O H s->QN v u->t v O H Q->
  wpAny (model X.prog X.w) X.A (assign b X.env u) (λ_ f=>∃c Z,Qt X B c Z f/\Q c Z) X.xe s
def PGs(X:Cx)(ts:Qi)(t:TGs):Prop:=
 ∀(B:Qc) (s:Shared) (O:St) (H:Hp) (c:List V) (f:Qe) (Q:St->Hp->Prop),Qt X B O H s->QU c f->t c O H Q->
  wpAny (model X.prog X.w) X.A (assignInOrder ((assignEach ts X.env).map (·.2)) f) (λ_ g=>∃b Z,Qt X B b Z g/\Q b Z) X.xe s
abbrev Kd:=V->V->V->Hp->(Hp->Prop)->Prop
def Kb(X:Cx)(t:Kd):Prop:=
 ∀(B:Qc) (s:Shared) (O:St) (H:Hp) (o i v:V) (b c u:Value) (Q:Hp->Prop),Qt X B O H s->QN o b->QN i c->QN v u->t o i v H Q->
  wpAny (model X.prog X.w) X.A (setItem b c u) (λ_ f=>∃Z,Qt X B O Z f/\Q Z) X.xe s
abbrev TIp:=V->V->Hp->VK->Prop
def PIp(X:Cx)(op:Operator)(t:TIp):Prop:=
 ∀(B:Qc) (s:Shared) (O:St) (H:Hp) (x y:V) (v u:Value) (Q:VK),Qt X B O H s->QN x v->QN y u->t x y H Q->
  wpAny (model X.prog X.w) X.A (inplaceOp op v u) (EP X B O Q) X.xe s
def ZM(i:Nat):TG:=λv O H Q=>Q (O.set i<|some v) H
def QT(i:Nat)(c:X.N.Nodup)(E:X.N[i]?=some x:=by rfl)(hx:Loc X.env.scope x:=by first|exact Or.inl rfl|exact Or.inr rfl)(b:X.fn x=true\/X.env.scope.names.lookup x=some .local:=by first|exact .inl rfl|exact .inr rfl|assumption):PG X (.Name x pos) (ZM i):=by
 exact λB s O H v u Q I r h=>wpAny_assign_Name (DD I c E hx r (λg f=>#[_,H,f,h]) b)
def MN:TGs:=λb O H Q=>b=[]/\Q O H
def UJ(t:TG)(u:TGs):TGs:=λc O H Q=>∃v r,c=v::r/\t v O H λb Z=>u r b Z Q
def Yz:PGs X [] MN:=by
 exact λB s O H b c Q I r h=>assignInOrder_nil #[O,H,I,h.2]
def Zy(j:PG X e t)(i:PGs X es u)
(hs:(assignEach (e::es) X.env).map (·.2)=assign e X.env::(assignEach es X.env).map (·.2):=by rfl):PGs X (e::es) (UJ t u):=by
 intro B s O H y C Q I r h;obtain⟨v,A,rfl,h⟩:=h;cases r with
 |cons r f=>
  rw[hs];refine assignInOrder_cons (QD (j B s O H _ _ _ I r h) ?_);rintro _ c ⟨b,U,w,g⟩;exact i B c b U _ _ Q w f g
def HX(K:W.Frag)(n:Nat)(t:TGs):TG:=λv O H Q=>∃a xs,v=.ref a/\SqT K H a xs/\xs.length=n/\t xs O H Q
def J5{k:Nat}{n:Nat}(A:X.calm=true)(h:PGs X es t)
(hn:(assignEach es X.env).length=n:=by rfl)(f:(assignEach es X.env).findIdx? (·.1)=none:=by rfl):PG X (.Tuple es k pos) (HX X.K n t):=by
 intro B s O H v u Q I r c;obtain⟨a,xs,rfl,w,y,c⟩:=c;cases r;exact aA (I.tuple w) λi g m K=>assign_Tuple_tuple (I.ok.hd A) m (by simp[hn,<- y,g.length]) f λh' j=>h B _ O H xs _ Q (I.kept (t':=s.toks) λb o e=>j b o (XF<|Xo e) e) (by simpa using g) c
def BJ(b c:TE)(t:Kd):TG:=λv O H Q=>b O H λo U=>c O U λi g=>t o i v g λf=>Q O f
def YU{i:Expr}(C:PE X o to)(E:PE X i ti)(hs:Kb X t)
(D:∀v,assign (.Subscript o i pos) X.env v=(do
  let ov <- holding [v] (eval o X.env)
  let b <- holding [v,ov] (eval i X.env)
  standAt pos
  holding [v,ov,b] (setItem ov b v)
  release [v,ov,b] []):=by intro _;rfl):PG X (.Subscript o i pos) (BJ to ti t):=by
 intro B s O H v u Q I r h;rw[D];refine Xa (wpAny_holding<|QD (C B s O H _ I h) ?_);rintro ov f ⟨x,U,M,j,A⟩;refine Xa (wpAny_holding<|QD (E B f O U _ M A) ?_);rintro b c ⟨y,W,L,g,w⟩;refine Xa (wpAny_standAt<|Xa<|wpAny_holding<|QD (hs B c O W x y v ov b u _ L j g r w) ?_);rintro _ a ⟨P,K,m⟩;exact wpAny_release #[O,P,K,m]
def Z9(te:TE)(g:TG):TS:=λb O H=>te O H λx U=>g x O U b.nx
def Vz{g:TG}(he:PE X e te)(i:PG X tg g)(hs:swapsWithSole [tg] e pos.line X.env=pure false:=by rfl)(hw:swappedStores [tg] e X.env=pure none:=by rfl)
(j:(assignEach [tg] X.env).map (·.2)=[assign tg X.env]:=by rfl):PS X (.Assign [tg] e pos) (Z9 te g):=by
 refine λB s O H y I h=>wpAny_Assign_stores (QD (he B s O H _ I h) ?_) hs hw;rintro v b ⟨x,U,m,c,f⟩;rw[j];exact QD (i B b O U x v _ m c f) λ_ w q=>q
def QP(i:Nat)(g:X.N.Nodup)(he:PE X e te)(E:X.N[i]?=some x:=by rfl)(hx:Loc X.env.scope x:=by first|exact Or.inl rfl|exact Or.inr rfl)(hs:swapsWith e (some<|.Name x pos') pos.line X.env=pure false:=by rfl)(f:X.fn x=true\/X.env.scope.names.lookup x=some .local:=by first|exact .inl rfl|exact .inr rfl|assumption):
 PS X (.Assign [.Name x pos'] e pos) (Z9 te<|ZM i):=by
 refine λB s O H C I h=>wpAny_Assign_Name (QD (he B s O H _ I h) ?_) hs;rintro v A ⟨y,U,m,b,c⟩;exact DD m g E hx b (λw j=>#[_,U,j,c]) f
def Dd(g h te:TE)(c:V->V->Hp->VK->Prop)(f:TIp)(b:Kd):TS:=λA O H=>g O H λo U=>h O U λi w=>c o i w λx v=>te O v λy s=>f x y s λz m=>b o i z m λj=>A.nx O j
def SM(X:Cx)(t:V->V->Hp->VK->Prop):Prop:=
 ∀(B:Qc) (s:Shared) (O:St) (H:Hp) (o i:V) (b c:Value) (Q:VK),Qt X B O H s->QN o b->QN i c->t o i H Q->
  wpAny (model X.prog X.w) X.A (getItem b c) (EP X B O Q) X.xe s
def Bg{i:Expr}(u:PE X o to)(E:PE X i ti)(x:SM X tget)(he:PE X e te)(t:PIp X op tip)(hs:Kb X tset)
(z:∀ov c b,augStore i ov c b=(do holding [b,ov,c] (setItem ov c b);release [b,ov,c] [];pure .next):=by intros;rfl):PS X (.AugAssign (.Subscript o i tpos) op e pos) (Dd to ti te tget tip tset):=by
 refine λB s O H CH I h=>wpAny_AugAssign_SubscriptAny (QD (u B s O H _ I h) ?_) z;rintro ov P ⟨j,U,R,w,r⟩;refine QD (E B P O U _ R r) ?_;rintro c M ⟨g,H2,Q,m,q⟩;refine QD (x B M O H2 j g ov c _ Q w m q) ?_;rintro f L ⟨C,Z,N,d,p⟩;refine QD (he B L O Z _ N p) ?_;rintro v K ⟨A,Y,J,a,n⟩;refine QD (t B K O Y C A f v _ J d a n) ?_;rintro b D ⟨y,T,G,W,l⟩;refine QD (hs B D O T j g y ov c b _ G w m W l) ?_;rintro _ s6 ⟨S,F,k⟩;exact#[O,S,F,k]
def ipI(f:Int->Int->Int):TIp:=λx y H Q=>∃i j,x=.int i/\y=.int j/\Q (.int<|f i j) H
def Mg:PIp X .Add (ipI λi j=>i+j):=by
 intro B s O H x y v u Q I c b h;apply aF h;intro i j g f q;subst g;subst f;obtain⟨t,rfl⟩:=c;obtain⟨m,rfl⟩:=b;exact iadd_int #[.int _,H,I.tok _,#[_,rfl],q]
def AV:PIp X .Sub (ipI λi j=>i-j):=by
 intro B s O H x y v u Q I c b h;apply aF h;intro i j g f q;subst g;subst f;obtain⟨t,rfl⟩:=c;obtain⟨m,rfl⟩:=b;exact isub_int #[.int _,H,I.tok _,#[_,rfl],q]
def PV(c:TT)(i:TS):TS:=λg O H=>∃W:Nat->St->Hp->Prop,(∃m,W m O H)/\∀m O H,W m O H->
 c O H λb U=>if b=true then ∃N:St->Hp->Prop,(∀f Z,N f Z->∃h,h<m/\W h f Z)/\i { g with nx:=N,ct:=N,bk:=g.nx } O U else g.nx O U
def DF{c:Expr}{tc:TT}(P:PassesOwn (model X.prog X.w) X.A X.env X.xe)(t:PT X c tc)(u:PSs X body tb):PS X (.While c body [] pos) (PV tc tb):=by
 intro B s O H E I h;apply At h;rintro W⟨r,l⟩m;refine wpAny_While (codeAny_whileLoop (λn q=>∃j Z,Qt X B j Z q/\W n j Z) ?_ r #[O,H,I,l]);rintro n p ⟨i,U,x,k⟩;refine wpAny_passesOwn P (QD (t B p i U _ x<|m n i U k) ?_);rintro b o ⟨e,d,A⟩;cases b with
 |true=>
  refine At A λN a A=>wpAny_passesOwn P (QD (u B o i e _ d A) λf z y=>?_);cases f with
  |next=>
   exact KE y λg w M D=>At (a g w D) λK L C=>#[K,L,g,w,M,C]
  |cont=>
   exact KE y λg w M D=>At (a g w D) λK L C=>#[K,L,g,w,M,C]
  |brk=>exact y
  |ret v=>exact y
 |false=>
  exact wpAny_execs_nil #[i,e,d,A]
structure It where
 go:Nat->Hp->Prop
 yld:Nat->Hp->V->Hp->Prop
 stop:Nat->Hp->Prop
def Wd(X:Cx)(B:Qc)(H:Hp)(b:Addr):Prop:=
 H b=none/\b≠X.env.locals/\b∉X.fs/\(b∈X.ex\/X.s₀.heap.objs.size<=b)/\(∀x c,X.env.cells.lookup x=some c->c≠b)/\∀p∈X.pn++B,p.1≠b
def Qt.fpOk{O:St}{H Z:Hp}{b:Addr}(I:Qt X B O H s)(f:s.heap.objs.size<=b)(hn:Z b=none):Wd X B Z b:=by
 refine#[hn,Y3<|XG I.lt f,I.nofs f,.inr<|X4 I.sz f,λx c e z=>?_,λp g z=>?_]
 .obtain⟨v,q⟩:=I.cell x c e;exact Xv (XG q.lt<|by exact z▸f) (X8 _)
 .exact Xv (XG (Xo (I.pin p g).1)<|by exact z▸f) (X8 _)
structure Turn(P:Program)(w:World)(K:W.Frag)(tg:Expr)(ρ':It)(fp:Qg)(it:Addr)(tn:Nat->Heap->Prop):Prop where
 mem:it∈fp
 obj:∀i h,tn i h->∀b∈fp,∃o,h.get? b=some o/\∀v,o.data≠.cell v
 keep:∀i h h',tn i h->(∀b∈fp,∀o,h.get? b=some o->h'.get? b=some o)->tn i h'
 item:∀(X:Cx),X.prog=P->X.w=w->X.K=K->X.calm=true->∀(i:Nat) (B:Qc) (s:Shared) (O:St) (H:Hp) (hi:Qb),Qt X B O H s->(∀b∈fp,Wd X B H b)->tn i s.heap->ρ'.go i H->
  wpAny (model P w) X.A (pyNext<|.ref it) (λr s1=>∃u,r=some u/\
   wpAny (model P w) X.A (letOwnedTupleGo tg (.ref it) u) (λ_ s2=>∃x Z,Qt X B O Z s2/\QN x u/\ρ'.yld i H x Z/\tn (i+1) s2.heap/\∀b∈fp,Z b=none) hi s1) hi s
 done:∀(X:Cx),X.prog=P->X.w=w->X.K=K->X.calm=true->∀(i:Nat) (B:Qc) (s:Shared) (O:St) (H:Hp) (hi:Qb),Qt X B O H s->(∀b∈fp,Wd X B H b)->tn i s.heap->ρ'.stop i H->
  wpAny (model P w) X.A (pyNext<|.ref it) (λr s1=>r=none/\Qt X B O H s1) hi s
 self:∀(A:Around) (i:Nat) (s:Shared) (Q:Qb) (hi:Qb),tn i s.heap->Q (.ref it) s->wpAny (model P w) A (pyIter<|.ref it) Q hi s
abbrev TI:=St->Hp->(It->Hp->Prop)->Prop
def PIE(X:Cx)(B:Qc)(O:St)(tg:Expr)(R:It->Hp->Prop)(f:Value)(h:Shared):Prop:=
 ∃(i:Addr) (j:Qg) (g:Nat->Heap->Prop) (c:It) (Z:Hp),f=.ref i/\Qt X B O Z h/\Turn X.prog X.w X.K tg c j i g/\g 0 h.heap/\(∀b∈j,Wd X B Z b)/\R c Z
def PI(X:Cx)(tg iter:Expr)(b:TI):Prop:=
 ∀(B:Qc) (s:Shared) (O:St) (H:Hp) (R:It->Hp->Prop),Qt X B O H s->b O H R->
  wpAny (model X.prog X.w) X.A (eval iter X.env) (λv c=>wpAny (model X.prog X.w) X.A (pyIter v) (PIE X B O tg R) X.xe c) X.xe s
def GH(c:s.heap.get? it=some o)(g:o.cls=.type n)(f:o.data=.fields vs)
(hn:["enumerate","zip","dict_itemiterator","dict_reverseitemiterator","odict_iterator","itertools.zip_longest","itertools.pairwise"].contains n=false)(b:Q () s):wpAny M A (letOwnedTupleGo tg (.ref it) u) Q hi s:=by
 cases tg<;>first
  |exact Xl b
  | (cases u<;>first
   |exact Xl b
   | (refine Xa (wpAny_load c ?_)
      rw[g,f];show wpAny M A (if _=true then _ else _) Q hi s;rw[Xd<|#[]];exact Xl b))
def Itl(K:W.Frag)(a:Addr):It:=
 #[λi H=>∃xs x,SqL K H a xs/\xs[i]?=some x,λi H x Z=>Z=H/\∀xs,SqL K H a xs->xs[i]?=some x,λi H=>∃xs,SqL K H a xs/\xs.length<=i]
def Itt(K:W.Frag)(a:Addr):It:=
 #[λi H=>∃xs x,SqT K H a xs/\xs[i]?=some x,λi H x Z=>Z=H/\∀xs,SqT K H a xs->xs[i]?=some x,λi H=>∃xs,SqT K H a xs/\xs.length<=i]
def Itr(lo:Int)(n:Nat):It:=#[λi _=>i<n,λi H x Z=>Z=H/\x=.int (lo+i),λi _=>n<=i]
theorem Zpe(a it:Addr):Turn P w K tg (Itl K a) [it] it (λi h=>h.IsListIter it a i) where
 mem:=by simp
 obj:=λi h f b g=>by
  have e:=by simpa using g
  subst e;apply aA f;intro o e c d;simp_all
 keep:=λi h h' f k=>f.at λo e=>k it (by simp) o e
 item:=by
  intro X D C L q i B s O H F I m f hg;subst D C L;refine KE hg λxs x hq A=>aA (I.list hq) λy v p hz=>At (v.get A) λu E t=>aG (m it (by simp)) λf0 n G l W M=>wpAny_pyNext_list_item f p.isList (by simpa using E) λh' j r=>?_;apply aA (id j);intro o e c d
  exact#[u,rfl,GH e c d (by decide) #[x,H,I.turned (t':=s.toks) (λb o g e=>(r.2 b g).trans e) f0 n l W M,t,#[rfl,λys z=>by rw[I.list_inj z hq];exact A],j,λb g=>(m b g).1]]
 done:=by
  intro X D C L q i B s O H F I m f hg;subst D C L;refine At hg λxs hq A=>aA (I.list hq) λy v p hz=>aG (m it (by simp)) λf0 n G l W M=>?_;have Q:=v.length;exact wpAny_pyNext_list_end (I.ok.hd q) f p.isList (by simp;lia) λh' J=>#[rfl,I.turned (λb o g e=>J b o g e) f0 n l W M]
 self:=λ_ _ _ _ _ f h=>wpAny_pyIter_listiter f h
theorem Zom(a it:Addr):Turn P w K tg (Itt K a) [it] it (λi h=>h.IsTupleIter it a i) where
 mem:=by simp
 obj:=λi h f b g=>by
  have e:=by simpa using g
  subst e;apply aA f;intro o e c d;simp_all
 keep:=λi h h' f k=>f.at λo e=>k it (by simp) o e
 item:=by
  intro X D C L q i B s O H F I m f hg;subst D C L;refine KE hg λxs x hq A=>aA (I.tuple hq) λy v p hz=>At (v.get A) λu E t=>aG (m it (by simp)) λf0 n G l W M=>wpAny_pyNext_tuple_item f (p) (by simpa using E) λh' j r=>?_;apply aA (id j);intro o e c d
  exact#[u,rfl,GH e c d (by decide) #[x,H,I.turned (t':=s.toks) (λb o g e=>(r.2 b g).trans e) f0 n l W M,t,#[rfl,λys z=>by rw[I.tuple_inj z hq];exact A],j,λb g=>(m b g).1]]
 done:=by
  intro X D C L q i B s O H F I m f hg;subst D C L;refine At hg λxs hq A=>aA (I.tuple hq) λy v p hz=>aG (m it (by simp)) λf0 n G l W M=>?_;have Q:=v.length;exact wpAny_pyNext_tuple_end (I.ok.hd q) f (p) (by simp;lia) λh' J=>#[rfl,I.turned (λb o g e=>J b o g e) f0 n l W M]
 self:=λ_ _ _ _ _ f h=>wpAny_pyIter_tupleiter f h
theorem ZnZ(it:Addr)(lo:Int)(n:Nat):Turn P w K tg (Itr lo n) [it] it (λi h=>IsRangeIter h it (lo+(i:Nat)*1) ((n:Int)-(i:Nat)) 1) where
 mem:=by simp
 obj:=λi h c b f=>by
  simp_all
 keep:=λi h h' c k=>k it (by simp) _ c
 item:=by
  intro X M L a m i B s O H p I j c hg;subst M L a;apply aG (j it (by simp));refine λf0 D q C A y=>(Walks.range (prog:=X.prog) (w:=X.w) (I.ok.hd m) it lo 1 n).item i s _ _ hg c λv h' tk l g d=>?_;obtain⟨t,rfl⟩:=l;refine#[_,rfl,GH g rfl rfl (by decide) #[.int _,H,I.turned (λb o f e=>d b o (by simpa using f) e) f0 D C A y,#[t,?_],#[rfl,rfl],g,λb f=>(j b f).1]];rw[Int.mul_one]
 done:=by
  exact λX M L a m i B s O H p I j c hg=>aG (j it (by simp)) λf0 D q C A y=>wpAny_pyNext_range_end (I.ok.hd m) c (by have:n<=i:=hg;lia) λh' r=>#[rfl,I.turned (λb o f e=>r b o f e) f0 D C A y]
 self:=λ_ _ _ _ _ c h=>wpAny_pyIter_rangeiter c h
end L2
namespace L2
def Di(K:W.Frag)(b:TE):TI:=λO H R=>b O H λx U=>∃a,x=.ref a/\(∃xs,SqL K U a xs)/\R (Itl K a) U
def SX(K:W.Frag)(b:TE):TI:=λO H R=>b O H λx U=>∃a,x=.ref a/\(∃xs,SqT K U a xs)/\R (Itt K a) U
def YZ(w:PE X l tl):PI X tg l (Di X.K tl):=by
 refine λB s O H R I h=>QD (w B s O H _ I h) ?_;rintro v f ⟨x,U,c,g,i⟩;apply aA i;rintro a e⟨xs,m⟩q;subst e;cases g;refine aA (c.list m) λj A p C=>wpAny_pyIter_list p.isList<|#[f.heap.objs.size,[f.heap.objs.size],_,_,U,rfl,c.kept λb o e=>Xg _ e,Zpe a _,#[_,XD _ rfl,rfl,rfl],λb y=>?_,q];have e:=by simpa using y
 subst e;exact c.fpOk (Xm _) (c.hok.fresh<|Xm _)
def Ad(w:PE X l tl):PI X tg l (SX X.K tl):=by
 refine λB s O H R I h=>QD (w B s O H _ I h) ?_;rintro v f ⟨x,U,c,g,i⟩;apply aA i;rintro a e⟨xs,m⟩q;subst e;cases g;refine aA (c.tuple m) λj A p C=>wpAny_pyIter_tuple (p)<|#[f.heap.objs.size,[f.heap.objs.size],_,_,U,rfl,c.kept λb o e=>Xg _ e,Zom a _,#[_,XD _ rfl,rfl,rfl],λb y=>?_,q];have e:=by simpa using y
 subst e;exact c.fpOk (Xm _) (c.hok.fresh<|Xm _)
def LD{O:St}{H:Hp}{R:It->Hp->Prop}{g:Qb}{lo E:Int}{t u v:Tok}{f:Nat}(I:Qt X B O H s)(h1 : -(2^62)<=lo)(j:lo<2^62)(h3 : -(2^62)<=E)(i:E<2^62)
(q:R (Itr lo (E-lo).toNat) H):wpAny (model X.prog X.w) X.A (pyIter<|.ref s.heap.objs.size) (PIE X B O tg R) g { s with heap:=s.heap.push { cls:=.type "range",data:=.fields (List.toArray [.int lo t,.int E u,.int 1 v]) },toks:=f }:=by
 refine wpAny_pyIter_range (IsRange.new ..) (small_one h1 j h3 i) ?_;have c:Qt X B O H { s with heap:=s.heap.push { cls:=.type "range",data:=.fields (List.toArray [.int lo t,.int E u,.int 1 v]) },toks:=f }:=I.kept λb o e=>Xg _ e
 refine#[(s.heap.push { cls:=.type "range",data:=.fields (List.toArray [.int lo t,.int E u,.int 1 v]) }).objs.size,[(s.heap.push { cls:=.type "range",data:=.fields (List.toArray [.int lo t,.int E u,.int 1 v]) }).objs.size],_,_,H,rfl,
  c.kept λb o e=>Xg _ e,ZnZ _ lo (E-lo).toNat,?_,λb h=>?_,q]
 .have w:lo+((0:Nat))*1=lo:=by simp
  have m:(((E-lo).toNat))-((0:Nat))=Builtin.Range.rangeSize lo E 1:=by rw[rangeSize_one];split<;>lia
  rw[w,m];exact XD _ rfl
 .have e:b=(s.heap.push { cls:=.type "range",data:=.fields (List.toArray [.int lo t,.int E u,.int 1 v]) }).objs.size:=by simpa using h
  subst e;exact c.fpOk (Xm _) (c.hok.fresh<|Xm _)
def BT(ta:TA):TI:=λO H R=>ta O H λb U=>∃j:Int,b=[.int j] /\ -(2^62)<=j/\j<2^62/\R (Itr 0 j.toNat) U
def Ps(ta:TA):TI:=λO H R=>ta O H λb U=>∃i j:Int,b=[.int i,.int j]/\(-(2^62)<=i/\i<2^62 /\ -(2^62)<=j/\j<2^62)/\R (Itr i (j-i).toNat) U
def Wm{ta:TA}(m:Gl X "range")(i:X.mg "range"=none)(v:PA X [a] ta)(hs:starEach [a] X.env=[(false,eval a X.env)]:=by rfl):PI X tg (.Call (.Name "range" p) [a] [] pos) (BT ta):=by
 refine λB s O H R I h=>Call_ (Uk I m i boot_range<|PyProof.Rows.callWith_type1 (QD (v pos B s O H _ I h) ?_) hs rfl);rintro A C ⟨y,U,w,f,b⟩;obtain⟨j,rfl,b,g,q⟩:=b;cases f with
 |cons r c=>
  cases c;obtain⟨t,rfl⟩:=r;exact call_range_1 (LD w #[] #[] b g<|by simpa using q)
def Fb{a:Expr}{ta:TA}{p:Pos}(D:Gl X "range")(C:X.mg "range"=none)(K:PA X [a,b] ta)(hs:starEach [a,b] X.env=[(false,eval a X.env),(false,eval b X.env)]:=by rfl)(c:starEach [b] X.env=[(false,eval b X.env)]:=by rfl):
 PI X tg (.Call (.Name "range" p) [a,b] [] pos) (Ps ta):=by
 refine λB s O H R I h=>Call_ (Uk I D C boot_range<|PyProof.Rows.callWith_type1 (QD (K pos B s O H _ I h) ?_) (by rw[hs,c])<|by rw[c];rfl);rintro P d ⟨M,U,L,m,g⟩;obtain⟨i,j,rfl,⟨g,A,y,w⟩,q⟩:=g;cases m with
 |cons r f=>
  cases f with
  |cons v f=>
   cases f;obtain⟨t,rfl⟩:=r;obtain⟨W,rfl⟩:=v;exact call_range_2 (LD L g A y w q)
def UE(s:TI)(g:TG)(v:TS):TS:=λh O H=>s O H λb U=>∃W:Nat->Nat->St->Hp->Prop,(∃m,W 0 m O U)/\∀i m O H,W i m O H->
 (b.stop i H/\h.nx O H)\/(b.go i H/\∃N:St->Hp->Prop,(∀c Z,N c Z->∃j,j<m/\W (i+1) j c Z)/\∀x Z,b.yld i H x Z->g x O Z λf w=>v { h with nx:=N,ct:=N,bk:=h.nx } f w)
def Dm(c:Qg)(h:Heap):Qc:=c.filterMap λb=>(h.get? b).map λo=>(b,o)
def DZ{b:Addr}(c:b∈fp)(e:h.get? b=some o):(b,o)∈Dm fp h:=List.mem_filterMap.mpr #[b,c,by rw[e];rfl]
def ZoK{p:Addr×Obj}(c:p∈Dm fp h):p.1∈fp/\h.get? p.1=some p.2:=by
 apply At (List.mem_filterMap.mp c);intro b f e;cases q:h.get? b with
 |none=>rw[q]at e;cases e
 |some o=>
  rw[q]at e;have g:=Option.some.inj e;subst g;exact#[f,q]
def Qt.pinned{O:St}{H:Hp}{c:Qg}(I:Qt X B O H s)(i:∀b∈c,Wd X B H b)(h:∀b∈c,∃o,s.heap.get? b=some o/\∀v,o.data≠.cell v):Qt X (B++Dm c s.heap) O H s:=
 I.pins_of λp g=>(Xz.mp g).elim (λz=>I.pin p<|XM _ z) λz=>by
  obtain⟨f,e⟩:=ZoK z;apply aJ (i p.1 f);intro f0 m j _;obtain _:=h p.1 f;simp_all
def Qt.unpinned{b:Qc}{O:St}{H:Hp}(I:Qt X (B++b) O H s):Qt X B O H s:=I.pins_of λp c=>I.pin p (XM _<|X9 _ c)
def Vu{g:TG}(p:PassesOwn (model X.prog X.w) X.A X.env X.xe)(hc:X.calm=true)(E:PI X tg iter wi)(hg:PG X tg g)(A:PSs X body tb)
(hs:∀x,foldedSetIterable iter X.env x=pure x:=by intro _;rfl):PS X (.For tg iter body [] pos) (UE wi g tb):=by
 refine λB s O H CH I h=>wpAny_For (QD (E B s O H _ I h) λv s1 h1=>QD h1 λitv s2 h2=>?_) hs;apply aK h2;rintro it t U ρ' H2⟨rfl,I2,T,G,f2,W,⟨m0,w0⟩,P⟩;have y:∀{Z:Hp},(∀b∈t,Z b=none)->∀b∈t,Wd X B Z b:=λhn b A=>#[hn b A,(f2 b A).2];refine codeAny_forLoop_any (λn s'=>∃i w Z,Qt X B w Z s'/\U i s'.heap/\(∀b∈t,Z b=none)/\W i n w Z) ?_ m0 #[0,O,H2,I2,G,λb A=>(f2 b A).1,w0]
 rintro n Y ⟨i,j,z,I3,k,q,w3⟩;rcases P i n j z w3 with ⟨a,qn⟩|⟨go,N,hN,step⟩
 .refine wpAny_passesOwn p (QD (T.done X rfl rfl rfl hc i B Y j z X.xe I3 (y q) k a) ?_);rintro r s4 ⟨rfl,I4⟩;exact wpAny_execs_nil #[j,z,I4,qn]
 .refine wpAny_passesOwn p (QD (T.item X rfl rfl rfl hc i B Y j z X.xe I3 (y q) k go) ?_);rintro r s4 ⟨u,rfl,h4⟩;refine wpAny_passesOwn p (QD h4 ?_);rintro _ s5 ⟨x,H5,I5,r5,y5,M,R⟩;refine wpAny_passesOwn p (QD (hg _ s5 j H5 x u _ (I5.pinned (y R) (T.obj _ _ M)) r5<|step x H5 y5) ?_);rintro _ s6 ⟨F,H6,I6,q6⟩;refine wpAny_passesOwn p (QD (A _ s6 F H6 _ I6 q6) λf J L=>?_);have C:∀{c:St} {K:Hp},Qt X _ c K J->N c K->∃m,m<n/\∃i w Z,Qt X B w Z J/\U i J.heap/\(∀b∈t,Z b=none)/\W i m w Z:=λ{c K} D l=>by
   exact At (hN c K l) λm' hm w7=>#[m',hm,i+1,c,K,D.unpinned,T.keep _ _ _ M λb A o e=>(D.pin (b,o)<|XM _<|XM _<|DZ A e).1,λb A=>At (T.obj _ _ M b A) λo e d=>(D.pin _<|XM _<|XM _<|DZ A e).2.1,w7]
  cases f with
  |next=>exact KE L λc K D l=>C D l
  |cont=>exact KE L λc K D l=>C D l
  |brk=>exact KE L λc K D L=>#[c,K,D.unpinned,L]
  |ret v=>exact aB L λx7 c K D r7 L=>#[x7,c,K,D.unpinned,r7,L]
end L2
namespace L2
abbrev R2:=V->V->Hp->VK->Prop
def OpR(X:Cx)(f:Value->Value->Sem Value)(r:R2):Prop:=
 ∀(B:Qc) (s:Shared) (O:St) (H:Hp) (x y:V) (v u:Value) (Q:VK),Qt X B O H s->QN x v->QN y u->r x y H Q->
  wpAny (model X.prog X.w) X.A (f v u) (EP X B O Q) X.xe s
def UnR(X:Cx)(f:Value->Sem Value)(r:V->Hp->VK->Prop):Prop:=
 ∀(B:Qc) (s:Shared) (O:St) (H:Hp) (x:V) (v:Value) (Q:VK),Qt X B O H s->QN x v->r x H Q->
  wpAny (model X.prog X.w) X.A (f v) (EP X B O Q) X.xe s
def Va(X:Cx)(f:Value)(r:List V->Hp->VK->Prop):Prop:=
 ∀(B:Qc) (s:Shared) (O:St) (H:Hp) (xs:List V) (b:Qe) (Q:VK),Qt X B O H s->QU xs b->r xs H Q->
  wpAny (model X.prog X.w) X.A (call f b) (EP X B O Q) X.xe s
def CU(X:Cx)(r:V->Hp->(Bool->Hp->Prop)->Prop):Prop:=
 ∀(B:Qc) (s:Shared) (O:St) (H:Hp) (x:V) (v:Value) (Q:Bool->Hp->Prop),Qt X B O H s->QN x v->r x H Q->
  wpAny (model X.prog X.w) X.A (truthy v) (TP X B O Q) X.xe s
def tOp(r:R2)(ta b:TE):TE:=λO H Q=>ta O H λx U=>b O U λy c=>r x y c Q
def tUn(r:V->Hp->VK->Prop)(ta:TE):TE:=λO H Q=>ta O H λx U=>r x U Q
def rI(C:Int->Int->Prop)(g:Int->Int->V):R2:=λx y H Q=>∃i j,x=.int i/\y=.int j/\C i j/\Q (g i j) H
def rI0(g:Int->Int->V):R2:=λx y H Q=>∃i j,x=.int i/\y=.int j/\Q (g i j) H
def rU(g:Int->V):V->Hp->VK->Prop:=λx H Q=>∃i,x=.int i/\Q (g i) H
section
variable {a:Expr}{tb:TE}
def HZ(K:PE X a ta)(D:PE X b tb){O:St}{H:Hp}{R:V->V->Hp->Prop}(I:Qt X B O H s)
(h:ta O H λx U=>tb O U λy c=>R x y c){Q:Qb}{f:Value->Value->Sem Value}
(C:∀v u g x y c,Qt X B O c g->QN x v->QN y u->R x y c->wpAny (model X.prog X.w) X.A (f v u) Q X.xe g):
 wpAny (model X.prog X.w) X.A (eval a X.env) (λv M=>wpAny (model X.prog X.w) X.A (eval b X.env) (λu L=>wpAny (model X.prog X.w) X.A (f v u) Q X.xe L) X.xe M) X.xe s:=by
 refine QD (K B s O H _ I h) ?_;rintro v i ⟨x,U,W,m,A⟩;refine QD (D B i O U _ W A) ?_;rintro u g ⟨y,c,P,j,w⟩;exact C v u g x y c P m j w
def QW(i:OpR X (binaryOp op) r)(m:PE X a ta)(j:PE X b tb):PE X (.BinOp a op b pos) (tOp r ta tb):=by
 exact λB s O H Q I h=>wpAny_BinOp (HZ m j I h λv u c x y A w g f q=>i B c O A x y v u Q w g f q)
def BS(g:UnR X (unaryOp op) r)(i:PE X a ta):PE X (.UnaryOp op a pos) (tUn r ta):=by
 refine λB s O H Q I h=>UnaryOp_ (QD (i B s O H _ I h) ?_);rintro v b ⟨x,U,j,c,f⟩;exact g B b O U x v Q j c f
def opI{f:Value->Value->Sem Value}{C:Int->Int->Prop}{g:Int->Int->Int}
(a:∀(i j:Int) (t u:Tok) (s:Shared) (Q:Qb) (w:Qb),C i j->Q (.int (g i j) s.toks) { s with toks:=s.toks+1 }->wpAny (model X.prog X.w) X.A (f (.int i t)<|.int j u) Q w s):
 OpR X f (rI C λi j=>.int<|g i j):=by
 intro B s O H x y v u Q I m c h;apply aD h;rintro i j rfl rfl A q;obtain⟨t,rfl⟩:=m;obtain⟨b,rfl⟩:=c;exact a i j t b s _ _ A #[.int _,H,I.tok _,#[_,rfl],q]
def HW{f:Value->Value->Sem Value}{g:Int->Int->Int}
(a:∀(i j:Int) (t u:Tok) (s:Shared) (Q:Qb) (w:Qb),Q (.int (g i j) s.toks) { s with toks:=s.toks+1 }->wpAny (model X.prog X.w) X.A (f (.int i t)<|.int j u) Q w s):
 OpR X f (rI0 λi j=>.int<|g i j):=by
 intro B s O H x y v u Q I m c h;apply aF h;rintro i j rfl rfl q;obtain⟨t,rfl⟩:=m;obtain⟨b,rfl⟩:=c;exact a i j t b s _ _ #[.int _,H,I.tok _,#[_,rfl],q]
def MP{f:Value->Value->Sem Value}{g:Int->Int->Bool}
(a:∀(i j:Int) (t u:Tok) (s:Shared) (Q:Qb) (w:Qb),Q (.bool<|g i j) s->wpAny (model X.prog X.w) X.A (f (.int i t)<|.int j u) Q w s):
 OpR X f (rI0 λi j=>.bl<|g i j):=by
 intro B s O H x y v u Q I m c h;apply aF h;rintro i j rfl rfl q;obtain⟨t,rfl⟩:=m;obtain⟨b,rfl⟩:=c;exact a i j t b s _ _ #[.bl _,H,I,rfl,q]
def SI(i j:Int):Prop:=0<=j/\j<=1000000/\i.natAbs<2^64
def JR(i j:Int):Prop:=(-(2^64)<i/\i<2^64)\/(-(2^64)<j/\j<2^64)
def JR.ok{i j:Int}(h:JR i j):IntMulOk i j:=by
 rcases h with ⟨b,a⟩|⟨b,a⟩
 .exact .of_left (intBits_le_64 b a)
 .exact .of_right (intBits_le_64 b a)
def VH:OpR X (binaryOp .Add) (rI0 λi j=>.int<|i+j):=HW λ_ _ _ _ _ _ _ q=>add_int q
def Yb:OpR X (binaryOp .Sub) (rI0 λi j=>.int<|i-j):=HW λ_ _ _ _ _ _ _ q=>sub_int q
def GX:OpR X (binaryOp .Mult) (rI JR λi j=>.int<|i*j):=opI λ_ _ _ _ _ _ _ a q=>mul_int q a.ok
def GO:OpR X (binaryOp .Mod) (rI (λ_ j=>0<j) λi j=>.int<|i%j):=opI λi j _ _ _ _ _ a q=>mod_int' #[] (by rw[Int.fmod_eq_emod_of_nonneg i<|#[]];exact q)
def Dn:OpR X (binaryOp .Pow) (rI SI λi j=>.int<|i^j.toNat):=opI λ_ _ _ _ _ _ _ a q=>pow_int_small a.1 a.2.1 a.2.2 q
def K6:OpR X (binaryOp .BitXor) (rI0 λi j=>.int<|Builtin.bitXor i j):=HW λ_ _ _ _ _ _ _ q=>xor_int q
def unI{f:Value->Sem Value}{g:Int->Int}
(a:∀(i:Int) (t:Tok) (s:Shared) (Q:Qb) (c:Qb),Q (.int (g i) s.toks) { s with toks:=s.toks+1 }->wpAny (model X.prog X.w) X.A (f<|.int i t) Q c s):
 UnR X f (rU λi=>.int<|g i):=by
 intro B s O H x v Q I b h;apply At h;rintro i rfl q;obtain⟨t,rfl⟩:=b;exact a i t s _ _ #[.int<|g i,H,I.tok _,#[_,rfl],q]
def Mc:UnR X (unaryOp .USub) (rU λi=>.int (-i)):=unI λ_ _ _ _ _ q=>neg_int q
end
def ST:V->V->Bool
 |.non,.non=>true|.non,.int _=>true|.int _,.non=>true|.non,.bl _=>true|.bl _,.non=>true|.non,.str _=>true|.str _,.non=>true
 |.int _,.int _=>true|.bl _,.bl _=>true|.str _,.str _=>true|.byt _,.byt _=>true
 |.int _,.str _=>true|.str _,.int _=>true|.bl _,.str _=>true|.str _,.bl _=>true
 |_,_=>false
def rEq:R2:=λx y H Q=>ST x y=true/\Q (.bl<|decide (x=y)) H
def rNe:R2:=λx y H Q=>ST x y=true/\Q (.bl<|!decide (x=y)) H
def TM{i j:Int}:decide (V.int i=V.int j)=(i==j):=by
 rw[Bool.eq_iff_iff];simp
def Th{i j:Bool}:decide (V.bl i=V.bl j)=(i==j):=by
 rw[Bool.eq_iff_iff];simp
def TN{i j:Str}:decide (V.str i=V.str j)=(i==j):=by
 rw[Bool.eq_iff_iff];simp
def T9{i j:Array UInt8}:decide (V.byt i=V.byt j)=(i.toList==j.toList):=by
 rw[Bool.eq_iff_iff];simp_all
section
variable {a c:Expr}{tb:TE}
def ZT{O:St}{H:Hp}{Q:VK}{k k':Bool}(I:Qt X B O H s)(q:Q (.bl k) H)(e:k=k'):EP X B O Q (.bool k') s:=by
 subst e;exact#[.bl k,H,I,rfl,q]
def Jy:OpR X (compareOp .Eq) rEq:=by
 intro B s O H x y v u Q I f a h;obtain⟨c,q⟩:=h;cases x with
 |non=>
  cases f;cases y with
  |non=>cases a;exact PySem.EqNone.eq_none_none (ZT I q<|by simp)
  |bl j=>cases a;exact PySem.EqNone.eq_none_bool (ZT I q<|by simp)
  |int j=>obtain⟨b,rfl⟩:=a;exact PySem.EqNone.eq_none_int (ZT I q<|by simp)
  |str j=>obtain⟨b,rfl⟩:=a;exact PySem.EqNone.eq_none_str (ZT I q<|by simp)
  |_=>exact Xv (show false=true from c) Xw
 |bl i=>
  cases f;cases y with
  |non=>cases a;exact PySem.EqNone.eq_bool_none (ZT I q<|by simp)
  |bl j=>cases a;exact eq_bool (ZT I q Th)
  |str j=>obtain⟨b,rfl⟩:=a;exact PySem.EqMixed.eq_bool_str (ZT I q<|by simp)
  |_=>exact Xv (show false=true from c) Xw
 |int i=>
  obtain⟨t,rfl⟩:=f;cases y with
  |non=>cases a;exact PySem.EqNone.eq_int_none (ZT I q<|by simp)
  |int j=>obtain⟨b,rfl⟩:=a;exact eq_int (ZT I q TM)
  |str j=>obtain⟨b,rfl⟩:=a;exact PySem.EqMixed.eq_int_str (ZT I q<|by simp)
  |_=>exact Xv (show false=true from c) Xw
 |str i=>
  obtain⟨t,rfl⟩:=f;cases y with
  |non=>cases a;exact PySem.EqNone.eq_str_none (ZT I q<|by simp)
  |bl j=>cases a;exact PySem.EqMixed.eq_str_bool (ZT I q<|by simp)
  |int j=>obtain⟨b,rfl⟩:=a;exact PySem.EqMixed.eq_str_int (ZT I q<|by simp)
  |str j=>obtain⟨b,rfl⟩:=a;exact eq_str (ZT I q TN)
  |_=>exact Xv (show false=true from c) Xw
 |byt i=>
  obtain⟨t,rfl⟩:=f;cases y with
  |byt j=>obtain⟨b,rfl⟩:=a;exact W.eq_bytes (ZT I q T9)
  |_=>exact Xv (show false=true from c) Xw
 |_=>cases y<;>exact Xv (show false=true from c) Xw
def UI:OpR X (compareOp .NotEq) rNe:=by
 intro B s O H x y v u Q I f a h;obtain⟨c,q⟩:=h;cases x with
 |non=>
  cases f;cases y with
  |non=>cases a;exact PySem.EqNone.ne_none_none (ZT I q<|by simp)
  |bl j=>cases a;exact PySem.EqNone.ne_none_bool (ZT I q<|by simp)
  |int j=>obtain⟨b,rfl⟩:=a;exact PySem.EqNone.ne_none_int (ZT I q<|by simp)
  |str j=>obtain⟨b,rfl⟩:=a;exact PySem.EqNone.ne_none_str (ZT I q<|by simp)
  |_=>exact Xv (show false=true from c) Xw
 |bl i=>
  cases f;cases y with
  |non=>cases a;exact PySem.EqNone.ne_bool_none (ZT I q<|by simp)
  |bl j=>cases a;exact ne_bool (ZT I q<|XS not Th)
  |str j=>obtain⟨b,rfl⟩:=a;exact PySem.EqMixed.ne_bool_str (ZT I q<|by simp)
  |_=>exact Xv (show false=true from c) Xw
 |int i=>
  obtain⟨t,rfl⟩:=f;cases y with
  |non=>cases a;exact PySem.EqNone.ne_int_none (ZT I q<|by simp)
  |int j=>obtain⟨b,rfl⟩:=a;exact ne_int (ZT I q<|XS not TM)
  |str j=>obtain⟨b,rfl⟩:=a;exact PySem.EqMixed.ne_int_str (ZT I q<|by simp)
  |_=>exact Xv (show false=true from c) Xw
 |str i=>
  obtain⟨t,rfl⟩:=f;cases y with
  |non=>cases a;exact PySem.EqNone.ne_str_none (ZT I q<|by simp)
  |bl j=>cases a;exact PySem.EqMixed.ne_str_bool (ZT I q<|by simp)
  |int j=>obtain⟨b,rfl⟩:=a;exact PySem.EqMixed.ne_str_int (ZT I q<|by simp)
  |str j=>obtain⟨b,rfl⟩:=a;exact ne_str (ZT I q<|XS not TN)
  |_=>exact Xv (show false=true from c) Xw
 |byt i=>
  obtain⟨t,rfl⟩:=f;cases y with
  |byt j=>obtain⟨b,rfl⟩:=a;exact W.ne_bytes (ZT I q<|XS not T9)
  |_=>exact Xv (show false=true from c) Xw
 |_=>cases y<;>exact Xv (show false=true from c) Xw
def Yw:OpR X (compareOp .Lt) (rI0 λi j=>.bl<|decide (i<j)):=MP λ_ _ _ _ _ _ _ q=>lt_int q
def WO:OpR X (compareOp .LtE) (rI0 λi j=>.bl<|decide (i<=j)):=MP λ_ _ _ _ _ _ _ q=>le_int q
def VY:OpR X (compareOp .Gt) (rI0 λi j=>.bl<|decide (j<i)):=MP λ_ _ _ _ _ _ _ q=>gt_int q
def C9:OpR X (compareOp .GtE) (rI0 λi j=>.bl<|decide (j<=i)):=MP λ_ _ _ _ _ _ _ q=>ge_int q
def Zi(b:Expr)(h:op≠.In:=by decide)(a:op≠.NotIn:=by decide):behindInMarks op b=false:=by
 have f:(op==CmpOp.In)=false:=by cases op<;>first|rfl|exact Xv rfl h
 have c:(op==CmpOp.NotIn)=false:=by cases op<;>first|rfl|exact Xv rfl a
 cases b<;>simp[behindInMarks,f,c]
def Jf(i:OpR X (compareOp op) r)(w:PE X a ta)(m:PE X b tb)(j:behindInMarks op b=false):PE X (.Compare a [op] [b] pos) (tOp r ta tb):=by
 exact λB s O H Q I h=>wpAny_Compare1 (HZ w m I h λv u c x y C A g f q=>i B c O C x y v u Q A g f q) j
def Ub(t:TE):TT:=λO H Q=>t O H λx Z=>∃k,x=.bl k/\Q k Z
def Zx(D:OpR X (compareOp op) r)(M:PE X a ta)(L:PE X b tb)(K:behindInMarks op b=false):PT X (.Compare a [op] [b] pos) (Ub<|tOp r ta tb):=by
 refine λB s O H Q I h=>wpAny_isTrue_Compare1 (QD (M B s O H _ I h) λv g ⟨x,U,d,m,C⟩=>QD (L B g O U _ d C) λu f ⟨y,n,W,j,A⟩=>
  QD (D B f O n x y v u _ W m j A) λc o ⟨z,l,P,i,k,e,w⟩=>?_) K
 subst e;cases i;exact wpAny_truthy_bool #[l,P,w]
def KL(r c:R2)(ta tb tc:TE):TE:=λO H Q=>ta O H λx U=>tb O U λy g=>r x y g λz a=>∃k,z=.bl k/\
 (if k=true then tc O a λb f=>c y b f Q else Q (.bl false) a)
def Lh(p:OpR X (compareOp op) r)(f:OpR X (compareOp op') r')(F:PE X a ta)(E:PE X b tb)(t:PE X c tc)
(q:lastMarks [op,op'] [b,c]=false:=by with_unfolding_all rfl):PE X (.Compare a [op,op'] [b,c] pos) (KL r r' ta tb tc):=by
 refine λB s O H Q I h=>Compare_chain (QD (F B s O H _ I h) λv L ⟨x,U,N,W,o⟩=>chain_link (QD (E B L O U _ N o) λu K ⟨y,S,J,g,n⟩=>
  QD (p B K O S x y v u _ J W g n) λd D ⟨z,m,j,P,k,e,i⟩=>?_)) q
 subst e;cases P;refine wpAny_truthy_bool ?_;cases k with
 |false=>exact ite_ff #[.bl false,m,j,rfl,i]
 |true=>exact ite_tt (chain_last<|QD (t B D O m _ j i)<|by rintro A C ⟨w,R,G,M,l⟩;exact f B C O R y w u A Q G g M l)
def Mz(E:OpR X (compareOp op) r)(f:OpR X (compareOp op') r')(N:PE X a ta)(J:PE X b tb)(G:PE X c tc)
(F:lastMarks [op,op'] [b,c]=false:=by with_unfolding_all rfl):PT X (.Compare a [op,op'] [b,c] pos) (Ub<|KL r r' ta tb tc):=by
 refine λB s O H Q I h=>isTrue_chain (QD (N B s O H _ I h) λv L ⟨x,U,I1,l,q⟩=>test_link (QD (J B L O U _ I1 q) λu K ⟨y,H2,Z,g,p⟩=>
  QD (E B K O H2 x y v u _ Z l g p) λd D ⟨z,m,j,W,k,e,i⟩=>?_)) F
 subst e;cases W;refine wpAny_truthy_bool ?_;cases k with
 |false=>
  apply At i;intro k' S t;cases S;exact ite_ff #[m,j,t]
 |true=>
  refine ite_tt (test_last<|QD (G B D O m _ j i) ?_);rintro A C ⟨w,H4,Y,P,o⟩;refine QD (f B C O H4 y w u A _ Y g P o) ?_;rintro d' s5 ⟨z2,H5,T,M,k2,rfl,n⟩;cases M;exact wpAny_truthy_bool #[H5,T,n]
def Kc(K:W.Frag)(x:V)(H:Hp)(k:Bool):Prop:=
 match x with
 |.non=>k=false
 |.bl b=>k=b
 |.int i=>k=(i != 0)
 |.str y=>y.length<=sizeLine/\k=((y.length:Int) != 0)
 |.byt y=>y.size<=sizeLine/\k=((y.size:Int) != 0)
 |.ref p=>(∃xs,SqL K H p xs/\k = !xs.isEmpty)\/(∃xs,SqT K H p xs/\k = !xs.isEmpty)\/∃a,H p=some (.dK a)/\k = !a.isEmpty
 |_=>False
def ZnV{a:Type}{kvs:List (a×V)}{vs:List (a×Value)}(r:KV kvs vs):(!vs.isEmpty) = !kvs.isEmpty:=by
 cases r<;>rfl
def FO(r:QU xs its):(!its.toArray.isEmpty) = !xs.isEmpty:=by
 cases r<;>simp
def GU:(sizeLine:Nat)<2^63:=by rw[sizeLine_eq];decide
def E6:CU X (λx H Q=>∃k,Kc X.K x H k/\Q k H):=by
 intro B s O H x v Q I f h;apply At h;intro k e q;have M:=sizeLine_eq;cases x with
 |non=>
  cases f;subst e;exact truthy_none #[H,I,q]
 |bl b=>
  cases f;have a:=e;subst e;exact wpAny_truthy_bool #[H,I,q]
 |int i=>
  obtain⟨t,rfl⟩:=f;have a:=e;subst e;exact PySem.P.truthy_int #[H,I,q]
 |str y=>
  obtain⟨t,rfl⟩:=f;obtain⟨D,rfl⟩:=e;exact PySem.P.truthy_str #[] #[H,I.tok _,q]
 |byt y=>
  obtain⟨t,rfl⟩:=f;obtain⟨D,rfl⟩:=e;exact W.truthy_bytes #[] #[H,I.tok _,q]
 |ref p=>
  cases f;have a:=e;rcases e with ⟨xs,g,rfl⟩|⟨xs,g,rfl⟩|⟨C,g,rfl⟩
  .apply aA (I.list g);intro w r j A;have c:=r.length;exact wpAny_truthy_list j.isList (by simp only[Xs];lia) #[H,I.tok _,by rw[FO r];exact q]
  .apply aA (I.tuple g);intro w r j A;have c:=r.length;exact truthy_tuple j (by simp only[Xs];lia) #[H,I.tok _,by rw[FO r];exact q]
  .apply aL (I.hok p _ g);intro A K L r m;have c:=Paired.length r;exact wpAny_truthy_dict K m #[] #[H,I.tok _,by rw[ZnV r];exact q]
 |_=>exact(e).elim
def Zr7(i:PE X a ta)(he:∀b,isTrue a X.env b=(do let v <- b;standAt a.pos;holding [v] (truthy v))):
 PT X a (λO H Q=>ta O H λx Z=>∃k,Kc X.K x Z k/\Q k Z):=by
 refine λB s O H Q I h=>isTrue_plain (QD (i B s O H _ I h) ?_) (he _);rintro v c ⟨x,U,j,f,g⟩;exact E6 B c O U x v Q j f g
def YE(r:QU [x] us):∃u,us=[u]/\QN x u:=by
 cases r with
 |cons b a=>cases a;exact#[_,rfl,b]
def BU(r:QU [x,y] us):∃u a,us=[u,a]/\QN x u/\QN y a:=by
 cases r with
 |cons g f=>
  cases f with
  |cons c b=>cases b;exact#[_,_,rfl,g,c]
def ZqY(b:X.calm=true):Va X (.builtin "max") (λxs H Q=>∃i j,xs=[.int i,.int j]/\Q (.int (if j > i then j else i)) H):=by
 intro B s O H xs f Q I r h;apply KE h;rintro i j rfl q;apply aF (BU r);rintro u c rfl⟨t,rfl⟩⟨m,rfl⟩;refine max_two_ints (I.ok.hd b) λh' g k=>#[_,H,I.kept k,?_,q]
 by_cases a:j > i
 .rw[Xe a,Xe a];exact#[_,rfl]
 .rw[Xd a,Xd a];exact#[_,rfl]
def ZpI(b:X.calm=true):Va X (.builtin "min") (λxs H Q=>∃i j,xs=[.int i,.int j]/\Q (.int (if j<i then j else i)) H):=by
 intro B s O H xs f Q I r h;apply KE h;rintro i j rfl q;apply aF (BU r);rintro u c rfl⟨t,rfl⟩⟨m,rfl⟩;refine min_two_ints (I.ok.hd b) λh' g k=>#[_,H,I.kept k,?_,q]
 by_cases a:j<i
 .rw[Xe a,Xe a];exact#[_,rfl]
 .rw[Xd a,Xd a];exact#[_,rfl]
def Zo4:Va X (.type "int") (λxs H Q=>(∃i,xs=[.int i]/\Q (.int i) H)\/∃k,xs=[.bl k]/\Q (.int (if k then 1 else 0)) H):=by
 intro B s O H xs b Q I r h;rcases h with ⟨i,rfl,q⟩|⟨k,rfl,q⟩
 .apply At (YE r);rintro u rfl⟨t,rfl⟩;exact call_int_int #[.int i,H,I,#[_,rfl],q]
 .apply At (YE r);rintro u rfl a;cases a;exact call_int_bool #[.int _,H,I.tok _,#[_,rfl],q]
end
end L2
namespace L2
structure ObjM(h:Heap)(x L C:Addr)(mA:Str->Qf):Prop where
 obj:h.get? x=some (W.instObj C L)
 ns:h.Ns1 L mA
 ne:L≠x
def LV(n:h.Ns1 L mA):∃od,h.get? L=some od/\∀b,W.lookIn b od=some (mA b):=by
 refine aM n λo es s g m j _ i=>#[o,g,λb=>?_];have e:=i b;unfold nsFind findBy at e;rw[<- Array.find?_toList]at e;unfold W.lookIn;rw[m];dsimp only;split
 .rename_i y q;rw[q]at e;exact XS some e
 .rename_i q;rw[q]at e;have a:es.toList.any (·.refKey)=false:=by
   rw[List.any_eq_false];intro y f;apply aN (j y (Array.mem_toList_iff.mp f));intro z t c;simp[DictEntry.refKey,c]
  grind
def ObjM.look(I:ObjM h x L C mA):∃od,W.InstAt h x (W.instObj C L) C (some od)/\∀b,W.lookIn b od=some (mA b):=
 let ⟨od,ho,hl⟩:=LV I.ns
 #[od,#[I.obj,rfl,rfl,ho],hl]
section
variable {hi:Qb}{x f:Addr}{mA:Str->Qf}{name:Str}{v:Value}
def E8(X:K.In s.heap)(I:ObjM s.heap x L C mA)(j:W.plainGet K C name=true)(i:W.hasDictIn K C=true)
(m:W.findIn K (.ref C) name=some none)(f:mA name=some v)(c:W.handedIn v=true)(h:Q v { s with toks:=s.toks+1 }):
 wpAny (model prog w) A (getAttr (.ref x) name expr) Q hi s:=by
 exact At I.look λy b g=>W.get_value X b (W.plainGet_of j).1 (W.findObj_own i m rfl (by rw[g,f])) c h
def OJ(X:K.In s.heap)(I:ObjM s.heap x L C mA)(c:W.plainGet K C name=true)
(v:W.findIn K (.ref C) name=some (some<|.ref f))(j:W.isFn K (.ref f)=true)(i:mA name=none)(h:Q (.ref f,[.ref x]) s):
 wpAny (model prog w) A (getMethod (.ref x) name pl) Q hi s:=by
 exact At I.look λg b m=>W.method_fn X b (W.plainGet_of c).1 (W.plainGet_of c).2 v (beq_iff_eq.mp j) (by show(W.lookIn name g).map _=some false;rw[m,i];rfl) h
def Ij(X:K.In s.heap)(I:ObjM s.heap x L C mA)
(hs:W.findIn K (.ref C) "__setattr__"=some (some<|.builtin "object.__setattr__"))(P:W.plainOver K C=true)(M:W.takerIn K C name=some none)(a:W.hasDictIn K C=true)
(hw:PySem.Within mA ns)(hsz:ns.length<=sizeLine)
(h:∀h',ObjM h' x L C (λy=>if y=name then some v else mA y)->Heap.SameBut L s.heap h'->Q () { s with heap:=h',toks:=s.toks+2 }):
 wpAny (model prog w) A (setAttr (.ref x) name v) Q hi s:=by
 refine At I.look λl c o=>W.set_plain X c hs (W.osa_open X c P M λb=>?_);apply At (W.any_some a);refine λcd d m=>Xa (Xl<|Xa<|Xa<|wpAny_loadPart I.obj<|Xa<|W.Looks.here (W.looks_clsIn X d) ?_);rw[m];exact Xl (Xa<|Xl<|Xa (wpAny_nsSet1 I.ns λh' g f=>aB (g.count (PySem.Within.cons name v hw)) λn e k i j B=>Xa (wpAny_lookBehind i (by rw[j];exact pastItsLine_dict<|X4 B<|by rw[WG];lia) (Xl (h _ #[(f.2 _<|Ne.symm I.ne).trans I.obj,g,I.ne] f)))))
def OX(X:K.In s.heap)(c:W.makesIn K C=true)
(E:W.findIn K (.ref C) "__init__"=some (some<|.ref f))(g:W.typeIn K (.ref f)=some (.type "function"))
(h:codeAny (model prog w) (A.under<|.builtin "type.__call__" #[.ref C::vs,kw]) (.call (.ref f) #[.ref (s.heap.objs.size+1)::vs,kw]) (W.InitBack (s.heap.objs.size+1) R)
  { s with heap:=(s.heap.push W.emptyDict).push (W.instObj C s.heap.objs.size) }):
 codeAny (model prog w) A (.call (.ref C) #[vs,kw]) R s:=W.make_core (W.makes_of X c) (W.looks_findIn X E) (λb=>W.bind_fn X b g) (.inl rfl) h
end
def Yk(f:Str)(v:V):List (Str×V)->List (Str×V)
 |[]=>[(f,v)]
 |(g,x)::r=>if g=f then (g,v)::r else (g,x)::Yk f v r
theorem Cj(f g:Str)(v:V):∀i:List (Str×V),(Yk f v i).lookup g=if g=f then some v else i.lookup g
 |[]=>by
  show List.lookup g [_]=_
  by_cases h:g=f
  .have b:=beq_iff_eq.mpr h;simp only[List.lookup,b,Xe h]
  .have b:=beq_eq_false_iff_ne.mpr h;simp only[List.lookup,b,Xd h]
 |(k,x)::r=>by
  rw[show Yk f v _=(if k=f then _::r else _::Yk f v r) from rfl];by_cases c:k=f
  .rw[Xe c]
   by_cases h:g=k
   .simp only[List.lookup,beq_iff_eq.mpr h,Xe<|h.trans c]
   .simp only[List.lookup,beq_eq_false_iff_ne.mpr h,Xd λe:g=f=>h<|e.trans c.symm]
  .rw[Xd c]
   by_cases h:g=k
   .simp only[List.lookup,beq_iff_eq.mpr h,Xd λe:g=f=>c<|h.symm.trans e]
   .simp only[List.lookup,beq_eq_false_iff_ne.mpr h];exact (Cj f g v r)
theorem Re(f:Str)(v:V):∀b:List (Str×V),f∈(Yk f v b).map (·.1)/\∀g,g∈b.map (·.1)->g∈(Yk f v b).map (·.1)
 |[]=>⟨by simp[Yk],λg h=>by simp at h⟩
 |(k,x)::r=>by
  obtain _:=Re f v r;rw[show Yk f v _=(if k=f then _::r else _::Yk f v r) from rfl];grind
theorem Ck(f:Str)(v:V):∀b:List (Str×V),(Yk f v b).length<=b.length+1
 |[]=>by simp[Yk]
 |(k,x)::r=>by
  have c:=Ck f v r;rw[show Yk f v _=(if k=f then _::r else _::Yk f v r) from rfl];by_cases g:k=f
  .simp_all
  .simp_all
def Vn.some_of(r:Vn (some v) o):∃u,o=some u/\QN v u:=by
 cases o with
 |none=>exact(r).elim
 |some u=>exact#[u,rfl,r]
def Vn.none_of(r:Vn none o):o=none:=by
 cases o with
 |none=>rfl
 |some u=>exact(r).elim
def Ff(r:QN v u):W.handedIn u=true:=by
 cases v with
 |non=>cases (r);rfl
 |bl b=>cases (r);rfl
 |int i=>obtain⟨t,e⟩:=(r);cases e;rfl
 |str x=>obtain⟨t,e⟩:=(r);cases e;rfl
 |byt b=>obtain⟨t,e⟩:=(r);cases e;rfl
 |flt b=>obtain⟨t,e⟩:=(r);cases e;rfl
 |ref a=>cases (r);rfl
 |ty n=>cases (r);rfl
section
variable {H:Hp}{a:Addr}{fs:List (Str×V)}
def Nv(c:HOk P w H h)(e:H a=some (.ins C L fs)):∃b,ObjM h a L C b/\(∀f,Vn (fs.lookup f)<|b f)/\PySem.Within b (fs.map (·.1))/\fs.length<=1000/\H L=some (.own a):=by
 apply JH ((c a _ e));rintro d z i g b n⟨r,q⟩
 exact#[b,#[g,n,i],r,q,z,d]
end
structure Cls(K:W.Frag)(C:Addr):Prop where
 pg:W.plainGet K C Str.empty=true
 hd:W.hasDictIn K C=true
 po:W.plainOver K C=true
 sa:W.findIn K (.ref C) "__setattr__"=some (some<|.builtin "object.__setattr__")
def Cls.get(c:Cls K C)(f:Str):W.plainGet K C f=true:=c.pg
def VL(K:W.Frag)(C:Addr)(f:Str):Prop:=W.findIn K (.ref C) f=some none
def VL.taker(n:VL K C f):W.takerIn K C f=some none:=by
 unfold W.takerIn;rw[show W.findIn K _ f=some none from n];rfl
structure Meth(K:W.Frag)(C:Addr)(m:Str)(f:Addr):Prop where
 at_:W.findIn K (.ref C) m=some (some<|.ref f)
 fn:W.isFn K (.ref f)=true
 kp:W.keepIn K (.ref f)=true
section
variable {O:St}{H:Hp}{a:Addr}{fs:List (Str×V)}{hi:Qb}
def Cb{b:Bool}(I:Qt X B O H s)(e:H a=some (.ins C L fs))(c:Cls X.K C)(n:VL X.K C f)(l:fs.lookup f=some v)
(h:∀u g,Qt X B O H g->QN v u->Q u g):wpAny (model X.prog X.w) A (getAttr (.ref a) f b) Q hi s:=by
 exact aO (Nv I.hok e) λw j r _ _ _=>At (Vn.some_of (by exact l▸(r f))) λu m i=>E8 I.kIn j (c.get f) c.hd n m (Ff i) (h u _ (I.tok _) i)
def He{g:Addr}(I:Qt X B O H s)(e:H a=some (.ins C L fs))(c:Cls X.K C)(k:Meth X.K C m g)(l:fs.lookup m=none)
(h:Q (.ref g,[.ref a]) s):wpAny (model X.prog X.w) A (getMethod (.ref a) m pl) Q hi s:=by
 apply aO (Nv I.hok e);exact λi b r _ _ _=>OJ I.kIn b (c.get m) k.at_ k.fn (Vn.none_of (by exact l▸(r m))) h
def Ca(I:Qt X B O H s)(e:H a=some (.ins C L fs))(c:Cls X.K C)(n:VL X.K C f)(l:fs.length<1000)(K:QN y u)
(h:∀v,Qt X B O (upd H a<|.ins C L<|Yk f y fs) v->Q () v):wpAny (model X.prog X.w) A (setAttr (.ref a) f u) Q hi s:=by
 apply aO (Nv I.hok e);intro k i r m _ w;have M:(fs.map (·.1)).length<=sizeLine:=by rw[Xj,sizeLine_eq];lia
 refine Ij I.kIn i c.sa c.po n.taker c.hd m M λh' j D=>h _ ?_;have W:∃o,h'.get? L=some o:=let ⟨o,_,_,e',_⟩:=j.ns;#[o,e'];refine I.write (by rw[e];exact True.intro) (.inr w) (λb q d z=>(D.2 b d).trans z) W<|#[by rw[Qs i.ne];exact w,?_,i.ne,j.obj,_,j.ns,λg=>?_,λg P=>?_]
 .have:=Ck f y fs;lia
 .rw[Cj]
  by_cases q:g=f
  .rw[Xe q,Xe q];exact K
  .simp_all
 .by_cases q:g=f
  .rw[q];exact(Re f y fs).1
  .refine(Re f y fs).2 g (m g λz=>P ?_);simp_all
def Qt.made(I:Qt X B O H s):Qt X B O (upd (upd H s.heap.objs.size<|.own<|s.heap.objs.size+1) (s.heap.objs.size+1)<|.ins C s.heap.objs.size [])
 { s with heap:=(s.heap.push W.emptyDict).push (W.instObj C s.heap.objs.size) }:=by
 have i:=by
  have:=XD (s.heap.push W.emptyDict) (o:=W.instObj C s.heap.objs.size) rfl;rwa [Jq]at this
 refine (I.laid (o:=.own (s.heap.objs.size+1)) (t':=s.toks) (λb u q=>Xg _ q) (Xm _) #[_,XD s.heap rfl]).laid (λb u q=>Xg _ q) (Nat.le_of_eq<|Jq _ _)<|#[by rw[Qs (XF (JN _)),Q8],XJ _,XF (JN _),i,λ_=>none,(Heap.Ns1.of_empty (#[W.emptyDict,(List.toArray []),_,XD s.heap rfl,rfl,(λe g=>Xv g<|by simp),λ_=>rfl])).at λo q=>Xg _ q,λ_=>True.intro,λy f=>Xv rfl f]
def Tv(a:attributeBase e f env (eval e env)=eval e env)
(h:wpAny (model prog w) A (eval e env) (λo b=>wpAny (model prog w) A (getAttr o f true) Q hi b) hi s):wpAny (model prog w) A (eval (.Attribute e f pos) env) Q hi s:=
 Attribute_any_ h (by rw[arm_eval_Attribute,a])
end
def Ve(K:W.Frag)(ta:TE)(f:Str):TE:=λO H Q=>ta O H λx U=>∃a C L b v,x=.ref a/\U a=some (.ins C L b)/\Cls K C/\VL K C f/\b.lookup f=some v/\Q v U
def SJ(K:W.Frag)(ta tv:TE)(f:Str):TS:=λg O H=>tv O H λy U=>ta O U λx c=>∃a C L b,x=.ref a/\c a=some (.ins C L b)/\Cls K C/\VL K C f/\b.length<1000/\
 g.nx O (upd c a<|.ins C L<|Yk f y b)
def SR(X:Cx)(op:Operator)(b:V->V->Hp->VK->Prop):Prop:=
 ∀(B:Qc) (s:Shared) (O:St) (H:Hp) (x y:V) (u v:Value) (Q:VK),Qt X B O H s->QN x u->QN y v->b x y H Q->wpAny (model X.prog X.w) X.A (inplaceOp op u v) (EP X B O Q) X.xe s
def Lb(K:W.Frag)(ta tv:TE)(i:V->V->Hp->VK->Prop)(f:Str):TS:=λm O H=>ta O H λx U=>∃a C L g v,x=.ref a/\U a=some (.ins C L g)/\Cls K C/\VL K C f/\g.lookup f=some v/\
 tv O U λy j=>i v y j λz h=>∃c b,h a=some (.ins C c b)/\b.length<1000/\m.nx O (upd h a<|.ins C c<|Yk f z b)
section
variable {o e value:Expr}{tpos:Pos}
def QV(he:PE X e ta)(i:attributeBase e f X.env (eval e X.env)=eval e X.env:=by rfl):PE X (.Attribute e f pos) (Ve X.K ta f):=by
 refine λB s O H Q I h=>Tv i (QD (he B s O H _ I h) ?_);rintro u D ⟨x,U,w,b,a,C,L,K,v,rfl,m,c,n,l,q⟩;obtain rfl:=b;exact Cb w m c n l λy A o g=>#[v,U,o,g,q]
def YT(m:PE X o ta)(j:PE X value tv)(hs:swapsWith value (some<|.Attribute o f pos') pos.line X.env=pure false):PS X (.Assign [.Attribute o f pos'] value pos) (SJ X.K ta tv f):=by
 refine λB s O H p I h=>plainObj_wpAny_Assign_Attribute (QD (j B s O H _ I h) ?_) hs;rintro u b ⟨y,U,K,e,q⟩;refine QD (m B b O U _ K q) ?_;rintro W P ⟨x,k,D,g,a,C,L,d,rfl,w,c,n,l,i⟩;obtain rfl:=g;exact Ca D w c n l e λM A=>#[O,_,A,i]
def F7(d:PE X o ta)(W:PE X value tv)(b:SR X op rd):PS X (.AugAssign (.Attribute o f tpos) op value pos) (Lb X.K ta tv rd f):=by
 refine λB s O H CH I h=>wpAny_AugAssign_AttributeAny (QD (d B s O H _ I h) ?_);rintro Z Y ⟨x,U,N,A,a,C,L,fs,v,rfl,r,c,n,l,q⟩;obtain rfl:=A;refine Cb N r c n l λu j J D=>QD (W B j O U _ J q) ?_;rintro g i ⟨y,Q,G,w,M⟩;refine QD (b B i O Q v y u g _ G D w M) ?_;rintro R T ⟨z,H3,F,m,t,k,e,P,K⟩;exact Ca F e c n P m λS E=>#[O,_,E,K]
def SU:V->V->Hp->VK->Prop:=λx y H Q=>∃i j,x=.int i/\y=.int j/\Q (.int<|i+j) H
def Tg:SR X .Add SU:=by
 rintro B s O H x y u v Q I c b ⟨i,j,rfl,rfl,q⟩;obtain⟨t,rfl⟩:=(c);obtain⟨e,rfl⟩:=(b);exact PyProof.Rows.iadd_int #[.int _,H,I.tok _,#[_,rfl],q]
end
end L2
namespace L2
structure Room(k:Nat)(A:Around):Prop where
 hd:A.handled=none
 dp:A.depth+3*k+5<recursionLimit
 un:A.units+16*k+200<cLine
def Room.mono(r:Room k A)(h:j<=k):Room j A:=#[r.hd,by have:=r.dp;lia,by have:=r.un;lia]
def Room.deeper(r:Room (k+1) A)(b:Env):Room k (A.deeper b):=
 #[r.hd,by have:=r.dp;show A.depth+1+3*k+5<_;lia,by have:=r.un;show A.units+3+16*k+200<_;lia]
def Zod   : (A.under<|.builtin "type.__call__" #[.ref C::us,kw]).depth=A.depth+1:=by
 first|rfl|simp[ guardIds]
def Zoa   : (A.under<|.builtin "type.__call__" #[.ref C::us,kw]).units=A.units+1:=by
 first|rfl|simp[Around.under]
def Room.make  (r:Room (k+1) A)(C:Addr)(us:Qe)(b:List (Str×Value)):Room k (A.under<|.builtin "type.__call__" #[.ref C::us,b]):=
 #[r.hd,by have:=r.dp;rw[Zod];lia,by have:=r.un;rw[Zoa];lia]
def Room.depth(r:Room k A):A.depth<recursionLimit:=by have:=r.dp;lia
def Room.units(r:Room k A):A.units+64<cLine:=by have:=r.un;lia
def QJ:TA:=λ_ H Q=>Q [] H
def QE(ta:TE)(b:TA):TA:=λO H Q=>ta O H λx U=>b O U λxs c=>Q (x::xs) c
section
variable {e:Expr}{t:TA}
def Qq:PA X [] QJ:=λ_ _ _ _ H Q I h=>Calls.spliced_nil #[[],H,I,.nil,h]
abbrev zs(X:Cx)(e:Expr)(es:List Expr):Prop:=starEach (e::es) X.env=(false,eval e X.env)::starEach es X.env
abbrev zb(X:Cx)(pos:Pos)(es:List Expr):Prop:=(backTo pos<|starEach es X.env).any (·.1)=false
def Qu(m:PE X e te)(j:PA X es t)(hs:zs X e es:=by rfl):PA X (e::es) (QE te t):=by
 intro pos B s O H Q I h;rw[hs];show wpAny _ _ (spliced ((false,eval e X.env)::backTo pos _)) _ _ s;refine Calls.spliced_cons (QD (m B s O H _ I h) ?_);rintro u b ⟨x,U,w,f,i⟩;refine QD (j pos B b O U _ w i) ?_;rintro A C ⟨xs,y,v,c,g⟩;exact#[x::xs,y,v,.cons f c,g]
def G9(t:TA):TE:=λO H Q=>t O H λxs U=>xs.length<=sizeLine/\∀p,U p=none->Q (.ref p) (upd U p<|.tup xs)
def Wc(t:TA):TE:=λO H Q=>t O H λxs U=>xs.length<=sizeLine/\∀p,U p=none->Q (.ref p) (upd U p<|.lst xs)
def Yq{x1}(h:PA X es t):PE X (.Tuple es x1 pos) (G9 t):=by
 refine λB s O H Q I i=>wpAny_Tuple_spliced (QD (h pos B s O H _ I i) ?_);rintro g c ⟨xs,U,f,r,z,q⟩;refine#[by rw[<- r.length];exact z,#[.ref c.heap.objs.size,upd U c.heap.objs.size _,f.laid (λb u e=>Xg _ e) (Xm _) ?_,rfl,q _ (f.hok.fresh (Xm _))]];exact#[z,g,r,#[_,XD _ rfl,rfl,_,rfl]]
def Zz(h:PA X es t):PE X (.List es pos) (Wc t):=by
 refine λB s O H Q I i=>wpAny_List_spliced (QD (h pos B s O H _ I i) ?_);rintro g c ⟨xs,U,f,r,z,q⟩;refine#[by rw[<- r.length];exact z,#[.ref c.heap.objs.size,upd U c.heap.objs.size _,f.laid (λb u e=>Xg _ e) (Xm _) ?_,rfl,q _ (f.hok.fresh (Xm _))]];exact#[z,g,0,r,XD _ rfl]
end
abbrev Sp:=List V->Hp->VK->XK->Prop
abbrev CXT:=List Env->Hp->Shared->XK->Qb
structure Env0(P:Program)(w:World)(K:W.Frag)(mg:Str->Qf)(base:Heap)(A:Around)(outer:List Env)(s:Shared)(H:Hp):Prop where
 frames:A.frames=some outer
 mod:Mod K mg base
 bs:∀b o,base.get? b=some o->s.heap.get? b=some o/\(H b=none\/∃xs,H b=some (.tup xs))
 bsz:base.objs.size<=s.heap.objs.size
 funs:s.heap.FunFrames base outer
 frf:∀b∈frs outer,H b=none
 hok:HOk P w H s.heap
 bare:AllBare s.gens
def CE(outer:List Env)(P:Program)(w:World)(H:Hp)(s:Shared)(Q:VK)(u:Value)(b:Shared):Prop:=
 ∃v Z,b.os=s.os/\AllBare b.gens/\Un (frs outer) [] H Z s.heap b.heap/\HOk P w Z b.heap/\QN v u/\Q v Z
def CR(f:CXT)(outer:List Env)(P:Program)(w:World)(H:Hp)(s:Shared)(Q:VK)(c:XK)(r:Result)(b:Shared):Prop:=
 match r with
 |.ok (.ret u)=>CE outer P w H s Q u b
 |.ok _=>False
 |.error e=>f outer H s c e b
structure FnOk(P:Program)(w:World)(K:W.Frag)(mg:Str->Qf)(base:Heap)(CX:CXT)(k:Nat)(f:Addr)(fd:FuncData)(ps:Qh)(sp:Sp):Prop where
 len:∀vs H Q hi,sp vs H Q hi->vs.length=ps.length
 run:∀(A:Around) (outer:List Env) (s:Shared) (H:Hp) (args:Args) (us:Qe) (vs:List V) (Q:VK) (hi:XK),Room k A->Env0 P w K mg base A outer s H->BindsTo s fd args (ps.zip us)->QU vs us->sp vs H Q hi->
  codeAny (model P w) A (.call (.ref f) args) (CR CX outer P w H s Q hi) s
def Env0.make(e:Env0 P w K mg base A outer s H)(C:Addr)(us:Qe)(b:List (Str×Value)):
 Env0 P w K mg base (A.under<|.builtin "type.__call__" #[.ref C::us,b]) outer s H:=#[by first|exact e.frames|(simpa [ pushEnvs] using e.frames),e.mod,e.bs,e.bsz,e.funs,e.frf,e.hok,e.bare]
section
variable {O:St}{H:Hp}{s':Shared}
def Qt.env0(I:Qt X B O H s):Env0 X.prog X.w X.K X.mg X.base X.A X.stack s H:=
 #[I.ok.frames,I.ok.mod,I.bs,X4 I.ok.bsz I.sz,I.stack,I.stkFree,I.hok,I.bare]
def Qt.after(I:Qt X B O H s)(h:CE X.stack X.prog X.w H s Q u s'):EP X B O Q u s':=by
 apply aP h;intro v Z m c i f r q;obtain⟨w,g,d,t,j⟩:=s';obtain rfl:=m;exact#[v,Z,I.call i f c (λb z=>Xv z<|by simp),r,q]
end
def ZS(f:Sp)(b:List V)(g:XK)(t:TA):TE:=λO H Q=>t O H λc U=>f (c++b) U Q g
def ZQ(C:Addr)(m:Str)(g:Sp)(b:List V)(h:XK)(ta:TE)(t:TA):TE:=λO H Q=>ta O H λx U=>∃a L c,x=.ref a/\U a=some (.ins C L c)/\c.lookup m=none/\
 t O U λf i=>g (x::(f++b)) i Q h
def GM(C:Addr)(f:Sp)(b:List V)(g:XK)(t:TA):TE:=λO H Q=>t O H λc U=>∀x L,U x=none->U L=none->L≠x->
 f (.ref x::(c++b)) (upd (upd U L<|.own x) x<|.ins C L []) (λv h=>v=.non/\Q (.ref x) h) g
def Vp(K:W.Frag)(fd:FuncData)(ps:Qh)(ds:Qe):Prop:=
 ∀(s:Shared) (b:Qe),K.In s.heap->(b++ds).length=ps.length->BindsTo s fd #[b,[]] (ps.zip<|b++ds)
def Vp.all(h:∀us:Qe,us.length=ps.length->bindArgs fd #[us,[]]=pure (ps.zip us)):Vp K fd ps []:=λs us _ b=>by
 rw[Xx]at b ⊢;exact .of_eq (h us b)
def Y7(f:CXT)(X:Cx)(c:XK):Prop := ∀(B:Qc) (O:St) (H:Hp) (s:Shared) (e:Value) (b:Shared),Qt X B O H s->f X.stack H s c e b->X.xe e b
section
variable {CX:CXT}{k:Nat}{f:Addr}{sp:Sp}{dvs:List V}{ds:Qe}{hi:XK}{x:Str}{p:Pos}{e o:Expr}{t:TA}
def KB{O:St}{H:Hp}{Q:VK}{us:Qe}{vs:List V}(F:FnOk X.prog X.w X.K X.mg X.base CX k f fd ps sp)(i:Room k X.A)(o:Vp X.K fd ps ds)(m:QU dvs ds)(hx:Y7 CX X hi)
(I:Qt X B O H s)(r:QU vs us)(h:sp (vs++dvs) H Q hi):wpAny (model X.prog X.w) X.A (call (.ref f) us) (EP X B O Q) X.xe s:=by
 have c:=r.append m;have j:(us++ds).length=ps.length:=by rw[<- c.length];exact F.len _ _ _ _ h
 refine wpAny_call (codeAny_mono (F.run X.A X.stack s H _ _ _ Q hi i I.env0 (o s us I.kIn j) c h) λr g b=>?_);cases r with
 |error e=>exact hx B O H s e g I b
 |ok p=>
  cases p with
  |ret u=>exact I.after b
  |next=>exact False.elim b
  |brk=>exact False.elim b
  |cont=>exact False.elim b
def TF(F:FnOk X.prog X.w X.K X.mg X.base CX k f fd ps sp)(g:Room k X.A)(m:Gl X x)(i:X.mg x=some (.ref f))(j:W.keepIn X.K (.ref f)=true)(v:Vp X.K fd ps ds)(o:QU dvs ds)(hx:Y7 CX X hi)
(w:PA X (e::es) t)(b:(x==("__debug__" : Str))=false:=by decide)(he:zs X e es:=by rfl)(hpl:zb X pos es:=by rfl):
 PE X (.Call (.Name x p) (e::es) [] pos) (ZS sp dvs hi t):=by
 refine λB s O H Q I h=>wpAny_Call_Name_kw (J7 I m i (W.callWith_K I.ok.mod.kin j (QD (w pos B s O H _ I h) ?_) he hpl) b);rintro A C ⟨y,U,c,r,q⟩;exact#[c.kIn,KB F g v o hx c r q]
def TD{y:Sem Bool}(he:PE X o ta)(c:Cls X.K C)(g:Meth X.K C m f)(F:FnOk X.prog X.w X.K X.mg X.base CX k f fd ps sp)(D:Room k X.A)(M:Vp X.K fd ps ds)(K:QU dvs ds)(hx:Y7 CX X hi)(P:PA X (e::es) t)
(b:zs X e es:=by rfl)(hpl:zb X pos es:=by rfl)
(A:eval (.Call (.Attribute o m T1) (e::es) [] pos) X.env=(do
  let ov <- eval o X.env
  standAt T1.atName
  let (f,first) <- holding [ov] (getMethod ov m y)
  callWith pos f first (backTo pos<|starEach (e::es) X.env)<|backToKw pos<|keywordEach [] X.env):=by rfl):
 PE X (.Call (.Attribute o m T1) (e::es) [] pos) (ZQ C m sp dvs hi ta t):=by
 refine λB s O H Q I h=>W.methodCall_KW (QD (he B s O H _ I h) ?_) A;rintro u p ⟨x,U,j,v,a,L,G,rfl,n,l,q⟩;obtain rfl:=v;refine He j n c g l<|W.callWith_K I.ok.mod.kin g.kp (QD (P pos B p O U _ j q) ?_) b hpl;rintro z E ⟨vs,J,i,r,w⟩;exact#[i.kIn,KB (vs:=.ref a::vs) F D M K hx i (.cons rfl r) w]
def IQ{i:Sem Bool}(he:PE X o ta)(c:Cls X.K C)(e:Meth X.K C m f)(F:FnOk X.prog X.w X.K X.mg X.base CX k f fd ps sp)(p:Room k X.A)(v:Vp X.K fd ps ds)(t:QU dvs ds)(hx:Y7 CX X hi)
(j:eval (.Call (.Attribute o m T1) [] [] pos) X.env=(do
  let ov <- eval o X.env
  standAt T1.atName
  let (f,first) <- holding [ov] (getMethod ov m i)
  callWith pos f first (backTo pos<|starEach [] X.env)<|backToKw pos<|keywordEach [] X.env):=by rfl):
 PE X (.Call (.Attribute o m T1) [] [] pos) (ZQ C m sp dvs hi ta QJ):=by
 refine λB s O H Q I h=>W.methodCall_KW (QD (he B s O H _ I h) ?_) j;rintro u A ⟨x,U,b,g,a,L,D,rfl,y,l,q⟩;obtain rfl:=g;exact He b y c e l<|W.callWith_K0 b.kIn e.kp (KB (vs:=[.ref a]) F p v t hx b (.cons rfl .nil) q)
structure Mk(K:W.Frag)(C f:Addr):Prop where
 makes:W.makesIn K C=true
 init:W.findIn K (.ref C) "__init__"=some (some<|.ref f)
 fn:W.isFn K (.ref f)=true
 kp:W.keepIn K (.ref C)=true
def LJ{O:St}{H:Hp}{Q:VK}{us:Qe}{vs:List V}(M:Mk X.K C f)(F:FnOk X.prog X.w X.K X.mg X.base CX k f fd ps sp)(p:Room (k+1) X.A)(y:Vp X.K fd ps ds)(w:QU dvs ds)
(hx:Y7 CX X hi)(I:Qt X B O H s)(r:QU vs us)
(h:∀x L,H x=none->H L=none->L≠x->sp (.ref x::(vs++dvs)) (upd (upd H L<|.own x) x<|.ins C L []) (λv P=>v=.non/\Q (.ref x) P) hi):
 wpAny (model X.prog X.w) X.A (call (.ref C) us) (EP X B O Q) X.xe s:=by
 have i:=h (s.heap.objs.size+1) s.heap.objs.size (I.hok.fresh<|Gw _) (I.hok.fresh<|Xm _) (XF<|JN _);have c:=Qt.made (C:=C) I;have g:QU (V.ref (s.heap.objs.size+1)::_) _:=.cons rfl (r.append w);have t:=by
  have e:=g.length;rw[F.len _ _ _ _ i]at e;exact e.symm
 refine wpAny_call (OX I.kIn M.makes M.init (beq_iff_eq.mp M.fn) (codeAny_mono (F.run _ X.stack _ _ _ _ _ _ hi (p.make C us [])
  (c.env0.make C us []) (y _ _ c.kIn t) g i) λr j b=>?_))
 cases r with
 |error e=>exact hx B O _ _ e j c b
 |ok A=>
  cases A with
  |ret u=>
   apply aD (c.after b);intro v Z K m D o;subst D;exact#[m,#[V.ref _,Z,K,rfl,o]]
  |next=>exact False.elim b
  |brk=>exact False.elim b
  |cont=>exact False.elim b
def IA(M:Mk X.K C f)(F:FnOk X.prog X.w X.K X.mg X.base CX k f fd ps sp)(g:Room (k+1) X.A)(j:Gl X x)(i:X.mg x=some (.ref C))(o:Vp X.K fd ps ds)(m:QU dvs ds)(hx:Y7 CX X hi)
(v:PA X (e::es) t)(b:(x==("__debug__" : Str))=false:=by decide)(he:zs X e es:=by rfl)(hpl:zb X pos es:=by rfl):
 PE X (.Call (.Name x p) (e::es) [] pos) (GM C sp dvs hi t):=by
 refine λB s O H Q I h=>wpAny_Call_Name_kw (J7 I j i (W.callWith_K I.ok.mod.kin M.kp (QD (v pos B s O H _ I h) ?_) he hpl) b);rintro y A ⟨w,U,c,r,q⟩;exact#[c.kIn,LJ M F g o m hx c r q]
def ZrQ(M:Mk X.K C f)(F:FnOk X.prog X.w X.K X.mg X.base CX k f fd ps sp)(c:Room (k+1) X.A)(g:Gl X x)(e:X.mg x=some (.ref C))(j:Vp X.K fd ps ds)(i:QU dvs ds)(hx:Y7 CX X hi)
(b:(x==("__debug__" : Str))=false:=by decide):PE X (.Call (.Name x p) [] [] pos) (GM C sp dvs hi QJ):=by
 exact λB s O H Q I h=>wpAny_Call_Name_kw (J7 I g e (W.callWith_K0 I.kIn M.kp (LJ (us:=[]) M F c j i hx I .nil h)) b)
end
structure Qo(N P:Qh)(sc:Scope):Prop where
 kind:sc.kind=.function
 co:sc.isCoroutine=false
 gen:sc.isGenerator=false
 nd:N.Nodup
 pre:N.take P.length=P
 par:∀x∈P,sc.names.lookup x=some .local\/sc.names.lookup x=some .cell
 nofree:∀y∈sc.names,y.2≠.free
theorem Fp{c:Str->Option NameKind}{x:Str}:∀{b:List (Str×Value)} {m:Str->Qf},(∀v,(x,v)∉b)->bindL c b m x=m x
 |[],_,_=>rfl
 |(n,v)::r,m,h=>by
  unfold bindL;rw[Fp λw f=>h w<|Xh _ f];split
  .have:x≠n:=by rintro rfl;exact h v Xb
   simp[this]
  .rfl
theorem FC{c:Str->Option NameKind}{x:Str}:∀{b:List (Str×Value)} {m:Str->Qf},(∀v,(x,v)∉b)->bindC c b m x=m x
 |[],_,_=>rfl
 |(n,v)::r,m,h=>by
  unfold bindC;rw[FC λw f=>h w<|Xh _ f];split
  .rfl
  .have:x≠n:=by rintro rfl;exact h v Xb
   simp[this]
theorem FI{b:Str->Option NameKind}{x:Str}{v:Value}:∀{P:Qh} {vs:Qe} {i:Nat} {m:Str->Qf},P.Nodup->P[i]?=some x->vs[i]?=some v->b x=some .local->
 bindL b (P.zip vs) m x=some v
 |[],_,_,_,_,h,_,_=>by simp at h
 |_::_,[],_,_,_,_,h,_=>by simp at h
 |p::P,w::vs,0,m,g,f,c,j=>by
  simp at f c;subst f;subst c;show bindL b (_::P.zip vs) m p=_;unfold bindL;rw[Fp λv s=>(Xu.mp g).1 (List.of_mem_zip s).1,Xe j]
  simp
 |p::P,w::vs,i+1,m,g,f,c,j=>by
  unfold bindL;exact FI (Xu.mp g).2 (by simpa using f) (by simpa using c) j
theorem F8{b:Str->Option NameKind}{x:Str}{v:Value}:∀{P:Qh} {vs:Qe} {i:Nat} {m:Str->Qf},P.Nodup->P[i]?=some x->vs[i]?=some v->b x≠some .local->
 bindC b (P.zip vs) m x=some v
 |[],_,_,_,_,h,_,_=>by simp at h
 |_::_,[],_,_,_,_,h,_=>by simp at h
 |p::P,w::vs,0,m,g,f,c,j=>by
  simp at f c;subst f;subst c;show bindC b (_::P.zip vs) m p=_;unfold bindC;rw[FC λv s=>(Xu.mp g).1 (List.of_mem_zip s).1,Xd j]
  simp
 |p::P,w::vs,i+1,m,g,f,c,j=>by
  unfold bindC;exact F8 (Xu.mp g).2 (by simpa using f) (by simpa using c) j
def start(N:Qh)(vs:List V):St:=vs.map some++List.replicate (N.length-vs.length) none
def JU(g:CXT)(P:Program)(w:World)(K:W.Frag)(mg:Str->Qf)(base:Heap)(N:Qh)(qual:Str)(scope:Scope)(f:Addr)(cd:Value)(A:Around)(outer:List Env)(s:Shared)(H:Hp)(c:XK):Cx where
 prog:=P
 w:=w
 K:=K
 mg:=mg
 base:=base
 A:=A.deeper (envOfC qual scope s.heap.objs.size f cd)
 N:=N
 s₀:=s
 H₀:=H
 env:=envOfC qual scope s.heap.objs.size f cd
 outer:=outer
 stack:=envOfC qual scope s.heap.objs.size f cd::outer
 ex:=[]
 calm:=true
 fn:=λ_=>true
 pn:=[]
 xe:=λe h=>wpAny (model P w) (A.deeper<|envOfC qual scope s.heap.objs.size f cd) (leaving (envOfC qual scope s.heap.objs.size f cd) e) (λ_ b=>g outer H s c e b) (λi b=>g outer H s c i b) h
def LG{sc:Scope}(h:sc.names.lookup x=some .cell):∃c,(cellsFrom n sc.names []).lookup x=some c:=by
 exact Option.isSome_iff_exists.mp (W.cellsFrom_some sc.names n [] (.inl h))
def ZoI{f:Addr}
(S:Qo N ps scope)(a:A.handled=none)(e0:Env0 P w K mg base A outer s H)(n:vs.length=ps.length)(r:QU vs us)
(x:InCallC s s.heap.objs.size (bindL (envOfC qual scope s.heap.objs.size f cd).kindOf (ps.zip us) λ_=>none) (cellsFrom (s.heap.objs.size+1) scope.names []) (bindC (envOfC qual scope s.heap.objs.size f cd).kindOf (ps.zip us) λ_=>none) s1):
 Qt (JU CX P w K mg base N qual scope f cd A outer s H hi) [] (start N vs) H s1:=by
 have X:ps.length<=N.length:=by have:=XS List.length S.pre;rw[Js]at this;lia
 apply KE x.done;rintro D l rfl M;have j:∀b:Addr,b∉(JU CX P w K mg base N qual scope f cd A outer s H hi).ex:=λb z=>Xv (show b∈([]) from z) (by simp)
 refine#[#[e0.mod,S.kind,rfl,rfl,Xm _,λy z c D g=>?_,λy B=>?_,λy c _ h=>?_,λ_=>a,Around.frames_deeper e0.frames,.inr #[rfl,rfl],λb z=>Xv z<|j b,e0.bs,e0.bsz,λb _ _=>j b,λb z=>Xv z<|j b,e0.funs,e0.frf],
  rfl,e0.bare,Un.kept M,#[_,x.toInCall.ns,λi y v D g o=>?_],λy c h=>#[_,x.cell y c h],e0.hok.fresh<|Xm _,λy c h=>?_,λp C=>Xv (show p∈([]) from C)<|by simp,e0.hok.kept M,?_]
 .exact name_of_addr x.apart (PySem.mem_of_lookup D) (PySem.mem_of_lookup g)
 .rcases B with B|B
  .exact LG B
  .exact Xv rfl (S.nofree _<|PySem.mem_of_lookup B)
 .exact YJ (x.above y c<|PySem.mem_of_lookup h)
 .have E:i<vs.length:=by
   unfold start at g;by_cases E:i<vs.length
   .exact E
   .rw[Gu<|by simpa using E]at g;rw[Sw]at g;split at g<;>cases g
  have d:vs[i]?=some v:=by
   unfold start at g;rw[U6<|by simpa using E]at g;simp_all
  apply At (r.get d);intro u L W;have C:ps[i]?=some y:=by
   rw[<- S.pre,List.getElem?_take_of_lt<|#[]];exact D
  have m:ps.Nodup:=by rw[<- S.pre];exact S.nd.sublist (List.take_sublist _ _)
  refine#[u,W,?_];rcases S.par y (List.mem_of_getElem? C) with k|k
  .exact .inl #[k,FI m C L k]
  .obtain⟨c,e⟩:=LG k;refine .inr #[.inl k,c,e,?_];have q:=x.cell y c e;rw[F8 m C L<|by show scope.names.lookup y≠_;rw[k];decide]at q;exact q
 .exact e0.hok.fresh (YJ<|x.above y c<|PySem.mem_of_lookup h)
 .unfold start;show _=N.length;rw[Xn,Xj,List.length_replicate];lia
def Pd{d:CXT}{base:Heap}{k:Nat}{f:Addr}{j:Str}{h:Arguments}{U kV a T g Y oc:Value}{an od:Qj}
{E:Array (Qf)}{N:Qh}{l:Sp}(lk:K.lookup f=some #[oc,od,.func<|W.fnOf j qual h body scope U kV a T an g Y,E])(J:W.codeIn K g qual=true)(S:Qo N ps scope)
(D:∀vs H Q m,l vs H Q m->vs.length=ps.length)
(O:∀(A:Around) (outer:List Env) (s:Shared) (H:Hp) (vs:List V) (Q:VK) (m:XK),Room k (A.deeper<|envOfC qual scope s.heap.objs.size f g)->l vs H Q m->
  ∃t,PSs (JU d P w K mg base N qual scope f g A outer s H m) body t/\t { nx:=λ_ Z=>Q .non Z,rt:=Q } (start N vs) H):
 FnOk P w K mg base d (k+1) f (W.fnOf j qual h body scope U kV a T an g Y) ps l:=by
 refine#[D,λA outer s H args us vs Q m G X hb r L=>?_];have KX:=X.mod.kin.keeps λb o e=>(X.bs b o e).1
 have B:∀y∈ps.zip us,scope.names.lookup y.1=some .local\/(scope.names.lookup y.1=some .cell/\((cellsFrom (s.heap.objs.size+1) scope.names []).lookup y.1).isSome=true):=λ⟨n,v⟩ hy=>by
  rcases S.par n (List.of_mem_zip hy).1 with q|q
  .exact .inl q
  .exact .inr #[q,W.cellsFrom_some _ _ _<|.inl q]
 refine codeAny_call_function G.depth (KX _ _ lk) rfl S.co S.gen rfl (W.codeRec_of KX J) (hb _ _ _ _ (wpAny_newFunctionEnv_cells S.kind B λenv he R x=>?_));subst he;refine#[(X.mod.nolimit.keeps λb o e=>(X.bs b o e).1).keeps x.toInCall.keep,codeAny_func ?_];apply At (O A outer s H vs Q m (G.deeper _) L);refine λt ht hq=>wpAny_mono (ht [] R _ H _ (ZoI S G.hd X (D _ _ _ _ L) r x) hq) (λfl p C=>?_) λe p C=>C
 have M:∀{i:St} {Z:Hp} {v:V} {u:Value},Qt (JU d P w K mg base N qual scope f g A outer s H m) [] i Z p->QN v u->Q v Z->CE outer P w H s Q u p:=
  λ{i Z v u} c z q=>#[v,Z,c.os,c.bare,c.base,c.hok,z,q]
 cases fl with
 |ret u=>
  exact aB C λv i Z c z q=>M c z q
 |next=>
  exact KE C λi Z c q=>M (v:=V.non) c rfl q
 |brk=>
  exact KE C λ_ _ _ q=>False.elim q
 |cont=>
  exact KE C λ_ _ _ q=>False.elim q
end L2
variable {sp:L2.Sp}
namespace L2
section
variable {x:Str}{p:Pos}{e:Expr}{t:TA}{id T:String}{r:List V->Hp->VK->Prop}
def tCB(r:List V->Hp->VK->Prop)(t:TA):TE:=λO H Q=>t O H λb U=>r b U Q
def Zw(y:Va X (.builtin id) r)(w:Gl X x)(v:X.mg x=none)(m:bootBuiltins x=some (.builtin id))(A:PA X (e::es) t)(hn:x ≠ "__name__" := by decide)(b:(x==("__debug__" : Str))=false:=by decide)
(he:zs X e es:=by rfl)(hpl:zb X pos es:=by rfl):PE X (.Call (.Name x p) (e::es) [] pos) (tCB r t):=by
 refine λB s O H Q I h=>wpAny_Call_Name_kw (Uk I w v m (PyProof.Rows.callWith_builtin1 (QD (A pos B s O H _ I h) ?_) he hpl) hn b);rintro f g ⟨c,U,C,i,j⟩;exact y B g O U c f Q C i j
def Wl(y:Va X (.type T) r)(w:Gl X x)(v:X.mg x=none)(m:bootBuiltins x=some (.type T))(A:PA X (e::es) t)(hn:x ≠ "__name__" := by decide)(b:(x==("__debug__" : Str))=false:=by decide)
(he:zs X e es:=by rfl)(hpl:zb X pos es:=by rfl):PE X (.Call (.Name x p) (e::es) [] pos) (tCB r t):=by
 refine λB s O H Q I h=>wpAny_Call_Name_kw (Uk I w v m (PyProof.Rows.callWith_type1 (QD (A pos B s O H _ I h) ?_) he hpl) hn b);rintro f g ⟨c,U,C,i,j⟩;exact y B g O U c f Q C i j
end
end L2
namespace HT
section
variable {hi:Qb}
def cat_tup{b:Addr}{vs ws:Qe}(M:IsTup s.heap t vs.toArray)(P:IsTup s.heap b ws.toArray)(C:vs≠[])
(X:ws=[]->Q (.ref t) s)(W:ws≠[]->Q (.ref s.heap.objs.size) { s with heap:=s.heap.push { cls:=.type "tuple",data:=.seq (vs++ws).toArray } })
(hsz:vs.length+ws.length<=sizeLine):wpAny (model prog w) A (binaryOp .Add (.ref t)<|.ref b) Q hi s:=by
 apply aQ (id M);rintro⟨cls,dd,data,y⟩m K n D;apply aQ (id P);rintro⟨L,i,v,f⟩c h B g;simp only at K D h g;subst K D h g;have e:vs.toArray++ws.toArray=(vs++ws).toArray:=by simp
 by_cases j:ws=[]
 .exact concat_meets #[_,m,rfl] #[_,c,rfl] noFill_tuple_add seq_tuple_add PySem.F.slot_tuple_add PySem.F.entry_tuple_add (PySem.F.args_tuple_add_2 _ _)
   (tuple_addW1 t b vs.toArray ws.toArray n B dd i y f (by simpa using C)<|by simp[j]) #[m,c,X j]
 .refine concat_meets #[_,m,rfl] #[_,c,rfl] noFill_tuple_add seq_tuple_add PySem.F.slot_tuple_add PySem.F.entry_tuple_add (PySem.F.args_tuple_add_2 _ _)
   (tuple_addW2 t b vs.toArray ws.toArray n B dd i y f (by simpa using C) (by simpa using j)<|hsz) #[m,c,?_]
  rw[e];exact W j
def sIx(n d:Nat):Option Int->Nat
 |none=>d
 |some v=>if v<0 then (v+(n:Int)).toNat else min v.toNat n
def sIx_nat(n d k:Nat):sIx n d (some (k:Int))=min k n:=by
 show(if (k)<0 then ((k:Int)+(n)).toNat else min (k:Int).toNat n)=min k n
 simp_all
def TX(v:Int)(n d:Nat):(if v<0 then max (v+(n:Int)) 0 else min v (n:Int))=((sIx n d (some v):Nat):Int):=by
 show(if v<0 then max _ 0 else min v<|n)=(((if v<0 then (v+(n)).toNat else min v.toNat n)))
 grind
def Zok(lo E:Option Int)(n:Nat):Builtin.Slice.sliceAdjust lo E 1 (n:Int)=(((sIx n 0 lo:Nat):Int),((sIx n n E:Nat):Int)):=by
 refine Prod.ext ?_ ?_
 .cases lo with
  |none=>rfl
  |some v=>exact TX v n 0
 .cases E with
  |none=>rfl
  |some v=>exact TX v n n
def Zov(i j:Nat):Builtin.Slice.slicePlaces (i:Int) (j:Int) 1=j-i:=by
 unfold Builtin.Slice.slicePlaces;have b:(1:Int) > 0:=#[]
 simp only[b,if_true,Int.ediv_one];split<;>lia
def FM{v:Value}(p:IsPart v o)(h:Q o s):wpAny (model prog w) A (Builtin.Slice.slicePartIndex v) Q hi s:=by
 cases p with
 |none=>exact slicePart_none h
 |int i t=>exact slicePart_int h
def Cw{lo E:Option Int}{n:Nat}{Q:Int×Int×Nat->Shared->Prop}(hs:s.heap.IsSliceOf sl vl vu .none)(g:IsPart vl lo)(f:IsPart vu E)
(h:Q (((sIx n 0 lo:Nat):Int),1,sIx n n E-sIx n 0 lo) s):wpAny (model prog w) A (Builtin.Slice.sliceApplied (.ref sl)<|pure (n:Int)) Q hi s:=by
 refine aA (id hs) λj b i c=>Xa (Xa<|WE b c (x:=vl) rfl (Xa<|WE b c (x:=vu) rfl (Xa<|WE b c (x:=.none) rfl (Xl (Xa (slicePart_none (Xa (FM g<|Xa<|FM f<|Xa<|Xl ?_))))))));show wpAny _ _ (match Builtin.Slice.sliceAdjust lo E 1 (n) with|(lo,E)=>pure (lo,_,Builtin.Slice.slicePlaces lo E 1)) _ _ s;rw[Zok lo E n];show wpAny _ _ (pure _) _ _ s;rw[Zov];exact Xl h
def ZrN(xs:Array Value)(i k:Nat):((List.range k).filterMap λ(m:Nat)=>xs[((i:Int)+(m:Int)*1).toNat]?).toArray=((xs.toList.drop i).take k).toArray:=by
 have e:(λ(m:Nat)=>xs[((i:Int)+(m)*1).toNat]?)=λm=>xs[i+m]? := by
  funext m
  have:((i:Int)+(m)*1).toNat=i+m:=#[]
  rw[this]
 rw[e];have:=pick_run xs i k;rw[List.filterMap_map]at this;have b:(_ ∘ λx=>i+x)=λm=>xs[i+m]? := rfl;rw[b]at this;rw[this]
def getItem_tuple_cut{b:Array Value}{lo E:Option Int}(f:IsTup s.heap t b)(hs:s.heap.IsSliceOf sl vl vu .none)(y:IsPart vl lo)(v:IsPart vu E)
(hw:¬(sIx b.size 0 lo=0/\sIx b.size b.size E=b.size))
(h:Q (.ref s.heap.objs.size) { s with heap:=s.heap.push { cls:=.type "tuple",data:=.seq ((b.toList.drop<|sIx b.size 0 lo).take (sIx b.size b.size E-sIx b.size 0 lo)).toArray } })
(hsz:b.size<=sizeLine):wpAny (model prog w) A (getItem (.ref t)<|.ref sl) Q hi s:=by
 have c:=by
  show((b.toList.drop<|sIx b.size 0 lo).take (sIx b.size b.size E-sIx b.size 0 lo)).toArray.size<=sizeLine
  rw[Xs,Js,BE,Array.length_toList];lia
 apply aA (id hs);intro B g j C;unfold getItem;try with_reducible refine wpAny_holding ?_
 first|refine Xa (Xl ?_)|skip
 refine Xa (wpAny_sequenceKey f.typeIs (by decide) (Xa (wpAny_callSpecial?_slot f.typeIs PyProof.Rows.slot_tuple_getitem
  (wpAny_call_entry PyProof.Rows.slot_tuple_getitem f.typeIs entry_tuple_getitem ?_<|args_tuple_getitem _ _))))
 show wpAny _ _ (Builtin.Tuple.tupleItemsOf (.ref t) >>= _) _ _ s;refine Xa (tupleItemsOf_ f (Xa (wpAny_typeOf (#[B,g,j]) (Xa (Cw hs y v ?_)))))
 have i:¬((((sIx b.size 0 lo):Int)==0&&(1:Int)==1&&(sIx b.size b.size E-sIx b.size 0 lo)==b.size)=true):=by
  lia
 show wpAny _ _ (if _=true then _ else _) _ _ s;rw[Xd i,ZrN]
 first
  |exact Xa (wpAny_newObj_type (Xl #[_,rfl,Xl h]) c)
  |exact Xa (wpAny_newObj_type (Xa<|Xl<|Xl #[_,rfl,Xl h]) c)
  |exact Xa (Xa<|wpAny_newObj_type (Xl<|Xl #[_,rfl,Xl h]) c)
  |exact Xa (Xa<|wpAny_newObj_type (Xl #[_,rfl,Xl h]) c)
end
end HT
namespace L2
abbrev TO:=St->Hp->(Option Int->Hp->Prop)->Prop
def PO(X:Cx)(e:Option Expr)(t:TO):Prop:=
 ∀(B:Qc) (s:Shared) (O:St) (H:Hp) (Q:Option Int->Hp->Prop),Qt X B O H s->t O H Q->
  wpAny (model X.prog X.w) X.A (evalPart e X.env) (λu b=>∃o Z,Qt X B O Z b/\IsPart u o/\Q o Z) X.xe s
def TR:TO:=λ_ H Q=>Q none H
def Da(t:TE):TO:=λO H Q=>t O H λx U=>∃i,x=.int i/\Q (some i) U
def Bx:∀{us:Qe},QU (ns.map V.int) us->IntsAre us ns:=by
 induction ns with
 |nil=>intro us r; cases r;exact .nil
 |cons n ns f=>
  intro us r;cases r with
  |cons c b=>
   obtain⟨t,rfl⟩:=c;exact .cons n t (f b)
section
variable {e:Expr}{lo E:Option Expr}{tl th:TO}{p2:Pos}
def Bb:PO X none TR:=by
 exact λB s O H Q I h=>Xl #[none,H,I,.none,h]
def Jd(h:PE X e te):PO X (some e) (Da te):=by
 refine λB s O H Q I f=>QD (h B s O H _ I f) ?_;rintro u j ⟨x,U,g,b,c⟩;apply At c;rintro i rfl q;obtain⟨t,rfl⟩:=b;exact#[some i,U,g,.int i t,q]
def SlR(X:Cx)(r:V->Option Int->Option Int->Hp->VK->Prop):Prop:=
 ∀(B:Qc) (s:Shared) (O:St) (H:Hp) (x:V) (v c b:Value) (lo E:Option Int) (e:Addr) (Q:VK),Qt X B O H s->QN x v->s.heap.IsSliceOf e c b .none->IsPart c lo->IsPart b E->r x lo E H Q->
  ∃T f,typeLookup (.type T) "__getitem__"=pure (some<|.builtin f)/\s.TypeIs v T/\wpAny (model X.prog X.w) X.A (getItem v<|.ref e) (EP X B O Q) X.xe s
def tSl(r:V->Option Int->Option Int->Hp->VK->Prop)(te:TE)(tl th:TO):TE:=λO H Q=>te O H λx U=>tl O U λl c=>th O c λu b=>r x l u b Q
def Ux(P:SlR X r)(he:PE X e te)(W:PO X lo tl)(L:PO X E th):PE X (.Subscript e (.Slice lo E none p2) pos) (tSl r te tl th):=by
 refine λB s O H Q I h=>Subscript_ (QD (he B s O H _ I h) ?_);rintro v m ⟨x,U,o,w,C⟩;refine wpAny_Slice (QD (W B m O U _ o C) ?_);rintro g j ⟨l,p,n,K,A⟩;refine QD (L B j O p _ n A) ?_;rintro f c ⟨u,i,k,D,y⟩;exact Xl<|aF (P B { c with heap:=c.heap.push { cls:=.type "slice",data:=.fields (List.toArray [g,f,.none]) } } O i x v g f l u c.heap.objs.size Q (k.kept λb t q=>Xg _ q) w (Heap.IsSliceOf.new ..) K D y) λT z hT M a=>tail_any M hT a (by with_unfolding_all rfl)
def JT(xs:List V)(lo E:Option Int):List V:=(xs.drop<|HT.sIx xs.length 0 lo).take (HT.sIx xs.length xs.length E-HT.sIx xs.length 0 lo)
def FR(xs:List V)(lo E:Option Int):(JT xs lo E).length<=xs.length:=by
 unfold JT;rw[Js,BE];lia
def CN(K:W.Frag):V->Option Int->Option Int->Hp->VK->Prop:=λx lo E H Q=>∃a xs,x=.ref a/\SqT K H a xs/\
 ¬(HT.sIx xs.length 0 lo=0/\HT.sIx xs.length xs.length E=xs.length)/\∀p,H p=none->Q (.ref p) (upd H p<|.tup<|JT xs lo E)
def AU:SlR X (CN X.K):=by
 intro B s O H x v D C lo E K Q I i A m j h;apply aD h;rintro a xs rfl w y q;cases i;apply aA (I.tuple w);intro e r g f;have c:e.toArray.size=xs.length:=by rw[Xs];exact r.length.symm
 refine#["tuple",_,PyProof.Rows.slot_tuple_getitem.lookup,g.typeIs,HT.getItem_tuple_cut g A m j (by exact c▸y) ?_ (by exact c▸f)];rw[c];refine#[.ref s.heap.objs.size,_,I.laid (λb L q=>Xg _ q) (Xm _) ?_,rfl,q _<|I.hok.fresh<|Xm _];exact#[X4 (FR xs lo E) f,_,(r.drop _).take _,IsTup.new _ _]
def Au(K:W.Frag):R2:=λx y H Q=>∃a b xs ys,x=.ref a/\y=.ref b/\SqT K H a xs/\SqT K H b ys/\xs≠[]/\xs.length+ys.length<=sizeLine/\
 (ys=[]->Q (.ref a) H)/\(ys≠[]->∀p,H p=none->Q (.ref p) (upd H p<|.tup<|xs++ys))
def QU.nil_iff(r:QU xs us):us=[]↔xs=[]:=by
 cases r with
 |nil=>simp
 |cons _ _=>simp
def Ei:OpR X (binaryOp .Add) (Au X.K):=by
 intro B s O H x y v u Q I j i h;apply aR h;rintro a b xs ys rfl rfl L K⟨E,g,A,m⟩;cases j;cases i;refine aA (I.tuple L) λD e C _=>aA (I.tuple K) λf c p2 _=>HT.cat_tup C p2 (λz=>E<|e.nil_iff.mp z) (λz=>#[.ref a,H,I,rfl,A<|c.nil_iff.mp z]) (λz=>#[.ref s.heap.objs.size,_,I.laid (λb M q=>Xg _ q) (Xm _) ?_,rfl,m (λw=>z<|c.nil_iff.mpr w) _<|I.hok.fresh<|Xm _]) (by rw[<- e.length,<- c.length];exact g);exact#[by rw[Xn];exact g,_,e.append c,IsTup.new _ _]
end
end L2
namespace L2
def ixN(n:Nat)(i:Int):Option Nat:=if 0<=i then (if i<n then some i.toNat else none) else if -(n:Int)<=i then some (i+n).toNat else none
def atI{b:Type}(xs:List b)(i:Int):Option b:=(ixN xs.length i).bind λj=>xs[j]?
def Lg{i:Int}(h:ixN n i=some j):seqIndex? i n=some j/\j<n /\ -(n:Int)<=i/\i<n:=by
 unfold ixN at h;by_cases c:0<=i
 .rw[Xe c]at h
  by_cases b:i<n
  .rw[Xe b]at h;exact#[by rw[seqIndex_of c b,Option.some.inj h],#[],#[],b]
  .simp_all
 .rw[Xd c]at h
  by_cases b : -(n)<=i
  .rw[Xe b]at h;exact#[by rw[seqIndex_neg #[] b,Option.some.inj h],#[],b,#[]]
  .simp_all
def KY{b:Type}{xs:List b}{i:Int}{v:b}(h:atI xs i=some v):∃j,seqIndex? i xs.length=some j/\xs[j]?=some v/\j<xs.length /\ -(xs.length:Int)<=i/\i<xs.length:=by
 unfold atI at h;cases e:ixN xs.length i with
 |none=>rw[e]at h;cases h
 |some j=>
  rw[e]at h;exact aJ (Lg e) λm g f c=>#[j,m,h,g,f,c]
def VM{b:Type}{xs:List b}{v:b}(h:xs[j]?=some v):atI xs (j:Int)=some v:=by
 have c:=(Xc.mp h).1;have e:ixN xs.length (j)=some j:=by
  unfold ixN;simp_all
 unfold atI;exact e▸h
def Ey(b:Expr):Prop := ∀o i,subscripted b false o i=operate [o,i] (getItem o i)
def IxR(X:Cx)(r:R2):Prop:=
 ∀(c b:Expr) (B:Qc) (s:Shared) (O:St) (H:Hp) (x y:V) (v u:Value) (Q:VK),Qt X B O H s->QN x v->QN y u->r x y H Q->
  subscripted b false v u=operate [v,u] (getItem v u)->wpAny (model X.prog X.w) X.A (subscriptTail c b v u) (EP X B O Q) X.xe s
def MtR(X:Cx)(c:String)(r:V->List V->Hp->VK->Prop):Prop:=
 ∀(B:Qc) (s:Shared) (O:St) (H:Hp) (x:V) (xs:List V) (v:Value) (b:Qe) (Q:VK),Qt X B O H s->QN x v->QU xs b->r x xs H Q->
  wpAny (model X.prog X.w) X.A (call (.builtin c) (v::b)) (EP X B O Q) X.xe s
section
variable {a:Expr}{tb:TE}
def IxR.or(h:IxR X r)(h':IxR X r'):IxR X (λx y H Q=>r x y H Q\/r' x y H Q):=by
 intro a b B s O H x y v u Q I f c q g;rcases q with q|q
 .exact h a b B s O H x y v u Q I f c q g
 .exact h' a b B s O H x y v u Q I f c q g
def Q9(i:IxR X r)(m:PE X a ta)(j:PE X b tb)(hs:Ey b:=by exact λ_ _=>rfl):PE X (.Subscript a b pos) (tOp r ta tb):=by
 exact λB s O H Q I h=>Subscript_ (HZ m j I h λv u c x y A w g f q=>i a b B c O A x y v u Q w g f q<|hs _ _)
def SY(K:W.Frag):R2:=λx y H Q=>∃p xs i v,x=.ref p/\y=.int i/\SqL K H p xs/\atI xs i=some v/\Q v H
def SH(K:W.Frag):R2:=λx y H Q=>∃p xs i v,x=.ref p/\y=.int i/\SqT K H p xs/\atI xs i=some v/\Q v H
def SL:R2:=λx y H Q=>∃z i c,x=.str z/\y=.int i/\z.length<=sizeLine/\atI z.cps.toList i=some c/\Q (.str #[(List.toArray [c])]) H
def Eo:IxR X (SY X.K):=by
 intro c f B s O H x y v u Q I P M h D;apply aR h;rintro p xs i z rfl rfl W e q;cases P;obtain⟨t,rfl⟩:=M;refine aA (I.list W) λA r m o=>aO (KY e) λj b n F l k=>At (r.get n) λw L g=>?_;have d:=r.length;have E:=GU
 by_cases K:0<=i
 .have C:=by
   rw[seqIndex_of K k]at b;exact Option.some.inj b
  exact item_listR m.isList K #[] (by rw[C];simpa using L) (#[z,H,I,g,q]) D
 .have C:(i+(A.toArray.size)).toNat=j:=by
   rw[seqIndex_neg #[] l]at b;rw[Xs,<- d];exact Option.some.inj b
  exact subscriptTail_builtinR m.isList.typeIs slot_list_getitem.lookup
   (wpAny_getItem_list_neg m.isList #[] (by rw[Xs]<;>lia) #[] (by rw[C];simpa using L) #[rfl,#[z,H,I,g,q]]) D
def AY:IxR X (SH X.K):=by
 intro a b B s O H x y v u Q I A m h D;apply aR h;rintro p xs i z rfl rfl K M q;cases A;obtain⟨t,rfl⟩:=m;refine aA (I.tuple K) λC r g e=>aO (KY M) λj W P o n l=>At (r.get P) λw d c=>?_;have k:=GU
 exact subscriptTail_builtinR g.typeIs slot_tuple_getitem.lookup
  (getItem_tuple g #[] #[] (by rw[Xs,<- r.length];exact W) (by simpa using d) #[rfl,#[z,H,I,c,q]]) D
def AK:IxR X SL:=by
 intro a b B s O H x y v u Q I m g h w;apply aM h;rintro z i c rfl rfl d C q;obtain⟨t,rfl⟩:=m;obtain⟨W,rfl⟩:=g;apply aO (KY C);intro j f L k K D;have A:z.cps.toList.length=z.length:=by simp[Str.length]
 rw[A]at f K D;have e:=GU;exact tail_any (typeIs_str s z t) slot_str_getitem.lookup (getItem_str (by
  rw[Xt #[],Xt #[],Bool.or_false]) (by rw[f];simpa using L) #[.str _,H,I.tok _,#[_,rfl],q]) w
def rIx(K:W.Frag):R2:=λx y H Q=>SY K x y H Q\/SH K x y H Q\/SL x y H Q
def QA:IxR X (rIx X.K):=Eo.or (AY.or AK)
def ZnX(a:Qe)(n j:Nat)(u:Value):Obj.mapSeq (·.setIfInBounds j u) { cls:=.type "list",data:=.seq a.toArray n }={ cls:=.type "list",data:=.seq (a.set j u).toArray n }:=by
 simp[Obj.mapSeq]
def Qt.lst{O:St}{H:Hp}{p:Addr}(I:Qt X B O H s)(h:H p=some (.lst xs)):
 ∃(a:Qe) (n:Nat),QU xs a/\s.heap.get? p=some { cls:=.type "list",data:=.seq a.toArray n }/\xs.length<=sizeLine:=by
 exact By (I.hok p _ h) λz a n r e=>#[a,n,r,e,z]
def Qt.lstUpd{O:St}{H:Hp}{p:Addr}{c a:Qe}{n g:Nat}{f:Obj->Obj}(I:Qt X B O H s)(h:H p=some (.lst xs))
(j:s.heap.get? p=some { cls:=.type "list",data:=.seq c.toArray n })(i:f { cls:=.type "list",data:=.seq c.toArray n }={ cls:=.type "list",data:=.seq a.toArray g })(r:QU ys a)(hz:ys.length<=sizeLine)(t:Nat):
 Qt X B O (upd H p<|.lst ys) { s with heap:=s.heap.update p f,toks:=t }:=by
 have e:(s.heap.update p f).get? p=some { cls:=.type "list",data:=.seq a.toArray g }:=by
  rw[Jt f j<|by rw[i]<;>rfl,i]
 exact I.write (by rw[h];trivial) (.inl rfl) (λb u m q=>(XT _ _<|Ne.symm m).trans q) #[_,e]<|#[hz,a,g,r,e]
def Uf:V->V->V->Hp->(Hp->Prop)->Prop:=λo i v H Q=>∃p xs k j,o=.ref p/\i=.int k/\H p=some (.lst xs)/\ixN xs.length k=some j/\Q (upd H p<|.lst<|xs.set j v)
def VU:Kb X Uf:=by
 intro B s O H o i v d e u Q I K L D h;apply aR h;rintro p xs k j rfl rfl m P q;cases K;obtain⟨t,rfl⟩:=L;refine aF (I.lst m) λa n r c M=>aJ (Lg P) λb x y w=>?_;have f:=r.length;have l:=GU;have C:=
  I.lstUpd m c (ZnX a n j u) (r.set D j) (by rw[X7];exact M) s.toks
 by_cases A:0<=k
 .have g:=by
   rw[seqIndex_of A w]at b;exact Option.some.inj b
  exact W.ki_setAt c A #[] (by rw[Xs,<- f];exact w) (by rw[g];exact#[_,C,q])
 .have g:(k+(a.toArray.size)).toNat=j:=by
   rw[seqIndex_neg #[] y]at b;rw[Xs,<- f];exact Option.some.inj b
  exact W.ki_setBack c #[] (by rw[Xs,<- f];exact y) #[] (by rw[g];exact#[_,C,q])
def Zlk(lo E:Option Int)(n:Nat):(sliceBounds lo E none n).1=((HT.sIx n 0 lo:Nat):Int)/\(sliceBounds lo E none n).2.1=((HT.sIx n n E:Nat):Int)/\(sliceBounds lo E none n).2.2=1:=by
 refine#[?_,?_,rfl]
 .cases lo with
  |none=>simp[sliceBounds,HT.sIx]
  |some i=>
   simp only[sliceBounds,HT.sIx,Option.getD_none,show(1:Int) > 0 by decide,if_true]
   by_cases h:i<0
   .simp only[h,if_true]<;>lia
   .simp only[h,if_false]<;>lia
 .cases E with
  |none=>simp[sliceBounds,HT.sIx]
  |some i=>
   simp only[sliceBounds,HT.sIx,Option.getD_none,show(1:Int) > 0 by decide,if_true]
   by_cases h:i<0
   .simp only[h,if_true]<;>lia
   .simp only[h,if_false]<;>lia
def Zjr(a:Qe)(lo E:Option Int):slicePick a.toArray lo E none=((a.drop<|HT.sIx a.length 0 lo).take (HT.sIx a.length a.length E-HT.sIx a.length 0 lo)).toArray:=by
 apply I0 (Zlk lo E a.toArray.size);intro f c b;unfold slicePick;rw[f,c,b];simp only[sliceRange_one,pick_run,Xs]<;>rfl
def HV(K:W.Frag):V->Option Int->Option Int->Hp->VK->Prop:=λx b E H Q=>∃a xs,x=.ref a/\SqL K H a xs/\∀p,H p=none->Q (.ref p) (upd H p<|.lst<|JT xs b E)
def T6:SlR X (HV X.K):=by
 intro B s O H x v K D f E L Q I i C m j h;apply aF h;rintro a xs rfl A q;cases i;apply aA (I.list A);intro w r g y;have c:=r.length;refine#["list",_,slot_list_getitem.lookup,g.isList.typeIs,wpAny_getItem_list_slice g.isList C m j .none (by simp) ?_ (by rw[Xs]<;>lia)];rw[Zjr,<- c];exact#[.ref s.heap.objs.size,_,I.laid (t':=s.toks) (o:=.lst (JT xs f E)) (λb M q=>Xg _ q) (Xm _) (#[X4 (FR xs f E) y,_,0,(r.drop<|HT.sIx xs.length 0 f).take (HT.sIx xs.length xs.length E-HT.sIx xs.length 0 f),XD _ rfl]),rfl,q _<|I.hok.fresh<|Xm _]
def Ua:V->Bool
 |.non=>true
 |.bl _=>true
 |.int _=>true
 |.str _=>true
 |_=>false
def eqV:V->V->Bool
 |.non,.non=>true
 |.bl a,.bl b=>a==b
 |.bl a,.int b=>(if a then 1 else 0)==b
 |.int a,.bl b=>a==(if b then 1 else 0)
 |.int a,.int b=>a==b
 |.str a,.str b=>a==b
 |_,_=>false
def AO{v:Value}(f:QN y u)(rx:QN x v)(h:Ua y=true)(g:Ua x=true):SeqAt.EqAt A s u v (eqV y x):=by
 cases y with
 |non=>
  cases f;cases x with
  |non=>cases rx;exact SeqAt.EqAt.same _
  |bl b=>cases rx;exact SeqAt.EqAt.none_bool b
  |int b=>obtain⟨t,rfl⟩:=rx;exact SeqAt.EqAt.none_int b t
  |str b=>obtain⟨t,rfl⟩:=rx;exact SeqAt.EqAt.none_str b t
  |_=>exact Xv (show false=true from g) Xw
 |bl a=>
  cases f;cases x with
  |non=>cases rx;exact SeqAt.EqAt.bool_none a
  |bl b=>cases rx;exact SeqAt.EqAt.bool_bool a b
  |int b=>obtain⟨t,rfl⟩:=rx;exact SeqAt.EqAt.bool_int a b t
  |str b=>obtain⟨t,rfl⟩:=rx;exact SeqAt.EqAt.bool_str a b t
  |_=>exact Xv (show false=true from g) Xw
 |int a=>
  obtain⟨c,rfl⟩:=f;cases x with
  |non=>cases rx;exact SeqAt.EqAt.int_none a c
  |bl b=>cases rx;exact SeqAt.EqAt.int_bool a c b
  |int b=>obtain⟨t,rfl⟩:=rx;exact SeqAt.EqAt.int_int a c b t
  |str b=>obtain⟨t,rfl⟩:=rx;exact SeqAt.EqAt.int_str a c b t
  |_=>exact Xv (show false=true from g) Xw
 |str a=>
  obtain⟨c,rfl⟩:=f;cases x with
  |non=>cases rx;exact SeqAt.EqAt.str_none a c
  |bl b=>cases rx;exact SeqAt.EqAt.str_bool a c b
  |int b=>obtain⟨t,rfl⟩:=rx;exact SeqAt.EqAt.str_int a c b t
  |str b=>obtain⟨t,rfl⟩:=rx;exact SeqAt.EqAt.str_str a c b t
  |_=>exact Xv (show false=true from g) Xw
 |_=>exact Xv (show false=true from h) Xw
def eqU(x:V)(u:Value):Bool:=match u with
 |.none=>eqV .non x
 |.bool b=>eqV (.bl b) x
 |.int i _=>eqV (.int i) x
 |.str z _=>eqV (.str z) x
 |_=>false
def Ta(r:QN y u)(f:Ua y=true):eqU x u=eqV y x:=by
 cases y with
 |non=>cases r;rfl
 |bl b=>cases r;rfl
 |int i=>obtain⟨t,rfl⟩:=r;rfl
 |str z=>obtain⟨t,rfl⟩:=r;rfl
 |_=>exact Xv (show false=true from f) Xw
theorem Nq{x:V}:∀{xs:List V} {us:Qe},QU xs us->xs.all Ua=true->us.any (eqU x)=xs.any λy=>eqV y x
 |_,_,.nil,_=>rfl
 |y::xs,u::us,.cons r t,f=>by
  rw[List.all_cons,Wo]at f;rw[MJ,MJ,Ta r f.1,Nq t f.2]
theorem NE{A:Around}{s:Shared}{x:V}{v:Value}(rx:QN x v)(b:Ua x=true):∀{xs:List V} {us:Qe},QU xs us->xs.all Ua=true->∀u∈us,SeqAt.EqAt A s u v (eqU x u)
 |_,_,.nil,_=>λu a=>by cases a
 |y::xs,u::us,.cons r t,f=>λc a=>by
  rw[List.all_cons,Wo]at f;rcases Xf.mp a with rfl|a
  .rw[Ta r f.1];exact AO r rx f.1 b
  .exact NE rx b t f.2 c a
def inV(x:V)(xs:List V):Bool:=xs.any λy=>eqV y x
def rIn(K:W.Frag)(neg:Bool):R2:=λx y H Q=>∃p xs,y=.ref p/\(SqL K H p xs\/SqT K H p xs)/\Ua x=true/\xs.all Ua=true/\Q (.bl (if neg then !inV x xs else inV x xs)) H
def ZpU:OpR X (compareOp .In) (rIn X.K false):=by
 intro B s O H x y v u Q I i m h;apply aT h;rintro p xs rfl b j c q;cases m;rcases b with b|b
 .refine aA (I.list b) λa r f A=>SeqAt.in_listAt (eqU x) f.isList (λw g=>NE i j r c w<|by simpa using g) #[.bl _,H,I,rfl,?_];rw[show a.toArray.any (eqU x)=a.any (eqU x) by simp,Nq r c];exact q
 .refine aA (I.tuple b) λa r f A=>SeqAt.in_tupleAt (eqU x) f (λw g=>NE i j r c w<|by simpa using g) #[.bl _,H,I,rfl,?_];rw[show a.toArray.any (eqU x)=a.any (eqU x) by simp,Nq r c];exact q
def Zlc:Va X (.builtin "len") (λxs H Q=>∃p ys,xs=[.ref p]/\(SqL X.K H p ys\/SqT X.K H p ys)/\Q (.int ys.length) H):=by
 intro B s O H xs m Q I r h;apply aF h;rintro p ys rfl b q;apply At (YE r);rintro u rfl i;cases i;have v:=GU;rcases b with b|b
 .apply aA (I.list b);intro g c f j;have a:=c.length;exact Calls.call_len_list f.isList (by simp only[Xs]<;>lia) #[.int ys.length,H,I.tok _,#[s.toks+1,by rw[Xs,a]],q]
 .apply aA (I.tuple b);intro g c f j;have a:=c.length;exact len_tuple f (by simp only[Xs]<;>lia) #[.int ys.length,H,I.tok _,#[s.toks+1,by rw[Xs,a]],q]
def Zk9:Va X (.type "list") (λxs H Q=>∃p ys,xs=[.ref p]/\(SqL X.K H p ys\/SqT X.K H p ys)/\∀l,H l=none->Q (.ref l) (upd H l<|.lst ys)):=by
 intro B s O H xs D Q I r h;apply aF h;rintro p ys rfl i q;apply At (YE r);rintro u rfl C;cases C;have m:∀a,QU ys a->ys.length<=sizeLine->∀h' (c),_->
  h'.get? s.heap.objs.size=some { cls:=.type "list",dict:=none,data:=.seq a.toArray c,slots := (List.toArray []) }->EP X B O Q _ { s with heap:=h' }:=λa b g h' c f e=>
  #[.ref s.heap.objs.size,_,I.laid f (Xm _) (show ZZ X.prog X.w _ h' _ (.lst ys) from#[g,a,c,b,e]),rfl,q _<|I.hok.fresh<|Xm _]
 rcases i with i|i
 .apply aA (I.list i);intro a b v g;have j:=b.length;exact aQ v.isList λo w A n y=>call_list_seq p (.inl rfl) w A y (λh' c f e=>m a b g h' c f e) (by simp only[Xs]<;>lia)
 .apply aA (I.tuple i);intro a b v g;have j:=b.length;exact aQ v λo w A n y=>call_list_seq p (.inr rfl) w A y (λh' c f e=>m a b g h' c f e) (by simp only[Xs]<;>lia)
def Zjt:Va X (.type "tuple") (λxs H Q=>∃p ys,xs=[.ref p]/\((SqL X.K H p ys/\∀l,H l=none->Q (.ref l) (upd H l<|.tup ys))\/(SqT X.K H p ys/\Q (.ref p) H))):=by
 intro B s O H xs A Q I r h;apply KE h;rintro p ys rfl h;apply At (YE r);rintro u rfl v;cases v;rcases h with ⟨g,q⟩|⟨g,q⟩
 .apply aA (I.list g);intro a c f i;have j:=c.length;refine call_tuple_list f.isList (λh' w=>?_) (by simp only[Xs]<;>lia);have m:=I.kept (t':=s.toks) w;have y:=
   m.laid (t':=s.toks) (λb o e=>Xg _ e) (Xm _) (show ZZ X.prog X.w _ _ _ (.tup ys) from#[i,a,c,IsTup.new _ _])
  exact#[.ref h'.objs.size,_,y,rfl,q _<|m.hok.fresh<|Xm _]
 .exact aA (I.tuple g) λa c f i=>call_tuple_same f #[.ref p,H,I,rfl,q]
def tyV(K:W.Frag)(T:String)(x:V)(H:Hp):Prop:=match x with
 |.str _=>T = "str"
 |.int _=>T = "int"
 | .ref p=>(T = "list" /\ ∃xs,SqL K H p xs)\/(T = "tuple" /\ ∃o,K.lookup p=some o/\o.cls=.type "tuple" /\ o.dict=none) \/
  (T = "dict" /\ ((∃a,H p=some (.dK a))\/∃a,H p=some (.dT a)))\/(T = "set" /\ ∃S n,H p=some (.set S n))
 |_=>False
def A7{O:St}{H:Hp}{T:String}{x:V}{v:Value}(I:Qt X B O H s)(r:QN x v)(g:tyV X.K T x H):
 s.TypeIs v T/\∀a,v=.ref a->∃y,s.heap.get? a=some y/\y.dict=none:=by
 cases x with
 |str z=>
  obtain⟨t,rfl⟩:=r;cases (g);exact#[typeIs_str s z t,by rintro _ ⟨⟩]
 |int i=>
  obtain⟨t,rfl⟩:=r;cases (g);exact#[typeIs_int s i t,by rintro _ ⟨⟩]
 |ref p=>
  cases r;rcases g with ⟨rfl,xs,C⟩|⟨rfl,o,b,D,j⟩|⟨rfl,b⟩|⟨rfl,S,n,b⟩
  .refine aA (I.list C) λA _ w _=>#[w.isList.typeIs,λa e=>?_];cases e;exact aD w λo n e c j _=>#[o,e,j]
  .refine#[#[o,I.kIn p o b,D],λa e=>?_];cases e;exact#[o,I.kIn _ o b,j]
  .have z:∃o,s.heap.get? p=some o/\o.ExactDict:=by
    rcases b with ⟨h,b⟩|⟨h,b⟩
    .apply FB (I.hok p _ b);rintro _ _ _ _ o _ _ e⟨f,_⟩;exact#[o,e,f]
    .apply FB (I.hok p _ b);rintro _ _ _ _ o _ _ e⟨f,_⟩;exact#[o,e,f]
   refine At z λo e f=>#[#[o,e,f.1],λa m=>?_];cases m;exact#[o,e,f.2.1]
  .apply Gr (I.hok p _ b);rintro o _ _⟨_,e,f,_⟩;refine#[#[o,e,f.1],λa m=>?_];cases m;exact#[o,e,f.2.1]
 |_=>exact False.elim g
def tBM(K:W.Frag)(T:String)(r:V->List V->Hp->VK->Prop)(a:TE)(t:TA):TE:=λO H Q=>a O H λx U=>tyV K T x U/\t O U λxs b=>r x xs b Q
variable {o e:Expr}{to:TE}{t:TA}{name:Str}{T id:String}{r:V->List V->Hp->VK->Prop}
def V1(W:PlainAttrs T)(f:Slot T name id)(i:typeOf (.builtin id)=pure (.type "method_descriptor"))(k:MtR X id r)(d:PE X o to)(l:PA X (e::es) t)
(c:attributeBase o name X.env (eval o X.env)=eval o X.env:=by rfl)
(g:((backTo L3<|starEach (e::es) X.env).all (λx => !x.1)&&(backToKw L3<|keywordEach [] X.env).all (λx=>x.1.isSome)
  && decide ((e::es).length+([]:List Keyword).length+(if ([]:List Keyword).isEmpty then 0 else 1)<30))=true:=by rfl)
(b:(T1.endLine==L3.line)=true:=by rfl)(hs:zs X e es:=by rfl)(a:(backTo L3<|starEach es X.env).any (·.1)=false:=by rfl):
 PE X (.Call (.Attribute o name T1) (e::es) [] L3) (tBM X.K T r to t):=by
 refine λB s O H Q I h=>wpAny_Call_method_late c g b rfl (QD (d B s O H _ I h) ?_);rintro v K ⟨x,U,w,j,C,P⟩;obtain⟨p,n⟩:=A7 w j C;refine#[T,id,W,f,i,p,n,?_];have m:=l L3 B K O U _ w P;rw[hs]at m ⊢;refine Calls.callWith_builtin (by show(false||(backTo L3 _).any _)=false;rw[a]<;>rfl) (Calls.evalArgs_plain (QD m ?_));rintro A D ⟨y,u,q,L,M⟩;exact k B D O u x y v A Q q j L M
end
end L2
namespace L2
def MtM(X:Cx)(c:String)(r:V->List V->Hp->VK->Prop):Prop:=
 ∀(B:Qc) (s:Shared) (O:St) (H:Hp) (x:V) (xs:List V) (v:Value) (b:Qe) (Q:VK),Qt X B O H s->QN x v->QU xs b->r x xs H Q->
  wpAny (model X.prog X.w) X.A (call (.builtin c) (v::b)) (EP X B O Q) X.xe s
theorem QU.one:∀{x:V} {us:Qe},QU [x] us->∃u,us=[u]/\QN x u
 |_,_,.cons r .nil=>⟨_,rfl,r⟩
theorem QU.rep{xs:List V}{us:Qe}(h:QU xs us):∀k:Nat,QU (List.replicate k xs).flatten (List.replicate k us).flatten
 |0=>.nil
 |k+1=>QU.append h (QU.rep h k)
theorem LX(b:Qe):∀(k:Nat) (c:Qe),
 List.foldl (λg f=>g++f) c.toArray (List.replicate k b.toArray)=(c++(List.replicate k b).flatten).toArray
 |0,c=>by simp
 |k+1,c=>by
  have e:c.toArray++b.toArray=(c++b).toArray:=by simp
  have h:(c++b)++(List.replicate k b).flatten=c++(List.replicate (k+1) b).flatten:=by
   rw[HF,List.flatten_cons,BG]
  rw[<- h,<- LX b k _,<- e,HF,List.foldl_cons]
section
variable {O:St}{H:Hp}{l:Addr}
def Qt.lset{b:Qe}{f:Array Value->Array Value}(I:Qt X B O H s)(j:H l=some (.lst xs))
(e:s.heap.get? l=some { cls:=.type "list",data:=.seq b.toArray n })(h:f b.toArray=its'.toArray)(c:QU ys its')(hz:ys.length<=sizeLine):
 Qt X B O (upd H l<|.lst ys) { s with heap:=s.heap.update l (Obj.mapSeq f),toks:=t' }:=by
 have q:=PySem.IsL.update e f;rw[h]at q;exact I.write (by exact j▸trivial) (.inl rfl) (λm u i g=>(XT s.heap _<|Ne.symm i).trans g) #[_,q]<|#[hz,its',_,c,q]
def Qt.lnew(I:Qt X B O H s)(b:QU ys its)(hz:ys.length<=sizeLine):
 Qt X B O (upd H s.heap.objs.size<|.lst ys) { s with heap:=s.heap.push { cls:=.type "list",data:=.seq its.toArray },toks:=t' }:=
 I.laid (λ_ _ q=>Xg _ q) (Xm _) #[hz,its,0,b,XD _ rfl]
def Qt.fresh(I:Qt X B O H s):H s.heap.objs.size=none:=I.hok.fresh (Xm _)
def Qt.lstM(I:Qt X B O H s)(c:H l=some (.lst xs)):xs.length<=sizeLine/\∃(b:Qe) (n:Nat),QU xs b/\xs.length=b.length/\s.heap.get? l=some { cls:=.type "list",data:=.seq b.toArray n }:=by
 exact By (I.hok l _ c) λz b n r e=>#[z,b,n,r,r.length,e]
def ZrE(h:n<=sizeLine):Builtin.List.listTooLong n=false:=Xt #[]
end
def Ye:V->List V->Hp->VK->Prop:=λx b H Q=>∃l xs y,x=.ref l/\b=[y]/\H l=some (.lst xs)/\xs.length<sizeLine/\Q .non (upd H l<|.lst<|xs++[y])
def V7:MtM X "list.append" Ye:=by
 intro B s O H x j v m Q I f g h;apply aM h;rintro l xs y rfl rfl c w q;cases f;apply At g.one;rintro u rfl i;apply By (I.lstM c);rintro z b n r⟨A,e⟩;refine call_meets F.slot_list_append #[_,e,rfl] F.entry_list_append (F.args_list_append_2 _ _) (PySem.list_append l b.toArray n u<|by rw[Xs];lia) #[e,#[.non,_,I.lset c e (by simp) (r.append<|.cons i .nil) ?_,rfl,q]];rw[Xn,U5];lia
def Ka:R2:=λx y H Q=>∃l b xs c,x=.ref l/\y=.ref b/\H l=some (.lst xs)/\H b=some (.lst c)/\xs.length+c.length<=sizeLine/\∀p,H p=none->Q (.ref p) (upd H p<|.lst<|xs++c)
def Dq:OpR X (binaryOp .Add) Ka:=by
 intro B s O H x y v u Q I i g h;apply aR h;rintro l b xs K rfl rfl w A⟨P,q⟩;cases i;cases g;apply By (I.lstM w);rintro z f n r⟨W,e⟩;apply By (I.lstM A);rintro L c M j⟨m,D⟩;refine PySem.P.add_list e D ?_ (by rw[Xs,Xs];lia);have C:f.toArray++c.toArray=(f++c).toArray:=by simp
 exact C▸#[.ref _,_,I.lnew (r.append j)<|by rw[Xn];lia,rfl,q _ I.fresh]
def SV:R2:=λx y H Q=>∃l k xs,x=.ref l/\y=.int k/\H l=some (.lst xs) /\ -(2^63)<=k/\k<2^63/\xs.length*k.toNat<=sizeLine/\
 ∀p,H p=none->Q (.ref p) (upd H p<|.lst (List.replicate k.toNat xs).flatten)
def Ir{b:Type}(xs:List b)(k:Nat):(List.replicate k xs).flatten.length=k*xs.length:=by
 simp_all
def Ti:OpR X (binaryOp .Mult) SV:=by
 intro B s O H x y v u Q I L K h;apply aM h;rintro l k xs rfl rfl P d⟨W,w,q⟩;cases L;obtain⟨t,rfl⟩:=K;apply By (I.lstM P);rintro z b n r⟨M,e⟩;have g:b.toArray.size*k.toNat<=sizeLine:=by rw[Xs,<- M];exact w
 have j:¬b.toArray.size*k.toNat > (2^63-1)/8:=by
  have:(sizeLine)<=(2^63-1)/8:=by decide
  lia
 have i:¬(!Builtin.List.listFitsIndex k)=true:=by
  rw[fitsIndex_both d W];exact Xw
 have c:¬Builtin.List.listTooLong (b.toArray.size*k.toNat)=true:=by
  rw[ZrE g];exact Xw
 have f:List.foldl (λC A=>C++A) (List.toArray []) (List.replicate (if b.toArray.isEmpty=true then 0 else k.toNat) b.toArray)=(List.replicate k.toNat b).flatten.toArray:=by
  have f0:=λm=>by
   have:=LX b m [];rwa[ME]at this
  rw[f0];cases b with
  |nil=>simp
  |cons a o=>rw[Xd<|by simp]
 refine wpAny_binaryOp_repeat_ref (by decide) #[_,e,rfl] (λD=>typeIs_int D k t) noFill_list_mul F.fills_int_mul F.slot_int_rmul repeat_list F.slot_int_index.lookup
  (call_meets F.slot_int_rmul (typeIs_int s k t) F.entry_int_rmul (F.args_int_rmul_2 _ _) (int___rmul___int_list k t l b.toArray n)
   #[e,rfl,#[_,e,rfl],call_meets F.slot_list_mul #[_,e,rfl] F.entry_list_mul (F.args_list_mul_2 _ _) (AutoListH.list___mul___list_int_3 l b.toArray n k t i j c) #[e,?_]])
 exact f▸#[.ref _,_,I.lnew (r.rep k.toNat)<|by rw[Ir,Nat.mul_comm];exact w,rfl,q _ I.fresh]
end L2
namespace Att
open PySem PySem.W PySem.Calls PyProof.Rows
def ZhC{P:Params}:∀(ns:Ql) (vs:Qe),WellAll P h vs (ns.map WData.int)->IntsAre vs ns:=by
 intro ns;induction ns with
 |nil=>
  intro vs w;cases w;exact .nil
 |cons n ns c=>
  intro vs w;cases w with
  |cons a b=>
   cases a;exact .cons _ _ (c _ b)
def ZqK{l:OpenLaw}(hn:l.most=some n){P:Params}
(b:l.row.toRowW.claim.pre args=true)(i:WellAll P h vals args):
 ∃a vs ns,vals=[Value.ref a]/\args=[WData.list<|ns.map WData.int]/\h.get? a=some { cls:=.type "list",data:=.seq vs.toArray }/\IntsAre vs ns/\ns.length<=n:=by
 apply aF (hasAllW_cons ((pre_splitW b).1));rintro d r rfl C B;obtain rfl:=hasAllW_nil B;apply At (hasW_list C);rintro xs rfl A;obtain⟨ns,rfl⟩:=items_int A;have c:ns.length<=n:=by
  have g:=by
   have g:=(holds_andW ((pre_splitW b).2)).1;rwa[hn]at g
  have m:=condW_of g (w_not<|w_lt w_lit<|w_len_list<|w_arg rfl)
  first
   |(exact Xv m _)
   |(simp at m;lia)
 cases i with
 |cons v s=>
  cases s;cases v with
  |list w f=>exact#[_,_,ns,rfl,rfl,w,ZhC ns _ f,c]
def Zqa(l:OpenLaw)(b:List WData):l.row.toRowW.claim.post b (.bool true) b=true:=
 postW_of
  (show WShape.has [] _ .bool=true by first|rfl|decide|simp[WShape.has])
  (w_eq_bool (w_res rfl) w_lit) rfl
end Att
namespace L2
theorem FE:∀{vs:Qe} {ns:Ql},IntsAre vs ns->QU (ns.map V.int) vs
 |_,_,.nil=>.nil
 |_,_,.cons n t h=>.cons #[t,rfl] (FE h)
def CV(H:Hp):Prop := ∀b,H b=none\/∃o xs,H b=some (.frz o<|.lst xs)
end L2
namespace L2
abbrev KOf{K:W.Frag}{h:Heap}(_:K.In h):W.Frag:=K
end L2
namespace L2
def Vs(s:Stmt)(j:Nat):Stmt:=match s with
 |.ClassDef _ _ _ body _ _ _ _ _ _ _=>body.getD j (.Pass #[0,0,0,0])
 |_=>.Pass #[0,0,0,0]
def YG(s:Stmt):Arguments:=match s with
 |.FunctionDef _ a _ _ _ _ _ _ _ _=>a
 |_=>{ posonlyargs:=[],args:=[],vararg:=none,kwonlyargs:=[],kw_defaults:=[],kwarg:=none,defaults:=[] }
def Yy(s:Stmt):List Stmt:=match s with
 |.FunctionDef _ _ b _ _ _ _ _ _ _=>b
 |_=>[]
def QG(s:Stmt):Scope:=match s with
 |.FunctionDef _ _ _ _ _ _ b _ _ _=>b
 |_=>{ kind:=.function,names:=[],isGenerator:=false,isCoroutine:=false }
abbrev CX0:CXT:=λ_ _ _ _ _ _=>False
abbrev E0:XK:=λ_ _ _=>False
def GE:Y7 CX0 X E0:=λ_ _ _ _ _ _ _ h=>h.elim
structure Fun(K:W.Frag)(x qual:Str)(st:Stmt)(f:Addr)(fd:FuncData):Prop where
 ex:∃(oc:Value) (od:Qj) (kV doc pm:Value) (an:Qj) (cdv ct:Value) (osl:Array (Qf)),
  fd=W.fnOf x qual (YG st) (Yy st) (QG st) .none kV doc pm an cdv ct/\K.lookup f=some #[oc,od,.func fd,osl]/\W.codeIn K cdv qual=true
 kp:W.keepIn K (.ref f)=true
def B0(P:Program)(w:World)(K:W.Frag)(mg:Str->Qf)(base:Heap)(N:Qh)(q:Str)(st:Stmt)(k:Nat)(f:Addr)(H:Hp)(c:XK)(G:TS->Prop):Prop := ∀(b:Value) (A:Around) (outer:List Env) (s:Shared),Room k (A.deeper<|envOfC q (QG st) s.heap.objs.size f b)->∃t,PSs (JU CX0 P w K mg base N q (QG st) f b A outer s H c).nox (Yy st) t/\G t
abbrev Rn(N:Qh)(vs:List V)(H:Hp)(Q:VK)(t:TS):Prop:=t { nx:=λ_ Z=>Q .non Z,rt:=Q } (start N vs) H
section
variable {base:Heap}
def Fun.ok{x:Str}{st:Stmt}{f:Addr}{N:Qh}{k:Nat}(F:Fun K x qual st f fd)(S:Qo N ps (QG st))(c:∀vs H Q b,sp vs H Q b->vs.length=ps.length)
(m:∀vs H Q b,sp vs H Q b->B0 P w K mg base N qual st k f H b (Rn N vs H Q)):FnOk P w K mg base CX0 (k+1) f fd ps sp:=by
 apply aU F.ex;rintro M L kV C D X j W v rfl y i;exact Pd y i S c λA outer s H vs Q b B g=>(m vs H Q b g j A outer s B).imp λ_ h=>h.imp PSs.nox id
def Fun.binds{x:Str}{st:Stmt}{f:Addr}(F:Fun K x qual st f fd)
(h:∀(kV b g:Value) (j:Qj) (c i:Value) (us:Qe),us.length=ps.length->bindArgs (W.fnOf x qual (YG st) (Yy st) (QG st) .none kV b g j c i) #[us,[]]=pure (ps.zip us)):Vp K fd ps []:=by
 apply aU F.ex;rintro w v kV b g j c i m rfl y s;exact .all (h kV b g j c i)
def J0{x:Str}{st:Stmt}{f:Addr}{s:Value}{od m:Qj}{h:Array (Qf)}{kV g i b j:Value}(l:K.lookup f=some #[s,od,.func<|W.fnOf x qual (YG st) (Yy st) (QG st) .none kV g i m b j,h])
(c:W.codeIn K b qual=true)(k:W.keepIn K (.ref f)=true):Fun K x qual st f (W.fnOf x qual (YG st) (Yy st) (QG st) .none kV g i m b j):=#[#[s,od,kV,g,i,m,b,j,h,rfl,l,c],k]
end
def Vo(b:Room k A):A.units+1<cLine:=HD (Nat.add_le_add_left (by decide) _) b.units
def Vh(h:n<=1000):n<sizeLine:=HD h (by decide)
def pv(i:Nat)  (g:X.N[i]?=some x:=by rfl)(c:Vis X.env.scope x:=by first|exact Or.inl rfl|exact Or.inr Qa|exact Or.inr<|Or.inr rfl)(f:(x==("__debug__" : Str))=false:=by decide)
(b:(x==("__classdict__" : Str))=false:=by decide):PE X (.Name x pos) (Q3 i):=PJ g c f b
def av(i:Nat)   (f:PA X es t)(h:X.N[i]?=some x:=by rfl)(c:Vis X.env.scope x:=by first|exact Or.inl rfl|exact Or.inr Qa|exact Or.inr<|Or.inr rfl)(g:(x==("__debug__" : Str))=false:=by decide)
(b:(x==("__classdict__" : Str))=false:=by decide)(hs:starEach (.Name x pos::es) X.env=(false,eval (.Name x pos) X.env)::starEach es X.env:=by rfl):PA X (.Name x pos::es) (QE (Q3 i) t):=Qu (pv i h c g b) f hs
def Q6(H Z:Hp):Prop := ∀b o,H b=some o->Z b=some o
def Q6.refl(H:Hp):Q6 H H:=λ_ _ h=>h
def Q6.trans(a:Q6 H U)(b:Q6 U H2):Q6 H H2:=λc o h=>b c o (a c o h)
def Q6.free(e:Q6 H Z)(h:Z l=Option.none):H l=Option.none:=by
 cases q:H l with
 |none=>rfl
 |some o=>
  rw[e l o q]at h;cases h
def Q6.seq(e:Q6 H Z)(h:SqL K H a xs):SqL K Z a xs:=by
 rcases h with (h|⟨o,h⟩)|h
 .exact .inl (.inl<|e _ _ h)
 .exact .inl (.inr #[o,e _ _ h])
 .exact .inr h
end L2
namespace L2
theorem R5{g:Env}{F:Str×NameKind->List (Str×Addr)->Sem (ForInStep<|List<|Str×Addr)}
(A:∀n c b,g.cells.lookup n=some c->F (n,NameKind.free) b=pure (.yield ((n,c)::b)))
(y:∀n k b,k≠NameKind.free->F (n,k) b=pure (.yield b)):
 ∀(l:List (Str×NameKind)) (b:List (Str×Addr)),(∀p∈l,p.2=NameKind.free->∃c,g.cells.lookup p.1=some c)->(∀x c,b.lookup x=some c->g.cells.lookup x=some c)->
  ∃cl,forIn l b F=pure cl/\(∀x c,cl.lookup x=some c->g.cells.lookup x=some c)/\(∀x c,b.lookup x=some c->∃X,cl.lookup x=some X)/\∀p∈l,p.2=NameKind.free->∃c,cl.lookup p.1=some c
 |[],b,_,s=>⟨b,by rw[List.forIn_nil],s,λx c h=>#[c,h],λp f=>Xv f<|by simp⟩
 |(n,k)::l,b,M,s=>by
  have i:=λp f=>M p (Xh _ f)
  by_cases v:k=NameKind.free
  .subst v;obtain⟨c,e⟩:=M (n,NameKind.free) Xb rfl;have w:∀x d,((n,c)::b).lookup x=some d->g.cells.lookup x=some d:=λx d q=>by
    cases j:x==n with
    |true=>
     simp_all
    |false=>
     simp only[XU,j]at q;exact s x d q
   apply aI (R5 A y l ((n,c)::b) i w);intro cl L K D C;have P:∀x d,b.lookup x=some d->∃B,((n,c)::b).lookup x=some B:=λx d q=>by
    cases j:x==n with
    |true=>exact#[c,by simp only[XU,j]]
    |false=>exact#[d,by simp only[XU,j];exact q]
   refine#[cl,by rw[List.forIn_cons,A n c b e];exact L,K,λx d q=>?_,λp f m=>?_]
   .obtain⟨B,W⟩:=P x d q;exact D x B W
   .rcases Xf.mp f with rfl|f
    .simp_all
    .exact C p f m
  .refine aI (R5 A y l b i s) λcl L K D C=>#[cl,by rw[List.forIn_cons,y n k b v];exact L,K,D,λp f m=>?_];rcases Xf.mp f with rfl|f
   .exact Xv m v
   .exact C p f m
def FY(h:∀p∈scope.names,p.2=NameKind.free->∃c,env.cells.lookup p.1=some c):
 ∃cl,closureFor scope env=pure cl/\(∀x c,cl.lookup x=some c->env.cells.lookup x=some c)/\∀p∈scope.names,p.2=NameKind.free->∃c,cl.lookup p.1=some c:=by
 simp only[closureFor];obtain⟨cl,b,j,_,i⟩:=R5 (F:=λx r=>match x with|(name,kind)=>if (kind==NameKind.free)=true then do let a <- cellOf env name;pure (ForInStep.yield ((name,a)::r)) else pure<|ForInStep.yield r)
  (λn c g e=>by
   show(if _=true then _ else _)=_
   unfold cellOf;rw[e];rfl)
  (λn k g f=>by
   have:(k==NameKind.free)=false:=by simpa using f
   show(if _=true then _ else _)=_
   rw[this,Xd Xw]) scope.names [] h (λx c q=>by simp at q)
 refine#[cl,?_,j,i]
 first
  |exact b
  |(rw[bind_pure];exact b)
  |(exact b)
  |(exact b)
theorem Cz{b:Env}:∀{c:List (Str×NameKind)} {x:Str},c.lookup x=some .free->
 (c.map λ(n,k)=>if (k==NameKind.free&&b.scope.kind==.function&&b.kindOf n==some .cell) then (n,NameKind.cell) else (n,k)).lookup x=some .cell \/
 (c.map λ(n,k)=>if (k==NameKind.free&&b.scope.kind==.function&&b.kindOf n==some .cell) then (n,NameKind.cell) else (n,k)).lookup x=some .free
 |[],_,h=>by simp at h
 |(n,k)::r,x,h=>by
  have i:=@Cz b r x;show List.lookup x ((if _=true then _ else _)::_)=_\/List.lookup x ((if _=true then _ else _)::_)=_
  cases f:x==n with
  |true=>
   simp only[XU,f]at h;cases h
   by_cases g:(NameKind.free==NameKind.free&&b.scope.kind==.function&&b.kindOf n==some .cell)=true
   .rw[Xe g];left;simp only[XU,f]
   .rw[Xd g];right;simp only[XU,f]
  |false=>
   simp only[XU,f]at h;by_cases g:(k==NameKind.free&&b.scope.kind==.function&&b.kindOf n==some .cell)=true
   .rw[Xe g];simp only[XU,f];exact i h
   .rw[Xd g];simp only[XU,f];exact i h
theorem Cy{c:Env}:∀{b:List (Str×NameKind)} {x:Str},((b.map λ(n,k)=>if (k==NameKind.free&&c.scope.kind==.function&&c.kindOf n==some .cell) then (n,NameKind.cell) else (n,k)).lookup x=some .cell \/
 (b.map λ(n,k)=>if (k==NameKind.free&&c.scope.kind==.function&&c.kindOf n==some .cell) then (n,NameKind.cell) else (n,k)).lookup x=some .free)->b.lookup x=some .free\/b.lookup x=some .cell
 |[],_,h=>by simp at h
 |(n,k)::r,x,h=>by
  have i:=@Cy c r x;have h:List.lookup x ((if _=true then _ else _)::_)=_\/List.lookup x ((if _=true then _ else _)::_)=_:=h;cases g:x==n with
  |true=>
   simp only[XU,g];by_cases f:(k==NameKind.free&&c.scope.kind==.function&&c.kindOf n==some .cell)=true
   .have:=by
     rw[Wo,Wo]at f;exact eq_of_beq f.1.1
    left;rw[this]
   .rw[Xd f]at h;simp only[XU,g]at h;exact h.symm
  |false=>
   simp only[XU,g];by_cases f:(k==NameKind.free&&c.scope.kind==.function&&c.kindOf n==some .cell)=true
   .rw[Xe f]at h;simp only[XU,g]at h;exact i h
   .rw[Xd f]at h;simp only[XU,g]at h;exact i h
structure CIn where
 cl:List (Str×Addr)
 C:Addr
 s₀:Shared
 H₀:Hp
 ex:Qg
 pn:Qc
def Vl(X:Cx)(N:Qh)(scope:Scope)(c:CIn):Cx where
 prog:=X.prog
 w:=X.w
 K:=X.K
 mg:=X.mg
 base:=X.base
 A:=X.A
 N:=N
 s₀:=c.s₀
 H₀:=c.H₀
 env:=compEnvC scope c.cl c.C X.env
 outer:=X.stack
 stack:=X.stack
 ex:=c.ex
 fn:=λ_=>false
 calm:=X.calm
 pn:=c.pn
 xe:=λ_ _=>False
def YA(f:List (Option Nat))(O:St):St:=f.map λo=>match o with|some i=>(O[i]?).join|none=>none
structure CompOk(NX:Qh)(sc:Scope)(N:Qh)(f:List (Option Nat))(scope:Scope):Prop where
 kind:scope.kind=.function
 nocell:∀y∈scope.names,y.2≠NameKind.cell
 names:∀y∈scope.names,y.2=NameKind.local->scope.names.lookup y.1=some .local
 free:∀y∈scope.names,y.2=NameKind.free->sc.names.lookup y.1=some .cell\/sc.names.lookup y.1=some .free
 len:f.length=N.length
 ix:∀(j i:Nat),f[j]?=some (some i)->∃x,N[j]?=some x/\NX[i]?=some x/\scope.names.lookup x=some .free
def Bc(NX:Qh)(sc:Scope)(N:Qh)(f:List (Option Nat))(scope:Scope):Bool:=
 decide (scope.kind=.function)&&(scope.names.all λy=>decide (y.2≠NameKind.cell)&&(decide (y.2≠NameKind.local)||decide (scope.names.lookup y.1=some .local)) &&
  (decide (y.2≠NameKind.free)||decide (sc.names.lookup y.1=some .cell)||decide (sc.names.lookup y.1=some .free)))&&decide (f.length=N.length) &&
 (List.range f.length).all λj=>match f[j]? with
  | some (some i)=>(match N[j]? with
    |some x=>decide (NX[i]?=some x)&&decide (scope.names.lookup x=some .free)
    |none=>false)
  |_=>true
def Fm{f:List (Option Nat)}(h:Bc NX sc N f scope=true):CompOk NX sc N f scope:=by
 unfold Bc at h;simp only[Wo,List.all_eq_true,decide_eq_true_eq,Bool.or_eq_true]at h;obtain⟨⟨⟨w,c⟩,v⟩,s⟩:=h;refine#[w,λy b=>(c y b).1.1,λy b e=>?_,λy b e=>?_,v,λj i e=>?_]
 .rcases(c y b).1.2 with z|z
  .simp_all
  .exact z
 .rcases(c y b).2 with (z|z)|z
  .simp_all
  .exact .inl z
  .exact .inr z
 .have q:=s j (XN.mpr ((Xc.mp e).1));rw[e]at q;cases g:N[j]? with
  |none=>rw[g]at q;simp at q
  |some x=>
   rw[g]at q;simp only[Wo,decide_eq_true_eq]at q;exact#[x,rfl,q.1,q.2]
def SW(f:List (Option Nat))(O b:St):Prop:=b.length=O.length/\∀(i j:Nat),f[i]?=some (some j)->b[i]?=O[i]?
structure TgOk(f:List (Option Nat))(g:TG):Prop where
 keep:∀x O H Q,g x O H Q->g x O H λσ2 H2=>SW f O σ2/\Q σ2 H2
 mono:∀x O H Q Q',(∀O H,Q O H->Q' O H)->g x O H Q->g x O H Q'
structure TgsOk(f:List (Option Nat))(g:TGs):Prop where
 keep:∀xs O H Q,g xs O H Q->g xs O H λσ2 H2=>SW f O σ2/\Q σ2 H2
 mono:∀xs O H Q Q',(∀O H,Q O H->Q' O H)->g xs O H Q->g xs O H Q'
theorem Yf{f:List (Option Nat)}(h:f[j]?=some none:=by rfl):TgOk f (ZM j) where
 keep:=λx O H Q q=>#[#[X7 ..,λi k e=>Xp<|#[]],q]
 mono:=λx O H Q b m q=>m _ _ q
theorem TJ{f:List (Option Nat)}:TgsOk f MN where
 keep:=by rintro xs O H Q ⟨e,q⟩;exact#[e,#[rfl,λ_ _ _=>rfl],q]
 mono:=by rintro xs O H Q b m ⟨e,q⟩;exact#[e,m _ _ q]
theorem DE{f:List (Option Nat)}(g:TgOk f t)(c:TgsOk f u):TgsOk f (UJ t u) where
 keep:=by rintro xs O H Q ⟨v,r,e,q⟩;exact#[v,r,e,g.mono _ _ _ _ _ (λb U z=>c.mono _ _ _ _ _ (λs A y=>#[#[y.1.1.trans z.1.1,λi j h=>(y.1.2 i j h).trans (z.1.2 i j h)],y.2])<|c.keep _ _ _ _ z.2)<|g.keep _ _ _ _ q]
 mono:=by rintro xs O H Q w m ⟨v,r,e,q⟩;exact#[v,r,e,g.mono _ _ _ _ _ (λb U z=>c.mono _ _ _ _ _ m z) q]
theorem PZ{f:List (Option Nat)}(h:TgsOk f t):TgOk f (HX K n t) where
 keep:=by rintro x O H Q ⟨a,xs,e,q,l,z⟩;exact#[a,xs,e,q,l,h.keep _ _ _ _ z]
 mono:=by rintro x O H Q b m ⟨a,xs,e,q,l,z⟩;exact#[a,xs,e,q,l,h.mono _ _ _ _ _ m z]
def PCs(X:Cx)(b:Qi)(tc:TT):Prop:=
 ∀(B:Qc) (s:Shared) (O:St) (H:Hp) (Q:Bool->Hp->Prop),Qt X B O H s->tc O H Q->
  wpAny (model X.prog X.w) X.A (forIn b true λc r=>if r=true then do let f <- isTrue c X.env (eval c X.env);pure (ForInStep.yield f) else pure<|ForInStep.yield r) (TP X B O Q) X.xe s
def UB:TT:=λ_ H Q=>Q true H
def J8:PCs X [] UB:=λ_ _ _ H _ I h=>wpAny_tests_nil #[H,I,h]
def Gf{c:Expr}{tc:TT}(h:PT X c tc):PCs X [c] tc:=λB s O H Q I q=>wpAny_tests_one (h B s O H Q I q)
def ZkY(I:Nat->Shared->Prop)
(g:∀n s,I n s->wpAny (model prog w) A (pyNext it) (λr y=>match r with
  |none=>R (.ok .next) y
  | some v=>wpAny (model prog w) A (letOwnedTupleGo target it v) (λ_ b=>wpAny (model prog w) A (assign target env v) (λ_ L=>
   wpAny (model prog w) A (forIn ifs true λc r=>if r=true then do let i <- isTrue c env (eval c env);pure (ForInStep.yield i) else pure<|ForInStep.yield r) (λi j=>
    if i=true then wpAny (model prog w) A (eval elt env) (λx D=>
     wpAny (model prog w) A (call (.builtin "list.append") [acc,x]) (λ_ B => ∃m,m<n/\I m B) (λ_ _=>False) D) (λ_ _=>False) j
    else ∃m,m<n/\I m j) (λ_ _=>False) L) (λ_ _=>False) b) (λ_ _=>False) y) (λ_ _=>False) s)
(n:Nat)(h:I n s):
 codeAny (model prog w) A (.compLoop (.ListComp elt [#[target,iter,ifs,0]] scope pos) 0 it acc env) R s:=by
 refine codeAny_loop rfl I (λn s M=>?_) n h;show wpAny _ A _ _ _ s;refine wpAny_noted ?_;rw[compTurn_list];refine Xa (wpAny_standAt<|Xa<|wpAny_mono (g n s M) (λr y K=>?_) λ_ _ h'=>h'.elim)
 cases r with
 |none=>exact Xl K
 |some v=>
  refine Xa (wpAny_mono K (λ_ b f=>Xa (wpAny_mono f (λ_ L X=>Xa<|wpAny_mono X (λi j C=>?_) λ_ _ h'=>h'.elim) λ_ _ h'=>h'.elim)) λ_ _ h'=>h'.elim);cases i with
  |false=>exact Xl #[rfl,C]
  |true=>
   exact Xa (Xa<|wpAny_mono C (λx D W=>Xa<|wpAny_mono W (λ_ B P=>Xl<|Xl #[rfl,P]) λ_ _ h'=>h'.elim) λ_ _ h'=>h'.elim)
theorem Qt.track{O:St}{H:Hp}{a:Addr}{o:HO}(I:Qt X B O H s)(hn:H a=none)(h0:X.s₀.heap.objs.size<=a)(v:a≠X.env.locals)(w:∀x c,X.env.cells.lookup x=some c->c≠a)
(m:∀p∈X.pn++B,p.1≠a)(new:ZZ X.prog X.w (upd H a o) s.heap a o):Qt X B O (upd H a o) s where
 ok:=I.ok
 os:=I.os
 bare:=I.bare
 base:=
  { keep:=I.base.keep
    slot:=I.base.slot
    free:=λb i q n j=>by rw[Qs<|XF<|XG (Xo q) h0];exact I.base.free b i q n j
    there:=I.base.there
    tups:=λb xs q=>by have z:=I.base.tups b xs q;rw[Qs<|ZB z hn];exact z
    tupo:=I.base.tupo
    frzs:=λb u xs q=>by have z:=I.base.frzs b u xs q;rw[Qs<|ZB z hn];exact z
    tbls:=λb ps q=>by obtain⟨f,z⟩:=I.base.tbls b ps q;exact#[f,by rw[Qs<|ZB z hn];exact z] }
 loc:=I.loc
 cell:=I.cell
 free:=by rw[Qs v.symm];exact I.free
 freeC:=λx c e=>by rw[Qs<|w x c e];exact I.freeC x c e
 pin:=λp g=>by exact I0 (I.pin p g) λe n r=>#[e,by rw[Qs<|m p g];exact n,r]
 hok:=λb u e=>by
  by_cases h:b=a
  .subst h;rw[Q8]at e;cases e;exact new
  .rw[Qs h]at e;exact(I.hok b u e).stay (λ_ _ _ q=>q) (λc q=>by rw[Qs<|ZB q hn];exact q) λc xs q=>by rw[Qs<|ZB q hn];exact q
 len:=I.len
def LCw(f:List (Option Nat))(g:TG)(tc:TT)(te:TE)(O:St)(c:It)(Q:VK)(U:Hp):Prop:=
 ∃W:Nat->Nat->List V->Hp->Prop,(∃m,W 0 m [] U)/\∀i m ys H,W i m ys H->
  (c.stop i H/\∀p,H p=none->Q (.ref p) (upd H p<|.lst ys)) \/
  (c.go i H/\∀x Z,c.yld i H x Z->g x (YA f O) Z λh w=>tc h w λb s=>
   if b=true then te h s λy v=>ys.length<sizeLine/\∃j,j<m/\W (i+1) j (ys++[y]) v
   else ∃j,j<m/\W (i+1) j ys s)
def tLC(f:List (Option Nat))(h:TI)(g:CIn->TG)(tc:CIn->TT)(te:CIn->TE):TE:=λO H Q=>h O H λb U=>∀c:CIn,LCw f (g c) (tc c) (te c) O b Q U
abbrev WK(its:Qe)(k:Nat):Obj:={ cls:=.type "list",data:=.seq its.toArray k }
structure TurnX(X:Cx)(tg:Expr)(ρ':It)(fp:Qg)(it:Addr)(tn:Nat->Heap->Prop):Prop where
 mem:it∈fp
 obj:∀i h,tn i h->∀b∈fp,∃o,h.get? b=some o/\∀v,o.data≠.cell v
 keep:∀i h h',tn i h->(∀b∈fp,∀o,h.get? b=some o->h'.get? b=some o)->tn i h'
 item:∀(X':Cx),X'.prog=X.prog->X'.w=X.w->X'.K=X.K->X'.A=X.A->X'.calm=X.calm->∀(i:Nat) (B:Qc) (s:Shared) (O:St) (H:Hp) (hi:Qb),Qt X' B O H s->(∀b∈fp,Wd X' B H b)->tn i s.heap->ρ'.go i H->
  wpAny (model X.prog X.w) X'.A (pyNext<|.ref it) (λr s1=>∃u,r=some u/\
   wpAny (model X.prog X.w) X'.A (letOwnedTupleGo tg (.ref it) u) (λ_ s2=>∃x Z,Qt X' B O Z s2/\QN x u/\ρ'.yld i H x Z/\tn (i+1) s2.heap/\∀b∈fp,Z b=none) hi s1) hi s
 done:∀(X':Cx),X'.prog=X.prog->X'.w=X.w->X'.K=X.K->X'.A=X.A->X'.calm=X.calm->∀(i:Nat) (B:Qc) (s:Shared) (O:St) (H:Hp) (hi:Qb),Qt X' B O H s->(∀b∈fp,Wd X' B H b)->tn i s.heap->ρ'.stop i H->
  wpAny (model X.prog X.w) X'.A (pyNext<|.ref it) (λr s1=>r=none/\Qt X' B O H s1) hi s
 self:∀(A:Around) (i:Nat) (s:Shared) (Q:Qb) (hi:Qb),tn i s.heap->Q (.ref it) s->wpAny (model X.prog X.w) A (pyIter<|.ref it) Q hi s
def SO(X:Cx)(B:Qc)(O:St)(tg:Expr)(R:It->Hp->Prop)(f:Value)(h:Shared):Prop:=
 ∃(i:Addr) (j:Qg) (g:Nat->Heap->Prop) (c:It) (Z:Hp),f=.ref i/\Qt X B O Z h/\TurnX X tg c j i g/\g 0 h.heap/\(∀b∈j,Wd X B Z b)/\R c Z
def PIH(X:Cx)(tg iter:Expr)(b:TI):Prop:=
 ∀(B:Qc) (s:Shared) (O:St) (H:Hp) (R:It->Hp->Prop),Qt X B O H s->b O H R->
  wpAny (model X.prog X.w) X.A (eval iter X.env) (λv c=>wpAny (model X.prog X.w) X.A (pyIter v) (SO X B O tg R) X.xe c) X.xe s
def Turn.x(T:Turn X.prog X.w X.K tg ρ' fp it tn)(i:X.calm=true):TurnX X tg ρ' fp it tn:=
 #[T.mem,T.obj,T.keep,λg c b f _ h=>T.item g c b f<|h.trans i,λg c b f _ h=>T.done g c b f<|h.trans i,T.self]
def PI.x(h:PI X tg iter wi)(g:X.calm=true):PIH X tg iter wi:=λB s O H R I q=>QD (h B s O H R I q) λv y i=>QD i<|by rintro v w ⟨f,j,c,b,Z,e,m,T,r⟩;exact#[f,j,c,b,Z,e,m,T.x g,r]
section
variable {O:St}{H2:Hp}{b7:Shared}
def T5{f:List (Option Nat)}{g:CIn->TG}{tc:CIn->TT}{te:CIn->TE}
(ck:CompOk X.N X.env.scope N f scope)
(hg:∀c,PG (Vl X N scope c) tg<|g c)(ht:∀c,TgOk f<|g c)(hcs:∀c,PCs (Vl X N scope c) ifs<|tc c)(he:∀c,PE (Vl X N scope c) elt<|te c)
(M:Qt X B O H2 b7)(T:TurnX X tg ρ' fp it tn)(st:tn 0 b7.heap)(I:∀b∈fp,Wd X B H2 b)
(hq:∀c:CIn,LCw f (g c) (tc c) (te c) O ρ' Q H2)
(D:∀x c,cl.lookup x=some c->X.env.cells.lookup x=some c)(hcl2:∀p∈scope.names,p.2=NameKind.free->∃c,cl.lookup p.1=some c)
{RR:Value->Addr->Result->Shared->Prop}
(hRR:∀(G C:Addr) (Z:Hp) (H:Shared) (m':Str->Qf),H.heap.Ns C m'->Qt X B O Z H->Z C=none->C≠X.env.locals->X.s₀.heap.objs.size<=C->(∀x c,X.env.cells.lookup x=some c->c≠C)->
  (∀p∈X.pn++B,p.1≠C)->Q (.ref G) Z->RR (.ref G) C (.ok .next) H):
 wpAny (model X.prog X.w) X.A (newList []) (λG L=>wpAny (model X.prog X.w) X.A (newFunctionEnv scope X.env.globals cl [] X.env.qual none .none<|some X.env) (λcenv bw=>
  codeAny (model X.prog X.w) X.A (.compStart (.ListComp elt [#[tg,iter,ifs,0]] scope pos) 0 (.ref it) G { cenv with scope:=relabel scope X.env }) (RR G cenv.locals) bw) hi L) hi b7:=by
 refine wpAny_newObj_type (wpAny_newFunctionEnv ck.nocell (by intro y hy;simp at hy) (λb8 c5 c6=>?_) ck.kind);dsimp only at c5 c6 ⊢;have w:Qt X B O H2 { b7 with heap:=b7.heap.push (WK [] 0) }:=M.kept (t':=b7.toks) λb u e=>Xg _ e;have hD:(b7.heap.push<|WK [] 0).get? b7.heap.objs.size=some (WK [] 0):=XD _ rfl;generalize hs3:({ b7 with heap:=b7.heap.push (WK [] 0) }:Shared)=L at w c5 c6 ⊢;have S:b7.heap.push (WK [] 0)=L.heap:=by rw[<- hs3]
 rw[S]at hD;simp only[S]at c5 c6 ⊢;have J:b7.heap.objs.size<L.heap.objs.size:=by rw[<- S,Jq];exact JN _
 have k3:∀b u,b7.heap.get? b=some u->L.heap.get? b=some u:=λb u e=>by rw[<- S];exact Xg _ e
 have k1:=λb u e=>
  c6.extBut b u (XF<|Xo e) (Xg _ e)
 have fpo:∀b∈fp,b<b7.heap.objs.size:=λb m=>by
  exact At (T.obj 0 _ st b m) λo e _=>Xo e
 have st1:tn 0 b8:=T.keep _ _ _ st λb m o e=>k1 b o (k3 b o e);have fneD:=λb m=>XF (fpo b m)
 have E:∀x d,X.env.cells.lookup x=some d->d≠b7.heap.objs.size:=λx d e=>by
  obtain⟨v,z⟩:=M.cell x d e;exact XF z.lt
 have l:=λp K=>XF (Xo (M.pin p K).1)
 have stk:∀b,b≠X.env.locals->b∉X.fs->b∉frs X.stack:=λb h1 h2 m=>by
  rcases Xf.mp (w.stkSub b m) with z|z
  .exact h1 z
  .exact h2 z
 have U:∀b,b∈b7.heap.objs.size::fp->b=b7.heap.objs.size\/b∈fp:=λb m=>Xf.mp m
 let c:CIn:=#[cl,L.heap.objs.size,L,H2,b7.heap.objs.size::fp,X.pn++B]
 have t:(Vl X N scope c).Ok:=
  { mod:=w.ok.mod
    kind:=ck.kind
    glob:=w.ok.glob
    blt:=w.ok.blt
    above:=Xm _
    inj:=λx y d h1 h2=>w.ok.inj x y d (D x d h1) (D y d h2)
    has:=λx hx=>by
     rcases Cy hx with z|z
     .exact hcl2 (x,.free) (PySem.mem_of_lookup z) rfl
     .exact Xv rfl (ck.nocell (x,.cell)<|PySem.mem_of_lookup z)
    cab:=λx d h=>Xv (h) Xw
    hd:=w.ok.hd
    frames:=w.ok.frames
    stk:=.inl rfl
    exf:=λb m=>by
     rcases U b m with rfl|m
     .exact#[XF J,λx d e=>E x d<|D x d e]
     .exact#[(λb m=>XF (Nat.lt_trans (fpo b m) J)) b m,λx d e=>(I b m).2.2.2.2.1 x d (D x d e)]
    bs:=λb o e=>w.bs b o e
    bsz:=X4 w.ok.bsz w.sz
    noex:=λb o e m=>by
     rcases U b m with rfl|m
     .exact Xv (Xo<|M.bk _ _ e) (X8 _)
     .rcases(I b m).2.2.2.1 with z|z
      .exact w.ok.noex b o e z
      .exact Xv (XG (Xo (w.ok.bs b o e).1) z) (X8 _)
    exfs:=λb m=>by
     rcases U b m with rfl|m
     .exact stk _ (Y3 M.lt) (M.nofs<|Xm _)
     .exact stk b (I b m).2.1 (I b m).2.2.1
    funs:=w.stack
    frf:=w.stkFree }
 have I4:Qt (Vl X N scope c) [(b7.heap.objs.size,WK [] 0)] (YA f O) H2 { L with heap:=b8,toks:=L.toks+([]:List (Str×Value)).length }:=
  { ok:=t
    os:=rfl
    bare:=w.bare
    base:=Un.kept k1
    loc:=#[_,c5,λi x v e1 e2 e3=>by
     have hfi:∃j,f[i]?=some (some j)/\O[j]?=some (some v):=by
      unfold YA at e2;rw[Xy]at e2;cases ef:f[i]? with
      |none=>rw[ef]at e2;cases e2
      |some o=>
        rw[ef]at e2;cases o with
        |none=>cases e2
        |some j=>
          refine#[j,rfl,?_];have Y:(O[j]?).join=some v:=Option.some.inj e2;cases es:O[j]? with
          |none=>rw[es]at Y;cases Y
          |some o2=>
            rw[es]at Y;have:o2=some v:=Y;rw[this]
     refine At hfi λj ef es=>aA (ck.ix i j ef) λx' n1 n2 n3=>?_;have:x'=x:=Option.some.inj (n1.symm.trans e1);subst this;have hfr:=ck.free (x',.free) (PySem.mem_of_lookup n3) rfl;refine At w.loc λm0 hm0 hl0=>At (hl0 j x' v n2 es (hfr.elim (λz=>.inr<|.inl z) λz=>.inr<|.inr z)) λu ru lk=>#[u,ru,.inr #[Cz n3,?_]];rcases lk with ⟨kl,_⟩|⟨_,d,ed,hd⟩
     .have kl':X.env.scope.names.lookup x'=some .local:=kl;rcases hfr with z|z
      .rw[kl']at z;cases z
      .rw[kl']at z;cases z
     .obtain⟨d',ed'⟩:=hcl2 (x',.free) (PySem.mem_of_lookup n3) rfl;have:d'=d:=Option.some.inj ((D x' d' ed').symm.trans ed);subst this;exact#[d',ed',hd.keeps k1]]
    cell:=λx d e=>by
     obtain⟨v,z⟩:=w.cell x d (D x d e);exact#[v,z.keeps k1]
    free:=w.fresh
    freeC:=λx d e=>w.freeC x d (D x d e)
    pin:=λp K=>by
     rcases Xz.mp (K) with hp'|hp'
     .exact Hs (w.pin p hp') λe n ne nf d=>#[k1 _ _ e,n,XF<|Xo e,stk p.1 ne nf,d]
     .have z:=Xi.mp hp';subst z;exact#[k1 _ _ hD,M.fresh,XF J,stk _ (Y3 M.lt)<|M.nofs<|Xm _,λv z=>nomatch (show Data.seq _ _=Data.cell v from z)]
    hok:=w.hok.kept k1
    len:=by
     unfold YA;rw[Xj];exact ck.len }
 have back:∀{σ':St} {Z:Hp} {H:Shared} {ps:Qc},Qt (Vl X N scope c) ps σ' Z H->Qt X B O Z H:=λ{σ' Z H ps} J'=>
  w.call' J'.os J'.base J'.hok J'.bare λb m=>by
   rcases U b m with rfl|m
   .exact#[.inr M.sz,Y3 M.lt,E,l]
   .exact#[(I b m).2.2.2.1,(I b m).2.1,(I b m).2.2.2.2.1,(I b m).2.2.2.2.2]
 have fpX:∀{Z:Hp} {ob:Obj},(∀b∈fp,Z b=none)->∀b∈fp,Wd (Vl X N scope c) [(b7.heap.objs.size,ob)] Z b:=λ{Z ob} hn b m=>
  #[hn b m,(t.exf b<|Xh _ m).1,t.exfs b<|Xh _ m,.inl<|Xh _ m,(t.exf b<|Xh _ m).2,λp K=>by
   rcases Xz.mp (K) with z|z
   .exact(I b m).2.2.2.2.2 p z
   .have z:p=(b7.heap.objs.size,ob):=Xi.mp z;subst z;exact(fneD b m).symm]
 apply At (hq c);rintro W⟨m0,w0⟩turn;have loop:∀s,s=({ L with heap:=b8,toks:=L.toks+([]:List (Str×Value)).length }:Shared)->
  codeAny (model X.prog X.w) X.A (.compLoop (.ListComp elt [#[tg,iter,ifs,0]] scope pos) 0 (.ref it) (.ref b7.heap.objs.size)<|compEnvC scope cl L.heap.objs.size X.env) (RR (.ref b7.heap.objs.size) L.heap.objs.size) s:=by
  rintro s rfl;refine ZkY (λn H=>∃i Z ys A k,Qt (Vl X N scope c) [(b7.heap.objs.size,WK A k)] (YA f O) Z H/\QU ys A/\ys.length<=sizeLine/\tn i H.heap/\(∀b∈fp,Z b=none)/\W i n ys Z) ?_ m0 #[0,_,[],[],0,I4,.nil,XJ _,st1,λb m=>(I b m).1,w0];rintro n s5 ⟨i,H5,ys,A,k,I5,R,hz5,st5,fr5,w5⟩;rcases turn i n ys H5 w5 with ⟨stop,qn⟩|⟨go,step⟩
  .refine QD (T.done (Vl X N scope c) rfl rfl rfl rfl rfl i _ s5 (YA f O) H5 _ I5 (fpX fr5) st5 stop) ?_;rintro r s6 ⟨rfl,I6⟩;refine At (id I6.loc) λm6 hn6 _=>I0 (I6.pin (b7.heap.objs.size,WK A k) (XM _<|Xi.mpr rfl)) λeD nD _=>?_;have I7:Qt X B O (upd H5 b7.heap.objs.size<|.lst ys) s6:=(back I6).track nD M.sz (Y3 M.lt) E l #[hz5,A,k,R,eD];refine hRR _ _ _ s6 m6 hn6 I7 (by rw[Qs<|Y3 J];exact I6.free) (Y3 w.lt) w.sz (λx d e=>?_) (λp K=>?_) (qn _ nD)
   .obtain⟨v,z⟩:=w.cell x d e;exact XF z.lt
   .exact XF (Xo (w.pin p K).1)
  .refine QD (T.item (Vl X N scope c) rfl rfl rfl rfl rfl i _ s5 (YA f O) H5 _ I5 (fpX fr5) st5 go) ?_;rintro r s6 ⟨u,rfl,h6⟩;refine QD h6 ?_;rintro _ s7 ⟨x,H7,I7,r7,y7,st7,fr7⟩;have I7':=I7.pinned (fpX fr7) (T.obj _ _ st7);refine QD (hg c _ s7 (YA f O) H7 x u _ I7' r7<|(ht c).keep _ _ _ _ (step x H7 y7)) ?_;rintro _ s8 ⟨P,H8,I8,kp8,q8⟩;have wk:∀(j:Nat) v,(YA f O)[j]?=some (some v)->P[j]?=some (some v):=λj v e=>by
    have ef:∃k,f[j]?=some (some k):=by
     unfold YA at e;rw[Xy]at e;cases q:f[j]? with
     |none=>rw[q]at e;cases e
     |some o=>
      cases o with
      |none=>rw[q]at e;cases e
      |some k=>exact#[k,rfl]
    obtain⟨k,ef⟩:=ef;rw[kp8.2 j k ef];exact e
   have recs:∀{H9:Hp} {s9:Shared} {ob:Obj},Qt (Vl X N scope c) ([(b7.heap.objs.size,ob)]++Dm fp s7.heap) P H9 s9->tn (i+1) s9.heap/\∀b∈fp,H9 b=none:=λ{H9 s9 ob} I9=>
    #[T.keep _ _ _ st7 λb m o e=>(I9.pin (b,o)<|XM _<|XM _<|DZ m e).1,λb m=>by
     exact At (T.obj _ _ st7 b m) λo e d=>(I9.pin (b,o)<|XM _<|XM _<|DZ m e).2.1]
   refine QD (hcs c _ s8 P H8 _ I8 q8) ?_;rintro ok s9 ⟨H9,I9,q9⟩;cases ok with
   |false=>
    apply At ((q9));intro m' hm w9;obtain⟨z1,z2⟩:=recs I9;exact#[m',hm,i+1,H9,ys,A,k,(I9.unpinned).weak kp8.1.symm wk,R,hz5,z1,z2,w9]
   |true=>
    refine QD (he c _ s9 P H9 _ I9<|q9) ?_;rintro v a ⟨y,H10,I10,r10,hlen,m',hm,w10⟩;apply Hs (I10.pin (b7.heap.objs.size,WK A k) (XM _<|X9 _<|Xi.mpr rfl));intro eD nD neD nfD dD;obtain⟨z1,z2⟩:=recs I10;have lv:=R.length;refine call_meets F.slot_list_append #[_,eD,rfl] F.entry_list_append (F.args_list_append_2 _ _) (PySem.list_append b7.heap.objs.size A.toArray k v<|by rw[Xs];lia) #[eD,?_];have q:=PySem.IsL.update eD (·.push v);have hf:A.toArray.push v=(A++[v]).toArray:=by simp
    rw[hf]at q;have I11:=
     (I10.pins_of (pins':=[]) λp K=>Xv K<|by simp).turned (t':=a.toks) (it:=b7.heap.objs.size) (λb o m e=>(XT a.heap (Obj.mapSeq (·.push v))<|Ne.symm m).trans e) nD neD (.inl Xb) (t.exf _ Xb).2 λp K=>by
      rw[Xx]at K;exact l p K
    have I12:Qt (Vl X N scope c) [(b7.heap.objs.size,WK (A++[v]) _)] P H10 { a with heap:=a.heap.update b7.heap.objs.size (Obj.mapSeq (·.push v)) }:=
     I11.pins_of λp K=>by
      have K:p=(b7.heap.objs.size,_):=Xi.mp K;subst K;exact#[q,nD,neD,nfD,λv K=>nomatch (show Data.seq _ _=Data.cell v from K)]
    exact#[m',hm,i+1,H10,ys++[y],A++[v],_,I12.weak kp8.1.symm wk,R.append<|.cons r10 .nil,by rw[Xn,U5];lia,T.keep _ _ _ z1 λb m o e=>(XT a.heap (Obj.mapSeq (·.push v)) (fneD b m).symm).trans e,z2,w10]
 exact codeAny_compStart_list (loop _<|by rw[<- hs3]) (T.self _ 0 _ _ _ st1<|loop _<|by rw[<- hs3])
def AG{f:List (Option Nat)}{g:CIn->TG}{tc:CIn->TT}{te:CIn->TE}
(U:Bc NX sc N f scope=true)(D:X.N=NX)(y:X.env.scope=sc)(E:PIH X tg iter wi)
(n:∀c,PG (Vl X N scope c) tg<|g c)(a:∀c,TgOk f<|g c)(A:∀c,PCs (Vl X N scope c) ifs<|tc c)(he:∀c,PE (Vl X N scope c) elt<|te c)
(hs:∀x,foldedSetIterable iter X.env x=pure x:=by intro _;rfl):PE X (.ListComp elt [#[tg,iter,ifs,0]] scope pos) (tLC f wi g tc te):=by
 subst D y;intro B s O H Q I h;have i:=Fm U;refine aA (FY λp k r=>I.ok.has p.1 (i.free p k r)) λcl j w v=>wpAny_comprehension_free rfl hs j i.kind i.names (QD (E B s O H _ I h) λxv b6 b8=>QD b8 λW b7 Y=>?_);apply aK Y;rintro it fp tn L H2⟨rfl,I2,T,M,S,d⟩;exact T5 i n a A he I2 T M S d w v<|λK C Z s' P l I' z u J G F q=>#[P,l,λR m=>#[.ref K,Z,I'.turned (λb o t e=>(m.2 b t).trans e) z u (.inr J) G F,rfl,q]]
def Wg{f:List (Option Nat)}{g:CIn->TG}{tc:CIn->TT}{te:CIn->TE}
(s:X.calm=true)(v:Bc NX sc N f scope=true)(i:X.N=NX)(b:X.env.scope=sc)(E:PI X tg iter wi)
(m:∀c,PG (Vl X N scope c) tg<|g c)(j:∀c,TgOk f<|g c)(h:∀c,PCs (Vl X N scope c) ifs<|tc c)(he:∀c,PE (Vl X N scope c) elt<|te c)
(hs:∀x,foldedSetIterable iter X.env x=pure x:=by intro _;rfl):PE X (.ListComp elt [#[tg,iter,ifs,0]] scope pos) (tLC f wi g tc te):=
 AG v i b (E.x s) m j h he hs
def Hg{m:Pos}{f:List (Option Nat)}{g:CIn->TG}{tc:CIn->TT}{te:CIn->TE}
(hN:X.N.Nodup)(P:X.N[i]?=some x)(hx:X.env.scope.names.lookup x=some .local)
(ck:Bc NX sc N f scope=true)(d:X.N=NX)(L:X.env.scope=sc)(E:PIH X tg iter wi)
(hg:∀c,PG (Vl X N scope c) tg<|g c)(U:∀c,TgOk f<|g c)(W:∀c,PCs (Vl X N scope c) ifs<|tc c)(he:∀c,PE (Vl X N scope c) elt<|te c)
(K:swapsWith (.ListComp elt [#[tg,iter,ifs,0]] scope pos) (some<|.Name x px) m.line X.env=pure true)
(hs:∀x,foldedSetIterable iter X.env x=pure x:=by intro _;rfl):PS X (.Assign [.Name x px] (.ListComp elt [#[tg,iter,ifs,0]] scope pos) m) (Z9 (tLC f wi g tc te)<|ZM i):=by
 subst d L;intro B s O H CH I h;have j:=Fm ck;apply aA (FY λp Y hf=>I.ok.has p.1 (j.free p Y hf));intro cl w D A;rw[exec_Assign_Name_used _ _ _ _ K];refine Xa (wpAny_standAt<|Xa ?_)
 refine Xa (wpAny_mono (wpAny_comprehension_free rfl hs w j.kind j.names
  (QD (E B s O H _ I h) λxv b6 b8=>QD b8 λS b7 bq=>?_)) (λ_ J M=>Xl<|Xl M) λ_ _ e=>e)
 apply aK bq;rintro it fp tn t H2⟨rfl,I2,T,u,f2,M⟩;refine T5 j hg U W he I2 T u f2 M D A<|λk C Z J R hn I' hC n h0 r h2 q=>wpAny_assign_Name (Fz I' hN P (.inl hx) (v:=.ref k) rfl ?_<|.inr hx);rintro G l ⟨a,F,ha⟩;have Q:C≠a:=by
  rcases ha with z|z
  .exact z▸n
  .exact(r _ _ z).symm
 exact#[R,hn.sameBut F Q,λh'' y=>#[_,Z,l.turned (λb o hb e=>(y.2 b hb).trans e) hC n (.inr h0) r h2,q]]
def Zr2{b:Pos}{f:List (Option Nat)}{g:CIn->TG}{tc:CIn->TT}{te:CIn->TE}
(B:X.N.Nodup)(m:X.N[i]?=some x)(hx:X.env.scope.names.lookup x=some .local)
(A:X.calm=true)(C:Bc NX sc N f scope=true)(v:X.N=NX)(j:X.env.scope=sc)(E:PI X tg iter wi)
(y:∀c,PG (Vl X N scope c) tg<|g c)(w:∀c,TgOk f<|g c)(s:∀c,PCs (Vl X N scope c) ifs<|tc c)(he:∀c,PE (Vl X N scope c) elt<|te c)
(h:swapsWith (.ListComp elt [#[tg,iter,ifs,0]] scope pos) (some<|.Name x px) b.line X.env=pure true)
(hs:∀x,foldedSetIterable iter X.env x=pure x:=by intro _;rfl):PS X (.Assign [.Name x px] (.ListComp elt [#[tg,iter,ifs,0]] scope pos) b) (Z9 (tLC f wi g tc te)<|ZM i):=
 Hg B m hx C v j (E.x A) y w s he h hs
end
end L2
namespace L2
mutual
inductive Rep(H:Hp):V->PyData->Prop
 |non:Rep H .non .none
 |bl (b:Bool):Rep H (.bl b) (.bool b)
 |int (i:Int):Rep H (.int i) (.int i)
 |str (x:Str):Rep H (.str x) (.str x)
 |lst {a:Addr}{xs:List V}{ds:Qd}:H a=some (.lst xs)->Qz H xs ds->Rep H (.ref a) (.list ds)
 |tup {a:Addr}{xs:List V}{ds:Qd}:H a=some (.tup xs)->Qz H xs ds->Rep H (.ref a) (.tuple ds)
 |dct {a:Addr}:H a=some (.dK [])->Rep H (.ref a) (.dict [])
inductive Qz(H:Hp):List V->Qd->Prop
 |nil:Qz H [] []
 |cons {x:V}{xs:List V}{d:PyData}{ds:Qd}:Rep H x d->Qz H xs ds->Qz H (x::xs) (d::ds)
end
mutual
theorem Rep.mono{H Z:Hp}(s:Q6 H Z):∀{v:V} {d:PyData},Rep H v d->Rep Z v d
 |_,_,.non=>.non
 |_,_,.bl b=>.bl b
 |_,_,.int i=>.int i
 |_,_,.str x=>.str x
 |_,_,.lst h r=>.lst (s _ _ h) (Qz.mono s r)
 |_,_,.tup h r=>.tup (s _ _ h) (Qz.mono s r)
 |_,_,.dct h=>.dct (s _ _ h)
theorem Qz.mono{H Z:Hp}(s:Q6 H Z):∀{vs:List V} {ds:Qd},Qz H vs ds->Qz Z vs ds
 |_,_,.nil=>.nil
 |_,_,.cons r t=>.cons (Rep.mono s r) (Qz.mono s t)
end
theorem Qz.length{H:Hp}:∀{vs:List V} {ds:Qd},Qz H vs ds->vs.length=ds.length
 |_,_,.nil=>rfl
 |_,_,.cons _ t=>by simp[Qz.length t]
theorem Qz.get{H:Hp}:∀{vs:List V} {ds:Qd} {i:Nat} {d:PyData},Qz H vs ds->ds[i]?=some d->∃v,vs[i]?=some v/\Rep H v d
 |_,_,_,_,.nil,e=>by simp at e
 |_,_,0,_,.cons r _,e=>by simp at e;subst e;exact#[_,rfl,r]
 |_,_,i+1,d,.cons _ t,e=>by
  exact At (Qz.get (i:=i) (d:=d) t (by simpa using e)) λu c b=>#[u,by simpa using c,b]
theorem Qz.snoc{H:Hp}{v:V}{d:PyData}:∀{vs:List V} {ds:Qd},Qz H vs ds->Rep H v d->Qz H (vs++[v]) (ds++[d])
 |_,_,.nil,h=>.cons h .nil
 |_,_,.cons r t,h=>.cons r (Qz.snoc t h)
theorem Qz.append{H:Hp}:∀{vs ws:List V} {ds es:Qd},Qz H vs ds->Qz H ws es->Qz H (vs++ws) (ds++es)
 |_,_,_,_,.nil,s=>s
 |_,_,_,_,.cons r t,s=>.cons r (Qz.append t s)
theorem Qz.set{H:Hp}{v:V}{d:PyData}(r:Rep H v d):∀{vs:List V} {ds:Qd} (i:Nat),Qz H vs ds->Qz H (vs.set i v) (ds.set i d)
 |_,_,_,.nil=>.nil
 |_,_,0,.cons _ t=>.cons r t
 |_,_,i+1,.cons q t=>.cons q (Qz.set r i t)
theorem Uu{H:Hp}:∀{vs:List V} {l:Ql},Qz H vs (l.map PyData.int)->vs=l.map V.int
 |_,[],.nil=>rfl
 |_,i::l,.cons (.int _) t=>by rw[XI,Uu t]
theorem Fa{H:Hp}:∀(l:Ql),Qz H (l.map V.int) (l.map PyData.int)
 |[]=>.nil
 |i::l=>.cons (.int i) (Fa l)
section
variable {O:St}{H:Hp}
mutual
theorem Rep.reads(I:Qt X B O H s):∀{v:V} {d:PyData} {u:Value},Rep H v d->QN v u->∃as,Reads s.heap u d as
 |_,_,_,.non,r=>by cases r;exact#[_,.none]
 |_,_,_,.bl b,r=>by cases r;exact#[_,.bool b]
 |_,_,_,.int i,r=>by obtain⟨t,rfl⟩:=r;exact#[_,.int i t]
 |_,_,_,.str x,r=>by obtain⟨t,rfl⟩:=r;exact#[_,.str x t]
 |_,_,_,.lst h q,r=>by
  cases r;apply By (I.hok _ _ h);intro z j n f e;obtain⟨as,g⟩:=Qz.reads I q f;exact#[_,.list e rfl rfl (by simpa using g)]
 |_,_,_,.tup h q,r=>by
  cases r;apply aV (I.hok _ _ h);intro z j f o e c n dd;obtain⟨as,g⟩:=Qz.reads I q f;exact#[_,.tuple e c dd<|by simpa using g]
 |_,_,_,.dct h,r=>by
  cases r;apply FB (I.hok _ _ h);rintro z y C A D es K e⟨c,dd,_,w,_⟩;cases A;exact#[_,.dict (kvs:=[]) e c.1 dd (by rw[Sz w.length];exact .nil)<|by rw[Sz w.length];exact .nil]
theorem Qz.reads(I:Qt X B O H s):∀{vs:List V} {ds:Qd} {us:Qe},Qz H vs ds->QU vs us->∃as,ReadsAll s.heap us ds as
 |_,_,_,.nil,r=>by cases r;exact#[_,.nil]
 |_,_,_,.cons q t,r=>by
  cases r with
  |cons g f=>
   obtain⟨as,c⟩:=Rep.reads I q g;obtain⟨h,b⟩:=Qz.reads I t f;exact#[_,.cons c b]
end
def V9(d:PyData):Prop:=d.canLay0=true/\d.depth<=60
def SD:R2:=λx y H Q=>∃d e,Rep H x d/\Rep H y e/\V9 d/\V9 e/\Q (.bl<|PyData.eqv d e) H
def SQ:R2:=λx y H Q=>∃d e,Rep H x d/\Rep H y e/\V9 d/\V9 e/\Q (.bl<|!PyData.eqv d e) H
def Ul(w:X.A.units+64<cLine):OpR X (compareOp .Eq) SD:=by
 intro B s O H x y v u Q I c b h;apply aT h;intro d e j i fd m q;obtain⟨K,g⟩:=j.reads I c;obtain⟨D,f⟩:=i.reads I b;refine SeqAt.compareEq_reads g f fd.1 m.1 ?_ #[.bl<|PyData.eqv d e,H,I,rfl,q];have C:=fd.2;have A:min d.depth e.depth<=d.depth:=Nat.min_le_left _ _;lia
def Tr(w:X.A.units+64<cLine):OpR X (compareOp .NotEq) SQ:=by
 intro B s O H x y v u Q I c b h;apply aT h;intro d e j i fd m q;obtain⟨K,g⟩:=j.reads I c;obtain⟨D,f⟩:=i.reads I b;refine SeqAt.compareNe_reads g f fd.1 m.1 ?_ #[.bl<|!PyData.eqv d e,H,I,rfl,q];have C:=fd.2;have A:min d.depth e.depth<=d.depth:=Nat.min_le_left _ _;lia
end
def Uv(f:V9 d):PyData.eqv d d=true:=SeqAt.eqv_refl d f.1
def Td{b:Type}{xs:List b}{i:Int}{v:b}(h:atI xs i=some v):∃j:Nat,xs[j]?=some v/\ixN xs.length i=some j:=by
 unfold atI at h;cases e:ixN xs.length i with
 |none=>rw[e]at h;cases h
 |some j=>rw[e]at h;exact#[j,h,rfl]
inductive TyN(H:Hp):V->String->Prop
 |non:TyN H .non "NoneType"
 |bl (b:Bool):TyN H (.bl b) "bool"
 |int (i:Int):TyN H (.int i) "int"
 |str (x:Str):TyN H (.str x) "str"
 |lst {a:Addr}{xs:List V}:H a=some (.lst xs)->TyN H (.ref a) "list"
 |tup {a:Addr}{xs:List V}:H a=some (.tup xs)->TyN H (.ref a) "tuple"
 |dct {a:Addr}:H a=some (.dK [])->TyN H (.ref a) "dict"
def tyD:PyData->String
 |.none => "NoneType"
 |.bool _ => "bool"
 |.int _ => "int"
 |.str _ => "str"
 |.list _ => "list"
 |.tuple _ => "tuple"
 |.dict _ => "dict"
def Rep.ty(r:Rep H v d):TyN H v (tyD d):=by
 cases r with
 |non=>exact .non
 |bl b=>exact .bl b
 |int i=>exact .int i
 |str x=>exact .str x
 |lst h _=>exact .lst h
 |tup h _=>exact .tup h
 |dct h=>exact .dct h
def UA(T c:String):Option Bool:=
 if T = "int" /\ c = "int" then some true else if T = "int" /\ c = "bool" then some false else if T = "list" /\ c = "list" then some true else if T = "tuple" /\ c = "tuple" then some true else none
def Zrm:Va X (.builtin "isinstance") (λxs H Q=>∃x T c b,xs=[x,.ty c]/\TyN H x T/\UA T c=some b/\Q (.bl b) H):=by
 intro B s O H xs L Q I r h;apply aW h;rintro x T c b rfl y e q;apply aF (BU r);rintro u K rfl g C;cases (C);have f:∀t,EP X B O Q _ { s with toks:=t }:=λt=>#[.bl b,H,I.tok t,rfl,q]
 cases y with
 |int i=>
  obtain⟨t,rfl⟩:=g
  by_cases z:c = "int"
  .subst z;cases e;exact IsiPair.int_int (f _)
  .by_cases w:c = "bool"
   .subst w;cases e;exact IsiPair.int_bool (f _)
   .simp[UA,z,w]at e
 |lst m=>
  by_cases z:c = "list"
  .subst z;cases e;cases g;exact By (I.hok _ _ m) λz j n A v=>IsiPair.list_list v rfl (f _)
  .simp[UA,z]at e
 |tup m=>
  by_cases z:c = "tuple"
  .subst z;cases e;cases g;exact aV (I.hok _ _ m) λz j A o v D n dd=>IsiPair.tuple_tuple v D (f _)
  .simp[UA,z]at e
 |_=>simp[UA]at e
def GJ(_ j:Int):Prop:=0<j/\j<2^8000
def Ew{j:Int}(h:GJ 0 j):j.natAbs.log2<9000:=by
 have c:j.natAbs≠0:=by have:=h.1;lia
 have b:j.natAbs<2^8000:=by have:=h.2;have:=h.1;lia
 have:=(Nat.log2_lt c).mpr b;lia
def DK:OpR X (binaryOp .FloorDiv) (rI GJ λi j=>.int<|i/j):=opI λi j _ _ _ _ _ b q=>by
 refine floordiv_int (Int.ne_of_gt b.1) ?_ (.inl<|PyProof.noPylong_of_log2<|Ew b);rw[Int.fdiv_eq_ediv_of_nonneg _ (Int.le_of_lt b.1)];exact q
def Q6.upd(s:Q6 H Z)(h:H a=none):Q6 H (L2.upd Z a o):=λb u e=>by
 rw[Qs<|ZB e h];exact s b u e
def Q6.new(h:H a=none):Q6 H (L2.upd H a o):=(Q6.refl H).upd h
end L2
namespace Att
open PySem PySem.W PySem.Calls PyProof.Rows
theorem FW:∀(ns:Ql) (i:Int),i∈ns->Builtin.Int.intBits i<=WData.weightAll (ns.map WData.int)
 |[],i,h=>by simp at h
 |n::ns,i,h=>by
  rw[XI,WData.weightAll];rcases Xf.mp h with rfl|h
  .have:WData.weight (.int i)=Builtin.Int.intBits i:=by rw[WData.weight];rfl
   lia
  .have:=FW ns i h;lia
def EX{ns:Ql}(h:WData.layableAll [WData.list<|ns.map WData.int]=true):∀i∈ns,Builtin.Int.intBits i<=2^20:=λi E=>by
 exact I0 (layableW_iff.mp (layableW_arg h _ (Xi.mpr rfl))) λ_ _ b=>X4 (FW ns i E) b
def attach_callW{l:OpenLaw}
(hn:l.most=some n)(L:d.params.defaults=[])
(call:∀(w:World) (b c:Shared) (mg C:Str->Qf) (y:Addr) (o:Obj) (B cd h:Value) (a:Addr) (vs:Qe) (ns:Ql),
  Ground q loose [] XP w b mg C c.heap->YP w c.heap->
  c.heap.get? y=some o->o.data=.func (docDef d.name d.params d.body d.scope B cd h)->c.heap.CodeRec cd d.name->mg d.name=some (.ref y)->
  c.heap.get? a=some { cls:=.type "list",data:=.seq vs.toArray }->IntsAre vs ns->ns.length<=n->(∀i∈ns,Builtin.Int.intBits i<=2^20)->c.gens=(List.toArray [])->
  codeAny (model l.prog w) callerA (.call (.ref y) #[[.ref a],[]]) (λr A=>r=.ok (.ret<|.bool true)/\OldK c.heap A.heap/\A.os=c.os/\AllBare A.gens) c):
 WalkO q loose XP YP l.row.toRowW d [] (λf vs=>PySem.call f vs):=by
 intro w b c mg C G ρ y o B cd h I kV p z M W K x X P J j v e D u;obtain rfl:=Dflts.none W L;obtain rfl:=Dflts.noKw W;apply aM (ZqK hn j D);rintro a vs ns rfl rfl m g s;refine enter_call (codeAny_mono (call w b c mg C y o B cd h a vs ns G ρ p (fd_plain z) M K m g s (EX v) x) λr A k=>?_);apply aJ k;rintro rfl H F E;exact#[.inl #[.bool true,.bool true,[],rfl,λ_=>rfl,.bool true,Zqa l _,λ_=>#[List.Pairwise.nil,λ_ t=>(nomatch t)]],H,F,E]
end Att
namespace L2
structure Scr(K:W.Frag)(H:Hp)(a:Addr)(ns:Ql):Prop where
 sq:SqL K H a (ns.map V.int)
 len:ns.length<=63
 bits:∀i∈ns,Builtin.Int.intBits i<=2^20
def Scr.mono(h:Scr K H a ns)(s:Q6 H Z):Scr K Z a ns:=#[s.seq h.sq,h.len,h.bits]
structure Df(K:W.Frag)(mg:Str->Qf)(x:Str)(st:Stmt)(ps:Qh):Prop where
 ex:∃f fd,Fun K x x st f fd/\mg x=some (.ref f)/\Vp K fd ps []
def QC(P:Program)(w:World)(K:W.Frag)(mg:Str->Qf)(base:Heap)(x:Str)(ps:Qh)(k:Nat)(sp:Sp):Prop:=
 ∃f fd,mg x=some (.ref f)/\W.keepIn K (.ref f)=true/\Vp K fd ps []/\FnOk P w K mg base CX0 k f fd ps sp
def Df.go{b:CXT}{base:Heap}{x:Str}{st:Stmt}{k:Nat}(i:Df K mg x st ps)(h:∀f fd,Fun K x x st f fd->FnOk P w K mg base b k f fd ps sp):∃f fd,mg x=some (.ref f)/\W.keepIn K (.ref f)=true/\Vp K fd ps []/\FnOk P w K mg base b k f fd ps sp:=by
 exact aF i.ex λf fd F c g=>#[f,fd,c,F.kp,g,h f fd F]
def QI{x:Str}{p:Pos}{e:Expr}{t:TA}{k:Nat}(C:QC X.prog X.w X.K X.mg X.base x ps j sp)(c:Room k X.A)(v:PA X (e::es) t)(i:j<=k:=by walk_at"j")(m:Gl X x:=by rfl)
(b:(x==("__debug__" : Str))=false:=by decide +kernel)
(he:zs X e es:=by rfl)(hpl:zb X pos es:=by rfl):PE X (.Call (.Name x p) (e::es) [] pos) (ZS sp [] E0 t):=by
 exact aD C λf fd g h s F=>TF F (c.mono i) m g h s .nil GE v b he hpl
def ZV:bootBuiltins "len"=some (.builtin "len"):=by decide +kernel
def KG:bootBuiltins "max"=some (.builtin "max"):=by decide +kernel
def Me:bootBuiltins "min"=some (.builtin "min"):=by decide +kernel
def KR:bootBuiltins "sum"=some (.builtin "sum"):=by decide +kernel
def Um:bootBuiltins "isinstance"=some (.builtin "isinstance"):=by decide +kernel
def KS:bootBuiltins "int"=some (.type "int"):=by decide +kernel
def TZ:bootBuiltins "bool"=some (.type "bool"):=by decide +kernel
def Mo:bootBuiltins "list"=some (.type "list"):=by decide +kernel
def DL:bootBuiltins "tuple"=some (.type "tuple"):=by decide +kernel
end L2
namespace L2
mutual
theorem Rep.uniq{H:Hp}:∀{v:V} {d e:PyData},Rep H v d->Rep H v e->d=e
 |_,_,_,.non,.non=>rfl
 |_,_,_,.bl b,.bl _=>rfl
 |_,_,_,.int b,.int _=>rfl
 |_,_,_,.str b,.str _=>rfl
 |_,_,_,.lst h r,.lst h' c=>by
  rw[h]at h';cases h';rw[Qz.uniq r c]
 |_,_,_,.tup h r,.tup h' c=>by
  rw[h]at h';cases h';rw[Qz.uniq r c]
 |_,_,_,.lst h r,.tup h' c=>by rw[h]at h';cases h'
 |_,_,_,.tup h r,.lst h' c=>by rw[h]at h';cases h'
 |_,_,_,.dct h,.dct h'=>rfl
 |_,_,_,.lst h r,.dct h'=>by rw[h]at h';cases h'
 |_,_,_,.tup h r,.dct h'=>by rw[h]at h';cases h'
 |_,_,_,.dct h,.lst h' c=>by rw[h]at h';cases h'
 |_,_,_,.dct h,.tup h' c=>by rw[h]at h';cases h'
theorem Qz.uniq{H:Hp}:∀{vs:List V} {ds es:Qd},Qz H vs ds->Qz H vs es->ds=es
 |_,_,_,.nil,.nil=>rfl
 |_,_,_,.cons r t,.cons c b=>by rw[Rep.uniq r c,Qz.uniq t b]
end
mutual
def noL:PyData->Bool
 |.none=>true
 |.bool _=>true
 |.int _=>true
 |.str _=>true
 |.list _=>false
 |.dict _=>false
 |.tuple ds=>noLs ds
def noLs:Qd->Bool
 |[]=>true
 |d::ds=>noL d&&noLs ds
end
mutual
theorem Rep.updL{H:Hp}{l:Addr}{us za:List V}(c:H l=some (.lst us)):∀{v:V} {d:PyData},noL d=true->Rep H v d->Rep (L2.upd H l<|.lst za) v d
 |_,_,_,.non=>.non
 |_,_,_,.bl b=>.bl b
 |_,_,_,.int i=>.int i
 |_,_,_,.str x=>.str x
 |_,_,h,.lst _ _=>by simp[noL]at h
 |_,_,h,.tup f r=>.tup (by rw[Qs<|Po f c<|by intro z;cases z];exact f) (Qz.updL c (by simpa [noL] using h) r)
theorem Qz.updL{H:Hp}{l:Addr}{us za:List V}(b:H l=some (.lst us)):∀{vs:List V} {ds:Qd},noLs ds=true->Qz H vs ds->Qz (L2.upd H l<|.lst za) vs ds
 |_,_,_,.nil=>.nil
 |_,_,h,.cons r t=>.cons (Rep.updL b (by simp[noLs]at h;exact h.1) r) (Qz.updL b (by simp[noLs]at h;exact h.2) t)
end
end L2
namespace L2
def FK(a b:Int):Builtin.Range.rangeSize a b (-1)=((a-b).toNat:Int):=by
 unfold Builtin.Range.rangeSize;split<;>lia
def Zmi{b:Int}(ha : -(2^62)<=a)(f:a<2^62)(hb : -(2^62)<=b)(c:b<2^62):Builtin.Range.small a b (-1)=true:=by
 unfold Builtin.Range.small;rw[FK];simp only[Builtin.Range.rangeFitsLong,Wo,Bool.or_eq_true,decide_eq_true_eq,beq_iff_eq,show ¬((-1) > 0) by decide,if_false];lia
def Kf(E:Int)(n:Nat):It:=#[λi _=>i<n,λi H x Z=>Z=H/\x=.int (E-i),λi _=>n<=i]
theorem Zmo(it:Addr)(E:Int)(n:Nat):Turn P w K tg (Kf E n) [it] it (λi h=>IsRangeIter h it (E+(i:Nat)*(-1)) ((n:Int)-(i:Nat)) (-1)) where
 mem:=by simp
 obj:=λi h c b f=>by
  simp_all
 keep:=λi h h' c k=>k it (by simp) _ c
 item:=by
  intro X M L a m i B s O H p I j c hg;subst M L a;apply aG (j it (by simp));refine λf0 D q C A y=>(Walks.range (prog:=X.prog) (w:=X.w) (I.ok.hd m) it E (-1) n).item i s _ _ hg c λv h' tk l g d=>?_;obtain⟨t,rfl⟩:=l;refine#[_,rfl,GH g rfl rfl (by decide) #[.int<|E-i,H,I.turned (λb o f e=>d b o (by simpa using f) e) f0 D C A y,#[t,?_],#[rfl,rfl],g,λb f=>(j b f).1]]
  grind
 done:=by
  exact λX M L a m i B s O H p I j c hg=>aG (j it (by simp)) λf0 D q C A y=>wpAny_pyNext_range_end (I.ok.hd m) c (by have:n<=i:=hg;lia) λh' r=>#[rfl,I.turned (λb o f e=>r b o f e) f0 D C A y]
 self:=λ_ _ _ _ _ c h=>wpAny_pyIter_rangeiter c h
def ZpT{O:St}{H:Hp}{R:It->Hp->Prop}{g:Qb}{lo E:Int}{t u v:Tok}{f:Nat}(I:Qt X B O H s)(h1 : -(2^62)<=E)(j:E<2^62)(h3 : -(2^62)<=lo)(i:lo<2^62)
(q:R (Kf E (E-lo).toNat) H):wpAny (model X.prog X.w) X.A (pyIter<|.ref s.heap.objs.size) (PIE X B O tg R) g { s with heap:=s.heap.push { cls:=.type "range",data:=.fields (List.toArray [.int E t,.int lo u,.int (-1) v]) },toks:=f }:=by
 refine wpAny_pyIter_range (IsRange.new ..) (Zmi h1 j h3 i) ?_;have c:Qt X B O H { s with heap:=s.heap.push { cls:=.type "range",data:=.fields (List.toArray [.int E t,.int lo u,.int (-1) v]) },toks:=f }:=I.kept λb o e=>Xg _ e
 refine#[(s.heap.push { cls:=.type "range",data:=.fields (List.toArray [.int E t,.int lo u,.int (-1) v]) }).objs.size,[(s.heap.push { cls:=.type "range",data:=.fields (List.toArray [.int E t,.int lo u,.int (-1) v]) }).objs.size],_,_,H,rfl,
  c.kept λb o e=>Xg _ e,Zmo _ E (E-lo).toNat,?_,λb h=>?_,q]
 .have w:E+((0:Nat))*(-1)=E:=by simp
  have m:(((E-lo).toNat))-((0:Nat))=Builtin.Range.rangeSize E lo (-1):=by rw[FK];lia
  rw[w,m];exact XD _ rfl
 .have e:b=(s.heap.push { cls:=.type "range",data:=.fields (List.toArray [.int E t,.int lo u,.int (-1) v]) }).objs.size:=by simpa using h
  subst e;exact c.fpOk (Xm _) (c.hok.fresh<|Xm _)
def Px(ta:TA):TI:=λO H R=>ta O H λb U=>∃i j:Int,b=[.int i,.int j,.int (-1)]/\(-(2^62)<=i/\i<2^62 /\ -(2^62)<=j/\j<2^62)/\R (Kf i (i-j).toNat) U
def Rr{a c:Expr}{ta:TA}{p:Pos}(L:Gl X "range")(K:X.mg "range"=none)(M:PA X [a,b,c] ta)(hs:starEach [a,b,c] X.env=[(false,eval a X.env),(false,eval b X.env),(false,eval c X.env)]:=by rfl)
(g:starEach [b,c] X.env=[(false,eval b X.env),(false,eval c X.env)]:=by rfl):PI X tg (.Call (.Name "range" p) [a,b,c] [] pos) (Px ta):=by
 refine λB s O H R I h=>Call_ (Uk I L K boot_range<|PyProof.Rows.callWith_type1 (QD (M pos B s O H _ I h) ?_) (by rw[hs,g])<|by rw[g];rfl);rintro d n ⟨W,U,P,w,m⟩;obtain⟨i,j,rfl,⟨m,D,C,A⟩,q⟩:=m;cases w with
 |cons r f=>
  cases f with
  |cons y f=>
   cases f with
   |cons v f=>
    cases f;obtain⟨t,rfl⟩:=r;obtain⟨l,rfl⟩:=y;obtain⟨k,rfl⟩:=v;exact call_range_3 (by decide) (ZpT P m D C A q) (.inl<|PyProof.noPylong_small<|by decide)
def MY(K:W.Frag):V->V->Hp->VK->Prop:=λo i H Q=>∃p xs k v,o=.ref p/\i=.int k/\SqL K H p xs/\0<=k/\xs[k.toNat]?=some v/\Q v H
def Zm2(ns:Ql):preSum (λi=>ns.getD i 0) ns.length=ns.sum:=by
 have b:∀k,k<=ns.length->preSum (λi=>ns.getD i 0) k=(ns.take k).sum:=by
  intro k;induction k with
  |zero=>intro _;simp[preSum]
  |succ k c=>
   intro g;have f:k<ns.length:=#[]
   rw[JM,List.sum_append,<- c #[]];simp[preSum,f]
 rw[b ns.length<|Xm _,Jr]
theorem Uq:∀{vs:Qe} {ns:Ql} {i:Nat} {v:Value},IntsAre vs ns->vs[i]?=some v->∃t,v=.int (ns.getD i 0) t
 |_,_,_,_,.nil,e=>by simp at e
 |_,_,0,_,.cons n t h,e=>by simp at e;exact#[t,by simp[<- e]]
 |_,_,i+1,v,.cons n t h,e=>by
  obtain⟨b,z⟩:=Uq h (by simpa using e);exact#[b,by simpa using z]
def ZkI(K:A.handled=none)(y:s.heap.IsList l vs.toArray)(E:IntsAre vs ns)
(h:∀h' C t',(∀b o,s.heap.get? b=some o->h'.get? b=some o)->Q (.int ns.sum t') { s with heap:=h',toks:=C }):wpAny (model prog w) A (call (.builtin "sum") [.ref l]) Q hi s:=by
 apply aQ (id y);refine λo B p n k=>call_sum_walkAnyS (wpAny_pyIter_list y (#[s.heap.objs.size,_,_,_,_,_,_,λi=>ns.getD i 0,rfl,(Walks.list (prog:=prog) (w:=w) (A:=A.in1) K s.heap.objs.size l (XF (Xo B)) vs.toArray).toS,#[#[_,XD _ rfl,rfl,rfl],y.at λo e=>Xg _ e],λb c=>?_,λi v L=>Uq E<|by simpa using L,λD t' f=>?_]))
 .rcases Xf.mp c with rfl|c
  .exact Xo (XD _ rfl)
  .obtain rfl:=Xi.mp c;exact Xo (Xg _ B)
 .obtain⟨h',M,d,g,j⟩:=D;have a:M=s.gens:=f.gens;have X:d=s.drawn:=f.drawn;have P:j=s.os:=f.os;subst a X P;have es:vs.toArray.size=ns.length:=by rw[Xs,E.length]
  rw[es,Zm2];exact h h' g t' λb o e=>f.heap b o (λc=>Xv (Xo e)<|(Xi.mp c)▸X8 _) (Xg _ e)
def Br:SM X (MY X.K):=by
 intro B s O H o i K L Q I f g h;apply aR h;rintro p xs k v rfl rfl y C⟨c,q⟩;cases f;obtain⟨t,rfl⟩:=g;refine aA (I.list y) λm r j M=>At (r.get c) λw D b=>?_;have P:=GU;have A:=(Xc.mp c).1;exact wpAny_getItem_list j.isList C #[] (by simpa using D) #[v,H,I,b,q]
def ZqJ:Va X (.builtin "sum") (λxs H Q=>X.calm=true/\∃(x:V) (ns:Ql),xs=[x]/\Rep H x (.list<|ns.map PyData.int)/\Q (.int ns.sum) H):=by
 intro B s O H xs w Q I r h;apply By h;rintro j x ns rfl⟨i,q⟩;apply At (YE r);rintro u rfl b;cases i with
 |lst m f=>
  cases b;have v:=Uu f;subst v;exact aA (I.list (SqL.of m)) λg c p C=>ZkI (I.ok.hd j) p.isList (Bx c) λh' y A k=>#[.int ns.sum,H,I.kept k,#[_,rfl],q]
end L2
namespace L2
def Qt.turnedL{O:St}{H:Hp}{t':Nat}{ch:Qg}(I:Qt X B O H s)(k:∀b o,b∉ch->s.heap.get? b=some o->h'.get? b=some o)(g:∀b∈ch,Wd X B H b):Qt X B O H { s with heap:=h',toks:=t' }:=by
 refine I.step (λb j=>?_) (λb o _ _ f e _=>k b o f e) (λb o _ _ f e _=>#[o.slots,k b o f e]) (λ_ _ _ _ n=>n)
  (λb o f e=>#[o,k b o f e]) (λ_ _ e=>e) (λ_ _ _ e=>e) (λb ps e=>#[(List.toArray []),by rw[e];simp]) (λm i=>?_) (λb u e=>?_) I.bare (λb _ o f _ e=>k b o f e)
 .exact aG (g b j) λf0 C L A y w=>#[A,C,y,w]
 .exact L0 i λo es D h r=>#[o,es,D,k _ o (λz=>(g _ z).2.1 rfl) h,r]
 .refine(I.hok b u e).stay (λc v f q=>k c v (λz=>?_) q) (λ_ q=>q) λ_ _ q=>q
  have K:=(g c z).1
  grind
def Qt.trackTup{O:St}{H:Hp}{T:Addr}{x:V}{u v:Value}(b:Qt X B O H s0)(I:Qt X B O H s)(hT:s0.heap.objs.size<=T)(rx:QN x u)(g:QN y v)(f:s.heap.IsTuple T (List.toArray [u,v])):Qt X B O (upd H T<|.tup [x,y]) s:=by
 refine I.track (b.hok.fresh hT) (X4 b.sz hT) (Y3<|XG b.lt hT) (λz c e q=>?_) (λp i q=>?_) #[by show 2<=sizeLine;decide,[u,v],.cons rx<|.cons g .nil,f]
 .obtain⟨w,h⟩:=b.cell z c e;exact Xv (XG h.lt<|by exact q▸hT) (X8 _)
 .exact Xv (XG (Xo (b.pin p i).1)<|by exact q▸hT) (X8 _)
def Ite(K:W.Frag)(a:Addr):It:=
 #[λi H=>∃xs x,SqL K H a xs/\xs[i]?=some x,
  λi H v Z=>∃p x,H p=none/\v=.ref p/\Z=upd H p (.tup [.int (i:Int),x])/\∀xs,SqL K H a xs->xs[i]?=some x,
  λi H=>∃xs,SqL K H a xs/\i=xs.length]
theorem ZpN(p:e≠it)(l:a≠e)(d:a≠it):
 Turn P w K (.Tuple elts k pos) (Ite K a) [e,it] e (λi h=>(∃f,IsEnum h e it i f)/\h.IsListIter it a i) where
 mem:=by simp
 obj:=λi h j c r=>by
  apply aX j;rintro⟨f,g⟩o1 e1 c1 d1
  grind
 keep:=λi h h' j Z=>by
  obtain⟨⟨f,g⟩,A⟩:=j;exact#[#[f,Z e (by simp) _ g],A.at λo x=>Z it (by simp) o x]
 item:=by
  intro X R J S r i B s O H hi I q j hg;subst R J S;refine KE hg λxs x m hx=>aA (I.list m) λb v F G=>At (v.get hx) λu1 M E=>?_;obtain⟨g,A⟩:=j;have W:=WalksT.enumerate (prog:=X.prog) (w:=X.w) (I.ok.hd r) e it a p l d b.toArray;have l1:=(Xc.mp M).1;refine W.item i s _ _ (by simp only[Xs];lia) #[g,A,F.isList] λT vals h' tk pt hT tup D kp=>?_;apply KE pt;rintro t v1 e1 rfl
  have Y:=by
   have:=by simpa using e1
   exact(Option.some.inj (M▸this)).symm
  subst Y;refine#[.ref T,rfl,W.go elts k pos i T { s with heap:=h',toks:=tk } _ _ D λU u L=>?_];have C:U.IsTuple T (List.toArray [.int (i) t,v1]):=by
   exact aQ tup λo ho Q n hd=>#[o,L T o (W.apart i T h' D) ho,Q,n,hd]
  refine I0 u λs1 s2 _=>#[.ref T,_,I.trackTup ((I.turnedL kp q).turnedL (t':=tk) L q) hT (x:=.int (i)) #[t,rfl] E C,rfl,#[T,x,I.hok.fresh hT,rfl,rfl,λxs' h=>by rw[I.list_inj h m];exact hx],#[s1,s2],λc y=>?_];have N:c<s.heap.objs.size:=by
   simp only[Xf,X5,or_false]at y;obtain⟨f,g⟩:=g;rcases y with rfl|rfl
   .exact Xo g
   .exact At A λ_ z _=>Xo z
  rw[Qs<|XF<|XG N hT];exact(q c y).1
 done:=by
  intro X R J S r i B s O H hi I q j hg;subst R J S;apply At hg;rintro xs m rfl;apply aA (I.list m);intro b v F G;obtain⟨g,A⟩:=j;have en:xs.length=b.toArray.size:=by simp[v.length]
  refine (WalksT.enumerate (prog:=X.prog) (w:=X.w) (I.ok.hd r) e it a p l d b.toArray).done s _ _ (by exact en▸#[g,A,F.isList]) λh' tk kp=>#[rfl,I.turnedL kp q]
 self:=λ_ _ _ _ _ j h=>by
  obtain⟨⟨f,g⟩,_⟩:=j;exact wpAny_pyIter_enum g h
def Pm(K:W.Frag)(ta:TA):TI:=λO H R=>ta O H λb U=>∃a,b=[.ref a]/\(∃xs,SqL K U a xs)/\R (Ite K a) U
def ZqQ:bootBuiltins "enumerate"=some (.type "enumerate"):=by decide +kernel
def MB{ta:TA}   (l:Gl X "enumerate")(d:X.mg "enumerate"=none)(n:PA X [a] ta)(hs:starEach [a] X.env=[(false,eval a X.env)]:=by rfl):
 PI X (.Tuple elts k tpos) (.Call (.Name "enumerate" p) [a] [] pos) (Pm X.K ta):=by
 refine λB s O H R I h=>Call_ (Uk I l d ZqQ<|PyProof.Rows.callWith_type1 (QD (n pos B s O H _ I h) ?_) hs rfl);rintro E b ⟨z,U,g,C,D⟩;apply aA D;rintro x e⟨xs,M⟩q;subst e;apply At (YE C);rintro u rfl y;cases y;refine aA (g.list M) λm A i L=>call_enumerate_list i.isList λh' v r P K=>wpAny_pyIter_enum v ?_;have j:x<b.heap.objs.size:=by exact At i.isList λo W _=>Xo W
 refine#[_,[b.heap.objs.size+1,b.heap.objs.size],_,_,U,rfl,g.kept (t':=b.toks) K,ZpN (Nat.succ_ne_self _) (XF<|BF j)<|XF j,#[#[_,v],r],λc w=>?_,q];have f:b.heap.objs.size<=c:=by
  simp only[Xf,X5,or_false]at w;rcases w with rfl|rfl
  .exact Nat.le_add_right _ _
  .exact Xm _
 exact g.fpOk f (g.hok.fresh f)
end L2
namespace L2
def Nc(f:∀b x,b∉[s.heap.objs.size]->(s.heap.push o).get? b=some x->h'.get? b=some x):∀b x,s.heap.get? b=some x->h'.get? b=some x:=
 λb x e=>f b x (λc=>by rw[Xi.mp c]at e;exact X8 _<|Xo e) (Xg _ e)
def Wf:Ql->Int
 |[]=>0
 |[a]=>a
 |a::b::r=>min a (Wf (b::r))
theorem Rb:∀{ns:Ql},ns≠[]->Wf ns∈ns/\∀a∈ns,Wf ns<=a
 |[],h=>Xv rfl h
 |[a],_=>by simp[Wf]
 |a::b::r,_=>by
  obtain⟨i,g⟩:=Rb (ns:=b::r) (by simp);simp only[Wf];refine#[?_,λc f=>?_]
  .grind
  .grind
def Ie{M:Int}(b:M∈ns)(c:∀a∈ns,M<=a):M=Wf ns:=by
 obtain⟨g,f⟩:=Rb (ns:=ns) (λz=>by rw[z]at b;cases b);have:=c _ g;have:=f _ b;lia
def Py(X:Cx):List V->Hp->VK->Prop:=λxs H Q=>X.calm=true/\∃(x:V) (b:Ql),xs=[x]/\Rep H x (.list<|b.map PyData.int)/\b≠[]/\Q (.int<|Wf b) H
def EN:Va X (.builtin "min") (Py X):=by
 intro B s O H xs T Q I r h;apply By h;rintro G x f rfl⟨n,y,q⟩;apply At (YE r);rintro u rfl P;cases n with
 |@lst l ys _ J d=>
  cases P;have R:=Uu d;subst R;apply aA (I.list (SqL.of J));intro c W p Y;have C:=p.isList;have E:=Bx W;have L:=E.length;have hpos:=HE.mpr y;have g:l<s.heap.objs.size:=by exact At C λ_ e _=>Xo e
  refine call_min_walk (wpAny_pyIter_list C (#[s.heap.objs.size,[s.heap.objs.size,l],[s.heap.objs.size],c.toArray.size,_,_,_,rfl,Walks.list (A:=X.A.in1) (I.ok.hd G) _ l (XF g) c.toArray,
   #[#[_,XD _ rfl,rfl,rfl],C.push _],λb m=>?_,by simp only[Xs];lia,CmpOf.ints_lt (λi=>f.getD i 0) (λi v w=>Uq E<|by simpa using w),λv h' U w z=>?_]))
  .rw[Jq];rcases Xf.mp m with rfl|m
   .exact JN _
   .rcases Xf.mp m with rfl|m
    .exact BF g
    .cases m
  .rw[List.getElem?_toArray]at w;obtain⟨t,rfl⟩:=Uq E w;obtain⟨N,M⟩:=argBest_lt (λi=>f.getD i 0) (c.toArray.size-1);have o:c.toArray.size=c.length:=by simp
   generalize argBest _ (c.toArray.size-1)=k at N M ⊢;have D:k<f.length:=#[]
   have S:f.getD k 0=Wf f:=by
    refine Ie (by simp[D]) λa K=>?_;obtain⟨j,F,rfl⟩:=BA.mp K
    have:=M j #[];simpa [F] using this
   exact#[.int<|Wf f,H,I.kept<|Nc z,#[t,by rw[S]],q]
def Pi(K:W.Frag):R2:=λx y H Q=>∃a b xs ys,x=.ref a/\y=.ref b/\SqT K H a xs/\SqT K H b ys/\xs.length+ys.length<=sizeLine/\
 (xs=[]->Q (.ref b) H)/\(xs≠[]->ys=[]->Q (.ref a) H)/\(xs≠[]->ys≠[]->∀p,H p=none->Q (.ref p) (upd H p<|.tup<|xs++ys))
def Bd:OpR X (binaryOp .Add) (Pi X.K):=by
 intro B s O H x y v u Q I g f h;apply aR h;rintro a b xs ys rfl rfl C A⟨w,P,M,L⟩
 by_cases c:xs=[]
 .cases g;cases f;refine aA (I.tuple C) λe i d _=>aA (I.tuple A) λj K W _=>?_;obtain⟨m,F⟩:=I.fr;have D:=i.nil_iff.mpr c;exact add_tuples (news:=[]) F (by rintro p ⟨⟩) d W (λ_=>#[.ref b,H,I,rfl,P c]) (λz _=>Xv D z) (λz=>Xv D z) (by rw[<- i.length,<- K.length];exact w)
 .exact Ei B s O H _ _ v u Q I g f #[a,b,xs,ys,rfl,rfl,C,A,c,w,M c,L c]
end L2
namespace Mir
def Ug(ns:Ql)(k:Int):Int:=ns.getD k.toNat 0
def Aq(x:Int):Nat:=if x==0 then 0 else x.natAbs.log2+1
def SC(i:Int):Int:=if i<0 then -i else i
def mix(head k:Int):Nat->Int×Int×Int
 |0=>(head%2147483629+7919*k,69621*k+5,0)
 |i+1=>
  ((((mix head k i).1*48271+11+(i:Int)*k)%2147483647),
   (((mix head k i).2.1*16807+((mix head k i).1*48271+11+(i:Int)*k)%2147483647)%2147483629),
   (mix head k i).2.2*2147483629+(((mix head k i).2.1*16807+((mix head k i).1*48271+11+(i:Int)*k)%2147483647)%2147483629*(((mix head k i).2.1*16807+((mix head k i).1*48271+11+(i:Int)*k)%2147483647)%2147483629)+((mix head k i).1*48271+11+(i:Int)*k)%2147483647)%2147483587)
def Aj(ns:Ql)(k:Int):Int:=
 if Ug ns 0/720%2=1 then (mix (Ug ns 0) k 30).2.2 else SC (Ug ns k)+(mix (Ug ns 0) k 30).2.2*2^Aq (SC<|Ug ns k)
structure Ln where
 up:Option Nat
 bs:Ql
structure Yd where
 T:Nat
 ls:List Ln
def Zn(y:Yd)(k:Nat):Option Nat:=(y.ls[k]?).bind (·.up)
structure Yd.Ok(y:Yd):Prop where
 t1:1<=y.T
 t8:y.T<=8
 l1:1<=y.ls.length
 l5:y.ls.length<=5
 up0:Zn y 0=none
 ups:∀k,0<k->k<y.ls.length->∃a,Zn y k=some a/\a<k
 bl:∀l∈y.ls,l.bs.length=y.T
 bb:∀l∈y.ls,∀b∈l.bs,0<=b/\b<10^300
def Ng{b:Int}(h:b<10^30):b<10^300:=Int.lt_trans h (by decide +kernel)
def upF9(y:Yd):Nat->Nat->Qk
 |0,k=>[k]
 |n+1,k=>k::match Zn y k with
  |none=>[]
  |some a=>if a<k then upF9 y n a else []
theorem upE9(y:Yd):∀n k m,k<=n->k<=m->upF9 y n k=upF9 y m k
 |0,k,0,_,_=>rfl
 |0,k,m+1,h,_=>by
  cases Nat.le_zero.mp h;unfold upF9;cases Zn y 0<;>simp
 |n+1,k,0,_,h=>by
  cases Nat.le_zero.mp h;unfold upF9;cases Zn y 0<;>simp
 |n+1,k,m+1,h,g=>by
  unfold upF9;cases Zn y k with
  |none=>rfl
  |some a=>
   by_cases l:a<k
   .simp only[l,if_true,upE9 y n a m (by omega)<|by omega]
   .simp only[l,if_false]
def upL(y:Yd)(k:Nat):Qk:=upF9 y k k
theorem upD9(y:Yd)(k:Nat):upL y k=k::match Zn y k with|none=>[]|some a=>if a<k then upL y a else []:=by
 unfold upL;rw[upE9 y k k (k+1) (Nat.le_refl _)<|by omega];show k::_=_
 cases Zn y k with
 |none=>rfl
 |some a=>
  by_cases l:a<k
  .simp only[l,if_true,upE9 y k a a (by omega)<|Nat.le_refl _]
  .simp only[l,if_false]
def Tf{y:Yd}(b:y.Ok)(c:k<y.ls.length):upL y k=if k=0 then [0] else k::upL y ((Zn y k).getD 0):=by
 rw[upD9];by_cases f:k=0
 .subst f;simp[b.up0]
 .apply At (b.ups k #[] c);intro a e l;simp_all
def To(y:Yd):∀k,∀j∈upL y k,j<=k:=by
 intro k;induction k using Nat.strongRecOn with
 |ind k f=>
  intro j b;rw[upD9]at b;rcases Xf.mp b with rfl|b
  .exact Xm _
  .cases e:Zn y k with
   |none=>rw[e]at b;simp at b
   |some a=>
    rw[e]at b;by_cases c:a<k
    .simp only[c]at b;have:=f a c j b;lia
    .simp only[c,if_false]at b;simp at b
def NL(y:Yd)(k:Nat):k∈upL y k:=by rw[upD9];exact Xb
def K8{y:Yd}(b:y.Ok)(h0:0<k)(c:k<y.ls.length)(e:Zn y k=some a)(l:Nat)(f:l≠k):l∈upL y k↔l∈upL y a:=by
 rw[Tf b c,Xd<|#[]];grind
end Mir
namespace Mir
structure Gs where
 line:Nat
 first:Nat
 last:Nat
 want:Int
 most:Int
structure Gs.Ok(y:Yd)(g:Gs):Prop where
 ln:g.line<y.ls.length
 fl:g.first<=g.last
 lt:g.last<y.T
 w1:1<=g.want
 w2:g.want<10^300
 m1:1<=g.most
 m2:g.most<10^300
def gn0(ns:Ql)(k:Nat):Int:=Aj ns (6+(k:Int))
def gn1(ns:Ql)(y:Yd)(k:Nat):Int:=gn0 ns k/(y.ls.length:Int)
def gn2(ns:Ql)(y:Yd)(k:Nat):Int:=gn1 ns y k/(y.T:Int)
def gf(ns:Ql)(y:Yd)(k:Nat):Int:=gn1 ns y k%(y.T:Int)
def gl(ns:Ql)(y:Yd)(k:Nat):Int:=gf ns y k+gn2 ns y k%((y.T:Int)-gf ns y k)
def Vk(g:Gs)(t:Int):Bool:=decide ((g.first:Int)<=t)&&decide (t<=(g.last:Int))
def ZG(y:Yd)(l:Nat)(t:Nat):Int:=(((y.ls[l]?).map (·.bs)).getD []).getD t 0
def ZA(gs:List Gs)(t:Int)(l:Nat):Qk->Int
 |[]=>0
 |k::r=>(match gs[k]? with|some g=>if g.line=l/\Vk g t=true then g.most else 0|none=>0)+ZA gs t l r
def Gn(gs:List Gs)(t:Int)(l:Nat)(a b:Qk):ZA gs t l (a++b)=ZA gs t l a+ZA gs t l b:=by
 induction a with
 |nil=>simp[ZA]
 |cons k r c=>simp only[BD,ZA,c];lia
def WP(y:Yd)(b:Qn)(st:Qn)(j:Nat):Qn:=λl=>st l+(if Zn y j=some l then min (st j) (b j) else 0)
def Vg(y:Yd)(b own:Qn):Nat->Qn
 |0=>own
 |i+1=>WP y b (Vg y b own i) (y.ls.length-1-i)
def VS(y:Yd)(b own:Qn)(l:Nat):Int:=Vg y b own (y.ls.length-1) l
def passes(y:Yd)(b own:Qn)(l:Nat):Int:=min (VS y b own l) (b l)
def U0(y:Yd)(b own:Qn)(l:Nat):Qn
 |0=>0
 |n+1=>U0 y b own l n+(if Zn y (l+1+n)=some l then passes y b own (l+1+n) else 0)
theorem FT(y:Yd)(c:y.Ok)(b own:Qn)(l:Nat):∀i,i<=y.ls.length-1->y.ls.length-1-i<=l->∀d,i+d<=y.ls.length-1->Vg y b own (i+d) l=Vg y b own i l
 |i,E,f,0,_=>rfl
 |i,E,f,d+1,s=>by
  show WP y b (Vg y b own<|i+d) (y.ls.length-1-(i+d)) l=_;unfold WP;rw[FT y c b own l i E f d #[]];by_cases h:0<y.ls.length-1-(i+d)
  .apply At (c.ups _ h #[]);intro a j m;rw[j];have:¬some a=some l:=by
    intro z;lia
   simp_all
  .lia
def FN{y:Yd}(c:y.Ok)(b own:Qn)(f:j<y.ls.length):Vg y b own (y.ls.length-1-j) j=VS y b own j:=by
 have:=FT y c b own j (y.ls.length-1-j) #[] #[] j #[];exact ((show y.ls.length-1-j+j=y.ls.length-1 by lia)▸this).symm
theorem Fk{y:Yd}(c:y.Ok)(b own:Qn)(l:Nat):∀i,i<=y.ls.length-1->Vg y b own i l+U0 y b own l (y.ls.length-1-i-l)=own l+U0 y b own l (y.ls.length-1-l)
 |0,_=>by simp[Vg]
 |i+1,E=>by
  have h:=Fk c b own l i #[];have e:Vg y b own (i+1) l=Vg y b own i l+(if Zn y (y.ls.length-1-i)=some l then passes y b own (y.ls.length-1-i) else 0):=by
   show WP y b (Vg y b own i) _ l=_;unfold WP passes;have j:y.ls.length-1-i<y.ls.length:=by have:=c.l1;lia
   have g:=FN c b own j;rw[show y.ls.length-1-_=i by lia]at g;rw[g]
  rw[e];by_cases A:l<y.ls.length-1-i
  .obtain⟨d,s⟩:∃d,y.ls.length-1-i-l=d+1:=⟨y.ls.length-1-i-l-1,#[]⟩
   rw[s]at h;have f:y.ls.length-1-(i+1)-l=d:=#[]
   rw[f];have v:l+1+d=y.ls.length-1-i:=#[]
   simp only[U0,v]at h;lia
  .have C:y.ls.length-1-i-l=0:=#[]
   have f:y.ls.length-1-(i+1)-l=0:=#[]
   rw[f];have:¬Zn y (y.ls.length-1-i)=some l:=by
    intro z;have m:0<y.ls.length-1-i:=#[]
    apply At (c.ups _ m #[]);intro a B w;lia
   simp_all
def Zru{y:Yd}(c:y.Ok)(b own:Qn)(l:Nat):VS y b own l=own l+U0 y b own l (y.ls.length-1-l):=by
 have h:=Fk c b own l _ (Xm _);rw[show y.ls.length-1-_-l=0 by lia]at h;simp only[U0]at h;unfold VS;lia
end Mir
namespace Mir
def Q4(f:Qn):Qn
 |0=>0
 |n+1=>Q4 f n+f n
theorem Zq{f g:Qn}:∀{n:Nat},(∀k,k<n->f k=g k)->Q4 f n=Q4 g n
 |0,_=>rfl
 |n+1,h=>by
  simp only[Q4];rw[Zq λk b=>h k<|#[],h n<|#[]]
theorem Wk{f g:Qn}:∀{n:Nat},(∀k,k<n->f k<=g k)->Q4 f n<=Q4 g n
 |0,_=>YI _
 |n+1,h=>by
  simp only[Q4];have:=Wk (n:=n) λk b=>h k #[]
  have:=h n #[];lia
theorem M1(f g:Qn):∀n,Q4 (λk=>f k+g k) n=Q4 f n+Q4 g n
 |0=>rfl
 |n+1=>by simp only[Q4];rw[M1 f g n];lia
theorem DQ(c:Int)(f:Qn):∀n,Q4 (λk=>c*f k) n=c*Q4 f n
 |0=>by simp[Q4]
 |n+1=>by simp only[Q4];rw[DQ c f n,Int.mul_add]
theorem Vv:∀n,Q4 (λ_=>0) n=0
 |0=>rfl
 |n+1=>by simp only[Q4];rw[Vv n];rfl
theorem Bf{a:Nat}{v:Int}:∀{n:Nat},Q4 (λl=>if l=a then v else 0) n=if a<n then v else 0
 |0=>by simp[Q4]
 |n+1=>by
  simp only[Q4];rw[Bf];by_cases h:n=a
  .subst h;simp
  .by_cases b:a<n
   .simp[h,b];lia
   .have:¬a<n+1:=#[]
    simp[h,b,this]
def D0{f:Qn}(h:∀k,k<n->0<=f k):0<=Q4 f n:=by
 have:=Wk h;rwa[Vv]at this
theorem RI{y:Yd}{b g own c:Qn}(f:∀l,b l<=g l)(h:∀l,own l<=c l):∀i l,Vg y b own i l<=Vg y g c i l
 |0,l=>h l
 |i+1,l=>by
  simp only[Vg,WP];have s:=RI (y:=y) f h i l;have m:=RI (y:=y) f h i (y.ls.length-1-i);have j:=f (y.ls.length-1-i);split<;>lia
def ZlR{y:Yd}{b:Qn}(c:∀l,b l<=b' l)(h:∀l,own l<=own' l)(l:Nat):passes y b own l<=passes y b' own' l:=by
 have g:=RI (y:=y) c h (y.ls.length-1) l;have f:=c l;unfold passes VS;lia
def wgt(gs:List Gs)(t:Int)(l k:Nat):Int:=match gs[k]? with|some g=>if g.line=l/\Vk g t=true then g.most else 0|none=>0
def IB(gs:List Gs)(t:Int)(l k:Nat):ZA gs t l [k]=wgt gs t l k:=by
 simp only[ZA,wgt];cases gs[k]? with
 |none=>rfl
 |some g=>simp
def Zoc(gs:List Gs)(t:Int)(l:Nat)(p:Qm)(m:Nat):ZA gs t l ((List.range m).filter p)=Q4 (λk=>if p k=true then wgt gs t l k else 0) m:=by
 induction m with
 |zero=>rfl
 |succ m b=>
  rw[YK,B9,Gn,b];simp only[Q4];cases e:p m with
  |true=>simp only[HK,e,if_true,List.filter_nil,IB]
  |false=>simp only[HK,e,List.filter_nil,ZA,Bool.false_eq_true,if_false]
theorem M9(f:Nat->Qn)(n:Nat):∀m,Q4 (λl=>Q4 (λk=>f l k) m) n=Q4 (λk=>Q4 (λl=>f l k) n) m
 |0=>by simp only[Q4];exact Vv n
 |m+1=>by
  simp only[Q4];rw[M1,M9 f n m]
end Mir
namespace L2
structure Q1(F H F' Z:Hp):Prop where
 hh:Q6 H Z
 ff:Q6 F F'
 fh:Q6 F' Z
 fr:∀a,F' a≠none->F a≠none\/H a=none
def Q1.refl(s:Q6 F H):Q1 F H F H:=#[Q6.refl _,Q6.refl _,s,λ_ h=>.inl h]
def Q1.trans(a:Q1 F H F1 U)(b:Q1 F1 U F2 H2):Q1 F H F2 H2:=
 #[a.hh.trans b.hh,a.ff.trans b.ff,b.fh,λp h=>by
  rcases b.fr p h with z|z
  .exact a.fr p z
  .exact .inr (a.hh.free z)]
def Z4{H:Hp}{a:Addr}{o:HO}(h:H a=some o):H a≠none:=by rw[h];rintro⟨⟩
def Mq{H:Hp}{a:Addr}(h:H a≠none):∃o,H a=some o:=by
 cases e:H a with
 |none=>exact Xv e h
 |some o=>exact#[o,rfl]
def Zr0(s:Q6 F H):Q6 (upd F p o) (upd H p o):=λb u e=>by
 by_cases h:b=p
 .subst h;rw[Q8]at e ⊢;exact e
 .rw[Qs h]at e ⊢;exact s b u e
def Q1.new(s:Q6 F H)(b:H p=none):Q1 F H (upd F p o) (upd H p o):=
 #[Q6.new b,Q6.new<|s.free b,Zr0 s,λa h=>by
  by_cases e:a=p
  .subst e;exact .inr b
  .rw[Qs e]at h;exact .inl h]
def Q1.own(s:Q6 F H)(b:H p=none):Q1 F H F (upd H p o):=
 #[Q6.new b,Q6.refl _,s.upd<|s.free b,λ_ h=>.inl h]
def Q1.freeze(x:Q1 F0 H0 F H)(f:F a=none)(c:H a=some o)(h0:H0 a=none):Q1 F0 H0 (upd F a o) H:=
 #[x.hh,x.ff.trans<|Q6.new f,λb u e=>by
  by_cases h:b=a
  .subst h;rw[Q8]at e;rw[c];exact e
  .rw[Qs h]at e;exact x.fh b u e,λb h=>by
  by_cases e:b=a
  .subst e;exact .inr h0
  .rw[Qs e]at h;exact x.fr b h]
def Q1.free(x:Q1 F H F' Z)(c:F a=none)(b:H a≠none):F' a=none:=by
 cases e:F' a with
 |none=>rfl
 |some o=>
  rcases x.fr a (Z4 e) with z|z
  .exact Xv c z
  .exact Xv z b
structure OwnP where
 ok:W.Frag->Hp->Hp->V->Qg->Prop
 there:∀{K:W.Frag} {F H:Hp} {v:V} {p:Qg},ok K F H v p->∀a∈p,F a=none/\H a≠none
 mono:∀{K:W.Frag} {F F' H Z:Hp} {v:V} {p:Qg},Q6 F F'->(∀a∈p,F' a=none)->(∀a∈p,Z a=H a)->ok K F H v p->ok K F' Z v p
 uniq:∀{K:W.Frag} {F H:Hp} {v:V} {p q:Qg},ok K F H v p->ok K F H v q->∀a∈q,a∈p
structure ZP where
 ok:W.Frag->Hp->V->Prop
 mono:∀{K:W.Frag} {F F':Hp} {v:V},Q6 F F'->ok K F v->ok K F' v
inductive OT where
 |zow (Ψ:ZP)
 |fz (d:PyData)
 |ol (ds:Qd)
 |oll (X3:List (Qd))
 |scr (ns:Ql)
 |own (v:V)(Φ:OwnP)
abbrev Zbv:=List (Option OT)
abbrev zi(n:Int):Option OT:=some (.fz (.int n))
abbrev zf(d:PyData):Option OT:=some (.fz d)
abbrev zo(v:V)(d:OwnP):Option OT:=some (.own v d)
abbrev zz(d:ZP):Option OT:=some (.zow d)
abbrev zr(N:List Str)(ts:List OT):Zbv:=ts.map some++List.replicate (N.length-ts.length) none
abbrev zg(r:Zbv)(i:Nat)(t:Option OT):Prop:=r[i]?=some t
def VI(F H:Hp)(a:Addr)(ds:Qd):Prop:=F a=none/\∃xs,H a=some (.lst xs)/\Qz F xs ds
def ZL(F H:Hp):Qg->List (Qd)->Prop
 |[],[]=>True
 |a::b,ds::X3=>VI F H a ds/\ZL F H b X3
 |_,_=>False
def Zh(K:W.Frag)(F H:Hp)(v:V):OT->Qg->Prop
 |.fz d,p=>p=[]/\Rep F v d
 |.ol ds,p=>∃a,v=.ref a/\p=[a]/\VI F H a ds
 |.oll X3,p=>∃a b,v=.ref a/\p=a::b/\(a::b).Nodup/\F a=none/\H a=some (.lst<|b.map V.ref)/\ZL F H b X3
 |.scr h,p=>p=[]/\∃a,v=.ref a/\Scr K F a h
 |.own g f,p=>v=g/\f.ok K F H v p
 |.zow c,p=>p=[]/\c.ok K F v
def Q6.at_eq(s:Q6 H Z)(h:H a≠none):Z a=H a:=by
 cases e:H a with
 |none=>exact Xv e h
 |some o=>exact s _ _ e
def VI.ext(h:VI F H a ds)(x:Q1 F H F' Z):VI F' Z a ds:=by
 exact Do h λf xs b c=>#[x.free f<|Z4 b,xs,x.hh _ _ b,c.mono x.ff]
theorem ZL.mem{F H:Hp}:∀{as:Qg} {X3:List (Qd)},ZL F H as X3->∀a∈as,F a=none/\H a≠none
 |[],[],_,a,c=>by cases c
 |b::as,_::_,h,a,c=>by
  rcases Xf.mp c with rfl|c
  .exact Do h.1 λg xs f _=>#[g,Z4 f]
  .exact ZL.mem h.2 a c
 |[],_::_,h,_,_=>False.elim h
 |_::_,[],h,_,_=>False.elim h
def Zh.there(h:Zh K F H v t p):∀a∈p,F a=none/\H a≠none:=by
 cases t with
 |fz d=>obtain⟨rfl,_⟩:=h;intro a f;cases f
 |zow y=>obtain⟨rfl,_⟩:=h;intro a f;cases f
 |ol ds=>
  apply aY h;rintro a w rfl i xs g _;intro b c;have e:=by simpa using c
  subst e;exact#[i,Z4 g]
 |oll X3=>
  apply aP h;rintro a C w rfl i g s m;intro b c;rcases Xf.mp c with rfl|c
  .exact#[g,Z4 s]
  .exact m.mem b c
 |scr B=>obtain⟨rfl,_⟩:=h;intro a f;cases f
 |own A j=>exact j.there h.2
def VI.other{b:Addr}(h:VI F H a ds)(n:a≠b):VI F (upd H b o) a ds:=by
 exact Do h λg xs f c=>#[g,xs,by rw[Qs n];exact f,c]
theorem ZL.move{F f H Z:Hp}(s:Q6 F f):∀{as:Qg} {X3:List (Qd)},(∀a∈as,f a=none)->(∀a∈as,Z a=H a)->ZL F H as X3->ZL f Z as X3
 |[],[],_,_,_=>trivial
 |a::as,_::_,i,g,o=>by
  obtain⟨⟨w,xs,v,m⟩,j⟩:=o;exact#[#[i a Xb,xs,by rw[g a Xb];exact v,m.mono s],ZL.move s (λb c=>i b<|Xh _ c) (λb c=>g b<|Xh _ c) j]
 |[],_::_,_,_,h=>False.elim h
 |_::_,[],_,_,h=>False.elim h
def Zh.move(s:Q6 F F')(g:∀a∈p,F' a=none)(f:∀a∈p,Z a=H a)(h:Zh K F H v t p):Zh K F' Z v t p:=by
 cases t with
 |fz d=>exact#[h.1,h.2.mono s]
 |zow w=>exact#[h.1,w.mono s h.2]
 |ol ds=>
  apply aY h;rintro a rfl rfl j xs i c;exact#[a,rfl,rfl,g a Xb,xs,by rw[f a Xb];exact i,c.mono s]
 |oll X3=>
  apply aP h;rintro a B rfl rfl j i c A;exact#[a,B,rfl,rfl,j,g a Xb,by rw[f a Xb];exact c,A.move s (λb m=>g b<|Xh _ m) λb m=>f b<|Xh _ m]
 |scr D=>exact Do h λj a i c=>#[j,a,i,c.mono s]
 |own C y=>exact#[h.1,y.mono s g f h.2]
theorem DR:∀{as c:Qg},as.map V.ref=c.map V.ref->as=c
 |[],[],_=>rfl
 |a::as,b::c,h=>by
  injection h with g f;cases g;rw[DR f]
 |[],_::_,h=>by cases h
 |_::_,[],h=>by cases h
def WA{w:V}(h:Zh K F H w t p)(h':Zh K F H w t q):∀b∈q,b∈p:=by
 cases t with
 |fz d=>rw[h'.1];intro b c;cases c
 |zow B=>rw[h'.1];intro b c;cases c
 |ol ds=>
  refine aA h' λP m j i=>aA h λM g s f=>?_
  grind
 |oll X3=>
  refine aP h' λa W m j _ _ i _=>aP h λb L g s _ _ f _=>?_;rw[m]at g;cases g;rw[i]at f;injection f with A;injection A with y;rw[j,s,DR y];exact λ_ z=>z
 |scr D=>rw[h'.1];intro b c;cases c
 |own C v=>exact v.uniq h.2 h'.2
def ZL.ext(x:Q1 F H F' Z)(h:ZL F H as X3):ZL F' Z as X3:=h.move x.ff (λa b=>x.free (h.mem a b).1 (h.mem a b).2) λa b=>x.hh.at_eq (h.mem a b).2
def Zh.ext(h:Zh K F H v t p)(x:Q1 F H F' Z):Zh K F' Z v t p:=h.move x.ff (λa b=>x.free (h.there a b).1 (h.there a b).2) λa b=>x.hh.at_eq (h.there a b).2
def ZL.other{b:Addr}(h:ZL F H as X3)(n:b∉as):ZL F (upd H b o) as X3:=h.move (Q6.refl _) (λa c=>(h.mem a c).1) λa c=>Qs λz=>n (z▸c)
def Zh.other{b:Addr}(h:Zh K F H v t p)(n:b∉p):Zh K F (upd H b o) v t p:=h.move (Q6.refl _) (λa c=>(h.there a c).1) λa c=>Qs λz=>n (z▸c)
def KTs(K:W.Frag)(F:Hp):Prop:=W.nsIn K mainGlobals "START"=some none\/∃b c,W.nsIn K mainGlobals "START"=some (some<|.ref b)/\W.nsIn K mainGlobals "END"=some (some<|.ref c)/\F b=some (.tup [.str "start"])/\F c=some (.tup [.str "end"])
def KTs.mono(h:KTs K F)(s:Q6 F F'):KTs K F':=
 h.imp id<|by rintro⟨i,j,g,f,c,b⟩;exact#[i,j,g,f,s _ _ c,s _ _ b]
structure Q7(K:W.Frag)(H0 F:Hp)(Y:Zbv)(O:St)(H:Hp):Prop where
 kt:KTs K F
 sub:Q6 F H
 len:O.length=Y.length
 fp:∃fp:Nat->Qg,(∀(i:Nat) (t:OT),Y[i]?=some (some t)->∃v,O[i]?=some (some v)/\Zh K F H v t (fp i))/\
  (∀(i j:Nat) (a:Addr),a∈fp i->a∈fp j->i=j)/\∀(i:Nat) (a:Addr),a∈fp i->H0 a=none/\H a≠none
def Q7.ext(s:Q7 K H0 F Y O H)(x:Q1 F H F' Z):Q7 K H0 F' Y O Z:=by
 obtain⟨f,B,w,y,m,j,h⟩:=s;refine#[f.mono x.ff,x.fh,w,y,λi t e=>?_,j,λi a g=>?_]
 .exact At (m i t e) λv c b=>#[v,c,b.ext x]
 .obtain⟨c,b⟩:=h i a g;obtain⟨o,A⟩:=Mq b;exact#[c,Z4<|x.hh _ _ A]
def Fgt:Zbv->Zbv->Prop
 |[],[]=>True
 |_::r,none::b=>Fgt r b
 |s::r,some x::b=>s=some x/\Fgt r b
 |_,_=>False
theorem Fgt.len:∀{Y J:Zbv},Fgt Y J->Y.length=J.length
 |[],[],_=>rfl
 |_::r,none::b,h=>by
  have h':Fgt r b:=h;simp[Fgt.len h']
 |s::r,some x::b,h=>by
  have h':=h;simp[Fgt.len h'.2]
 |[],none::_,h=>False.elim h
 |[],some _::_,h=>False.elim h
 |_::_,[],h=>False.elim h
theorem Fgt.get:∀{Y J:Zbv},Fgt Y J->∀(i:Nat) (t:OT),J[i]?=some (some t)->Y[i]?=some (some t)
 |[],[],_,i,t,e=>by simp at e
 |_::r,none::b,h,0,t,e=>by simp at e
 |_::r,none::b,h,i+1,t,e=>by
  have h':Fgt r b:=h;have:=Fgt.get h' i t (by simpa using e);simpa using this
 |s::r,some x::b,h,0,t,e=>by
  simp at e;subst e;simp[h.1]
 |s::r,some x::b,h,i+1,t,e=>by
  have h':=h;have:=Fgt.get h.2 i t (by simpa using e);simpa using this
 |[],none::_,h,_,_,_=>False.elim h
 |[],some _::_,h,_,_,_=>False.elim h
 |_::_,[],h,_,_,_=>False.elim h
def Q7.fgt(s:Q7 K H0 F Y O H)(f:Fgt Y J):Q7 K H0 F J O H:=by
 obtain⟨b,m,j,v,h,g,c⟩:=s;exact#[b,m,j.trans f.len,v,λi t e=>h i t<|f.get i t e,g,c]
def Q7.set(s:Q7 K H0 F Y O H)(W:Zh K F H v t p)
(n:∀(a:Addr),a∈p->H0 a=none)
(hn:∀(a:Addr),a∈p->∀(j:Nat) (u:V) (t':OT) (q:Qg),Y[j]?=some (some t')->O[j]?=some (some u)->Zh K F H u t' q->a∉q):
 Q7 K H0 F (Y.set i<|some t) (O.set i<|some v) H:=by
 obtain⟨l,x,r,B,X,o,J⟩:=s;refine#[l,x,by simp[r],λj=>if j=i then p else if (Y[j]?).join.isSome then B j else [],λj t' e=>?_,λj k a y M=>?_,λj a y=>?_]
 .by_cases b:j=i
  .subst b;have D:=by
    have:=(Xc.mp e).1;simpa using this
   rw[Xk D]at e;cases e;refine#[v,Xk<|#[],?_];dsimp only;rw[Xe rfl];exact W
  .rw[Xp<|Ne.symm b]at e;refine At (X j t' e) λu h g=>#[u,by rw[Xp<|Ne.symm b];exact h,?_];dsimp only;rw[Xd b,e];exact g
 .have f:∀(j:Nat),j≠i->a∈(if j=i then p else if (Y[j]?).join.isSome then B j else [])->∃t' u,Y[j]?=some (some t')/\O[j]?=some (some u)/\Zh K F H u t' (B j)/\a∈B j:=λj b m=>by
   rw[Xd b]at m;cases e:(Y[j]?).join with
   |none=>rw[e]at m;simp at m
   |some t'=>
    rw[e]at m;have d:Y[j]?=some (some t'):=by
     cases z:Y[j]? with
     |none=>rw[z]at e;simp at e
     |some w=>rw[z]at e;simp at e;rw[e]
    exact At (X j t' d) λu h g=>#[t',u,d,h,g,by simpa using m]
  by_cases b:j=i
  .by_cases A:k=i
   .lia
   .apply aD (f k A M);intro t' u h g P C;have c:=by simpa [b] using y
    exact Xv C (hn a c k u t' _ h g P)
  .apply aD (f j b y);intro t' u h g P C
   by_cases A:k=i
   .have L:=by simpa [A] using M
    exact Xv C (hn a L j u t' _ h g P)
   .exact aD (f k A M) λI G R Q N E=>o j k a C E
 .by_cases b:j=i
  .have c:=by simpa [b] using y
   exact#[n a c,(W.there a c).2]
  .simp only[Xd b]at y
   grind
def Q7.setF(s:Q7 K H0 F Y O H)(r:Rep F v d):Q7 K H0 F (Y.set i<|zf d) (O.set i<|some v) H:=
 s.set #[rfl,r] (by rintro a ⟨⟩) (hn:=λa b=>nomatch b)
def Q7.chg(s:Q7 K H0 F Y O H)(e:Y[i]?=some (some t)):
 ∃v p,O[i]?=some (some v)/\Zh K F H v t p/\(∀b∈p,H0 b=none/\F b=none/\H b≠none)/\∀w Z t' L,Q6 F w->Q6 w Z->(∀b,b∉p->H b≠none->Z b=H b)->(∀b,w b≠none->F b≠none\/H b=none\/b∈p)->Zh K w Z v t' L->(∀b∈L,b∈p\/(H b=none/\H0 b=none))->
  Q7 K H0 w (Y.set i<|some t') O Z/\∀j u g q,j≠i->Y[j]?=some (some g)->O[j]?=some (some u)->Zh K w Z u g q->∀b∈q,b∉p/\H b≠none:=by
 obtain⟨Q,h1,S,A,a,I,m⟩:=s;apply At (a i _ e);intro v U o;have X:=(Xc.mp e).1;refine#[v,A i,U,o,λb c=>#[(m i b c).1,o.there b c],λw Z t' L n J R T W D=>?_];have h:∀j,j≠i->∀b∈A j,b∉A i:=λj f b c z=>f (I j i b c z);have G:=λj f b c=>R b (h j f b c) (m j b c).2
 have x:∀j g u,j≠i->Zh K F H u g (A j)->Zh K w Z u g (A j):=λj g u f C=>C.move n (λb c=>Classical.byContradiction λz=>by
  rcases T b z with y|y|y
  .exact y (C.there b c).1
  .exact(m j b c).2 y
  .exact h j f b c y) (G j f)
 have r:∀j,j≠i->∀b∈A j,b∉L:=λj f b c z=>by
  rcases D b z with y|y
  .exact h j f b c y
  .exact(m j b c).2 y.1
 refine#[#[Q.mono n,J,by simp[S],λj=>if j=i then L else A j,λj g l=>?_,λj k b c B=>?_,λj b c=>?_],λj u g q f N E P b c=>?_]
 .by_cases f:j=i
  .subst f;rw[Xk X]at l;grind
  .rw[Xp<|Ne.symm f]at l;exact At (a j g l) λu d C=>#[u,d,by simp only[Xd f];exact x j g u f C]
 .by_cases f:j=i<;>by_cases M:k=i
  .rw[f,M]
  .simp only[Xe f]at c;simp only[Xd M]at B;exact Xv c (r k M b B)
  .simp only[Xd f]at c;simp only[Xe M]at B;exact Xv B (r j f b c)
  .simp only[Xd f]at c;simp only[Xd M]at B;exact I j k b c B
 .by_cases f:j=i
  .simp only[Xe f]at c;exact#[(D b c).elim (λz=>(m i b z).1) λz=>z.2,(W.there b c).2]
  .simp only[Xd f]at c;exact#[(m j b c).1,by rw[G j f b c];exact(m j b c).2]
 .apply At (a j g N);intro u' d C;rw[d]at E;cases E;have z:=WA (x j g u f C) P b c;exact#[h j f b z,(m j b z).2]
def Q7.write(s:Q7 K H0 F Y O H)(e:Y[i]?=some (some<|.ol ds)):
 ∃a xs,O[i]?=some (some<|.ref a)/\H a=some (.lst xs)/\Qz F xs ds/\H0 a=none/\F a=none/\∀c f,Qz F c f->Q7 K H0 F (Y.set i<|some<|.ol f) O (upd H a<|.lst c):=by
 apply aD (s.chg e);rintro v p y⟨a,rfl,rfl,f0,xs,w,r⟩m k;exact#[a,xs,y,w,r,(m a Xb).1,f0,λc f j=>(k F _ (.ol f) [a] (Q6.refl _) (s.sub.upd f0) (λb g _=>Qs λz=>g<|by exact z▸Xb) (λb h=>.inl h) #[a,rfl,rfl,f0,c,Q8,j] λb g=>.inl g).1]
def Q7.freeze(s:Q7 K H0 F Y O H)(e:Y[i]?=some (some<|.ol ds)):
 ∃a xs,F a=none/\H a=some (.lst xs)/\H0 a=none/\O[i]?=some (some<|.ref a)/\Qz F xs ds/\Q7 K H0 (upd F a<|.lst xs) (Y.set i<|zf<|.list ds) O H:=by
 apply aD (s.chg e);rintro v p j⟨a,rfl,rfl,f0,xs,g,r⟩h k;refine#[a,xs,f0,g,(h a Xb).1,j,r,(k _ H (.fz _) [] (Q6.new f0) (λb u c=>?_) (λ_ _ _=>rfl) (λb c=>?_) #[rfl,.lst Q8<|r.mono (Q6.new f0)]<|by rintro b ⟨⟩).1]
 .by_cases z:b=a
  .subst z;rw[Q8]at c;rw[g];exact c
  .rw[Qs z]at c;exact s.sub b u c
 .by_cases z:b=a
  .exact .inr (.inr<|by exact z▸Xb)
  .rw[Qs z]at c;exact .inl c
inductive Args(K:W.Frag)(F:Hp):List V->List OT->Prop
 |nil:Args K F [] []
 |fz {v:V}{d:PyData}{vs:List V}{ts:List OT}:Rep F v d->Args K F vs ts->Args K F (v::vs) (.fz d::ts)
 |zow {v:V}{Ψ:ZP}{vs:List V}{ts:List OT}:Ψ.ok K F v->Args K F vs ts->Args K F (v::vs) (.zow Ψ::ts)
 |scr {a:Addr}{ns:Ql}{vs:List V}{ts:List OT}:Scr K F a ns->Args K F vs ts->Args K F (.ref a::vs) (.scr ns::ts)
theorem Args.mono{K:W.Frag}{F b:Hp}(s:Q6 F b):∀{vs:List V} {ts:List OT},Args K F vs ts->Args K b vs ts
 |_,_,.nil=>.nil
 |_,_,.fz r t=>.fz (r.mono s) (Args.mono s t)
 |_,_,.scr r t=>.scr (r.mono s) (Args.mono s t)
 |_,_,.zow (Ψ:=Ψ) r t=>.zow (Ψ.mono s r) (Args.mono s t)
theorem Args.length{K:W.Frag}{F:Hp}:∀{vs:List V} {ts:List OT},Args K F vs ts->vs.length=ts.length
 |_,_,.nil=>rfl
 |_,_,.fz _ t=>by simp[Args.length t]
 |_,_,.scr _ t=>by simp[Args.length t]
 |_,_,.zow _ t=>by simp[Args.length t]
theorem Args.get{K:W.Frag}{F H:Hp}:∀{vs:List V} {ts:List OT},Args K F vs ts->∀(i:Nat) (t:OT),ts[i]?=some t->∃v,vs[i]?=some v/\Zh K F H v t []
 |_,_,.nil,i,t,e=>by simp at e
 |_,_,.fz r _,0,t,e=>by simp at e;subst e;exact#[_,rfl,rfl,r]
 |_,_,.scr r _,0,t,e=>by simp at e;subst e;exact#[_,rfl,rfl,_,rfl,r]
 |_,_,.zow r _,0,t,e=>by simp at e;subst e;exact#[_,rfl,rfl,r]
 |_,_,.zow _ q,i+1,t,e=>by
  exact At (Args.get q i t (by simpa using e)) λv c b=>#[v,by simpa using c,b]
 |_,_,.fz _ q,i+1,t,e=>by
  exact At (Args.get q i t (by simpa using e)) λv c b=>#[v,by simpa using c,b]
 |_,_,.scr _ q,i+1,t,e=>by
  exact At (Args.get q i t (by simpa using e)) λv c b=>#[v,by simpa using c,b]
section
variable (K:W.Frag)
def Qr(t:TE)(Y:Zbv)(d:PyData):Prop := ∀(H0 F:Hp) (O:St) (H:Hp) (Q:VK),Q7 K H0 F Y O H->(∀b Z v,Q1 F H b Z->Rep b v d->Q v Z)->t O H Q
def EvO(t:TE)(Y:Zbv)(r:OT):Prop := ∀(H0 F:Hp) (O:St) (H:Hp) (Q:VK),Q7 K H0 F Y O H->(∀b Z v p,Q1 F H b Z->(∀a∈p,H a=none)->Zh K b Z v r p->Q v Z)->t O H Q
def QO(t:TT)(Y:Zbv)(b:Bool):Prop := ∀(H0 F:Hp) (O:St) (H:Hp) (Q:Bool->Hp->Prop),Q7 K H0 F Y O H->(∀c Z,Q1 F H c Z->Q b Z)->t O H Q
def Z0(t:TA)(Y:Zbv)(ts:List OT):Prop := ∀(H0 F:Hp) (O:St) (H:Hp) (Q:List V->Hp->Prop),Q7 K H0 F Y O H->(∀c Z b,Q1 F H c Z->Args K c b ts->Q b Z)->t O H Q
def PN(j:Hp)(c:It)(ds:Qd):Prop := ∀(f b:Hp),Q6 j f->Q6 f b->c.stop ds.length b/\
 ∀(i:Nat) (d:PyData),ds[i]?=some d->c.go i b/\∀x g,c.yld i b x g->∃h,Q1 f b h g/\Rep h x d
def EvI(f:TI)(Y:Zbv)(ds:Qd):Prop := ∀(H0 F:Hp) (O:St) (H:Hp) (R:It->Hp->Prop),Q7 K H0 F Y O H->(∀c Z b,Q1 F H c Z->PN c b ds->R b Z)->f O H R
def GTo(g:TG)(d:PyData)(Y J:Zbv):Prop := ∀(H0 F:Hp) (O:St) (H:Hp) (x:V) (Q:St->Hp->Prop),Q7 K H0 F Y O H->Rep F x d->(∀b,Q7 K H0 F J b H->Q b H)->g x O H Q
def G5(g:TGs)(ds:Qd)(Y J:Zbv):Prop := ∀(H0 F:Hp) (O:St) (H:Hp) (xs:List V) (Q:St->Hp->Prop),Q7 K H0 F Y O H->Qz F xs ds->(∀b,Q7 K H0 F J b H->Q b H)->g xs O H Q
structure PEnds where
 nx:Zbv->Prop
 rt:OT->Prop
 bk:Zbv->Prop:=λ_=>False
 ct:Zbv->Prop:=λ_=>False
structure Cnv(F0 H0:Hp)(CH:PEnds)(hi:Ends):Prop where
 nx:∀F O H Y,Q1 F0 H0 F H->Q7 K H0 F Y O H->CH.nx Y->hi.nx O H
 rt:∀F H v r p,Q1 F0 H0 F H->(∀a∈p,H0 a=none)->Zh K F H v r p->CH.rt r->hi.rt v H
 bk:∀F O H Y,Q1 F0 H0 F H->Q7 K H0 F Y O H->CH.bk Y->hi.bk O H
 ct:∀F O H Y,Q1 F0 H0 F H->Q7 K H0 F Y O H->CH.ct Y->hi.ct O H
def QB(t:TS)(Y:Zbv)(c:PEnds):Prop := ∀(F0 H0 F:Hp) (O:St) (H:Hp) (b:Ends),Q1 F0 H0 F H->Q7 K H0 F Y O H->Cnv K F0 H0 c b->t b O H
end
section
variable {Y:Zbv}{tb:TE}
def Qr.o(h:Qr K t Y d):EvO K t Y (.fz d):=λH0 F O H Q S q=>h H0 F O H Q S λb Z v x r=>q b Z v [] x (by rintro _ ⟨⟩) #[rfl,r]
def EvO.e(h:EvO K t Y (.fz d)):Qr K t Y d:=λH0 F O H Q S q=>h H0 F O H Q S λb Z v p x _ r=>q b Z v x r.2
def EvO.fz(h:EvO K t Y (.ol ds)):Qr K t Y (.list ds):=λH0 F O H Q S q=>h H0 F O H Q S λi Z v p x g r=>by
 apply aY r;rintro a rfl rfl b xs f c;refine q _ Z _ (x.freeze b f<|g a Xb) (.lst Q8<|c.mono<|Q6.new b)
def nf{p:Prop}(h:false=true):p:=nomatch h
def nt{p:Prop}(h:true=false):p:=nomatch h
def Qp(e:Y[i]?=some (zf d):=by rfl):Qr K (Q3 i) Y d:=λH0 F O H Q S q=>by
 exact At S.fp λf h _=>At (h i _ e) λv c b=>#[v,c,q F H v (Q1.refl S.sub) b.2]
def Q2{i:Int}:Qr K (tC<|.int i) Y (.int i):=λH0 F O H Q S q=>q F H _ (Q1.refl S.sub) (.int i)
def Wu{b:Bool}:Qr K (tC<|.bl b) Y (.bool b):=λH0 F O H Q S q=>q F H _ (Q1.refl S.sub) (.bl b)
def WY:Qr K (tC .non) Y .none:=λH0 F O H Q S q=>q F H _ (Q1.refl S.sub) .non
def V2:Qr K (tC<|.str x) Y (.str x):=λH0 F O H Q S q=>q F H _ (Q1.refl S.sub) (.str x)
def YS{b:PyData}(s:Qr K ta Y a)(m:Qr K tb Y b)(S:Q7 K H0 F Y O H)
(h:∀c Z x y,Q1 F H c Z->Rep c x a->Rep c y b->r x y Z Q):tOp r ta tb O H Q:=
 s H0 F O H _ S λA U x g j=>m H0 A O U _ (S.ext g) λw v y f i=>h w v x y (g.trans f) (j.mono f.ff) i
def ZD{g:Int->Int->Int}{y:Int}(h:Qr K ta Y (.int x))(f:Qr K tb Y (.int y)):Qr K (tOp (rI0 λi j=>.int<|g i j) ta tb) Y (.int<|g x y):=λH0 F O H Q S q=>
 YS h f S λm Z u v e c b=>by cases c;cases b;exact#[x,y,rfl,rfl,q m Z _ e<|.int _]
def ZI{g:Int->Int->Bool}{y:Int}(h:Qr K ta Y (.int x))(f:Qr K tb Y (.int y)):Qr K (tOp (rI0 λi j=>.bl<|g i j) ta tb) Y (.bool<|g x y):=λH0 F O H Q S q=>
 YS h f S λm Z u v e c b=>by cases c;cases b;exact#[x,y,rfl,rfl,q m Z _ e<|.bl _]
def VC{C:Int->Int->Prop}{g:Int->Int->Int}{y:Int}(m:Qr K ta Y (.int x))(h:Qr K tb Y (.int y))(f:C x y):Qr K (tOp (rI C λi j=>.int<|g i j) ta tb) Y (.int<|g x y):=λH0 F O H Q S q=>
 YS m h S λs Z u v e c b=>by cases c;cases b;exact#[x,y,rfl,rfl,f,q s Z _ e<|.int _]
def CJ{g:Int->Int}(f:Qr K ta Y (.int x)):Qr K (tUn (rU λi=>.int<|g i) ta) Y (.int<|g x):=λH0 F O H Q S q=>
 f H0 F O H _ S λh U v b c=>by cases c;exact#[x,rfl,q h U _ b<|.int _]
def ZN:PyData->Option V
 |.none=>some .non
 |.bool b=>some (.bl b)
 |.int i=>some (.int i)
 |.str x=>some (.str x)
 |_=>Option.none
def Rep.flat(r:Rep H x d)(e:ZN d=some v):x=v:=by
 cases r<;>simp[ZN]at e<;>exact e
def Tt{b:PyData}{w:V}(h:Qr K ta Y a)(g:Qr K tb Y b)(e1:ZN a=some v)(i:ZN b=some w)(hs:∀(H:Hp) (Q:VK),Q (.bl<|decide (v=w)) H->rEq v w H Q):
 Qr K (tOp rEq ta tb) Y (.bool<|decide (v=w)):=λH0 F O H Q S q=>
 YS h g S λj Z x y e f c=>by rw[f.flat e1,c.flat i];exact hs _ _ (q j Z _ e<|.bl _)
def PH{b:PyData}{w:V}(h:Qr K ta Y a)(g:Qr K tb Y b)(e1:ZN a=some v)(i:ZN b=some w)(hs:∀(H:Hp) (Q:VK),Q (.bl<|!decide (v=w)) H->rNe v w H Q):
 Qr K (tOp rNe ta tb) Y (.bool<|!decide (v=w)):=λH0 F O H Q S q=>
 YS h g S λj Z x y e f c=>by rw[f.flat e1,c.flat i];exact hs _ _ (q j Z _ e<|.bl _)
def L9{y:Int}:decide (V.int x=V.int y)=decide (x=y):=by
 simp_all
def Wh{y:Int}(c:Qr K ta Y (.int x))(b:Qr K tb Y (.int y)):Qr K (tOp rEq ta tb) Y (.bool<|decide (x=y)):=by
 exact L9▸(Tt c b rfl rfl λH Q q=>#[rfl,q])
def UM{y:Int}(c:Qr K ta Y (.int x))(b:Qr K tb Y (.int y)):Qr K (tOp rNe ta tb) Y (.bool<|!decide (x=y)):=by
 exact L9▸(PH c b rfl rfl λH Q q=>#[rfl,q])
def J4{b:PyData}(h:Qr K ta Y a)(g:Qr K tb Y b)(j:V9 a)(i:V9 b):Qr K (tOp SD ta tb) Y (.bool<|PyData.eqv a b):=λH0 F O H Q S q=>
 YS h g S λm Z x y e f c=>#[a,b,f.mono e.fh,c.mono e.fh,j,i,q m Z _ e<|.bl _]
def Kv{b:PyData}(h:Qr K ta Y a)(g:Qr K tb Y b)(j:V9 a)(i:V9 b):Qr K (tOp SQ ta tb) Y (.bool<|!PyData.eqv a b):=λH0 F O H Q S q=>
 YS h g S λm Z x y e f c=>#[a,b,f.mono e.fh,c.mono e.fh,j,i,q m Z _ e<|.bl _]
def Kw:PyData->Bool
 |.none=>true
 |_=>false
def Rep.isNon(r:Rep H x d):decide (x=.non)=Kw d:=by cases r<;>rfl
def Dj(f:Qr K ta Y a):Qr K (SE ta) Y (.bool<|Kw a):=λH0 F O H Q S q=>
 f H0 F O H _ S λg U v b c=>by rw[c.isNon];exact q g U _ b (.bl _)
def P9(f:Qr K ta Y a):Qr K (P7 ta) Y (.bool<|!Kw a):=λH0 F O H Q S q=>
 f H0 F O H _ S λg U v b c=>by rw[c.isNon];exact q g U _ b (.bl _)
def Zc{b:Bool}(h:Qr K ta Y (.bool b)):QO K (Ub ta) Y b:=λH0 F O H Q S q=>h H0 F O H _ S λg U v c f=>by cases f;exact#[b,rfl,q g U c]
def ZH{b:Bool}(h:Qr K ta Y (.bool b)):QO K (tB ta) Y b:=λH0 F O H Q S q=>h H0 F O H _ S λg U v c f=>by cases f;exact#[b,rfl,q g U c]
def Pl:QO K UB Y true:=λH0 F O H Q S q=>q F H (Q1.refl S.sub)
def UN{b c:Bool}(j:QO K tA Y b)(i:b=true->QO K tB' Y c):QO K (HU tA tB') Y (b&&c):=λH0 F O H Q S q=>j H0 F O H _ S λg U f=>by
 cases b with
 |true=>rw[Xe rfl];exact i rfl H0 g O U Q (S.ext f) λs m h=>by simpa using q s m (f.trans h)
 |false=>rw[Xd Xw];simpa using q g U f
def YO{b c:Bool}(j:QO K tA Y b)(i:b=false->QO K tB' Y c):QO K (tOr tA tB') Y (b||c):=λH0 F O H Q S q=>j H0 F O H _ S λg U f=>by
 cases b with
 |false=>rw[Xd Xw];exact i rfl H0 g O U Q (S.ext f) λs m h=>by simpa using q s m (f.trans h)
 |true=>rw[Xe rfl];simpa using q g U f
def VD{b:Bool}(f:QO K tA Y b):QO K (JS tA) Y (!b):=λH0 F O H Q S q=>f H0 F O H _ S λg U c=>q g U c
def GN{b c:Bool}(s:Qr K ta Y (.bool b))(m:b=true->Qr K tb Y (.bool c)):Qr K (Pk ta tb) Y (.bool<|b&&c):=λH0 F O H Q S q=>s H0 F O H _ S λg U v f j=>by
 cases j;refine#[b,rfl,?_];cases b with
 |true=>rw[Xe rfl];exact m rfl H0 g O U Q (S.ext f) λy w v h i=>by simpa using q y w v (f.trans h) (by simpa using i)
 |false=>rw[Xd Xw];exact q g U _ f (.bl _)
def Pu{b:Bool}(g:Qr K ta Y (.bool b)):Qr K (Pn ta) Y (.bool<|!b):=λH0 F O H Q S q=>g H0 F O H _ S λh U v c f=>by cases f;exact#[b,rfl,q h U _ c<|.bl _]
def Uo{g g':Int->Int->Bool}{x y z:Int}(L:Qr K ta Y (.int x))(D:Qr K tb Y (.int y))(C:Qr K tc Y (.int z)):
 Qr K (KL (rI0 λi j=>.bl<|g i j) (rI0 λi j=>.bl<|g' i j) ta tb tc) Y (.bool<|g x y&&g' y z):=λH0 F O H Q S q=>
 L H0 F O H _ S λW U v b B=>D H0 W O U _ (S.ext b) λh f w c A=>by
  cases B;cases A;refine#[x,y,rfl,rfl,g x y,rfl,?_];cases e:g x y with
  |true=>rw[Xe rfl];exact C H0 h O f _ (S.ext<|b.trans c) λP M u m s=>by cases s;exact#[y,z,rfl,rfl,by simpa [e] using q P M _ ((b.trans c).trans m)<|by rw[e];exact .bl _]
  |false=>rw[Xd Xw];simpa [e] using q h f _ (b.trans c) (by rw[e];exact .bl _)
def Q5:Z0 K QJ Y []:=λH0 F O H Q S q=>q F H [] (Q1.refl S.sub) .nil
def Qv(i:Qr K ta Y d)(h:Z0 K t Y ts):Z0 K (QE ta t) Y (.fz d::ts):=λH0 F O H Q S q=>
 i H0 F O H _ S λs U v c g=>h H0 s O U _ (S.ext c) λm j w b f=>q m j _ (c.trans b) (.fz (g.mono b.ff) f)
def Pw(e:Y[i]?=some (some<|.scr ns))(f:Z0 K t Y ts):Z0 K (QE (Q3 i) t) Y (.scr ns::ts):=λH0 F O H Q S q=>by
 apply At S.fp;intro y h _;apply aQ (h i _ e);rintro v j _ a⟨rfl,g⟩;exact#[_,j,f H0 F O H _ S λs m w b c=>q s m _ b<|.scr (g.mono b.ff) c]
def Dl(e:zg Y i<|zz Ψ)(f:Z0 K t Y ts):Z0 K (QE (Q3 i) t) Y (.zow Ψ::ts):=λH0 F O H Q S q=>by
 exact At S.fp λy h _=>aA (h i _ e) λv j _ g=>#[_,j,f H0 F O H _ S λs m w b c=>q s m _ b<|.zow (Ψ.mono b.ff g) c]
def fzs(ds:Qd):List OT:=ds.map OT.fz
theorem Args.reps{F:Hp}:∀{vs:List V} {ds:Qd},Args K F vs (fzs ds)->Qz F vs ds
 |_,[],.nil=>.nil
 |_,_::_,.fz r t=>.cons r (Args.reps t)
def Yn(h:Z0 K t Y (fzs ds))(i:ds.length<=1000):Qr K (G9 t) Y (.tuple ds):=λH0 F O H Q S q=>
 h H0 F O H _ S λm U j b f=>#[by rw[f.reps.length];exact YJ<|Vh i,λp g=>by
  have c:=b.fh;exact q _ _ _ (b.trans<|Q1.new c g)<|.tup Q8<|f.reps.mono<|Q6.new<|c.free g]
def Ga(x:Q1 F0 H0 F H)(b:H p=none)(r:Qz F xs ds):Q1 F0 H0 F (upd H p<|.lst xs)/\(∀a∈[p],H0 a=none)/\Zh K F (upd H p<|.lst xs) (.ref p) (.ol ds) [p]:=
 #[x.trans<|Q1.own x.fh b,λa c=>by
  have e:=by simpa using c
  subst e;exact x.hh.free b,p,rfl,rfl,x.fh.free b,xs,Q8,r]
def ZW(h:Z0 K t Y (fzs ds))(j:ds.length<=1000):EvO K (Wc t) Y (.ol ds):=λH0 F O H Q S q=>
 h H0 F O H _ S λs U m g f=>#[by rw[f.reps.length];exact YJ<|Vh j,λp i=>by
  exact I0 (Ga g i f.reps) λa b c=>q _ _ _ _ a b c]
def Jj(r:Rep F x (.list ds))(s:Q6 F H):∃a xs,x=.ref a/\SqL K H a xs/\Qz F xs ds/\H a=some (.lst xs):=by
 cases r with
 |lst b c=>exact#[_,_,rfl,SqL.of<|s _ _ b,c,s _ _ b]
def Uz(r:Rep F x (.tuple ds))(s:Q6 F H):∃a xs,x=.ref a/\SqT K H a xs/\Qz F xs ds/\H a=some (.tup xs):=by
 cases r with
 |tup b c=>exact#[_,_,rfl,SqT.of<|s _ _ b,c,s _ _ b]
def Gj{i:Int}(r:Qz F xs ds)(e:atI ds i=some d):∃z,atI xs i=some z/\Rep F z d:=by
 refine At (Td e) λj g f=>At (r.get g) λz c b=>#[z,?_,b];unfold atI;rw[r.length,f];exact c
def Vt{i:Int}(m:Qr K ta Y (.list ds))(j:Qr K tb Y (.int i))(e:atI ds i=some d):Qr K (tOp (rIx K) ta tb) Y d:=λH0 F O H Q S q=>
 YS m j S λw Z x y b h g=>by
  apply aD (Jj (K:=K) h b.fh);rintro a xs rfl v s _;apply At (Gj s e);intro z f c;cases g;exact .inl #[a,xs,i,z,rfl,rfl,v,f,q w Z z b c]
def Vc{i:Int}(m:Qr K ta Y (.tuple ds))(j:Qr K tb Y (.int i))(e:atI ds i=some d):Qr K (tOp (rIx K) ta tb) Y d:=λH0 F O H Q S q=>
 YS m j S λw Z x y b h g=>by
  apply aD (Uz (K:=K) h b.fh);rintro a xs rfl v s _;apply At (Gj s e);intro z f c;cases g;exact .inr (.inl #[a,xs,i,z,rfl,rfl,v,f,q w Z z b c])
def Ww(e0:Y[i]?=some (some<|.ol ds))(m:Qr K tb Y (.int k))(e:atI ds k=some d):Qr K (tOp (rIx K) (Q3 i) tb) Y d:=λH0 F O H Q S q=>by
 apply At S.fp;intro C h _;apply At (h i _ e0);rintro v A⟨a,rfl,_,j⟩;refine#[_,A,m H0 F O H _ S λB U y b g=>Do (j.ext b) λD xs w s=>At (Gj s e) λz f c=>?_];cases g;exact .inl #[a,xs,k,z,rfl,rfl,SqL.of w,f,q B U z b c]
def CW(e0:Y[i]?=some (some<|.scr ns))(m:Qr K tb Y (.int k))(e:atI ns k=some n):Qr K (tOp (rIx K) (Q3 i) tb) Y (.int n):=λH0 F O H Q S q=>by
 apply At S.fp;intro C h _;apply aQ (h i _ e0);rintro v s _ a⟨rfl,f⟩;refine#[_,s,m H0 F O H _ S λw U y b g=>?_];cases g;apply At (Td e);intro j B A;have c:atI (ns.map V.int) k=some (.int n):=by
  unfold atI;simp_all
 exact .inl #[a,_,k,_,rfl,rfl,(b.ff.trans b.fh).seq f.sq,c,q w U _ b<|.int n]
def QQ(R:List OT->OT->Prop):Sp:=λf H Q _=>∃F b r,KTs K F/\Q6 F H/\Args K F f b/\R b r/\∀c Z v p,Q1 F H c Z->(∀a∈p,H a=none)->Zh K c Z v r p->Q v Z
def Dt(h:Z0 K t Y ts)(m:R ts r):EvO K (ZS (QQ (K:=K) R) [] hi t) Y r:=λH0 F O H Q S q=>
 h H0 F O H _ S λy U A b f=>by
  refine#[y,ts,r,(S.ext b).kt,b.fh,by rw[Xx];exact f,m,λw s v p c i g=>q w s v p (b.trans c) (λa j=>b.hh.free<|i a j) g]
def Zk(h:Z0 K t Y ts)(b:R ts (.fz d)):Qr K (ZS (QQ (K:=K) R) [] hi t) Y d:=(Dt h b).e
def A2(h:Z0 K t Y ts)(b:R ts (.ol ds)):Qr K (ZS (QQ (K:=K) R) [] hi t) Y (.list ds):=(Dt h b).fz
end
def NU{ts:List OT}(G:Nat->Qg)(m:KTs K F)(g:Q6 F H)(c:vs.length=ts.length)(h:∀i t,ts[i]?=some t->∃v,vs[i]?=some v/\Zh K F H v t (G i))(B:∀i j b,b∈G i->b∈G j->i=j)(s:∀i b,b∈G i->H0 b=none/\H b≠none):
 Q7 K H0 F (ts.map some++List.replicate (N.length-ts.length) none) (start N vs) H:=by
 refine#[m,g,by unfold start;simp[c],G,λi f e=>?_,B,s]
 by_cases z:i<ts.length
 .rw[U6<|by simpa using z]at e;refine At (h i f (by cases y:ts[i]?<;>simp[y]at e ⊢;exact e)) λv A w=>#[v,?_,w];unfold start;rw[U6<|by simpa [c] using z,Xy,A];rfl
 .rw[Gu<|by simpa using z]at e;have:=List.mem_of_getElem? e;simp at this
def Bs(f:KTs K F)(c:Q6 F H)(b:Args K F vs ts):Q7 K H F (zr N ts) (start N vs) H:=
 NU _ f c b.length (λi t e=>b.get i t e) (λi j a h=>(nomatch h)) λi a h=>(nomatch h)
abbrev ini(N:Qh)(ts:List OT):Zbv:=ts.map some++List.replicate (N.length-ts.length) none
def Df.ev{base:Heap}{x:Str}{st:Stmt}{N:Qh}{k:Nat}{R:List OT->OT->Prop}(o:Df K mg x st ps)(S:Qo N ps (QG st))
(y:∀f ts r,R ts r->∀H b,B0 P w K mg base N x st k f H b λt=>QB K t (ini N ts) { nx:=λ_=>r=.fz .none,rt:=λD=>D=r })(g:∀ts r,R ts r->ts.length=ps.length:=by intro _ _ h;cases h<;>rfl):QC P w K mg base x ps (k+1) (QQ (K:=K) R):=by
 refine o.go λf fd F=>F.ok S (by rintro M H Q b ⟨F,ts,r,_,_,i,j,_⟩;exact i.length.trans<|g ts r j) ?_;rintro M H Q b ⟨F,ts,r,X,C,i,j,q⟩ m A outer s a;refine At (y f ts r j H b m A outer s a) λt n l=>#[t,n,l F H F _ H _ (Q1.refl C) (Bs X C i) #[λB L Z J c _ e=>?_,λB Z v D p c d W e=>?_,λ_ _ _ _ _ _ z=>False.elim z,λ_ _ _ _ _ _ z=>False.elim z]]
 .subst e;exact q B Z _ [] c (by rintro _ ⟨⟩) #[rfl,.non]
 .subst e;exact q B Z v p c d W
end L2
variable {Y:L2.Zbv}{CH:L2.PEnds}{Ψ:L2.OT->L2.Zbv->Prop}{ts:List L2.OT}{Θ:Int->L2.OT->Prop}
namespace L2
theorem Cn:∀{as f:Qg},as.map V.ref=f.map V.ref->as=f
 |[],[],_=>rfl
 |[],_::_,h=>by simp at h
 |_::_,[],h=>by simp at h
 |a::as,b::f,h=>by
  simp only[XI,List.cons.injEq]at h;obtain⟨c,g⟩:=h;injection c with c;rw[c,Cn g]
def Zs0(x:Int)(ns:Ql):inV (.int x) (ns.map V.int)=decide (x∈ns):=by
 induction ns with
 |nil=>rfl
 |cons b l c=>
  show(eqV _ _||inV _ _)=_
  rw[c];show((b==x)||decide _)=_
  grind
section
variable {tb:TE}{t u:TS}
def Zl(h:CH.nx Y):QB K Kn Y CH:=λF0 H0 F O H b x S C=>C.nx F O H Y x S h
def QL(h:QB K t Y { CH with nx:=λJ=>QB K u J CH }):QB K (YC t u) Y CH:=λF0 H0 F O H c x S C=>
 h F0 H0 F O H { c with nx:=u c } x S #[λi b Z J f g q=>q F0 H0 i b Z c f g C,C.rt,C.bk,C.ct]
def BY(f:Fgt Y J)(h:QB K t J CH):QB K t Y CH:=λF0 H0 F O H b x S C=>h F0 H0 F O H b x (S.fgt f) C
def GK(i:Nat)(e:Y[i]?=some (some<|.ol ds))(h:QB K t (Y.set i<|zf<|.list ds) CH):QB K t Y CH:=λF0 H0 F O H b x S C=>by
 exact aP (S.freeze e) λa xs g f c _ _ j=>h F0 H0 _ O H b (x.freeze g f c) j C
def Uh(h:EvO K te Y r)(f:CH.rt r):QB K (Ys te) Y CH:=λF0 H0 F O H m x S C=>
 h H0 F O H _ S λj Z v p b g c=>C.rt j Z v r p (x.trans b) (λa i=>x.hh.free<|g a i) c f
def Vq(h:Qr K te Y d)(b:CH.rt (.fz d)):QB K (Ys te) Y CH:=Uh h.o b
def Dx(e:Y[i]?=some (some<|.ol ds))(c:CH.rt (.ol ds)):QB K (Ys<|Q3 i) Y CH:=λF0 H0 F O H m x S C=>by
 exact aA S.fp λs h _ g=>At (h i _ e) λv j b=>#[v,j,C.rt F H v _ _ x (λa f=>(g i a f).1) b c]
def Zf{b:Bool}(h:QO K tA Y b)(j:b=true->QB K t Y CH)(i:b=false->QB K u Y CH):QB K (YB tA t u) Y CH:=λF0 H0 F O H f x S C=>
 h H0 F O H _ S λg Z c=>by
  cases b with
  |true=>rw[Xe rfl];exact j rfl F0 H0 g O Z f (x.trans c) (S.ext c) C
  |false=>rw[Xd Xw];exact i rfl F0 H0 g O Z f (x.trans c) (S.ext c) C
def Yo(h:EvO K te Y r)(hn:CH.nx (Y.set i<|some r)):QB K (Z9 te<|ZM i) Y CH:=λF0 H0 F O H hi x S C=>
 h H0 F O H _ S λF' Z v p s M o=>by
  refine C.nx F' _ Z _ (x.trans s) ((S.ext s).set o (λa t=>x.hh.free<|M a t) (hn:=λa t j w L q T R c=>aA S.fp λJ I g2 G=>At (I j L T) λw' P N=>?_)) hn;intro E;have u:=N.ext s;rw[R]at P;cases P;have g:∀b∈q,b∈J j:=by
   cases L with
   |fz d=>rw[c.1];intro b f;cases f
   |zow Ψ=>rw[c.1];intro b f;cases f
   |ol ds=>
    refine aA c λb1 B k e=>aA u λU m n l=>?_
    grind
   |oll X3=>
    refine aP c λb1 A B k e z4 X z6=>aP u λU y m n l y4 D y6=>?_;rw[B]at m;cases m;rw[X]at D;have Q:A.map V.ref=y.map V.ref:=by injection D with z;injection z
    have e6:=Cn Q
    grind
   |scr ns=>rw[c.1];intro b f;cases f
   |own v0 W=>exact λb f=>W.uniq u.2 c.2 b f
  exact(G j a<|g a E).2 (M a t)
def ZF(h:Qr K te Y d)(hn:CH.nx (Y.set i<|zf d)):QB K (Z9 te<|ZM i) Y CH:=Yo h.o hn
def Zr : GTo K (ZM i) d Y (Y.set i<|zf d):=λH0 F O H x Q S r q=>q _ (S.setF r)
def Wx:G5 K MN [] Y Y:=λH0 F O H xs Q S r q=>by cases r;exact#[rfl,q _ S]
def Vb{g:TG}(i:GTo K g d Y ρ1)(h:G5 K gs ds ρ1 ρ2):G5 K (UJ g gs) (d::ds) Y ρ2:=λH0 F O H xs Q S r q=>by
 cases r with
 |cons f c=>exact#[_,_,rfl,i H0 F O H _ _ S f λb j=>h H0 F b H _ _ j c q]
def WN(h:G5 K gs ds Y ρ1)(hn:ds.length=n):GTo K (HX K n gs) (.tuple ds) Y ρ1:=λH0 F O H x Q S r q=>by
 apply aD (Uz (K:=K) r S.sub);rintro a xs rfl c b _;exact#[a,xs,rfl,c,by rw[b.length,hn],h H0 F O H xs Q S b q]
def BV{g:TG}(h:Qr K te Y d)(i:GTo K g d Y J)(hn:CH.nx J):QB K (Z9 te g) Y CH:=λF0 H0 F O H m x S C=>
 h H0 F O H _ S λf Z v c r=>i H0 f O Z v _ (S.ext c) r λb j=>C.nx f b Z J (x.trans c) j hn
def Q1.wr(x:Q1 F0 H0 F H)(h0:H0 a=none)(b:F a=none):Q1 F0 H0 F (upd H a o):=
 #[x.hh.upd h0,x.ff,x.fh.upd b,x.fr]
def Bw(e:Y[i]?=some (some<|.ol ds))(h:Qr K te Y d)(B:ds.length<1000)(hn:CH.nx (Y.set i<|some<|.ol<|ds++[d])):
 QB K (VB<|tBM K "list" Ye (Q3 i)<|QE te QJ) Y CH:=λF0 H0 F O H D x S C=>by
 refine aD (S.write e) λa xs j y L _=>#[_,j,.inl #[rfl,_,SqL.of y],h H0 F O H _ S λA U v c m=>?_];apply aP ((S.ext c).write e);intro M b g w f u t s;rw[j]at g;cases g;exact#[a,b,v,rfl,rfl,w,by rw[f.length];exact Vh<|#[],C.nx A O _ _ ((x.trans c).wr u t) (s _ _<|f.snoc m) hn]
def UY(e:Y[i]?=some (some<|.ol ds))(h:Qr K te Y d)(E:Qr K tb Y (.int k))(w:ixN ds.length k=some j)(hn:CH.nx (Y.set i<|some<|.ol<|ds.set j d)):
 QB K (Z9 te<|BJ (Q3 i) tb Uf) Y CH:=λF0 H0 F O H W x S C=>
 h H0 F O H _ S λP U v b u=>by
  refine aD ((S.ext b).write e) λa xs s l X _=>#[_,s,E H0 P O U _ (S.ext b) λM o y f t=>?_];apply aP ((S.ext<|b.trans f).write e);intro n c m L g D B A;rw[s]at m;cases m;cases t;exact#[a,c,k,j,rfl,rfl,L,by rw[g.length];exact w,C.nx M O _ _ ((x.trans<|b.trans f).wr D B) (A _ _<|g.set (u.mono f.ff) j) hn]
def TU{f:Int->Int->Int}{m:Int}(e:Y[i]?=some (some<|.ol ds))(E:Qr K tb Y (.int k))(h0:0<=k)(t:ds[k.toNat]?=some (.int m))(h:Qr K te Y (.int n))
(hn:CH.nx (Y.set i<|some<|.ol<|ds.set k.toNat<|.int<|f m n)):QB K (Dd (Q3 i) tb te (MY K) (ipI f) Uf) Y CH:=λF0 H0 F O H G x S C=>by
 refine aD (S.write e) λa xs j J I _=>#[_,j,E H0 F O H _ S λr U y b M=>?_];cases M;apply aD ((S.ext b).write e);intro Q g A p o _;rw[j]at A;cases A;refine At (o.get t) λz D B=>#[a,g,k,z,rfl,rfl,SqL.of p,h0,D,h H0 r O U _ (S.ext b) λq R w s L=>?_];cases L;cases B;refine#[m,n,rfl,rfl,?_];apply aP ((S.ext<|b.trans s).write e);intro N c v l u d X W;rw[j]at v;cases v;have P:=(Xc.mp t).1;refine#[a,c,k,k.toNat,rfl,rfl,l,?_,?_]
 .rw[u.length];unfold ixN;rw[Xe h0,Xe<|#[]]
 .exact C.nx q O _ _ ((x.trans<|b.trans s).wr d X) (W _ _<|u.set (.int _) _) hn
def Q1.base(x:Q1 F0 H0 F H):Q1 F H0 F H:=#[x.hh,Q6.refl _,x.fh,λ_ h=>.inl h]
def Q1.rebase(x:Q1 F0 H0 F H)(y:Q1 F H0 F' Z):Q1 F0 H0 F' Z:=
 #[y.hh,x.ff.trans y.ff,y.fh,λa h=>(y.fr a h).elim (λz=>x.fr a z) .inr]
def Ya{g:TG}(P:Nat->Zbv->Prop)(E:EvI K wi Y ds)(h0:P 0 Y)
(hs:∀(i:Nat) (d:PyData) (J:Zbv),ds[i]?=some d->P i J->∃b,GTo K g d J b/\QB K tbd b { nx:=P (i+1),ct:=P (i+1),bk:=CH.nx,rt:=CH.rt })(hd:∀J,P ds.length J->CH.nx J):QB K (UE wi g tbd) Y CH:=λF0 H0 F O H hi x S C=>
 E H0 F O H _ S λo U N r W=>by
  refine#[λi m O H=>m=ds.length-i/\i<=ds.length/\∃F J,Q1 F0 H0 F H/\Q6 o F/\Q7 K H0 F J O H/\P i J,#[ds.length,by simp,XJ _,o,Y,x.trans r,Q6.refl _,S.ext r,h0],?_];rintro i m u Z ⟨rfl,hle,I,J,z,G,X,p⟩;obtain⟨T,R⟩:=W I Z G X.sub
  by_cases A:i<ds.length
  .have e:ds[i]?=some ds[i]:=by simp[A]
   obtain⟨go,Q⟩:=R i _ e;refine .inr #[go,λh k=>∃n b,Q1 F0 H0 n k/\Q6 o n/\Q7 K H0 n b h k/\P _ b,λh k q=>#[ds.length-_,#[],rfl,A,q],λv a y=>At (Q v a y) λl D r3=>At (hs i _ J e p) λb hg hb=>hg H0 l u a v _ (X.ext D) r3 λh S2=>?_];have f:=z.trans D;have w:=G.trans D.ff
   exact hb l H0 l h a _ f.base S2 #[λt s B c j M L=>#[t,c,f.rebase j,w.trans j.ff,M,L],λt B v4 r4 p4 j=>C.rt t B v4 r4 p4<|f.rebase j,
    λt s B c j=>C.nx t s B c<|f.rebase j,λt s B c j M L=>#[t,c,f.rebase j,w.trans j.ff,M,L]]
  .have e:i=ds.length:=#[]
   subst e;exact .inl #[T,C.nx I u Z J z X<|hd J p]
def Mt{g:TG}(R:Nat->Zbv)(E:EvI K wi Y ds)(h0:Fgt Y (R 0))
(hs:∀(i:Nat) (d:PyData),ds[i]?=some d->∃b,GTo K g d (R i) b/\QB K tbd b { nx:=λJ=>Fgt J<|R<|i+1,ct:=λJ=>Fgt J<|R<|i+1,bk:=CH.nx,rt:=CH.rt })(c:∀J,Fgt J (R ds.length)->CH.nx J):QB K (UE wi g tbd) Y CH:=by
 exact Ya (λi J=>Fgt J<|R i) E h0 (λi d J e f=>At (hs i d e) λb j h=>#[b,λH0 F O H x Q S r q=>j H0 F O H x Q (S.fgt f) r q,h]) c
def DB{c:TT}(P:Nat->Zbv->Prop)(A:Nat)(h0:P A Y)
(hs:∀(m:Nat) (J:Zbv),P m J->∃b,QO K c J b/\(b=true->QB K tbd J { nx:=λf=>∃m',m'<m/\P m' f,ct:=λf=>∃m',m'<m/\P m' f,bk:=CH.nx,rt:=CH.rt })/\(b=false->CH.nx J)):QB K (PV c tbd) Y CH:=λF0 H0 F O H r x S C=>by
 refine#[λm O H=>∃F J,Q1 F0 H0 F H/\Q7 K H0 F J O H/\P m J,#[A,F,Y,x,S,h0],?_];rintro m j Z ⟨q,J,a,M,p⟩;refine aA (hs m J p) λb n l k=>n H0 q j Z _ M λW U y=>?_;have D:=a.trans y;have L:=M.ext y
 cases b with
 |false=>rw[Xd Xw];exact C.nx W j U J D L (k rfl)
 |true=>
  exact#[λs w=>∃m',m'<m/\∃u f,Q1 F0 H0 u w/\Q7 K H0 u f s w/\P m' f,λs w h=>h,l rfl F0 H0 W j U _ D L #[λv i t g X o ⟨m',e,d⟩=>#[m',e,v,g,X,o,d],C.rt,C.nx,λv i t g X o ⟨m',e,d⟩=>#[m',e,v,g,X,o,d]]]
def Ja(h:Qr K ta Y (.list ds)):EvI K (Di K ta) Y ds:=λH0 F O H R S q=>
 h H0 F O H _ S λw U v b s=>by
  apply aD (Jj (K:=K) s b.fh);rintro a xs rfl D t W;have C:w a=some (.lst xs):=by
   cases s with
   |lst B P=>
    have:=b.fh _ _ B
    grind
  refine#[a,rfl,#[xs,D],q w U _ b λM L m j=>?_];have f:SqL K L a xs:=SqL.of (j _ _<|m _ _ C);refine#[#[xs,f,by rw[t.length];exact Xm _],λi d e=>At (t.get e) λz g A=>#[#[xs,z,f,g],λy X c=>?_]];obtain⟨rfl,c⟩:=c;have u:=c xs f;rw[g]at u;cases u;exact#[M,Q1.refl j,A.mono m]
def Ph(h:Qr K ta Y (.tuple ds)):EvI K (SX K ta) Y ds:=λH0 F O H R S q=>
 h H0 F O H _ S λw U v b s=>by
  apply aD (Uz (K:=K) s b.fh);rintro a xs rfl D t W;have C:w a=some (.tup xs):=by
   cases s with
   |tup B P=>
    have:=b.fh _ _ B
    grind
  refine#[a,rfl,#[xs,D],q w U _ b λM L m j=>?_];have f:SqT K L a xs:=SqT.of (j _ _<|m _ _ C);refine#[#[xs,f,by rw[t.length];exact Xm _],λi d e=>At (t.get e) λz g A=>#[#[xs,z,f,g],λy X c=>?_]];obtain⟨rfl,c⟩:=c;have u:=c xs f;rw[g]at u;cases u;exact#[M,Q1.refl j,A.mono m]
def VA(lo:Int)(n:Nat):Qd:=(List.range n).map λ(i:Nat)=>PyData.int (lo+(i:Int))
def W6{lo:Int}{n:Nat}(e:(VA lo n)[i]?=some d):i<n/\d=.int (lo+(i:Int)):=by
 unfold VA at e;rw[Xy]at e;by_cases h:i<n
 .simp[h]at e;exact#[h,e.symm]
 .simp[h]at e
def JD{lo:Int}{n:Nat}:(VA lo n).length=n:=by simp[VA]
def Fv{lo:Int}{n:Nat}:PN F (Itr lo n) (VA lo n):=λg m h b=>by
 refine#[by show n<=_;rw[JD];exact Xm _,λi d e=>?_];obtain⟨f,rfl⟩:=W6 e;refine#[f,λx j c=>?_];obtain⟨rfl,rfl⟩:=c;exact#[g,Q1.refl b,.int _]
def W5{t:TA}(h:Z0 K t Y [.fz<|.int n])(h1 : -(2^62)<=n)(f:n<2^62):EvI K (BT t) Y (VA 0 n.toNat):=λH0 F O H R S q=>
 h H0 F O H _ S λg U i c b=>by
  cases b with
  |fz r b=>cases b;cases r;exact#[n,rfl,h1,f,q g U _ c Fv]
def Np{t:TA}{m:Int}(h:Z0 K t Y [.fz<|.int m,.fz<|.int n])(h1 : -(2^62)<=m/\m<2^62 /\ -(2^62)<=n/\n<2^62):EvI K (Ps t) Y (VA m (n-m).toNat):=λH0 F O H R S q=>
 h H0 F O H _ S λg U i c b=>by
  cases b with
  |fz r b=>
   cases b with
   |fz f b=>cases b;cases r;cases f;exact#[m,n,rfl,h1,q g U _ c Fv]
def WM(E:Int)(n:Nat):Qd:=(List.range n).map λ(i:Nat)=>PyData.int (E-(i:Int))
def DI(e:(WM E n)[i]?=some d):i<n/\d=.int (E-(i:Int)):=by
 unfold WM at e;rw[Xy]at e;by_cases h:i<n
 .simp[h]at e;exact#[h,e.symm]
 .simp[h]at e
def Ny : (WM E n).length=n:=by simp[WM]
def AF{t:TA}{m:Int}(h:Z0 K t Y [.fz<|.int m,.fz<|.int n,.fz<|.int (-1)])(a : -(2^62)<=m/\m<2^62 /\ -(2^62)<=n/\n<2^62):EvI K (Px t) Y (WM m (m-n).toNat):=λH0 F O H R S q=>
 h H0 F O H _ S λv U w c b=>by
  cases b with
  |fz r b=>
   cases b with
   |fz j b=>
    cases b with
    |fz g b=>
     cases b;cases r;cases j;cases g;refine#[m,n,rfl,a,q v U _ c λu B y f=>#[by show _<=_;rw[Ny];exact Xm _,λi d e=>?_]];obtain⟨a,rfl⟩:=DI e;refine#[a,λx A s=>?_];obtain⟨rfl,rfl⟩:=s;exact#[u,Q1.refl f,.int _]
def WV:Option OT->Option OT
 |some (.fz d)=>some (.fz d)
 |some (.scr b)=>some (.scr b)
 |some (.zow Ψ)=>some (.zow Ψ)
 |_=>none
def JY(f:List (Option Nat))(Y:Zbv):Zbv:=f.map λo=>match o with|some i=>WV (Y[i]?).join|none=>none
def Q7.inner(f:List (Option Nat))(S:Q7 K H0 F Y O H):Q7 K H0 F (JY f Y) (YA f O) H:=by
 obtain⟨m,u,L,M,s,D,C⟩:=S;refine#[m,u,by simp[JY,YA],λ_=>[],λi t e=>?_,λi j a h=>(nomatch h),λi a h=>(nomatch h)];unfold JY at e;rw[Xy]at e;cases z:f[i]? with
 |none=>rw[z]at e;simp at e
 |some o=>
  rw[z]at e;simp only[Wn,Option.some.injEq]at e;cases o with
  |none=>cases e
  |some k=>
   simp only at e;have g:Y[k]?=some (some t)/\((∃d,t=.fz d)\/(∃b,t=.scr b)\/∃Ψ,t=.zow Ψ):=by
    cases y:Y[k]? with
    |none=>rw[y]at e;simp[WV]at e
    |some w=>
     rw[y]at e;simp only[Option.join_some]at e;cases w with
     |none=>simp[WV]at e
     |some w=>
      cases w with
      |fz d=>simp[WV]at e;subst e;exact#[rfl,.inl #[_,rfl]]
      |scr b=>simp[WV]at e;subst e;exact#[rfl,.inr<|.inl #[_,rfl]]
      |zow Ψ=>simp[WV]at e;subst e;exact#[rfl,.inr<|.inr #[_,rfl]]
      |ol ds=>simp[WV]at e
      |oll ds=>simp[WV]at e
      |own B A=>simp[WV]at e
   refine At (s k t g.1) λv P c=>#[v,?_,?_]
   .unfold YA;simp_all
   .rcases g.2 with ⟨d,rfl⟩|⟨b,rfl⟩|⟨Ψ,rfl⟩
    .exact#[rfl,c.2]
    .exact#[rfl,c.2]
    .exact#[rfl,c.2]
def UU{L:Type}{f:List (Option Nat)}{k:TI}{g:CIn->TG}{B:CIn->TT}{A:CIn->TE}{xs:List L}{enc h:L->PyData}{p:L->Bool}(E:EvI K k Y (xs.map enc))(hl:xs.length<=1000)
(hs:∀x∈xs,∀c,∃j,GTo K (g c) (enc x) (JY f Y) j/\QO K (B c) j (p x)/\(p x=true->Qr K (A c) j (h x))):EvO K (tLC f k g B A) Y (.ol<|(xs.filter p).map h):=λH0 F O H Q S q=>
 E H0 F O H _ S λG U I M W c=>by
  have hn:=YJ (Vh hl);refine#[λi m ys H=>m=xs.length-i/\i<=xs.length/\∃D,Q1 G U D H/\Qz D ys (((xs.take i).filter p).map h),#[xs.length,by simp,XJ _,G,Q1.refl M.fh,.nil],?_];rintro i m ys Z ⟨rfl,hle,D,s,C⟩;obtain⟨w1,w2⟩:=W D Z s.ff s.fh
  by_cases b:i<xs.length
  .have e:(xs.map enc)[i]?=some (enc xs[i]):=by simp[b]
   obtain⟨go,T⟩:=w2 i _ e;refine .inr #[go,λv X y=>At (T v X y) λr w r3=>aA (hs xs[i] (Wb b) c) λj k1 k2 k3=>?_];have l:xs.take (i+1)=xs.take i++[xs[i]]:=by rw[JM];simp[b]
   have ly2:ys.length<=i:=by
    rw[C.length,Xj];refine X4 (List.length_filter_le _ _) ?_;rw[Js];lia
   refine k1 H0 r _ X v _ ((S.ext<|M.trans<|s.trans w).inner f) r3 λt n=>k2 H0 r t X _ n λo H4 u=>?_
   cases P:p xs[i] with
   |true=>
    refine k3 P H0 o t H4 _ (n.ext u) λF5 H5 z d r5=>#[#[],xs.length-(i+1),#[],rfl,b,F5,s.trans<|w.trans<|u.trans d,?_];rw[l,B9,XL];simp only[HK,P,if_true,List.filter_nil];exact(C.mono (w.trans<|u.trans d).ff).snoc r5
   |false=>
    refine#[xs.length-(i+1),#[],rfl,b,o,s.trans<|w.trans u,?_];rw[l,B9];simp only[HK,P,List.filter_nil,List.map_nil,Xx,Bool.false_eq_true,if_false];exact C.mono (w.trans u).ff
  .have e:i=xs.length:=#[]
   subst e;refine .inl #[by simpa using w1,λa ha=>?_];rw[Jr]at C;exact I0 (Ga (M.trans s) ha C) λR N J=>q _ _ _ _ R N J
def BQ{j:Type}{f:List (Option Nat)}{m:TI}{g:CIn->TG}{i:CIn->TE}{xs:List j}{enc h:j->PyData}(E:EvI K m Y (xs.map enc))(t:xs.length<=1000)
(hs:∀x∈xs,∀c,∃b,GTo K (g c) (enc x) (JY f Y) b/\Qr K (i c) b (h x)):EvO K (tLC f m g (λ_=>UB) i) Y (.ol<|xs.map h):=by
 have:=UU E t λx s c=>by
  exact At (hs x s c) λb v u=>#[b,v,Pl,λ_=>u]
 have e:xs.filter _=xs:=List.filter_eq_self.mpr λ_ _=>rfl
 simp_all
def Ko:List V->Hp->VK->Prop:=λxs H Q=>∃i j,xs=[.int i,.int j]/\Q (.int (if j > i then j else i)) H
def Kj:List V->Hp->VK->Prop:=λxs H Q=>∃i j,xs=[.int i,.int j]/\Q (.int (if j<i then j else i)) H
def Pr:List V->Hp->VK->Prop:=λxs H Q=>(∃i,xs=[.int i]/\Q (.int i) H)\/∃k,xs=[.bl k]/\Q (.int (if k then 1 else 0)) H
def SK:List V->Hp->VK->Prop:=λxs H Q=>∃x T c b,xs=[x,.ty c]/\TyN H x T/\UA T c=some b/\Q (.bl b) H
def Jv(K:W.Frag):List V->Hp->VK->Prop:=λxs H Q=>∃p ys,xs=[.ref p]/\(SqL K H p ys\/SqT K H p ys)/\Q (.int ys.length) H
def DA(K:W.Frag):List V->Hp->VK->Prop:=λxs H Q=>∃p ys,xs=[.ref p]/\(SqL K H p ys\/SqT K H p ys)/\∀l,H l=none->Q (.ref l) (upd H l<|.lst ys)
def KM(K:W.Frag):List V->Hp->VK->Prop:=λxs H Q=>∃p ys,xs=[.ref p]/\((SqL K H p ys/\∀l,H l=none->Q (.ref l) (upd H l<|.tup ys))\/(SqT K H p ys/\Q (.ref p) H))
def SS(X:Cx):List V->Hp->VK->Prop:=λxs H Q=>X.calm=true/\∃(x:V) (b:Ql),xs=[x]/\Rep H x (.list<|b.map PyData.int)/\Q (.int b.sum) H
def Ea(h:X.calm=true):Va X (.builtin "max") Ko:=ZqY h
def Ds(h:X.calm=true):Va X (.builtin "min") Kj:=ZpI h
def Ak:Va X (.type "int") Pr:=Zo4
def GQ:Va X (.builtin "isinstance") SK:=Zrm
def ZY:Va X (.builtin "len") (Jv X.K):=Zlc
def D8:Va X (.type "list") (DA X.K):=Zk9
def N9:Va X (.type "tuple") (KM X.K):=Zjt
def KI:Va X (.builtin "sum") (SS X):=ZqJ
def PP{y:Int}(j:Qr K ta Y (.int x))(i:Qr K tb Y (.int y))(S:Q7 K H0 F Y O H)(h:∀u Z,Q1 F H u Z->r [.int x,.int y] Z Q):tCB r (QE ta<|QE tb QJ) O H Q:=
 j H0 F O H _ S λt U v b g=>i H0 t O U _ (S.ext b) λs m w c f=>by cases g;cases f;exact h s m (b.trans c)
def Eb{y:Int}(c:Qr K ta Y (.int x))(b:Qr K tb Y (.int y)):Qr K (tCB Ko<|QE ta<|QE tb QJ) Y (.int (if y > x then y else x)):=λH0 F O H Q S q=>
 PP c b S λf Z e=>#[x,y,rfl,q f Z _ e<|.int _]
def CY{y:Int}(c:Qr K ta Y (.int x))(b:Qr K tb Y (.int y)):Qr K (tCB Kj<|QE ta<|QE tb QJ) Y (.int (if y<x then y else x)):=λH0 F O H Q S q=>
 PP c b S λf Z e=>#[x,y,rfl,q f Z _ e<|.int _]
def PB{b:Bool}(h:Qr K ta Y (.bool b)):Qr K (tCB Pr<|QE ta QJ) Y (.int (if b then 1 else 0)):=λH0 F O H Q S q=>
 h H0 F O H _ S λg U v c f=>by cases f;exact .inr #[b,rfl,q g U _ c<|.int _]
def UP{c:String}{b:Bool}(h:Qr K ta Y a)(i:UA (tyD a) c=some b):Qr K (tCB SK<|QE ta<|QE (tC<|.ty c) QJ) Y (.bool b):=λH0 F O H Q S q=>
 h H0 F O H _ S λj U v f g=>#[v,_,c,b,rfl,(g.mono f.fh).ty,i,q j U _ f<|.bl _]
def W3(h:Qr K ta Y (.list ds)):Qr K (tCB (Jv K)<|QE ta QJ) Y (.int (ds.length:Int)):=λH0 F O H Q S q=>
 h H0 F O H _ S λi U v b c=>by
  apply aD (Jj (K:=K) c b.fh);rintro a xs rfl g f _;exact#[a,xs,rfl,.inl g,by rw[f.length];exact q i U _ b<|.int _]
def GP(h:Qr K ta Y (.tuple ds)):Qr K (tCB (Jv K)<|QE ta QJ) Y (.int (ds.length:Int)):=λH0 F O H Q S q=>
 h H0 F O H _ S λi U v b c=>by
  apply aD (Uz (K:=K) c b.fh);rintro a xs rfl g f _;exact#[a,xs,rfl,.inr g,by rw[f.length];exact q i U _ b<|.int _]
def CB(e0:Y[i]?=some (some<|.scr ns)):Qr K (tCB (Jv K)<|QE (Q3 i) QJ) Y (.int (ns.length:Int)):=λH0 F O H Q S q=>by
 apply At S.fp;intro f h _;apply aQ (h i _ e0);rintro v c _ a⟨rfl,b⟩;exact#[_,c,a,ns.map V.int,rfl,.inl<|S.sub.seq b.sq,by rw[Xj];exact q F H _ (Q1.refl S.sub)<|.int _]
def Ay(e0:Y[i]?=some (some<|.ol ds)):Qr K (tCB (Jv K)<|QE (Q3 i) QJ) Y (.int (ds.length:Int)):=λH0 F O H Q S q=>by
 apply At S.fp;intro g h _;apply aZ (h i _ e0);rintro v f a rfl _ _ xs c b;exact#[_,f,a,xs,rfl,.inl<|SqL.of c,by rw[b.length];exact q F H _ (Q1.refl S.sub)<|.int _]
def KU(h:Qr K ta Y (.tuple ds)):EvO K (tCB (DA K)<|QE ta QJ) Y (.ol ds):=λH0 F O H Q S q=>
 h H0 F O H _ S λt U v b i=>by
  apply aD (Uz (K:=K) i b.fh);rintro a xs rfl s m _;exact#[a,xs,rfl,.inr s,λp j=>I0 (Ga b j m) λg f c=>q _ _ _ _ g f c]
def P6(h:Qr K ta Y (.list ds)):Qr K (tCB (KM K)<|QE ta QJ) Y (.tuple ds):=λH0 F O H Q S q=>
 h H0 F O H _ S λm U v b g=>by
  apply aD (Jj (K:=K) g b.fh);rintro a xs rfl j i _;exact#[a,xs,rfl,.inl #[j,λp f=>q _ _ _ (b.trans<|Q1.new b.fh f) (.tup Q8<|i.mono<|Q6.new<|b.fh.free f)]]
def K0(e0:Y[i]?=some (some<|.ol ds)):Qr K (tCB (KM K)<|QE (Q3 i) QJ) Y (.tuple ds):=λH0 F O H Q S q=>by
 apply At S.fp;intro j h _;apply aZ (h i _ e0);rintro v g a rfl _ _ xs f c;exact#[_,g,a,xs,rfl,.inl #[SqL.of f,λp b=>q _ _ _ (Q1.new S.sub b) (.tup Q8<|c.mono<|Q6.new<|S.sub.free b)]]
def Dk{ns:Ql}(h:Qr K ta Y (.list<|ns.map PyData.int))(f:X.calm=true):Qr K (tCB (SS X)<|QE ta QJ) Y (.int ns.sum):=λH0 F O H Q S q=>
 h H0 F O H _ S λg U v b c=>#[f,v,ns,rfl,c.mono b.fh,q g U _ b<|.int _]
def Kx(v:Qr K ta Y (.list as))(u:Qr K tb Y (.list bs))(t:as.length+bs.length<=1000):EvO K (tOp Ka ta tb) Y (.ol<|as++bs):=λH0 F O H Q S q=>
 YS v u S λD Z x y e m j=>by
  apply aD (Jj (K:=K) m e.fh);rintro a xs rfl B c w;apply aD (Jj (K:=K) j e.fh);rintro b ys rfl C f A;exact#[a,b,xs,ys,rfl,rfl,w,A,by rw[c.length,f.length];exact YJ<|Vh t,λp s=>I0 (Ga e s (c.append f)) λi h g=>q _ _ _ _ i h g]
end
end L2
namespace L2
def QS(c:Qr K ta Y d)(b:Z0 K t Y (fzs ds)):Z0 K (QE ta t) Y (fzs (d::ds)):=Qv c b
def EvI.cast(h:EvI K wi Y ds)(e:ds=ds'):EvI K wi Y ds':=e▸h
def JG{b:Int}{m:Nat}(h:a=b)(c:m=n):VA a m=VA b n:=by rw[h,c]
def NZ{b:Int}{m:Nat}(h:a=b)(c:m=n):WM a m=WM b n:=by rw[h,c]
def P5{y:Int}(c:Qr K ta Y (.int x))(b:Qr K tb Y (.int y)):Qr K (tCB Ko<|QE ta<|QE tb QJ) Y (.int<|max x y):=by
 have e:max x y=if y > x then y else x:=by split<;>lia
 rw[e];exact Eb c b
def KP{y:Int}(c:Qr K ta Y (.int x))(b:Qr K tb Y (.int y)):Qr K (tCB Kj<|QE ta<|QE tb QJ) Y (.int<|min x y):=by
 have e:min x y=if y<x then y else x:=by split<;>lia
 rw[e];exact CY c b
def Kz{f:List (Option Nat)}{g:CIn->TG}{lo:Int}{n:Nat}{h:Nat->PyData}(E:EvI K wi Y (VA lo n))(j:n<=1000)
(hs:∀(x:Nat),x<n->∀c,∃b,GTo K (g c) (.int<|lo+(x:Int)) (JY f Y) b/\Qr K (tee c) b (h x)):EvO K (tLC f wi g (λ_=>UB) tee) Y (.ol<|(List.range n).map h):=
 BQ E (by simpa using j) λx i c=>hs x (XN.mp i) c
def Qr.cast(h:Qr K t Y d)(e:d=d'):Qr K t Y d':=e▸h
def EvO.cast(h:EvO K t Y d)(e:d=d'):EvO K t Y d':=e▸h
def QO.cast(h:QO K t Y d)(e:d=d'):QO K t Y d':=e▸h
def Du(K:W.Frag):Sp:=λb H Q _=>∃(a:Addr) (c:Ql),b=[.ref a]/\KTs K H/\Scr K H a c/\∀Z,Q (.bl true) Z
def Fun.evLaw{base:Heap}{x p:Str}{st:Stmt}{f:Addr}{N:Qh}{k:Nat}(F:Fun K x qual st f fd)(S:Qo N [p] (QG st))
(m:∀ns:Ql,ns.length<=63->(∀i∈ns,Builtin.Int.intBits i<=2^20)->∀H b,B0 P w K mg base N qual st k f H b λt=>QB K t (some (.scr ns)::List.replicate (N.length-1) none) { nx:=λ_=>False,rt:=λr=>r=.fz (.bool true) }):FnOk P w K mg base CX0 (k+1) f fd [p] (Du K):=by
 refine F.ok S (by rintro C H Q b ⟨a,ns,e,_⟩;rw[e];rfl) ?_;rintro C H Q b ⟨a,ns,rfl,L,c,q⟩ g A outer s M;refine At (m ns c.len c.bits H b g A outer s M) λt X W=>#[t,X,W H H H _ H _ (Q1.refl<|Q6.refl _) #[L,Q6.refl _,?_,λ_=>[],λi d e=>?_,λi j a h=>(nomatch h),λi a h=>(nomatch h)] #[λY y Z J B _ e=>False.elim e,λY Z v l p B n D e=>?_,λ_ _ _ _ _ _ z=>False.elim z,λ_ _ _ _ _ _ z=>False.elim z]]
 .unfold start;simp
 .cases i with
  |zero=>
   simp at e;subst e;exact#[_,rfl,rfl,a,rfl,c]
  |succ i=>
   rw[List.getElem?_cons_succ]at e;have:=List.mem_of_getElem? e;simp at this
 .subst e;obtain⟨_,r⟩:=D;cases r;exact q Z
def Z2 : Z0 K QJ Y (fzs []):=Q5
def z62:(2:Int)^62=4611686018427387904:=by decide
def VE{f:Addr} : (JU CX P w K mg base N q sc f cd A o s H hi).nox.K=K:=rfl
def Zr3{c:CIn}:(Vl X N sc c).K=X.K:=rfl
end L2
namespace L2
def EvP(K:W.Frag)(t:TO)(Y:Zbv)(o:Option Int):Prop := ∀(H0 F:Hp) (O:St) (H:Hp) (Q:Option Int->Hp->Prop),Q7 K H0 F Y O H->(∀b Z,Q1 F H b Z->Q o Z)->t O H Q
def UW:EvP K TR Y none:=λH0 F O H Q S q=>q F H (Q1.refl S.sub)
def J9{i:Int}(h:Qr K te Y (.int i)):EvP K (Da te) Y (some i):=λH0 F O H Q S q=>h H0 F O H _ S λf U v b c=>by cases c;exact#[i,rfl,q f U b]
def cut{b:Type}(xs:List b)(lo E:Option Int):List b:=(xs.drop<|HT.sIx xs.length 0 lo).take (HT.sIx xs.length xs.length E-HT.sIx xs.length 0 lo)
theorem Qz.drop{F:Hp}:∀{xs:List V} {ds:Qd} (n:Nat),Qz F xs ds->Qz F (xs.drop n) (ds.drop n)
 |_,_,0,r=>r
 |_,_,_+1,.nil=>.nil
 |_,_,n+1,.cons _ t=>Qz.drop n t
theorem Qz.take{F:Hp}:∀{xs:List V} {ds:Qd} (n:Nat),Qz F xs ds->Qz F (xs.take n) (ds.take n)
 |_,_,0,_=>.nil
 |_,_,_+1,.nil=>.nil
 |_,_,n+1,.cons r t=>.cons r (Qz.take n t)
def L8(r:Qz F xs ds)(lo E:Option Int):Qz F (JT xs lo E) (cut ds lo E):=by
 unfold JT cut;rw[r.length];exact(r.drop _).take _
end L2
namespace L2
section
variable {tb:TE}
def GG(as:Qd):Qd:=as.zipIdx.map λp=>PyData.tuple [.int (p.2:Int),p.1]
def DW(as:Qd):(GG as).length=as.length:=by simp[GG]
def DX(e:(GG as)[i]?=some d):∃a,as[i]?=some a/\d=.tuple [.int (i:Int),a]:=by
 unfold GG at e;rw[Xy,List.getElem?_zipIdx]at e;cases z:as[i]? with
 |none=>rw[z]at e;cases e
 |some a=>rw[z]at e;simp at e;exact#[a,rfl,e.symm]
def Zpz{H:Hp}(r:Rep F x (.list ds)):∃a xs,x=.ref a/\F a=some (.lst xs)/\Qz F xs ds:=by
 cases r with
 |lst c b=>exact#[_,_,rfl,c,b]
def Mn(h:Z0 K t Y [.fz<|.list as]):EvI K (Pm K t) Y (GG as):=λH0 F O H R S q=>
 h H0 F O H _ S λW U X j c=>by
  cases c with
  |fz r c=>
   cases c;apply aF (Zpz (H:=U) r);rintro a xs rfl y s;refine#[a,rfl,#[xs,SqL.of<|j.fh _ _ y],q W U _ j λC P m b=>?_];have f:SqL K P a xs:=SqL.of (b _ _<|m _ _ y);refine#[#[xs,f,by rw[DW,s.length]],λi d e=>?_];apply At (DX e);rintro k M rfl;refine At (s.get M) λg A L=>#[#[xs,g,f,A],λv l D=>?_];apply aD D;rintro p x w rfl rfl k1;have B:=k1 xs f;rw[A]at B;cases B;exact#[_,Q1.new b w,.tup Q8<|.cons (.int _)<|.cons ((L.mono m).mono (Q6.new (b.free w))) .nil]
def Eg(h:Qr K ta Y (.list<|ns.map PyData.int))(f:X.calm=true)(hn:ns≠[]):Qr K (tCB (Py X)<|QE ta QJ) Y (.int<|Wf ns):=λH0 F O H Q S q=>
 h H0 F O H _ S λg U v b c=>#[f,v,ns,rfl,c.mono b.fh,hn,q g U _ b<|.int _]
def UX(v:Qr K ta Y (.tuple as))(s:Qr K tb Y (.tuple bs))(m:as.length+bs.length<=1000):Qr K (tOp (Pi K) ta tb) Y (.tuple<|as++bs):=λH0 F O H Q S q=>
 YS v s S λj Z x y e h g=>by
  apply aD (Uz (K:=K) h e.fh);rintro a xs rfl w c D;apply aD (Uz (K:=K) g e.fh);rintro b ys rfl A f L;refine#[a,b,xs,ys,rfl,rfl,w,A,by rw[c.length,f.length];exact YJ<|Vh m,λz=>?_,λ_ z=>?_,λ_ _ p i=>?_]
  .have:=c.length;rw[z]at this;rw[Sz this.symm]at q;exact q j Z _ e g
  .have:=f.length;rw[z]at this;rw[Sz this.symm,Xx]at q;exact q j Z _ e h
  .exact q _ _ _ (e.trans<|Q1.new e.fh i) (.tup Q8<|(c.append f).mono (Q6.new<|e.fh.free i))
def G7:OT->Option PyData
 |.fz d=>some d
 |.ol ds=>some (.list ds)
 |.oll X3=>some (.list<|X3.map PyData.list)
 |.scr _=>none
 |.own _ _=>none
 |.zow _=>none
def frF(F H:Hp)(p:Qg):Hp:=λb=>if b∈p then H b else F b
def Wy{b:Addr}(h:b∈p):frF F H p b=H b:=by unfold frF;rw[Xe h]
def Ut{b:Addr}(h:b∉p):frF F H p b=F b:=by unfold frF;rw[Xd h]
def Jl(h:∀a∈p,F a=none):Q6 F (frF F H p):=λb u e=>by
 rw[Ut λz=>by rw[h b z]at e;cases e];exact e
def Nm(s:Q6 F H):Q6 (frF F H p) H:=λb u e=>by
 by_cases z:b∈p
 .rwa[Wy z]at e
 .rw[Ut z]at e;exact s b u e
theorem LH{F c H:Hp}(f:Q6 F c):∀{as:Qg} {X3:List (Qd)},ZL F H as X3->(∀a∈as,c a=H a)->Qz c (as.map V.ref) (X3.map PyData.list)
 |[],[],_,_=>.nil
 |a::as,ds::X3,h,g=>by
  obtain⟨⟨v,xs,s,m⟩,j⟩:=h;exact .cons (.lst (by rw[g a Xb];exact s)<|m.mono f) (LH f j λb i=>g b<|Xh _ i)
 |[],_::_,h,_=>False.elim h
 |_::_,[],h,_=>False.elim h
def Zh.frz(c:Zh K F H v t p)(e:G7 t=some d):Rep (frF F H p) v d:=by
 have f:Q6 F (frF F H p):=Jl λa j=>(c.there a j).1
 cases t with
 |fz B=>cases e;exact c.2.mono f
 |ol ds=>
  cases e;apply aY c;rintro a rfl rfl m xs h g;exact .lst (by rw[Wy Xb];exact h) (g.mono f)
 |oll X3=>
  cases e;apply aP c;rintro a C rfl rfl A m h g;exact .lst (by rw[Wy Xb];exact h) (LH f g λb i=>Wy<|Xh _ i)
 |scr y=>cases e
 |own w s=>cases e
 |zow Ψ=>cases e
def Q7.frz(s:Q7 K H0 F Y O H)(e:Y[i]?=some (some t))(h:∀v p,Zh K F H v t p->Zh K (frF F H p) H v t' []):
 ∃p,(∀a∈p,F a=none/\H a≠none/\H0 a=none)/\Q7 K H0 (frF F H p) (Y.set i<|some t') O H:=by
 refine aD (s.chg e) λv p m j f k=>#[p,λa c=>#[(f a c).2.1,(f a c).2.2,(f a c).1],(k _ H t' [] (Jl λa c=>(f a c).2.1) (Nm s.sub) (λ_ _ _=>rfl) (λb g=>?_) (h v p j)<|by rintro b ⟨⟩).1]
 by_cases z:b∈p
 .exact .inr (.inr z)
 .rw[Ut z]at g;exact .inl g
def Q7.freezeG(s:Q7 K H0 F Y O H)(e:Y[i]?=some (some t))(c:G7 t=some d):
 ∃p,(∀a∈p,F a=none/\H a≠none/\H0 a=none)/\Q7 K H0 (frF F H p) (Y.set i<|zf d) O H:=s.frz e λv p b=>#[rfl,b.frz c]
def JC(g:∀a∈p,F a=none/\H a≠none)(x:Q1 (frF F H p) H F' Z):Q1 F H (λb=>if b∈p then none else F' b) Z:=
 #[x.hh,λb u c=>by
  have f:b∉p:=λz=>by rw[(g b z).1]at c;cases c
  simp only[Xd f];exact x.ff b u<|by rw[Ut f];exact c,λb u c=>by
  by_cases z:b∈p
  .simp_all
  .simp only[Xd z]at c;exact x.fh b u c,λb c=>by
  by_cases z:b∈p
  .simp_all
  .simp only[Xd z]at c;rcases x.fr b c with y|y
   .rw[Ut z]at y;exact .inl y
   .exact .inr y]
def JF(i:Nat){w:V}(e:Y[i]?=some (some r))(j:G7 r=some d0)(f:ZN d=some w)(h:Qr K t (Y.set i<|zf d0) d):Qr K t Y d:=λH0 F O H Q S q=>by
 refine At (S.freezeG e j) λp c m=>h H0 _ O H Q m λy Z v x b=>?_;have s:=b.flat f;refine q _ Z v (JC (λa g=>#[(c a g).1,(c a g).2.1]) x) ?_
 cases b<;>simp[ZN]at f
 .exact .non
 .exact .bl _
 .exact .int _
 .exact .str _
def DP(i:Nat){b:Bool}(e:Y[i]?=some (some r))(g:G7 r=some d0)(h:QO K t (Y.set i<|zf d0) b):QO K t Y b:=λH0 F O H Q S q=>by
 exact At (S.freezeG e g) λp c j=>h H0 _ O H Q j λm Z x=>q _ Z (JC (λa f=>#[(c a f).1,(c a f).2.1]) x)
def W0(ds:Qd):Prop := ∀d∈ds,∃w,ZN d=some w
theorem Qz.flats{F f:Hp}:∀{xs:List V} {ds:Qd},W0 ds->Qz F xs ds->Qz f xs ds
 |_,_,_,.nil=>.nil
 |_::_,d::_,h,.cons r t=>by
  obtain⟨w,e⟩:=h d Xb;refine .cons ?_ (Qz.flats (λc b=>h c<|Xh _ b) t);cases r<;>simp[ZN]at e
  .exact .non
  .exact .bl _
  .exact .int _
  .exact .str _
end
end L2
namespace L2
section
variable {tb:TE}
theorem ZL.snoc{F H:Hp}{b:Addr}{ds:Qd}:∀{as:Qg} {X3:List (Qd)},ZL F H as X3->VI F H b ds->ZL F H (as++[b]) (X3++[ds])
 |[],[],_,h=>⟨h,trivial⟩
 |_::_,_::_,h,c=>⟨h.1,ZL.snoc h.2 c⟩
 |[],_::_,h,_=>False.elim h
 |_::_,[],h,_=>False.elim h
theorem ZL.length{F H:Hp}:∀{as:Qg} {X3:List (Qd)},ZL F H as X3->as.length=X3.length
 |[],[],_=>rfl
 |_::_,_::_,h=>by simp[ZL.length h.2]
 |[],_::_,h=>False.elim h
 |_::_,[],h=>False.elim h
theorem ZL.get{F H:Hp}:∀{as:Qg} {X3:List (Qd)} {k:Nat} {ds:Qd},ZL F H as X3->X3[k]?=some ds->∃c,as[k]?=some c/\VI F H c ds
 |[],[],_,_,_,e=>by simp at e
 |a::_,_::_,0,ds,h,e=>by simp at e;subst e;exact#[a,rfl,h.1]
 |_::as,_::X3,k+1,ds,h,e=>by
  exact At (ZL.get h.2 (by simpa using e)) λc f b=>#[c,by simpa using f,b]
 |[],_::_,_,_,h,_=>False.elim h
 |_::_,[],_,_,h,_=>False.elim h
theorem ZL.set{F H:Hp}{c:Addr}{xs:List V}{ds:Qd}(r:Qz F xs ds)(f:F c=none):∀{as:Qg} {X3:List (Qd)} {k:Nat},ZL F H as X3->as.Nodup->as[k]?=some c->ZL F (upd H c<|.lst xs) as (X3.set k ds)
 |[],[],_,_,_,e=>by simp at e
 |a::as,d::X3,0,h,b,e=>by
  simp at e;subst e;exact#[#[f,xs,Q8,r],h.2.other (Xu.mp b).1]
 |a::as,d::X3,k+1,h,b,e=>by
  have g:=by simpa using e
  exact#[h.1.other (λz=>(Xu.mp b).1 (by rw[z];exact (List.mem_of_getElem? g))),ZL.set r f h.2 (Xu.mp b).2 g]
 |[],_::_,_,h,_,_=>False.elim h
 |_::_,[],_,h,_,_=>False.elim h
def Ac{t:Type}{f:List (Option Nat)}{J:TI}{g:CIn->TG}{X:CIn->TE}{xs:List t}{enc:t->PyData}{h:t->Qd}(E:EvI K J Y (xs.map enc))(hl:xs.length<=1000)
(hs:∀x∈xs,∀c,∃B,GTo K (g c) (enc x) (JY f Y) B/\EvO K (X c) B (.ol<|h x)):EvO K (tLC f J g (λ_=>UB) X) Y (.oll<|xs.map h):=λH0 F O H Q S q=>
 E H0 F O H _ S λF1 U ρ' P W c=>by
  have hn:=YJ (Vh hl);refine#[λi m ys H=>m=xs.length-i/\i<=xs.length/\∃n A,Q1 F1 U n H/\ys=A.map V.ref/\A.Nodup/\(∀a∈A,U a=none)/\ZL n H A ((xs.take i).map h),#[xs.length,by simp,XJ _,F1,[],Q1.refl P.fh,rfl,by simp,λa L=>(nomatch L),trivial],?_];rintro i m ys Z ⟨rfl,hle,n,A,s,rfl,N,k,C⟩;obtain⟨w1,w2⟩:=W n Z s.ff s.fh
  by_cases w:i<xs.length
  .have e:(xs.map enc)[i]?=some (enc xs[i]):=by simp[w]
   obtain⟨go,yl⟩:=w2 i _ e;refine .inr #[go,λv G y=>At (yl v G y) λF3 M r3=>At (hs xs[i] (Wb w) c) λB k1 k2=>?_];have tk:xs.take (i+1)=xs.take i++[xs[i]]:=by rw[JM];simp[w]
   refine k1 H0 F3 _ G v _ ((S.ext<|P.trans<|s.trans M).inner f) r3 λr S4=>?_;dsimp only[UB];refine k2 H0 F3 r G _ S4 λF5 H5 z p I T ok=>#[?_,xs.length-(i+1),#[],rfl,w,F5,A++[?_],s.trans<|M.trans I,?_,?_,?_,?_]
   .rw[Xj,C.length,Xj,Js];lia
   .exact(match z with|.ref b=>b|_=>0)
   all_goals apply aA ok;rintro b rfl rfl o1
   .simp
   .rw[JO];refine#[N,by simp,λl j d hd=>?_];have u:=by simpa using hd
    subst u;intro z;subst z;have D:=T l Xb;have:=(C.mem l j).2;obtain⟨o,ho⟩:=Mq this;rw[M.hh _ _ ho]at D;cases D
   .intro l j;rcases Xz.mp j with j|j
    .exact k l j
    .have:=by simpa using j
     subst this;exact(s.trans M).hh.free (T l Xb)
   .rw[tk,XL];exact(C.ext<|M.trans I).snoc o1
  .have e:i=xs.length:=#[]
   subst e;refine .inl #[by simpa using w1,λa L=>?_];rw[Jr]at C;have R:=λz=>(C.mem a z).2 L;refine q n _ _ (a::A) ((P.trans s).trans (Q1.own s.fh L)) (λb D=>?_) #[a,A,rfl,rfl,Xu.mpr #[R,N],s.fh.free L,Q8,C.other R]
   rcases Xf.mp D with rfl|D
   .exact(P.trans s).hh.free L
   .exact P.hh.free (k b D)
def Tl(B:Qr K ta Y (.list ds))(A:Qr K tb Y (.int k))(h0:0<=k)(w:ds.length*k.toNat<=1000)(L:k<=1000000):EvO K (tOp SV ta tb) Y (.ol (List.replicate k.toNat ds).flatten):=λH0 F O H Q S q=>
 YS B A S λD Z x y e m j=>by
  apply aD (Jj (K:=K) m e.fh);rintro a xs rfl M c C;cases j;have b:(2:Int)^63=9223372036854775808:=by decide
  refine#[a,k,xs,rfl,rfl,C,by rw[b];lia,by rw[b];lia,by rw[c.length];exact YJ<|Vh w,λp v=>?_];have i:∀n:Nat,Qz D (List.replicate n xs).flatten (List.replicate n ds).flatten:=λn=>by
   induction n with
   |zero=>exact .nil
   |succ n s=>rw[HF];exact c.append s
  exact I0 (Ga e v (i k.toNat)) λh g f=>q _ _ _ _ h g f
theorem Nf{b:Type}(d:b):∀n:Nat,(List.replicate n [d]).flatten=List.replicate n d
 |0=>rfl
 |n+1=>by rw[HF,List.flatten_cons,Nf d n];rfl
end
end L2
namespace PySem
section
variable {K:Type} [DecidableEq K] (knd:KeyKind prog w K)
def Y8(h:Heap)(b:List K×List K)(a:Addr):Prop := ∃o n p q,h.get? a=some o/\o.cls=.type "tuple" /\ o.data=.seq (List.toArray [.ref p,.ref q]) n/\IsTupleKey knd h b.1 p/\IsTupleKey knd h b.2 q
variable {knd}
def Y8.typeIs  (x:Y8 knd s.heap ks a):s.TypeIs (.ref a) "tuple" := let ⟨o,_,_,_,ho,hc,_⟩:=x;#[o,ho,hc]
def Y8.inj{y:List K×List K}(hx:Y8 knd h x a)(j:Y8 knd h y a):x=y:=by
 refine aR hx λo n p q m _ s w v=>aR j λC D B A c _ b g f=>?_;cases Option.some.inj (m.symm.trans c);rw[s]at b;injection b with z _;have i:=XS Array.toList z;simp at i;obtain⟨rfl,rfl⟩:=i;exact Prod.ext (w.inj g) (v.inj f)
def Y8.keeps{es ep}(x:Y8 knd h ks a)(g:h.get? d=some o)(i:o.data=.dict es ep)(hs:Heap.SameBut d h h'):Y8 knd h' ks a:=by
 apply aR x;intro j n p q b m f v s;have c:a≠d:=λz=>by
  grind
 exact#[j,n,p,q,(hs.2 a c).trans b,m,f,v.keeps g i hs,s.keeps g i hs]
def NR(knd:KeyKind prog w K)(b:List K×List K):Int:=reduceHash (Builtin.Tuple.tupleHashOf [tupleKeyHash knd b.1,tupleKeyHash knd b.2])
variable {hi:Qb}
def Zg0(K:A.units+5<cLine)(m:Y8 knd s.heap ks a)(h:Q (NR knd ks) { s with toks:=s.toks+(ks.1.length+ks.2.length+3) }):
 wpAny (model prog w) A (pyHash<|.ref a) Q hi s:=by
 have hT:=m.typeIs;refine aR m λo n p q v _ y C B=>Xa (wpAny_cRoomFor_or (.inr<|#[]) (Xa (wpAny_specialOf hT F.slot_tuple_hash.lookup (Xa (wpAny_specialOf hT F.slot_tuple_hash.lookup (Xa (wpAny_callSpecialIfBoundUnlessNone?_slot hT F.slot_tuple_hash<|wpAny_call_entry F.slot_tuple_hash hT F.entry_tuple_hash ?_<|F.args_tuple_hash_1 _)))))));show wpAny _ _ (Builtin.Tuple.tupleItemsOf (.ref a) >>= _) _ _ s;refine Xa (wpAny_tupleItemsOf v y (Xa ?_))
 rw[<- Array.forIn_toList];refine wpAny_forIn_list _
  (λrest (b) f=>(rest=[.ref p,.ref q]/\b.toList=[]/\f=s)\/(rest=[.ref q]/\b.toList=[tupleKeyHash knd ks.1]/\f={ s with toks:=s.toks+(ks.1.length+1) }) \/
   (rest=[]/\b.toList=[tupleKeyHash knd ks.1,tupleKeyHash knd ks.2]/\f={ s with toks:=s.toks+(ks.1.length+1)+(ks.2.length+1) }))
  _ ?_ ?_ _ _ (.inl #[rfl,rfl,rfl])
 .rintro x rest b f (⟨c,g,rfl⟩|⟨c,g,rfl⟩|⟨c,_⟩)
  .injection c with j i;subst j i;refine Xa (wpAny_pyHash_tuple ?hu1 C ?_)
   case hu1=>show A.units+1<cLine;lia
   exact Xl (.inr<|.inl #[rfl,by simp[g],rfl])
  .injection c with j i;subst j i;refine Xa (wpAny_pyHash_tuple ?hu2 B ?_)
   case hu2=>show A.units+1<cLine;lia
   exact Xl (.inr<|.inr #[rfl,by simp[g],rfl])
  .cases c
 .rintro b f (⟨c,_⟩|⟨c,_⟩|⟨_,g,rfl⟩)
  .cases c
  .cases c
  show wpAny _ _ (retInt<|Builtin.Tuple.tupleHashOf b.toList) _ _ _;rw[g];refine wpAny_ret_mkInt ?_;show wpAny _ _ (if _=true then _ else _) Q hi _;unfold NR reduceHash at h;have D:s.toks+(ks.1.length+ks.2.length+3)=s.toks+(ks.1.length+1)+(ks.2.length+1)+1:=#[]
  rw[D]at h;split
  .rename_i c;rw[Xe c]at h;exact Xl h
  .rename_i c;rw[Xd c]at h;exact Xa (wpAny_rule<|Xl h)
def Zl2{y:List K×List K}{b:Addr}{P:Fin->Shared->Prop}(T:A.units+1<cLine)(hx:Y8 knd s.heap x a)(n:Y8 knd s.heap y b)(h:P (.done<|.ret<|.bool<|decide (x=y)) s):
 wpAny (model prog w) A (Builtin.«tuple.__eq__» #[[.ref a,.ref b],[]]) P hi s:=by
 refine aR hx λQ S p q D _ M d Y=>aR n λO R z l C _ L X W=>?_;show wpAny _ _ (isInstance (.ref b) (.type "tuple") >>= _) _ _ s;refine Xa (wpAny_isInstance n.typeIs isSubtype_tuple_tuple (Xa (wpAny_tupleItemsOf D M (Xa (wpAny_tupleItemsOf C L (Xa ?_))))))
 have t:decide (x=y)=(decide (x.1=y.1)&&decide (x.2=y.2)):=by
  obtain⟨I,H⟩:=x;obtain⟨G,F⟩:=y;simp
 refine wpAny_forIn_list _
  (λrest r B=>r.1=none/\B=s/\((rest=[(.ref p,.ref z),(.ref q,.ref l)])\/(rest=[(.ref q,.ref l)]/\x.1=y.1)\/(rest=[]/\x=y)))
  _ ?_ ?_ _ _ #[rfl,rfl,.inl rfl]
 .rintro⟨u,v⟩ rest r B ⟨o,rfl,(c|⟨c,E⟩|⟨c,_⟩)⟩
  .injection c with m j;injection m with i g;subst j i g;refine Xa (wpAny_eqBool_tuple #[] d X ?_)
   by_cases f:x.1=y.1
   .rw[Xq f];simp only[ if_false];exact Xl #[rfl,rfl,.inr<|.inl #[trivial,f]]
   .rw[Xt f];rw[t,Xt f]at h;exact Xa (Xl<|Xl<|Xl h)
  .injection c with m j;injection m with i g;subst j i g;refine Xa (wpAny_eqBool_tuple #[] Y W ?_)
   by_cases f:x.2=y.2
   .rw[Xq f];simp only[ if_false];exact Xl #[rfl,rfl,.inr<|.inr #[trivial,Prod.ext E f]]
   .rw[Xt f];rw[t,Xt f,Bool.and_false]at h;exact Xa (Xl<|Xl<|Xl h)
  .cases c
 .rintro⟨N,J⟩ B ⟨rfl,rfl,(c|⟨c,_⟩|⟨_,e⟩)⟩
  .cases c
  .cases c
  refine Xl ?_;rwa[Xq e]at h
def Zg5{y:List K×List K}{b:Addr}(g:A.units+5<cLine)(hx:Y8 knd s.heap x a)(f:Y8 knd s.heap y b)(h:Q (decide (x=y)) s):
 wpAny (model prog w) A (eqBool (.ref a)<|.ref b) Q hi s:=by
 unfold eqBool;try with_reducible refine wpAny_holding ?_
 by_cases c:(Value.ref a==Value.ref b)=true
 .rw[Xe c];have e:=by have:=eq_of_beq c;injection this
  subst e;cases hx.inj f;exact Xa (wpAny_rule<|Xl<|by simpa using h)
 .rw[Xd c];exact Xa (wpAny_richCompare_same_room hx.typeIs f.typeIs F.slot_tuple_eq
   (wpAny_call_entry F.slot_tuple_eq hx.typeIs F.entry_tuple_eq (Zl2 (by simp;lia) hx f #[_,rfl,(by rintro⟨⟩),wpAny_truthy_bool h])<|F.args_tuple_eq_2 _ _) #[])
def Zmk(n:Nat)(j:IsTupleKey knd s.heap ks a)(h:Q true s):wpAny (model prog w) A (eqIsQuiet (n+1)<|.ref a) Q hi s:=by
 apply aB j;rintro o f m y _⟨B,E⟩;unfold eqIsQuiet;refine Xa (wpAny_specialOf j.typeIs F.slot_tuple_eq.lookup (Xa (wpAny_isInstance j.typeIs isSubtype_tuple_tuple (Xa (wpAny_seqItems y B (Xa ?_))))));rw[<- Array.forIn_toList];refine wpAny_forIn_list _ (λrest r c=>r.1=none/\c=s/\∀v∈rest,carriedByValue v=true) _ ?_ ?_ _ _ #[rfl,rfl,E.byValue]
 .rintro v rest r c ⟨i,rfl,b⟩;rw[eqIsQuiet_byValue _<|b v Xb];exact Xl #[rfl,rfl,λu g=>b u<|Xh _ g]
 .rintro⟨D,C⟩ c ⟨rfl,rfl,_⟩;exact Xl h
def Zfp(m:Y8 knd s.heap ks a)(h:Q true s):wpAny (model prog w) A (eqIsQuiet 8<|.ref a) Q hi s:=by
 apply aR m;intro o n p q B _ C K D;unfold eqIsQuiet;refine Xa (wpAny_specialOf m.typeIs F.slot_tuple_eq.lookup (Xa (wpAny_isInstance m.typeIs isSubtype_tuple_tuple (Xa (wpAny_seqItems B C (Xa ?_))))));rw[<- Array.forIn_toList];refine wpAny_forIn_list _ (λrest r f=>r.1=none/\f=s/\∀v∈rest,∃z i,v=.ref z/\IsTupleKey knd s.heap i z) _ ?_ ?_ _ _ #[rfl,rfl,λv c=>?_]
 .rintro v rest r f ⟨j,rfl,b⟩;apply KE (b v Xb);rintro z i rfl y;exact Xa (Zmk 6 y (Xl #[rfl,rfl,λu g=>b u<|Xh _ g]))
 .rintro⟨M,L⟩ f ⟨rfl,rfl,_⟩;exact Xl h
 .rcases Xf.mp c with rfl|c
  .exact#[p,_,rfl,K]
  .rcases Xf.mp c with rfl|c
   .exact#[q,_,rfl,D]
   .cases c
end
def NJ{prog:Program}{w:World}{K:Type}[DecidableEq K](b:KeyKind prog w K):HeapKind prog w (List K×List K) where
 is:=Y8 b
 hash:=NR b
 draws:=λj=>j.1.length+j.2.length+3
 room:=λA=>A.units+5<cLine
 inj:=λf c=>f.inj c
 keeps:=λx s hd m=>x.keeps s hd m
 pyHash:=λg i h=>Zg0 g i h
 eqBool:=λg f c h=>Zg5 g f c h
 quiet:=λi h=>Zfp i h
section
variable {K:Type} [DecidableEq K] {knd:HeapKind prog w K}{hi:Qb}
def ZdR{d a:Addr}{xs:List (K×Addr×Value)}{k:K}{c:Value}{Q:Qb}(D:knd.room A)(b:knd.is s.heap k a)(P:s.heap.DictOfH knd d xs)
(f:∀p,atKey xs k=some p->Q p.2 { s with toks:=s.toks+knd.draws k })
(v:atKey xs k=none->∀h',h'.DictOfH knd d (xs++[(k,a,c)])->Heap.SameBut d s.heap h'->Q c { s with heap:=h',toks:=s.toks+knd.draws k })
(hsz:xs.length<=sizeLine):
 wpAny (model prog w) A (dictSetDefault d (.ref a) c) Q hi s:=by
 apply aM P;rintro o es X i W g B⟨y,C⟩;unfold dictSetDefault;try with_reducible refine wpAny_holding ?_;refine Xa (knd.pyHash D b (Xa (wpAny_dictFind_heap D b i g B y C ?_ ?_)))
 .intro m;have L:=not_mem_keys_of_get m;refine Xa (wpAny_rule (Xa (wpAny_updateDictKeys (hz:=by have e:=size_of_entries B;lia) i g (Xl (v (atKey_none_of_get m) _ #[_,_,X+1,Jt _ i<|Obj.isFreed_of_dict<|Obj.data_mapDictKeys g _,
   W.mapDictKeys _,Obj.data_mapDictKeys g _,?_,?_,?_]<|Heap.SameBut.update ..)))))
  .simp[B,entryOfKey]
  .intro x h;rcases Xz.mp h with h|h
   .exact knd.keeps (y x h) i g (Heap.SameBut.update ..)
   .simp only[Xi]at h;subst h;exact knd.keeps b i g (Heap.SameBut.update ..)
  .rw[XL,JO];refine#[C,by simp,?_]
   grind
 .refine λj p M=>Xa (wpAny_dictEntries i g ?_);rw[entry_at B j,M];exact Xa (wpAny_rule<|Xl<|f _<|atKey_of_get C M)
def Ze7(knd:HeapKind prog w K)(d a:Addr)(y:(d==sysModules)=false)(b:Value):
 MeetsIn prog w (Builtin.«dict.setdefault» #[[.ref d,.ref a,b],[]]) (λA R s=>knd.room A.in1/\∃k xs,knd.is s.heap k a/\s.heap.DictOfH knd d xs/\xs.length<=sizeLine/\
  (∀p,atKey xs k=some p->R (.ok<|.ret p.2) { s with toks:=s.toks+knd.draws k })/\
  (atKey xs k=none->∀h',h'.DictOfH knd d (xs++[(k,a,b)])->Heap.SameBut d s.heap h'->R (.ok<|.ret b) { s with heap:=h',toks:=s.toks+knd.draws k })):=
 .of_wp λA R s ⟨j,k,xs,c,h,i,C,B⟩=>by
  refine Xa<|Xa (wpAny_notOrdered_dict h.typeIs (Xl ?_));show wpAny _ _ (if _=true then _ else _) _ _ s;rw[Xd<|by exact y▸Xw];exact Xa (ZdR j c h (λp m=>Xl #[p.2,rfl,C p m]) (λv h' g f=>Xl #[b,rfl,B v h' g f]) i)
end
end PySem
namespace L2
section
variable {κ:Type} [DecidableEq κ]
def ZC(kvs:List (κ×V))(k:κ):Option V:=(kvs.find? λb=>decide (b.1=k)).map (·.2)
def Yr(kvs:List (κ×V))(k:κ)(v:V):List (κ×V):=
 if (kvs.any λb=>decide (b.1=k))=true then kvs.map (λb=>if b.1=k then (b.1,v) else b) else kvs++[(k,v)]
def Wa{p:κ×V}(e:p.1=k):ZC (p::r) k=some p.2:=by simp[ZC, e]
def YV{p:κ×V}(e:¬p.1=k):ZC (p::r) k=ZC r k:=by simp[ZC, e]
theorem LA(k:κ):∀kvs:List (κ×V),(kvs.any λb=>decide (b.1=k))=(ZC kvs k).isSome
 |[]=>rfl
 |p::r=>by
  rw[MJ];by_cases e:p.1=k
  .simp only[Wa e,Xq e,Bool.true_or,Option.isSome_some]
  .rw[YV e,Xt e];exact LA k r
theorem Fi(k j:κ)(y:V):∀kvs:List (κ×V),ZC kvs k=none->ZC (kvs++[(k,y)]) j=if j=k then some y else ZC kvs j
 |[],_=>by
  by_cases e:k=j
  .rw[Xe e.symm];exact Wa e
  .rw[Xd λz=>e z.symm];exact YV e
 |p::r,b=>by
  rw[BD];have c:¬p.1=k:=λz=>by rw[Wa z]at b;cases b
  rw[YV c]at b
  by_cases e:p.1=j
  .rw[Wa e,Wa e,Xd λz=>c<|e.trans z]
  .rw[YV e,YV e,Fi k j y r b]
def Ci(kvs:List (κ×V))(k:κ)(v:V):(Yr kvs k v).length<=kvs.length+1:=by
 unfold Yr;split
 .simp_all
 .simp_all
def Vn.isSome_eq(r:Vn o u):o.isSome=u.isSome:=by
 cases o with
 |none=>cases u with
  |none=>rfl
  |some _=>exact(r).elim
 |some _=>cases u with
  |none=>exact(r).elim
  |some _=>rfl
def Vn.getD(r:Vn o u)(b:QN d d'):QN (o.getD d) (u.getD d'):=by
 cases o with
 |none=>cases u with
  |none=>exact b
  |some _=>exact(r).elim
 |some _=>cases u with
  |none=>exact(r).elim
  |some _=>exact r
def KV.val(r:KV kvs vs)(k:κ):Vn (ZC kvs k) (valueAt vs k):=by
 induction r with
 |nil=>exact True.intro
 |@cons p q ps c h t i=>
  obtain⟨g,j⟩:=h
  by_cases e:p.1=k
  .have f:=g.symm.trans e;have b:valueAt (q::c) k=some q.2:=by simp[valueAt, f]
   rw[Wa e,b];exact j
  .have f:¬q.1=k:=λz=>e (g.trans z)
   have b:valueAt (q::c) k=valueAt c k:=by simp[valueAt, f]
   rw[YV e,b];exact i
def KV.any(r:KV kvs vs)(k:κ):(kvs.any λb=>decide (b.1=k))=vs.any λb=>decide (b.1=k):=by
 induction r with
 |nil=>rfl
 |cons h t c=>rw[MJ,MJ,c,h.1]
def KV.repl(r:KV kvs vs)(k:κ)(f:QN y u):
 KV (kvs.map λb=>if b.1=k then (b.1,y) else b) (vs.map λb=>if b.1=k then (b.1,u) else b):=by
 induction r with
 |nil=>exact .nil
 |@cons p q ps j h t g=>
  rw[XI,XI];refine .cons ?_ g;obtain⟨c,i⟩:=h
  by_cases e:p.1=k
  .rw[Xe e,Xe<|c.symm.trans e];exact#[c,f]
  .rw[Xd e,Xd λz=>e<|c.trans z];exact#[c,i]
def KV.put(r:KV kvs vs)(k:κ)(b:QN y u):KV (Yr kvs k y) (stored vs k u):=by
 unfold Yr stored;rw[r.any k];by_cases e:(vs.any λc=>decide (c.1=k))=true
 .rw[Xe e,Xe e];exact r.repl k b
 .rw[Xd e,Xd e];exact Paired.snoc r #[rfl,b]
def KV.keys{kvs:List (κ×V)}{vs:List (κ×Value)}(r:KV kvs vs):kvs.map (·.1)=vs.map (·.1):=by
 induction r with
 |nil=>rfl
 |cons h t b=>rw[XI,XI,b,h.1]
def KV.length{kvs:List (κ×V)}{vs:List (κ×Value)}(r:KV kvs vs):kvs.length=vs.length:=Paired.length r
end
def GF(r:QN (kV k) u):(Vr P w).is k u=true:=by
 cases k with
 |inl i=>obtain⟨t,e⟩:=(r);subst e;exact Zmq P w i t
 |inr x=>obtain⟨t,e⟩:=(r);subst e;exact ZlH P w x t
theorem FD{P:Program}{w:World}:∀{b:List Key} {us:Qe},QU (b.map kV) us->ItemsAre (Vr P w) b us
 |[],_,r=>by rw[List.map_nil]at r;cases r;exact .nil
 |k::b,_,r=>by
  cases r with
  |cons h t=>exact .cons (GF h) (FD t)
abbrev KT(H:Hp):List (List Key×V)->List (List Key×Addr×Value)->Prop:=Paired λp q=>p.1=q.1/\H q.2.1=some (.tup<|p.1.map kV)/\QN p.2 q.2.2
def KT.val{xs:List (List Key×Addr×Value)}(r:KT H kvs xs)(k:List Key):Vn (ZC kvs k) ((atKey xs k).map (·.2)):=by
 induction r with
 |nil=>exact True.intro
 |@cons p q ps c h t i=>
  apply I0 h;intro g _ j
  by_cases e:p.1=k
  .have f:=g.symm.trans e;have b:atKey (q::c) k=some q.2:=by simp[atKey, f]
   rw[Wa e,b];exact j
  .have f:¬q.1=k:=λz=>e (g.trans z)
   have b:atKey (q::c) k=atKey c k:=by simp[atKey, f]
   rw[YV e,b];exact i
def KT.repl{xs:List (List Key×Addr×Value)}(r:KT H kvs xs)(k:List Key)(g:QN y u):
 KT H (kvs.map λc=>if c.1=k then (c.1,y) else c) (xs.map<|putAt k u):=by
 induction r with
 |nil=>exact .nil
 |@cons p q ps m h t i=>
  rw[XI];refine .cons ?_ i;apply I0 h;intro b f j;unfold putAt;by_cases e:p.1=k
  .rw[Xe e,Xe<|b.symm.trans e];exact#[b,f,g]
  .rw[Xd e,Xd λz=>e<|b.trans z];exact#[b,f,j]
def KT.put{xs:List (List Key×Addr×Value)}(r:KT H kvs xs)(k:List Key){b:Addr}(g:H b=some (.tup<|k.map kV))(c:QN y u):
 KT H (Yr kvs k y) (storedH xs k b u):=by
 have e:(kvs.any λf=>decide (f.1=k))=(atKey xs k).isSome:=by
  rw[LA,(r.val k).isSome_eq,U4]
 unfold Yr storedH;rw[e];by_cases q:(atKey xs k).isSome=true
 .rw[Xe q,Xe q];exact r.repl k c
 .rw[Xd q,Xd q];exact Paired.snoc r #[rfl,g,c]
def KT.keeps{xs:List (List Key×Addr×Value)}(r:KT H kvs xs)(c:∀b ys,H b=some (.tup ys)->Z b=some (.tup ys)):KT Z kvs xs:=
 Paired.mapP r λ_ _ z=>#[z.1,c _ _ z.2.1,z.2.2]
section
variable {H:Hp}{a:Addr}
def Pc(b:HOk P w H h)(e:Rd H a u):ZZ P w H h a u:=e.ok b
def Ue(b:HOk P w H h)(e:Rd H a (.dK kvs)):kvs.length<=sizeLine/\(a==sysModules)=false/\∃vs,KV kvs vs/\h.DictOf (Vr P w) a vs:=
 show ZZ P w H h a _ from Pc b e
def Kl(b:HOk P w H h)(e:H a=some (.dK kvs)):kvs.length<=sizeLine/\(a==sysModules)=false/\∃vs,KV kvs vs/\h.DictOf (Vr P w) a vs:=Ue b (.inl e)
def WW(c:HOk P w H h)(e:H a=some (.tup<|ks.map kV)):(tupleKind<|Vr P w).is h ks a:=by
 apply aV ((c a _ e));intro _ b r o i g n f
 exact#[o,b.toArray,n,i,g,f,by simpa using FD r]
def UL(f:HOk P w H h)(e:Rd H a (.dT kvs)):kvs.length<=sizeLine/\(a==sysModules)=false/\
 ∃xs,KT H kvs xs/\h.DictOfH (tupleKind<|Vr P w) a xs:=by
 apply FB ((Pc f e));rintro z y xs r o es C B⟨A,v,s,j⟩;refine#[z,y,xs,r,o,es,C,B,A,v,s,λx b=>?_,j];have c:∀{l:List _} {m:List _},KT H l m->∀x∈m,(tupleKind<|Vr P w).is h x.1 x.2.1:=by
  intro l m q;induction q with
  |nil=>intro x b;exact nomatch b
  |@cons p q ps D g t i=>
   intro x b;rcases Xf.mp b with e|b
   .subst e;exact WW f (by exact g.1▸g.2.1)
   .exact i x b
 exact c r x b
def Kq(b:HOk P w H h)(e:H a=some (.dT kvs)):kvs.length<=sizeLine/\(a==sysModules)=false/\
 ∃xs,KT H kvs xs/\h.DictOfH (tupleKind<|Vr P w) a xs:=UL b (.inl e)
end
def VP(H:Hp)(a:Addr)(y:V)(r:Option V):Prop:=
 (∃c k,Rd H a (.dK c)/\y=kV k/\r=ZC c k)\/∃c k b,Rd H a (.dT c)/\y=.ref b/\H b=some (.tup<|k.map kV)/\r=ZC c k
def Ju(H:Hp)(a:Addr)(y v:V)(Z:Hp):Prop:=
 (∃c k,H a=some (.dK c)/\y=kV k/\c.length<sizeLine/\Z=upd H a (.dK<|Yr c k v)) \/
 ∃c k b,H a=some (.dT c)/\y=.ref b/\H b=some (.tup<|k.map kV)/\c.length<sizeLine/\Z=upd H a (.dT<|Yr c k v)
def VP.q{H:Hp}{a:Addr}{kvs:List (Key×V)}{k:Key}(e:H a=some (.dK kvs)):VP H a (kV k) (ZC kvs k):=.inl #[kvs,k,.inl e,rfl,rfl]
def VP.t{b:Addr}{kvs:List (List Key×V)}{k:List Key}(e:H a=some (.dT kvs))(c:H b=some (.tup<|k.map kV)):VP H a (.ref b) (ZC kvs k):=.inr #[kvs,k,b,.inl e,rfl,c,rfl]
def Ju.k{H:Hp}{a:Addr}{kvs:List (Key×V)}{k:Key}(e:H a=some (.dK kvs))(b:kvs.length<sizeLine):Ju H a (kV k) v (upd H a<|.dK<|Yr kvs k v):=.inl #[kvs,k,e,rfl,b,rfl]
def Ju.t{b:Addr}{kvs:List (List Key×V)}{k:List Key}(e:H a=some (.dT kvs))(f:H b=some (.tup<|k.map kV))(c:kvs.length<sizeLine):
 Ju H a (.ref b) v (upd H a<|.dT<|Yr kvs k v):=.inr #[kvs,k,b,e,rfl,f,c,rfl]
section
variable {O:St}{H:Hp}{a:Addr}{u r:Value}{o:Option V}{hi:Qb}
def Qt.big(I:Qt X B O H s):sysModules<s.heap.objs.size:=by
 exact Nat.lt_trans (by decide) ((I.mod.glob.keeps I.bk).lt)
def ZqU(D:A.units+1<cLine)(I:Qt X B O H s)(g:VP H a y (some v))(C:QN y u)(h:∀i w,Qt X B O H w->QN v i->Q i w):
 wpAny (model X.prog X.w) A (getItem (.ref a) u) Q hi s:=by
 rcases g with ⟨j,k,e,rfl,l⟩|⟨j,k,b,e,rfl,M,l⟩
 .exact aL (Ue I.hok e) λz L P f dd=>At (Vn.some_of (by rw[l];exact f.val k)) λi m c=>wpAny_getItem_of (GF C) dd.mapOf m (h i _ (I.tok _) c)
 .cases (C);refine aL (UL I.hok e) λz L xs f dd=>At (Vn.some_of (by rw[l];exact f.val k)) λi m c=>At (Option.map_eq_some_iff.mp m) λp K o=>wpAny_getItem_heap (tupleKind_room_in1 D) (WW I.hok M) dd K ?_;rw[o];exact h i _ (I.tok _) c
def CT(v:A.units+1<cLine)(I:Qt X B O H s)(g:VP H a y o)(r:QN y u)(h:∀m,Qt X B O H m->Q (.bool o.isSome) m):
 wpAny (model X.prog X.w) A (compareOp .In u<|.ref a) Q hi s:=by
 rcases g with ⟨f,k,e,rfl,l⟩|⟨f,k,b,e,rfl,w,l⟩
 .refine aL (Ue I.hok e) λz i C c dd=>wpAny_in_of (GF r) i dd.mapOf ?_;rw[<- (c.val k).isSome_eq,<- l];exact h _ (I.tok _)
 .cases (r);refine aL (UL I.hok e) λz i xs c dd=>wpAny_in_heap (tupleKind_room_in1 v) (WW I.hok w) i dd ?_;have q:=(c.val k).isSome_eq;rw[U4]at q;rw[<- q,<- l];exact h _ (I.tok _)
def IK(v:A.units+1<cLine)(I:Qt X B O H s)(g:VP H a y o)(r:QN y u)(h:∀m,Qt X B O H m->Q (.bool<|!o.isSome) m):
 wpAny (model X.prog X.w) A (compareOp .NotIn u<|.ref a) Q hi s:=by
 rcases g with ⟨f,k,e,rfl,l⟩|⟨f,k,b,e,rfl,w,l⟩
 .refine aL (Ue I.hok e) λz i C c dd=>wpAny_notIn_of (GF r) i dd.mapOf ?_;rw[<- (c.val k).isSome_eq,<- l];exact h _ (I.tok _)
 .cases (r);refine aL (UL I.hok e) λz i xs c dd=>wpAny_notIn_heap (tupleKind_room_in1 v) (WW I.hok w) i dd ?_;have q:=(c.val k).isSome_eq;rw[U4]at q;rw[<- q,<- l];exact h _ (I.tok _)
def Mr(I:Qt X B O H s)(f:Mut (H a))(hs:Heap.SameBut a s.heap h')(he:∃q,h'.get? a=some q)(c:ZZ X.prog X.w (upd H a ob) h' a ob):
 Qt X B O (upd H a ob) { s with heap:=h',toks:=t' }:=
 I.write f (.inl rfl) (λb q g z=>(hs.2 b g).trans z) he c
def Tn(z:kvs.length<=sizeLine)(c:(a==sysModules)=false)(b:KV kvs vs)(dd:h'.DictOf (Vr P w) a vs):
 ZZ P w Z h' a (.dK kvs):=#[z,c,vs,b,dd]
def ZqH(p:A.units+1<cLine)(I:Qt X B O H s)(g:Ju H a y v Z)(M:QN y u)(P:QN v r)(h:∀L,Qt X B O Z L->Q () L):
 wpAny (model X.prog X.w) A (setItem (.ref a) u r) Q hi s:=by
 rcases g with ⟨i,k,e,D,l,K⟩|⟨i,k,b,e,D,Y,l,K⟩
 .subst D K;apply aL (Kl I.hok e);intro z C d f dd;have n:d.length<=sizeLine:=by rw[<- f.length];exact z
  have w:(Yr i k v).length<=sizeLine:=by have:=Ci i k v;lia
  refine wpAny_setItem_pairs (GF M) dd λh' j o=>h _ ?_;have t:∃q,h'.get? a=some q:=let ⟨q,_,_,m,_⟩:=j;#[q,m];exact Mr I (by rw[e];exact True.intro) o t (Tn w C (f.put k P) j)
 .subst D K;cases (M);apply aL (Kq I.hok e);intro z C xs f dd;have n:xs.length<=sizeLine:=by rw[<- Paired.length f];exact z
  have w:(Yr i k v).length<=sizeLine:=by have:=Ci i k v;lia
  refine wpAny_setItem_heap (tupleKind_room_in1 p) (WW I.hok Y) dd λh' j o=>h _ ?_;apply aM j;rintro q es J m G F E⟨_,x⟩;refine Mr I (by rw[e];exact True.intro) o #[q,m] #[w,C,_,(f.put k Y P).keeps λc ys W=>?_,q,es,J,m,G,F,E,x];rw[Qs<|Po W e λz=>nomatch z];exact W
end
def HY(i:Expr):Prop := ∀b c,subscripted i false b c=operate [b,c] (getItem b c)
def T8{g:Qb}{f:Env}{c b:Expr}{T C:String}{Q:Qb}
(D:typeLookup (.type T) "__getitem__"=pure (some<|.builtin C))(hs:HY b)
(h:wpAny (model prog w) A (eval c f) (λo B=>wpAny (model prog w) A (eval b f) (λi m=>m.TypeIs o T/\wpAny (model prog w) A (getItem o i) Q g m) g B) g s):
 wpAny (model prog w) A (eval (.Subscript c b pos) f) Q g s:=by
 refine Subscript_ (wpAny_mono h (λo B L=>wpAny_mono L (λi m v=>Xa (Xa (wpAny_specialOf v.1 D ?_))) λ_ _ x=>x) λ_ _ x=>x);have j:wpAny (model prog w) A (subscripted b false o i) (λr y=>wpAny (model prog w) A (letTemporaryGo c o r >>= λ_=>pure r) Q g y) g m:=by
  rw[hs o i];exact wpAny_operating (wpAny_mono v.2 (λr y K=>Xa<|wpAny_letTemporaryGo<|Xl K) λ_ _ x=>x)
 first
  |exact Xl (Xa j)
  |exact Xa _
  |exact Xa j
def ZmB  {O:St}{H:Hp}{a:Addr}{o:Option V}(I:Qt X B O H s)(g:VP H a y o):s.TypeIs (.ref a) "dict" := by
 rcases g with ⟨c,k,e,_,_⟩|⟨c,k,b,e,_,_,_⟩
 .exact aL (Ue I.hok e) λ_ _ f _ dd=>dd.typeIs
 .exact aL (UL I.hok e) λ_ _ xs _ dd=>dd.typeIs
def Dc(td c:TE):TE:=λO H Q=>td O H λx U=>c O U λy b=>∃a v,x=.ref a/\VP b a y (some v)/\Q v b
def MW(c td:TE):TE:=λO H Q=>c O H λy U=>td O U λx b=>∃a o,x=.ref a/\VP b a y o/\Q (.bl o.isSome) b
def Tw(c td:TE):TE:=λO H Q=>c O H λy U=>td O U λx b=>∃a o,x=.ref a/\VP b a y o/\Q (.bl<|!o.isSome) b
def MZ(td c tv:TE):TS:=λCH O H=>tv O H λv U=>td O U λx g=>c O g λy f=>∃a b,x=.ref a/\Ju f a y v b/\CH.nx O b
section
variable {o i value:Expr}{ty:TE}
def Gg(C:X.A.units+1<cLine)(D:PE X o td)(E:PE X i ty)(hs:HY i):PE X (.Subscript o i pos) (Dc td ty):=by
 refine λB s O H Q I h=>T8 PySem.F.slot_dict_getitem.lookup hs (QD (D B s O H _ I h) ?_);rintro u f ⟨x,U,M,m,A⟩;refine QD (E B f O U _ M A) ?_;rintro e d ⟨y,P,c,j,a,v,rfl,g,w⟩;obtain rfl:=m;exact#[ZmB c g,ZqU C c g j λW Y L b=>#[v,P,L,b,w]]
def UT(w:X.A.units+1<cLine)(E:PE X i ty)(A:PE X o td):PC X .In i o (MW ty td):=by
 refine λB s O H Q I h=>QD (E B s O H _ I h) ?_;rintro Y b ⟨y,U,L,c,m⟩;refine QD (A B b O U _ L m) ?_;rintro u W ⟨x,M,K,f,a,v,rfl,g,j⟩;obtain rfl:=f;exact CT w K g c λP D=>#[.bl v.isSome,M,D,rfl,j]
def Zp4(v:X.A.units+1<cLine)(E:PE X i ty)(w:PE X o td):PC X .NotIn i o (Tw ty td):=by
 refine λB s O H Q I h=>QD (E B s O H _ I h) ?_;rintro Y b ⟨y,U,K,c,m⟩;refine QD (w B b O U _ K m) ?_;rintro u P ⟨x,L,D,f,a,W,rfl,g,j⟩;obtain rfl:=f;exact IK v D g c λM C=>#[.bl _,L,C,rfl,j]
def Bh(K:X.A.units+1<cLine)(L:PE X o td)(E:PE X i ty)(D:PE X value tv)(hs:swapsWith value (some<|.Subscript o i pos') pos.line X.env=pure false):
 PS X (.Assign [.Subscript o i pos'] value pos) (MZ td ty tv):=by
 refine λB s O H CH I h=>wpAny_Assign_Subscript (QD (D B s O H _ I h) ?_) hs;rintro r c ⟨v,U,d,m,C⟩;refine QD (L B c O U _ d C) ?_;rintro u b ⟨x,k,Y,j,A⟩;refine QD (E B b O k _ Y A) ?_;rintro p n ⟨y,q,W,f,a,e,rfl,g,w⟩;obtain rfl:=j;exact ZqH K W g f m λl P=>#[O,e,P,w]
end
def O8  (h:Heap)(b:sysModules<h.objs.size):ZZ P w H (h.push { cls:=.type "dict",data:=.dict (List.toArray []) }) h.objs.size (.dK []):=
 #[XJ _,beq_eq_false_iff_ne.mpr<|Ne.symm<|XF b,[],.nil,Heap.DictOf.new h]
def LE  (h:Heap)(b:sysModules<h.objs.size):ZZ P w H (h.push { cls:=.type "dict",data:=.dict (List.toArray []) }) h.objs.size (.dT []):=
 #[XJ _,beq_eq_false_iff_ne.mpr<|Ne.symm<|XF b,[],.nil,_,(List.toArray []),0,XD _ rfl,#[rfl,rfl,rfl],rfl,rfl,Gz]
def Te:TE:=λ_ H Q=>∀p,H p=none->Q (.ref p) (upd H p<|.dK [])
def AN:TE:=λ_ H Q=>∀p,H p=none->Q (.ref p) (upd H p<|.dT [])
def N0:PE X (.Dict [] [] pos) Te:=λB s O H Q I h=>
 wpAny_Dict_empty #[.ref s.heap.objs.size,_,I.laid (λ_ _ q=>Xg _ q) (Xm _)<|O8 s.heap I.big,rfl,h _<|I.hok.fresh<|Xm _]
def Zro:PE X (.Dict [] [] pos) AN:=λB s O H Q I h=>
 wpAny_Dict_empty #[.ref s.heap.objs.size,_,I.laid (λ_ _ q=>Xg _ q) (Xm _)<|LE s.heap I.big,rfl,h _<|I.hok.fresh<|Xm _]
structure M2(X:Cx)(o:Expr)(m:Str)(T1:Pos)(e f:Expr)(L3:Pos):Prop where
 base:attributeBase o m X.env (eval o X.env)=eval o X.env
 few:((backTo L3<|starEach [e,f] X.env).all (λx => !x.1)&&(backToKw L3<|keywordEach [] X.env).all (λx=>x.1.isSome)
  && decide (([e,f]:Qi).length+([]:List Keyword).length+(if ([]:List Keyword).isEmpty then 0 else 1)<30))=true
 line:(T1.endLine==L3.line)=true
 trees:backTo L3 (starEach [e,f] X.env)=[(false,eval e X.env),(false,eval f X.env)]
def IsD(H:Hp)(a:Addr):Prop:=(∃b,Rd H a<|.dK b)\/∃b,Rd H a (.dT b)
def Tm{O:St}{H:Hp}{a:Addr}(I:Qt X B O H s)(d:IsD H a):
 s.TypeIs (.ref a) "dict" /\ (∀b,Value.ref a=.ref b->∃c,s.heap.get? b=some c/\c.dict=none)/\(a==sysModules)=false:=by
 rcases d with ⟨f,e⟩|⟨f,e⟩
 .refine aL (Ue I.hok e) λ_ g j _ dd=>#[dd.typeIs,λb q=>?_,g];cases q;exact aB dd λc _ _ i h _=>#[c,i,h.2.1]
 .refine aL (UL I.hok e) λ_ g xs _ dd=>#[dd.typeIs,λb q=>?_,g];cases q;exact aB dd λc _ _ i h _=>#[c,i,h.2.1]
section
variable {O:St}{H:Hp}{a:Addr}{d:V}{u r:Value}{o:Option V}{hi:Qb}
def AI(D:A.units+1<cLine)(I:Qt X B O H s)(g:VP H a y o)(w:QN y u)(C:QN d r)(h:∀m v,Qt X B O H v->QN (o.getD d) m->Q m v):
 wpAny (model X.prog X.w) A (call (.builtin "dict.get") [.ref a,u,r]) Q hi s:=by
 rcases g with ⟨f,k,e,rfl,l⟩|⟨f,k,b,e,rfl,K,l⟩
 .refine aL (Ue I.hok e) λz i L c dd=>call_meetsIn PySem.F.slot_dict_get dd.typeIs PySem.F.entry_dict_get (PySem.F.args_dict_get_3 _ _ _) (meets_dict_get_default _ a (GF w) i r) #[_,dd.mapOf,h _ _ (I.tok _) ?_];rw[l];exact(c.val k).getD C
 .cases (w);refine aL (UL I.hok e) λz i xs c dd=>call_meetsIn PySem.F.slot_dict_get dd.typeIs PySem.F.entry_dict_get (PySem.F.args_dict_get_3 _ _ _) (meetsH_dict_get_default _ a b i r) #[tupleKind_room_in1 D,k,xs,WW I.hok K,dd,h _ _ (I.tok _) ?_];rw[l];exact(c.val k).getD C
end
def PK(td c tx:TE):TE:=λO H Q=>td O H λx U=>∃a,x=.ref a/\IsD U a/\c O U λy f=>tx O f λz b=>∃o,VP b a y o/\Q (o.getD z) b
section
variable {o e f:Expr}{ty:TE}
def Zrn(P:X.A.units+1<cLine)(W:PE X o td)(he:PE X e ty)(Y:PE X f tx)(m:M2 X o "get" T1 e f L3):PE X (.Call (.Attribute o "get" T1) [e,f] [] L3) (PK td ty tx):=by
 refine λB s O H Q I h=>wpAny_Call_method m.base m.few m.line PySem.F.plainAttrs_dict PySem.F.slot_dict_get PySem.F.type_dict_get (QD (W B s O H _ I h) ?_);rintro u w ⟨x,U,c,D,a,rfl,d,M⟩;obtain rfl:=D;refine I0 (Tm c d) λj i _=>#[j,i,?_];rw[m.trees];refine Calls.callWith_builtin rfl (Calls.evalArgs_plain (Calls.spliced_cons (QD (he B w O U _ c M) λJ v ⟨y,r,p,C,L⟩=>
  Calls.spliced_cons (QD (Y B v O r _ p L) λN F ⟨z,q,n,A,G,g,K⟩=>Calls.spliced_nil ?_))))
 exact AI P n g C A λt E l b=>#[_,q,l,b,K]
end
section
variable {O:St}{H:Hp}{a:Addr}{kvs:List (Key×V)}{hi:Qb}
def OF(I:Qt X B O H s)(e:Rd H a (.dK kvs))(h:∀p g,H p=none->Qt X B O (upd H p<|.dK kvs) g->Q (.ref p) g):wpAny (model X.prog X.w) A (call (.type "dict") [.ref a]) Q hi s:=by
 refine aL (Ue I.hok e) λz m v c dd=>kt_call_dict m dd (by exact c.length▸z) λh' f j=>h _ _ (I.hok.fresh<|Xm _) (I.laid (λb q i=>?_) (Xm _)<|Tn z (beq_eq_false_iff_ne.mpr<|Ne.symm<|XF I.big) c f)
 exact(j.2 b<|XF<|Xo i).trans (Xg _ i)
end
end L2
namespace L2
def Zh.keep(k:∀b∈p,Z b=H b)(h:Zh K F H v t p):Zh K F Z v t p:=h.move (Q6.refl _) (λa c=>(h.there a c).1) k
def Q7.writeOwn(s:Q7 K H0 F Y O H)(e:zg Y i<|zo v Φ):
 O[i]?=some (some v)/\∃p,Φ.ok K F H v p/\(∀a∈p,H0 a=none/\F a=none/\H a≠none)/\
  ∀(Z:Hp) (c:OwnP) (f:Qg),Q6 F Z->(∀b,b∉p->H b≠none->Z b=H b)->(∀b,H b≠none->Z b≠none)->c.ok K F Z v f->(∀a∈f,a∈p\/(H a=none/\H0 a=none))->
   Q7 K H0 F (Y.set i<|zo v c) O Z:=by
 apply aD (s.chg e);rintro u p B⟨rfl,w⟩A k;exact#[B,p,w,A,λZ c f m y _ j g=>(k F Z (.own _ c) f (Q6.refl _) m y (λb h=>.inl h) #[rfl,j] g).1]
end L2
namespace L2
def WI:Key->PyData
 |.inl i=>.int i
 |.inr x=>.str x
def Ze(k:List Key):PyData:=.tuple (k.map WI)
def M3(r:Rep F y (WI k)):y=kV k:=by
 cases k with
 |inl i=>cases r;rfl
 |inr x=>cases r;rfl
theorem Fn{F:Hp}:∀{ys:List V} {k:List Key},Qz F ys (k.map WI)->ys=k.map kV
 |_,[],.nil=>rfl
 |_,k::c,.cons r b=>by rw[M3 r,Fn b];rfl
def Je(r:Rep F y (Ze k)):∃b,y=.ref b/\F b=some (.tup<|k.map kV):=by
 cases r with
 |tup h c=>exact#[_,rfl,by rw[h,Fn c]]
abbrev Yi:=List (List Key×PyData)
def Y4(kvs:Yi)(k:List Key):Option PyData:=(kvs.find? λb=>decide (b.1=k)).map (·.2)
def BK(kvs:Yi)(k:List Key)(d:PyData):Yi:=if (kvs.any λb=>decide (b.1=k))=true then kvs.map (λb=>if b.1=k then (b.1,d) else b) else kvs++[(k,d)]
inductive PairD(F:Hp):List (List Key×V)->Yi->Prop
 |nil:PairD F [] []
 |cons {k:List Key}{x:V}{d:PyData}{xs:List (List Key×V)}{kvs:Yi}:Rep F x d->PairD F xs kvs->PairD F ((k,x)::xs) ((k,d)::kvs)
theorem PairD.mono{F b:Hp}(s:Q6 F b):∀{xs:List (List Key×V)} {kvs:Yi},PairD F xs kvs->PairD b xs kvs
 |_,_,.nil=>.nil
 |_,_,.cons r t=>.cons (r.mono s) (t.mono s)
theorem PairD.length{F:Hp}:∀{xs:List (List Key×V)} {kvs:Yi},PairD F xs kvs->xs.length=kvs.length
 |_,_,.nil=>rfl
 |_,_,.cons _ t=>by simp[t.length]
theorem PairD.val{F:Hp}(k:List Key):∀{xs:List (List Key×V)} {kvs:Yi},PairD F xs kvs->(ZC xs k=none/\Y4 kvs k=none)\/∃x d,ZC xs k=some x/\Y4 kvs k=some d/\Rep F x d
 |_,_,.nil=>.inl #[rfl,rfl]
 |_,_,.cons (k:=k') (x:=x) (d:=d) (kvs:=kvs) r t=>by
  by_cases e:k'=k
  .exact .inr #[x,d,Wa e,by simp[Y4, e],r]
  .have q:Y4 ((k',d)::kvs) k=Y4 kvs k:=by simp[Y4, e]
   rw[YV e,q];exact t.val k
theorem PairD.any{F:Hp}(k:List Key):∀{xs:List (List Key×V)} {kvs:Yi},PairD F xs kvs->(xs.any λb=>decide (b.1=k))=(kvs.any λb=>decide (b.1=k))
 |_,_,.nil=>rfl
 |_,_,.cons _ t=>by simp[t.any k]
theorem PairD.mapP{F:Hp}(k:List Key){y:V}{d:PyData}(r:Rep F y d):∀{xs:List (List Key×V)} {kvs:Yi},PairD F xs kvs->PairD F (xs.map λb=>if b.1=k then (b.1,y) else b) (kvs.map λb=>if b.1=k then (b.1,d) else b)
 |_,_,.nil=>.nil
 |_,_,.cons (k:=k') c t=>by
  rw[XI,XI];by_cases e:k'=k
  .simp only[e];exact .cons r (t.mapP k r)
  .simp only[e];exact .cons c (t.mapP k r)
theorem PairD.snoc{F:Hp}(k:List Key){y:V}{d:PyData}(r:Rep F y d):∀{xs:List (List Key×V)} {kvs:Yi},PairD F xs kvs->PairD F (xs++[(k,y)]) (kvs++[(k,d)])
 |_,_,.nil=>.cons r .nil
 |_,_,.cons b t=>.cons b (t.snoc k r)
def PairD.put(k:List Key)(r:Rep F y d){xs:List (List Key×V)}(t:PairD F xs kvs):PairD F (Yr xs k y) (BK kvs k d):=by
 unfold Yr BK;rw[t.any k];split
 .exact t.mapP k r
 .exact t.snoc k r
def VV(kvs:Yi):OwnP where
 ok K F H v p := ∃a xs,v=.ref a/\p=[a]/\F a=none/\H a=some (.dT xs)/\PairD F xs kvs
 there:=by
  rintro K F H v p ⟨a,xs,rfl,rfl,h,f,g⟩ b j;cases Xi.mp j;exact#[h,Z4 f]
 mono:=by
  rintro K F y H Z v p s w m ⟨a,xs,rfl,rfl,h,f,g⟩;exact#[a,xs,rfl,rfl,w a Xb,by rw[m a Xb];exact f,g.mono s]
 uniq:=by
  rintro K F H v p q ⟨a,xs,rfl,rfl,_⟩ ⟨b,ys,e,rfl,_⟩ c i;cases e;exact i
section
variable {ty:TE}{kvs:Yi}{k:List Key}{d:PyData}
def Q7.dct(S:Q7 K H0 F Y O H)(e:zg Y i<|zo v<|VV kvs):
 ∃a xs,v=.ref a/\O[i]?=some (some<|.ref a)/\F a=none/\H0 a=none/\H a=some (.dT xs)/\PairD F xs kvs:=by
 apply aX (S.writeOwn e);rintro g p⟨a,xs,rfl,rfl,f,d,c⟩b _;exact#[a,xs,rfl,g,f,(b a Xb).1,d,c]
def Rz{xs:List (List Key×V)}(t:PairD F xs kvs):(ZC xs k).isSome=(Y4 kvs k).isSome:=by
 rcases t.val k with ⟨c,b⟩|⟨x,d,c,b,_⟩<;>rw[c,b]<;>rfl
def Ia(f:Qr K ty Y (Ze k))(e:zg Y i<|zo v<|VV kvs):Qr K (MW ty<|Q3 i) Y (.bool (Y4 kvs k).isSome):=λH0 F O H Q S q=>
 f H0 F O H _ S λs U y c d=>by
  apply aP ((S.ext c).dct e);rintro a xs rfl m _ _ j h;apply At (Je d);rintro b rfl g;exact#[_,m,a,_,rfl,VP.t j<|c.fh _ _ g,q s U _ c<|by rw[Rz h];exact .bl _]
def ZnY(f:Qr K ty Y (Ze k))(e:zg Y i<|zo v<|VV kvs):Qr K (Tw ty<|Q3 i) Y (.bool<|!(Y4 kvs k).isSome):=λH0 F O H Q S q=>
 f H0 F O H _ S λs U y c d=>by
  apply aP ((S.ext c).dct e);rintro a xs rfl m _ _ j h;apply At (Je d);rintro b rfl g;exact#[_,m,a,_,rfl,VP.t j<|c.fh _ _ g,q s U _ c<|by rw[Rz h];exact .bl _]
def ZrG(e:zg Y i<|zo v<|VV kvs)(X:Qr K tv Y d)(W:Qr K ty Y (Ze k))(hz:kvs.length<sizeLine)(hn:CH.nx (Y.set i<|zo v<|VV<|BK kvs k d)):QB K (MZ (Q3 i) ty tv) Y CH:=λF0 H0 F O H J x S C=>
 X H0 F O H _ S λG U u h M=>by
  apply aF ((S.ext h).dct e);rintro a xs rfl r _;refine#[_,r,W H0 G O U _ (S.ext h) λE R y g L=>?_];have s:=S.ext (h.trans g);apply aP (s.dct e);intro Q D m _ j o n B;cases m;apply At (Je L);rintro b rfl l;refine#[a,_,rfl,Ju.t n (g.fh _ _ l)<|by rw[B.length];exact hz,?_];apply aX (s.writeOwn e);intro _ p P I w;apply aT P;rintro t A m rfl _ N _;cases m;refine C.nx E O _ _ ((x.trans<|h.trans g).wr o j) (w _ (VV _) [a] (s.sub.upd j) (λc f _=>Qs λz=>f<|by exact z▸Xb) (λc f=>?_) #[a,_,rfl,rfl,j,Q8,B.put k<|M.mono g.ff] λc f=>.inl f) hn
  by_cases z:c=a
  .subst z;rw[Q8];rintro⟨⟩
  .rw[Qs z];exact f
def EvX(K:W.Frag)(t:TE)(Y:Zbv)(Φ:OwnP):Prop := ∀(H0 F:Hp) (O:St) (H:Hp) (Q:VK),Q7 K H0 F Y O H->(∀b Z v p,Q1 F H b Z->(∀a∈p,H a=none)->Φ.ok K b Z v p->Q v Z)->t O H Q
def Mw(h:EvX K te Y Φ)(hn:∀v,CH.nx<|Y.set i<|zo v Φ):QB K (Z9 te<|ZM i) Y CH:=λF0 H0 F O H X x S C=>
 h H0 F O H _ S λP Z v p b f m=>by
  refine C.nx P _ Z _ (x.trans b) ((S.ext b).set (t:=.own v Φ) #[rfl,m] (λa d=>x.hh.free<|f a d) (hn:=λa d j w k q M L c=>aA S.fp λl A e y=>At (A j k M) λW g D=>?_)) (hn v);intro s;rw[L]at g;cases g;exact(y j a<|WA (D.ext b) c a s).2 (f a d)
end
end L2
namespace Mir
theorem FJ{g:Qn}{l:Nat}(h:∀c,c<=l->g c=0):∀m,Q4 g (l+1+m)=Q4 (λj=>g<|l+1+j) m
 |0=>by
  show Q4 g _=0;rw[Zq λk b=>h k<|#[],Vv]
 |m+1=>by
  show Q4 g (l+1+m)+g _=_;rw[FJ h m];rfl
theorem Ct(y:Yd)(b own:Qn)(l:Nat):∀m,U0 y b own l m=Q4 (λj=>if Zn y (l+1+j)=some l then passes y b own (l+1+j) else 0) m
 |0=>rfl
 |m+1=>by simp only[U0,Q4];rw[Ct y b own l m]
def UK{y:Yd}(b:y.Ok){c:Nat}(f:c<y.ls.length)(e:Zn y c=some l):l<c:=by
 by_cases g:c=0
 .subst g;rw[b.up0]at e;cases e
 .obtain _:=b.ups c #[] f;simp_all
def FH{y:Yd}(f:y.Ok)(b own:Qn)(i:l<y.ls.length):VS y b own l=own l+Q4 (λc=>if Zn y c=some l then passes y b own c else 0) y.ls.length:=by
 rw[Zru f,Ct];have e:y.ls.length=l+1+(y.ls.length-1-l):=#[]
 have h:=FJ (g:=λc=>if Zn y c=some l then passes y b own c else 0) (l:=l) (λc j=>Xd λz=>by
  have:=UK f #[] z;lia) (y.ls.length-1-l)
 rw[<- e]at h;rw[h]
section
variable {y:Yd}
def LS(b:y.Ok):upL y 0=[0]:=by
 have:=b.l1;rw[Tf b<|#[],Xe rfl]
end
end Mir
namespace Mir
def ind(p:Prop)[Decidable p]:Int:=if p then 1 else 0
theorem LB{y:Yd}(b:y.Ok)(l:Nat)(A:l<y.ls.length):∀n j,j<n->j<y.ls.length->
 ind (l∈upL y j)=ind (j=l)+Q4 (λc=>if Zn y c=some l then ind (c∈upL y j) else 0) y.ls.length
 |0,j,h,_=>#[]
 |n+1,j,h,f=>by
  by_cases e:j=l
  .subst e;have z:Q4 (λc=>if Zn y c=some j then ind (c∈upL y j) else 0) y.ls.length=0:=by
    rw[Zq λc g=>?_,Vv]
    by_cases u:Zn y c=some j
    .have:=UK b g u;have w:¬c∈upL y j:=λz=>by have:=To y j c z;lia
     simp[u,ind,w]
    .simp[u]
   rw[z];simp[ind,NL]
  .by_cases s:j=0
   .subst s;have w:¬l∈upL y 0:=λz=>by rw[LS b]at z;simp at z;exact e z.symm
    have z:Q4 (λc=>if Zn y c=some l then ind (c∈upL y 0) else 0) y.ls.length=0:=by
     rw[Zq λc g=>?_,Vv]
     by_cases u:Zn y c=some l
     .have D:¬c∈upL y 0:=λz=>by
       rw[LS b]at z;simp at z;subst z;rw[b.up0]at u;cases u
      simp[u,ind,D]
     .simp[u]
    rw[z];simp[ind,w,e]
   .apply At (b.ups j #[] f);intro a i L;have C:ind (l∈upL y j)=ind (l∈upL y a):=by unfold ind;simp only[K8 b #[] f i l (λz=>e z.symm)]
    have B:∀c,c<y.ls.length->(if Zn y c=some l then ind (c∈upL y j) else 0)=(if Zn y c=some l then ind (c∈upL y a) else 0)+(if c=j then ind (a=l) else 0):=by
     intro c g;by_cases z:c=j
     .subst z;have w:¬c∈upL y a:=λq=>by have:=To y a c q;lia
      rw[i];by_cases q:a=l
      . simp[ind,NL,w]
      .simp[ind,q]
     .have K:=K8 b #[] f i c z;simp_all
    rw[C,LB b l A n a #[] #[],Zq B,M1,Bf,Xe f];have:ind (j=l)=0:=by unfold ind;rw[Xd e]
    lia
def Vf(y:Yd)(m:Nat)(ln:Nat->Nat)(f:Qn)(l:Nat):Int:=Q4 (λk=>f k*ind (l∈upL y (ln k))) m
def Bv{y:Yd}(g:y.Ok){m:Nat}(b:∀k,k<m->ln k<y.ls.length)(f:Qn)(h:l<y.ls.length):
 Vf y m ln f l=Q4 (λk=>f k*ind (ln k=l)) m+Q4 (λc=>if Zn y c=some l then Vf y m ln f c else 0) y.ls.length:=by
 unfold Vf;have j:∀k,k<m->f k*ind (l∈upL y (ln k))=f k*ind (ln k=l)+Q4 (λc=>if Zn y c=some l then f k*ind (c∈upL y (ln k)) else 0) y.ls.length:=by
  intro k i;rw[LB g l h _ (ln k) (JN _)<|b k i,Int.mul_add,<- DQ];congr 1;refine Zq λc _=>?_
  by_cases u:Zn y c=some l
  .rw[Xe u,Xe u]
  .simp_all
 rw[Zq j,M1,M9];congr 1;refine Zq λc _=>?_
 by_cases u:Zn y c=some l
 .simp_all
 .simp only[Xd u];rw[Vv]
theorem no_more{y:Yd}(j:y.Ok){m:Nat}{ln:Nat->Nat}(g:∀k,k<m->ln k<y.ls.length){f:Qn}{b own:Qn}(s:∀l,l<y.ls.length->Q4 (λk=>f k*ind (ln k=l)) m<=own l)(w:∀l,l<y.ls.length->Vf y m ln f l<=b l):
 ∀n l,y.ls.length<=l+n->l<y.ls.length->Vf y m ln f l<=passes y b own l
 |0,l,h,i=>#[]
 |n+1,l,h,i=>by
  have B:Vf y m ln f l<=VS y b own l:=by
   rw[Bv j g f i,FH j b own i];refine Int.add_le_add (s l i) (Wk λc v=>?_)
   by_cases u:Zn y c=some l
   .rw[Xe u,Xe u];have:=UK j v u;exact no_more j g s w n c #[] v
   .simp_all
  have A:=w l i;unfold passes;lia
end Mir
namespace Mir
def TQ{y:Yd}{m:Nat}{f g:Qn}(h:∀k,k<m->f k<=g k)(l:Nat):Vf y m ln f l<=Vf y m ln g l:=
 Wk λk b=>by
  unfold ind;split
  .simp_all
  .lia
def Im{y:Yd}{m:Nat}{f:Qn}(h:∀k,k<m->0<=f k)(l:Nat):0<=Vf y m ln f l:=
 D0 λk b=>by
  unfold ind;split
  .simp_all
  .lia
structure Shut(y:Yd)(m:Nat)(ln:Nat->Nat)(f mo:Qn)(b:Qn)(S R:Qm):Prop where
 nn:∀k,k<m->0<=f k
 full:∀k,k<m->S k=true->R (ln k)=false->f k=mo k
 none:∀k,k<m->S k=false->R (ln k)=true->f k=0
 top:R 0=true->Vf y m ln f 0=b 0
 out:∀c a,c<y.ls.length->Zn y c=some a->R c=true->R a=false->Vf y m ln f c=b c
 inn:∀c a,c<y.ls.length->Zn y c=some a->R c=false->R a=true->Vf y m ln f c=0
def Zg(S:Qm)(f:Qn):Qn:=λk=>if S k=true then f k else 0
def Nx{f:Qn}(h:0<=f k):Zg S f k<=f k:=by
 unfold Zg;split<;>lia
def IR{f:Qn}(h:0<=f k):0<=Zg S f k:=by
 unfold Zg;split<;>lia
theorem Shut.alike{y:Yd}(j:y.Ok){m:Nat}{ln:Nat->Nat}(g:∀k,k<m->ln k<y.ls.length){f B b:Qn}{S R:Qm}(h:Shut y m ln f B b S R):
 ∀n l,y.ls.length<=l+n->l<y.ls.length->R l=true->Vf y m ln f l=Vf y m ln (Zg S f) l
 |0,l,C,v,_=>#[]
 |n+1,l,C,v,A=>by
  rw[Bv j g f v,Bv j g _ v];congr 1
  .refine Zq λk i=>?_
   by_cases e:ln k=l
   .have:f k=Zg S f k:=by
     unfold Zg;cases s:S k with
     |true=>simp
     |false=>simp;exact h.none k i s (by exact e▸A)
    rw[this]
   .simp[ind,e]
  .refine Zq λc w=>?_
   by_cases u:Zn y c=some l
   .rw[Xe u,Xe u];have:=UK j w u;cases r:R c with
    |true=>exact Shut.alike j g h n c #[] w r
    |false=>
     have e:=h.inn c l w u r A;have K:=TQ (y:=y) (ln:=ln) (f:=Zg S f) (λk i=>Nx<|h.nn k i) c;have D:=Im (y:=y) (ln:=ln) (f:=Zg S f) (λk i=>IR<|h.nn k i) c;lia
   .simp_all
theorem Shut.all{y:Yd}(j:y.Ok){m:Nat}{ln:Nat->Nat}(g:∀k,k<m->ln k<y.ls.length){f v b own:Qn}{S R:Qm}(h:Shut y m ln f v b S R)
(w:∀l,l<y.ls.length->own l=Q4 (λk=>Zg S v k*ind (ln k=l)) m):
 ∀n l,y.ls.length<=l+n->l<y.ls.length->(R l=true->l=0\/∃a,Zn y l=some a/\R a=false)->passes y b own l<=Vf y m ln (Zg S f) l
 |0,l,B,i,_=>#[]
 |n+1,l,B,i,K=>by
  cases r:R l with
  |true=>
   have e:Vf y m ln f l=b l:=by
    rcases K r with z|⟨a,u,C⟩
    .subst z;exact h.top r
    .exact h.out l a i u r C
   rw[<- h.alike j g (n+1) l B i r,e];unfold passes;lia
  |false=>
   have L:VS y b own l<=Vf y m ln (Zg S f) l:=by
    rw[Bv j g _ i,FH j b own i];refine Int.add_le_add ?_ (Wk λc A=>?_)
    .rw[w l i];refine Wk λk D=>?_
     by_cases e:ln k=l
     .have:Zg S v k=Zg S f k:=by
       unfold Zg;cases s:S k with
       |true=>simp;exact(h.full k D s<|by exact e▸r).symm
       |false=>simp
      rw[this];exact YI _
     .simp[ind,e]
    .by_cases u:Zn y c=some l
     .rw[Xe u,Xe u];have:=UK j A u;exact Shut.all j g h w n c #[] A (λ_=>.inr #[l,u,r])
     .simp_all
   unfold passes;lia
end Mir
namespace Mir
section
variable {ν:Type} [DecidableEq ν]
abbrev Lay(ν:Type):=List (ν×ν×Int)
abbrev Zs(ν:Type):=ν->ν->Int
def WS(b:Lay ν):List ν:=b.flatMap λx=>[x.2.1,x.1]
def Yp(b:Lay ν)(φ:Zs ν):Ql:=b.flatMap λx=>[x.2.2-φ x.1 x.2.1,φ x.1 x.2.1]
def Dis(b:Lay ν):Prop:=(b.map λx=>(x.1,x.2.1)).Nodup
def Yj(φ:Zs ν)(s e:ν)(a:Int):Zs ν:=λp q=>if p=s/\q=e then φ p q+a else φ p q
theorem KF{c i:Type}(f g:c->i):∀(b:List c) (e:Nat),(b.flatMap λx=>[f x,g x])[e]?=b[e/2]?.map (if e%2=0 then f else g)
 |[],e=>by simp
 |x::b,0=>by simp
 |x::b,1=>by simp
 |x::b,e+2=>by
  simpa using (KF f g b e)
def hdE(b:Lay ν)(e:Nat):Option ν:=b[e/2]?.map λx=>if e%2=0 then x.2.1 else x.1
def tlE(b:Lay ν)(e:Nat):Option ν:=b[e/2]?.map λx=>if e%2=0 then x.1 else x.2.1
def rmE(b:Lay ν)(φ:Zs ν)(e:Nat):Option Int:=b[e/2]?.map λx=>if e%2=0 then x.2.2-φ x.1 x.2.1 else φ x.1 x.2.1
def Nk(b:Lay ν)(e:Nat):(WS b)[e]?=hdE b e:=by
 unfold WS hdE;rw[KF];congr 1;split<;>rfl
def Bn(b:Lay ν)(φ:Zs ν)(e:Nat):(Yp b φ)[e]?=rmE b φ e:=by
 unfold Yp rmE;rw[KF];congr 1;split<;>rfl
def Zhq(e:Nat):Nat:=if e%2=0 then e+1 else e-1
def ZoW(b:Lay ν)(e:Nat):(WS b)[Zhq e]?=tlE b e:=by
 rw[Nk];unfold hdE tlE Zhq;by_cases h:e%2=0
 .have f:(e+1)/2=e/2:=#[]
  have c:¬(e+1)%2=0:=#[]
  simp_all
 .have f:(e-1)/2=e/2:=#[]
  have c:(e-1)%2=0:=#[]
  simp_all
def V0(b:Lay ν)(F:ν->ν->Int):Int:=(b.map λx=>F x.1 x.2.1).sum
def VW(b:Lay ν)(φ:Zs ν)(n:ν):Int:=V0 b λs e=>φ s e*(ind (s=n)-ind (e=n))
def Zos{s:ν}(h:(s,e)∉dx.map λx=>(x.1,x.2.1))(G:Int->ν->ν->Int):
 V0 dx (λp q=>G (Yj φ s e a p q) p q)=V0 dx λp q=>G (φ p q) p q:=by
 unfold V0;congr 1;refine X6 λx f=>?_
 have:¬(x.1=s/\x.2.1=e):=by rintro⟨c,b⟩;exact h (XH.mpr #[x,f,by rw[c,b]])
 unfold Yj;dsimp only;rw[Xd this]
theorem Fo{φ:Zs ν}{a:Int}(G:Int->ν->ν->Int):∀{c:Lay ν},Dis c->∀{x:ν×ν×Int},x∈c->
 V0 c (λp q=>G (Yj φ x.1 x.2.1 a p q) p q)=V0 c (λp q=>G (φ p q) p q)-G (φ x.1 x.2.1) x.1 x.2.1+G (φ x.1 x.2.1+a) x.1 x.2.1
 |[],_,_,h=>by cases h
 |y::c,b,x,h=>by
  unfold Dis at b;rw[XI,Xu]at b;rcases Xf.mp h with rfl|h
  .have:=Zos (φ:=φ) (a:=a) b.1 G;have e:Yj φ x.1 x.2.1 a x.1 x.2.1=φ x.1 x.2.1+a:=by unfold Yj;rw[Xe #[rfl,rfl]]
   unfold V0 at this ⊢;rw[XI,Gy,XI,Gy,this];dsimp only;rw[e];lia
  .have f:=Fo (φ:=φ) (a:=a) G b.2 h;have j:¬(y.1=x.1/\y.2.1=x.2.1):=λ⟨i,g⟩=>b.1 (XH.mpr #[x,h,by rw[i,g]]);have e:Yj φ x.1 x.2.1 a y.1 y.2.1=φ y.1 y.2.1:=by unfold Yj;rw[Xd j]
   unfold V0 at f ⊢;rw[XI,Gy,XI,Gy,f];dsimp only;rw[e];lia
def YD(b:Lay ν)(a:Int)(φ:Zs ν)(e:Nat):Zs ν:=
 match b[e/2]? with
 |some x=>Yj φ x.1 x.2.1 (if e%2=0 then a else -a)
 |none=>φ
def Zqh(h:Dis dx){s:ν}(b:hdE dx e=some t)(hs:tlE dx e=some s)(n:ν):
 VW dx (YD dx a φ e) n=VW dx φ n+a*(ind (s=n)-ind (t=n)):=by
 unfold hdE at b;unfold tlE at hs;cases c:dx[e/2]? with
 |none=>rw[c]at b;cases b
 |some x=>
  rw[c]at b hs;have g:YD dx a φ e=Yj φ x.1 x.2.1 (if e%2=0 then a else -a):=by unfold YD;rw[c]
  rw[g];unfold VW;rw[Fo (λv p q=>v*(ind (p=n)-ind (q=n))) h (List.mem_of_getElem? c)];simp only[Wn,Option.some.injEq]at b hs;by_cases z:e%2=0
  .rw[Xe z]at b hs ⊢;subst b hs;rw[Int.add_mul];lia
  .rw[Xd z]at b hs ⊢;subst b hs;rw[Int.add_mul,Int.neg_mul,BI a,BI a];lia
inductive Chain(dx:Lay ν)(s:ν):ν->Qk->Prop
 |nil:Chain dx s s []
 |cons {n m:ν}{e:Nat}{w:Qk}(h:hdE dx e=some n)(t:tlE dx e=some m)(c:Chain dx s m w):Chain dx s n (e::w)
def Wv(b:Lay ν)(a:Int)(φ:Zs ν)(w:Qk):Zs ν:=w.foldl (YD b a) φ
theorem NO{b:Lay ν}(f:Dis b){s:ν}{a:Int}(p:ν):∀{w:Qk} {n:ν} {φ:Zs ν},Chain b s n w->VW b (Wv b a φ w) p=VW b φ p+a*(ind (s=p)-ind (n=p))
 |_,_,φ,.nil=>by
  show VW b φ p=_
  simp_all
 |e::w,n,φ,.cons h t c=>by
  show VW b (Wv b a _ w) p=_;rw[NO f p c,Zqh f h t,BI,BI,BI];lia
def Within(b:Lay ν)(φ:Zs ν):Prop := ∀x∈b,0<=φ x.1 x.2.1/\φ x.1 x.2.1<=x.2.2
def KZ:∀{c:Lay ν},Dis c->∀{i j:Nat} {x y:ν×ν×Int},c[i]?=some x->c[j]?=some y->x.1=y.1->x.2.1=y.2.1->i=j:=λ{c} h {i j x y} E g s m=>by
 have a:(c.map λx=>(x.1,x.2.1))[i]?=some (x.1,x.2.1):=by rw[Xy,E];rfl
 have b:(c.map λx=>(x.1,x.2.1))[j]?=some (x.1,x.2.1):=by rw[Xy,g,s,m];rfl
 exact(List.getElem?_inj ((Xc.mp a).1) h).mp (a.trans b.symm)
def Zmy{b:Lay ν}(v:Dis b){φ:Zs ν}(h:Within b φ){a:Int}(A:0<=a){e:Nat}{r:Int}(he:rmE b φ e=some r)(w:a<=r):Within b (YD b a φ e):=by
 unfold rmE at he;cases c:b[e/2]? with
 |none=>rw[c]at he;cases he
 |some x=>
  rw[c]at he;simp only[Wn,Option.some.injEq]at he;intro y i;have f:=h y i;have s:YD b a φ e=Yj φ x.1 x.2.1 (if e%2=0 then a else -a):=by unfold YD;rw[c]
  rw[s];unfold Yj;by_cases z:y.1=x.1/\y.2.1=x.2.1
  .rw[Xe z];obtain⟨j,g⟩:=List.mem_iff_getElem?.mp i;have m:=KZ v g c z.1 z.2;subst m;rw[c]at g;cases g
   by_cases q:e%2=0
   .rw[Xe q]at he ⊢;lia
   .rw[Xd q]at he ⊢;lia
  .rw[Xd z];exact f
def ZoE{c:Lay ν}(i:Dis c){φ:Zs ν}{a:Int}(v:0<=a){e b:Nat}(m:b≠e){r:Int}(he:rmE c φ b=some r):∃h,rmE c (YD c a φ e) b=some h/\r<=h:=by
 unfold rmE at he ⊢;cases g:c[b/2]? with
 |none=>rw[g]at he;cases he
 |some y=>
  rw[g]at he;simp only[Wn]at he ⊢;refine#[_,rfl,?_];unfold YD;cases j:c[e/2]? with
  |none=>simp only[];lia
  |some x=>
   simp only[];unfold Yj;by_cases z:y.1=x.1/\y.2.1=x.2.1
   .rw[Xe z];have s:=KZ i g j z.1 z.2
    by_cases q:e%2=0
    .have f:¬b%2=0:=#[]
     rw[Xd f]at he ⊢;rw[Xe q];lia
    .have f:b%2=0:=#[]
     rw[Xe f]at he ⊢;rw[Xd q];lia
   .rw[Xd z];lia
theorem Cd{b:Lay ν}(f:Dis b){a:Int}(g:0<=a):∀{w:Qk} {φ:Zs ν},Within b φ->w.Nodup->(∀e∈w,∃r,rmE b φ e=some r/\a<=r)->Within b (Wv b a φ w)
 |[],_,h,_,_=>h
 |e::w,φ,h,v,j=>by
  obtain⟨A,y⟩:=Xu.mp v;apply At (j e Xb);intro r B s;show Within b (Wv b a _ w);refine Cd f g (Zmy f h g B s) y λD c=>At (j D (Xh _ c)) λK i m=>At (ZoE f g (e:=e) (λz=>A<|z▸c) i) λq C L=>?_
  exact#[q,C,#[]]
abbrev Got(ν:Type):=List (ν×Option Nat)
def Zd(es:Got ν):List ν:=es.map (·.1)
inductive Tree(dx:Lay ν)(φ:Zs ν)(s:ν):Got ν->Prop
 |root:Tree dx φ s [(s,none)]
 |add {es:Got ν}{e:Nat}{n m:ν}{r:Int}(t:Tree dx φ s es)(hn:n∉Zd es)(hh:hdE dx e=some n)(ht:tlE dx e=some m)(hm:m∈Zd es)(hr:rmE dx φ e=some r)(h0:0<r):Tree dx φ s (es++[(n,some e)])
def Ud(es:Got ν)(n:ν):Option (Option Nat):=es.lookup n
def ZlG{es:Got ν}:n∉Zd es->es.lookup n=none:=by
 induction es with
 |nil=>intro _;rfl
 |cons p es b=>
  intro h;rw[XU];have:(n==p.1)=false:=by rw[beq_eq_false_iff_ne];exact (λz=>h (by exact z▸Xb))
  rw[this];exact b (λz=>h (Xh _ z))
def R8{es b:Got ν}:(es++b).lookup n=(es.lookup n).or (b.lookup n):=by
 grind
inductive Back(dx:Lay ν)(es:Got ν):ν->Qk->Prop
 |nil {n:ν}(h:Ud es n=some none):Back dx es n []
 |cons {n m:ν}{e:Nat}{w:Qk}(h:Ud es n=some (some e))(t:tlE dx e=some m)(b:Back dx es m w):Back dx es n (e::w)
theorem Back.app{c:Lay ν}{es f:Got ν}:∀{w:Qk} {n:ν},Back c es n w->Back c (es++f) n w
 |_,_,.nil h=>.nil (by unfold Ud at h ⊢;rw[R8,h];rfl)
 |_,_,.cons h t b=>.cons (by unfold Ud at h ⊢;rw[R8,h];rfl) t b.app
structure WayOk(dx:Lay ν)(φ:Zs ν)(s:ν)(es:Got ν)(n:ν)(w:Qk):Prop where
 back:Back dx es n w
 chain:Chain dx s n w
 nodup:w.Nodup
 room:∀e∈w,∃r,rmE dx φ e=some r/\0<r
 heads:∀e∈w,∃m,hdE dx e=some m/\m∈Zd es
theorem Tree.way{D:Lay ν}{φ:Zs ν}{s:ν}:∀{es:Got ν},Tree D φ s es->∀n∈Zd es,∃w,WayOk D φ s es n w
 |_,.root,n,v=>by
  have e:=by simpa [Zd] using v
  subst e;exact#[[],.nil<|by simp[Ud],.nil,Gz,(by rintro e ⟨⟩),(by rintro e ⟨⟩)]
 |_,.add (es:=es) (e:=e) (n:=k) (m:=m) t C y A L K M,n,v=>by
  have f:n∈Zd es\/n=k:=by simpa [Zd] using v
  have g:∀p,p∈Zd es->p∈Zd (es++[(k,some e)]):=λp B=>by
   unfold Zd at B ⊢;rw[XL];exact X9 _ B
  rcases f with f|rfl
  .obtain⟨w,q⟩:=t.way n f;exact#[w,q.back.app,q.chain,q.nodup,q.room,λi c=>let ⟨j,a,b⟩:=q.heads i c;#[j,a,g _ b]]
  .obtain⟨w,q⟩:=t.way m L;refine#[e::w,.cons ?_ A q.back.app,.cons y A q.chain,Xu.mpr #[λz=>?_,q.nodup],λi c=>?_,λi c=>?_]
   .unfold Ud;rw[R8,ZlG C];simp
   .apply At (q.heads e z);intro j a b;rw[y]at a;cases a;exact C b
   .rcases Xf.mp c with rfl|c
    .exact#[_,K,M]
    .exact q.room i c
   .rcases Xf.mp c with rfl|c
    .exact#[n,y,by simp[Zd]]
    .exact At (q.heads i c) λj a b=>#[j,a,g _ b]
theorem Tree.nodup{h:Lay ν}{φ:Zs ν}{s:ν}:∀{es:Got ν},Tree h φ s es->(Zd es).Nodup
 |_,.root=>by simp[Zd]
 |_,.add (n:=k) t c _ _ _ _ _=>by
  have:=t.nodup;unfold Zd at this c ⊢;rw[XL,JO];refine#[this,by simp,λa g b f=>?_]
  exact λz=>c ((by simpa using f)▸z▸g)
theorem Tree.start{b:Lay ν}{φ:Zs ν}{s:ν}:∀{es:Got ν},Tree b φ s es->s∈Zd es
 |_,.root=>by simp[Zd]
 |_,.add t _ _ _ _ _ _=>by
  have:=t.start;unfold Zd at this ⊢;rw[XL];exact X9 _ this
theorem Tree.sub{f:Lay ν}{φ:Zs ν}{s:ν}:∀{es:Got ν},Tree f φ s es->∀n∈Zd es,n∈s::WS f
 |_,.root,n,c=>by
  exact (by simpa [Zd] using c)▸Xb
 |_,.add (es:=es) (n:=k) t h g _ _ _ _,n,c=>by
  have b:n∈Zd es\/n=k:=by simpa [Zd] using c
  rcases b with b|rfl
  .exact t.sub n b
  .exact Xh _ (List.mem_of_getElem?<|(Nk f _).trans g)
theorem Rc{b:Type}[DecidableEq b]:∀{xs ys:List b},xs.Nodup->(∀x∈xs,x∈ys)->xs.length<=ys.length
 |[],_,_,_=>XJ _
 |x::xs,ys,i,h=>by
  obtain⟨m,j⟩:=Xu.mp i;have f:=h x Xb;have:=Rc j λz c=>by
   have g:z≠x:=λq=>m (q▸c)
   exact(List.mem_erase_of_ne g).mpr (h z<|Xh _ c)
  rw[List.length_erase_of_mem f]at this;have:=List.length_pos_of_mem f;rw[WG];lia
def Tree.len{s:ν}{es:Got ν}(t:Tree dx φ s es):es.length<=(WS dx).length+1:=by
 have:=Rc t.nodup t.sub;simpa [Zd] using this
def Y6(b:Lay ν)(φ:Zs ν)(es:Got ν):Prop := ∀e m n r,tlE b e=some m->hdE b e=some n->rmE b φ e=some r->0<r->m∈Zd es->n∈Zd es
end
end Mir
namespace Mir
inductive Nd where
 |start|fin
 |guest (k:Nat)
 |line (l t:Nat)
deriving DecidableEq
structure Gv where
 m:Nat
 ln:Nat->Nat
 wa:Qn
 mo:Qn
 th:Nat->Qm
def upN(y:Yd)(l:Nat):Nat:=(Zn y l).getD 0
def Vw(y:Yd)(G:Gv)(k:Nat):Lay Nd:=(.start,.guest k,G.wa k)::(List.range y.T).flatMap λt=>if G.th k t=true then [(.guest k,.line (G.ln k) t,G.mo k)] else []
def Yh(y:Yd)(t:Nat):Lay Nd:=(.line 0 t,.fin,ZG y 0 t)::(List.range<|y.ls.length-1).flatMap λi=>[(.line (i+1) t,.line (upN y<|i+1) t,ZG y (i+1) t)]
def Zv(y:Yd)(G:Gv):Lay Nd:=(List.range G.m).flatMap (Vw y G)++(List.range y.T).flatMap (Yh y)
def LO(A Xa6:Lay Nd)(F:Nd->Nd->Int):V0 (A++Xa6) F=V0 A F+V0 Xa6 F:=by
 unfold V0;simp_all
theorem M6(f:Nat->Lay Nd)(F:Nd->Nd->Int):∀n,V0 ((List.range n).flatMap f) F=Q4 (λk=>V0 (f k) F) n
 |0=>rfl
 |n+1=>by
  rw[YK,MG,LO,M6 f F n];simp[Q4]
def Lx(x:Nd×Nd×Int)(F:Nd->Nd->Int):V0 [x] F=F x.1 x.2.1:=by simp[V0]
def Fd(x:Nd×Nd×Int)(b:Lay Nd)(F:Nd->Nd->Int):V0 (x::b) F=F x.1 x.2.1+V0 b F:=by simp[V0]
def Zpu(y:Yd)(G:Gv)(F:Nd->Nd->Int)(k:Nat):V0 (Vw y G k) F=F .start (.guest k)+Q4 (λt=>if G.th k t=true then F (.guest k) (.line (G.ln k) t) else 0) y.T:=by
 unfold Vw;rw[Fd,M6];congr 1;refine Zq λt _=>?_
 split
 .rw[Lx]
 .rfl
def Zpx(y:Yd)(F:Nd->Nd->Int)(t:Nat):V0 (Yh y t) F=F (.line 0 t) .fin+Q4 (λi=>F (.line (i+1) t)<|.line (upN y<|i+1) t) (y.ls.length-1):=by
 unfold Yh;rw[Fd,M6];congr 1;refine Zq λt _=>?_;rw[Lx]
def NW(y:Yd)(G:Gv)(F:Nd->Nd->Int):V0 (Zv y G) F =
 Q4 (λk=>F .start (.guest k)+Q4 (λt=>if G.th k t=true then F (.guest k) (.line (G.ln k) t) else 0) y.T) G.m +
 Q4 (λt=>F (.line 0 t) .fin+Q4 (λi=>F (.line (i+1) t)<|.line (upN y<|i+1) t) (y.ls.length-1)) y.T:=by
 unfold Zv;rw[LO,M6,M6];congr 1
 .exact Zq λk _=>Zpu y G F k
 .exact Zq λt _=>Zpx y F t
def W7{y:Yd} : x∈Vw y G k↔x=(.start,.guest k,G.wa k)\/∃t,t<y.T/\G.th k t=true/\x=(.guest k,.line (G.ln k) t,G.mo k):=by
 unfold Vw;simp_all
def JE{y:Yd} : x∈Yh y t↔x=(.line 0 t,.fin,ZG y 0 t)\/∃i,i<y.ls.length-1/\x=(.line (i+1) t,.line (upN y<|i+1) t,ZG y (i+1) t):=by
 unfold Yh;simp_all
def Bo{y:Yd} : x∈Zv y G↔(∃k,k<G.m/\x∈Vw y G k)\/∃t,t<y.T/\x∈Yh y t:=by
 unfold Zv;simp_all
def DG(n:Nat):(List.range n).Pairwise (· ≠ ·):=List.nodup_range
def DM(y:Yd)(G:Gv):Dis (Zv y G):=by
 unfold Dis List.Nodup;rw[List.pairwise_map];unfold Zv;rw[List.pairwise_append];refine#[?_,?_,?_]
 .rw[HG];refine#[λk _=>?_,(DG _).imp λ{k j} g x b z c=>?_]
  .unfold Vw;rw[List.pairwise_cons];refine#[λx b=>?_,?_]
   .grind
   .rw[HG];refine#[λt _=>?_,(DG _).imp λ{t u} f x b z c=>?_]
    .split
     .exact List.pairwise_singleton _ _
     .exact List.Pairwise.nil
    .split at b
     .split at c
      .rw[Xi.mp b,Xi.mp c];intro q;simp at q;exact f q
      .cases c
     .cases b
  .rcases W7.mp b with rfl|⟨t,_,_,rfl⟩<;>rcases W7.mp c with rfl|⟨u,_,_,rfl⟩<;>intro q<;>simp at q
   .exact g q
   .exact g q.1
 .rw[HG];refine#[λt _=>?_,(DG _).imp λ{t u} f x b z c=>?_]
  .unfold Yh;rw[List.pairwise_cons];refine#[λx b=>?_,?_]
   .grind
   .rw[HG];refine#[λt _=>List.pairwise_singleton _ _,(DG _).imp λ{i j} h x b z c=>?_];rw[Xi.mp b,Xi.mp c];intro q;simp at q;exact h q.1
  .rcases JE.mp b with rfl|⟨i,_,rfl⟩<;>rcases JE.mp c with rfl|⟨j,_,rfl⟩<;>intro q<;>simp at q
   .exact f q
   .exact f q.1.2
 .refine λx b z c=>At (HJ.mp b) λk _ b=>At (HJ.mp c) λt _ c=>?_;rcases W7.mp b with rfl|⟨m,_,_,rfl⟩<;>rcases JE.mp c with rfl|⟨j,_,rfl⟩<;>intro q<;>simp at q
end Mir
namespace Mir
def QY(G:Gv)(φ:Zs Nd)(t k:Nat):Int:=if G.th k t=true then φ (.guest k) (.line (G.ln k) t) else 0
def upF(y:Yd)(φ:Zs Nd)(t l:Nat):Int:=if l=0 then φ (.line 0 t) .fin else φ (.line l t) (.line (upN y l) t)
theorem Rh(f:Qn):∀n,Q4 f (n+1)=f 0+Q4 (λi=>f<|i+1) n
 |0=>by simp[Q4]
 |n+1=>by
  show Q4 f _+f _=_;rw[Rh f n];simp[Q4]
  lia
def VT[Decidable p](h:¬p):ind p=0:=Xd h
def Nt[Decidable p][Decidable q](h:p↔q):ind p=ind q:=by unfold ind;simp only[h]
def ZnA(y:Yd)(G:Gv)(φ:Zs Nd){k0:Nat}(c:k0<G.m):VW (Zv y G) φ (.guest k0)=Q4 (λt=>QY G φ t k0) y.T-φ .start (.guest k0):=by
 unfold VW;rw[NW];have f:Q4 (λt=>φ (.line 0 t) .fin*(ind (Nd.line 0 t=.guest k0)-ind (Nd.fin=.guest k0))+Q4 (λi=>φ (.line (i+1) t) (.line (upN y<|i+1) t)*(ind (Nd.line (i+1) t=.guest k0)-ind (Nd.line (upN y<|i+1) t=.guest k0))) (y.ls.length-1)) y.T=0:=by
  rw[Zq λt _=>?_,Vv];rw[VT (by rintro⟨⟩),VT (by rintro⟨⟩),Zq λi _=>?_,Vv]
  .simp
  . simp
 rw[f,Jp];rw[Zq λk _=>?_,Bf,Xe c];rw[VT λz=>nomatch z]
 by_cases e:k=k0
 .subst e;have:Q4 (λt=>if G.th k t=true then φ (.guest k) (.line (G.ln k) t)*(ind (Nd.guest k=.guest k)-ind (Nd.line (G.ln k) t=.guest k)) else 0) y.T=Q4 (λt=>QY G φ t k) y.T:=by
   refine Zq λt _=>?_;unfold QY;split
   .simp[ind]
   .rfl
  rw[this];simp[ind];lia
 .have b:¬Nd.guest k=.guest k0:=λz=>e (by injection z)
  rw[Xd e,VT b,Zq λt _=>?_,Vv]
  .simp
  .rw[VT λz=>nomatch z];simp
def NS{y:Yd}(b:y.Ok){c:Nat}(h0:0<c)(f:c<y.ls.length):upN y c=l↔Zn y c=some l:=by
 apply At (b.ups c h0 f);intro a g _;unfold upN;rw[g];simp
def ZoM{y:Yd}(b:y.Ok)(G:Gv)(φ:Zs Nd)(m:l<y.ls.length)(f:t0<y.T):VW (Zv y G) φ (.line l t0) =
 upF y φ t0 l-Q4 (λk=>QY G φ t0 k*ind (G.ln k=l)) G.m-Q4 (λc=>if Zn y c=some l then upF y φ t0 c else 0) y.ls.length:=by
 unfold VW;rw[NW];have v:Q4 (λk=>φ .start (.guest k)*(ind (Nd.start=.line l t0)-ind (Nd.guest k=.line l t0))+Q4 (λt=>if G.th k t=true then φ (.guest k) (.line (G.ln k) t)*(ind (Nd.guest k=.line l t0)-ind (Nd.line (G.ln k) t=.line l t0)) else 0) y.T) G.m = - Q4 (λk=>QY G φ t0 k*ind (G.ln k=l)) G.m:=by
  rw[show-Q4 (λk=>QY G φ t0 k*ind (G.ln k=l)) G.m=(-1)*Q4 (λk=>QY G φ t0 k*ind (G.ln k=l)) G.m by lia,<- DQ];refine Zq λk _=>?_;rw[VT (by rintro⟨⟩),VT λz=>nomatch z];rw[Zq (g:=λt=>if t=t0 then-(QY G φ t0 k*ind (G.ln k=l)) else 0) λt _=>?_,Bf,Xe f]
  .simp
  .by_cases e:t=t0
   .subst e;rw[Xe rfl,Nt (q:=G.ln k=l)<|by simp];unfold QY;split
    .rw[Int.zero_sub,Int.mul_neg]
    .simp
   .rw[Xd e,VT λz=>e<|by injection z];simp
 rw[v];have s:Q4 (λt=>φ (.line 0 t) .fin*(ind (Nd.line 0 t=.line l t0)-ind (Nd.fin=.line l t0))+Q4 (λi=>φ (.line (i+1) t) (.line (upN y<|i+1) t)*(ind (Nd.line (i+1) t=.line l t0)-ind (Nd.line (upN y<|i+1) t=.line l t0))) (y.ls.length-1)) y.T
  = upF y φ t0 l-Q4 (λc=>if Zn y c=some l then upF y φ t0 c else 0) y.ls.length:=by
  rw[Zq λt _=>?_,Bf,Xe f];rw[VT (p:=Nd.fin=.line l t0) λz=>nomatch z]
  by_cases e:t=t0
  .subst e;rw[Xe rfl,Nt (q:=0=l)<|by simp];have h:y.ls.length=(y.ls.length-1)+1:=#[]
   have B:upF y φ t l=Q4 (λc=>if c=l then upF y φ t l else 0) y.ls.length:=by rw[Bf,Xe m]
   have A:∀c,c<y.ls.length->(if c=l then upF y φ t l else 0)=upF y φ t c*ind (c=l):=λc _=>by
    by_cases q:c=l
    .subst q;simp[ind]
    .simp[ind,q]
   rw[B,Zq A,h,Rh,Rh];have j:¬Zn y 0=some l:=λz=>by rw[b.up0]at z;cases z
   have f0:upF y φ t 0=φ (.line 0 t) .fin:=by unfold upF;rw[Xe rfl]
   rw[Xd j,f0,<- h];have w:Q4 (λi=>φ (.line (i+1) t) (.line (upN y<|i+1) t)*(ind (Nd.line (i+1) t=.line l t)-ind (Nd.line (upN y<|i+1) t=.line l t))) (y.ls.length-1)
    = Q4 (λi=>upF y φ t (i+1)*ind (i+1=l)) (y.ls.length-1)+Q4 (λi => -1*(if Zn y (i+1)=some l then upF y φ t (i+1) else 0)) (y.ls.length-1):=by
    rw[<- M1];refine Zq λi E=>?_;rw[ Nt (p:=Nd.line (upN y<|i+1) t=.line l t) (q:=Zn y (i+1)=some l) (by rw[<- NS b #[] #[]];simp)]
    have:upF y φ t (i+1)=φ (.line (i+1) t) (.line (upN y<|i+1) t):=by unfold upF;rw[Xd<|#[]]
    rw[this,BI];by_cases q:Zn y (i+1)=some l
    . simp[ind,q];lia
    . simp[ind,q]
   rw[w,DQ];simp only[Int.sub_zero];lia
  .rw[Xd e,VT (λz=>e<|by injection z),Zq λi _=>?_,Vv]
   .simp
   .rw[VT (λz=>e<|by injection z),VT λz=>e<|by injection z];simp
 rw[s];lia
end Mir
namespace Mir
section
variable {ν:Type} [DecidableEq ν]
def Y6.fwd(hw:Within dx φ){es:Got ν}(c:Y6 dx φ es){x:ν×ν×Int}(hx:x∈dx)(g:x.1∈Zd es)(f:x.2.1∉Zd es):φ x.1 x.2.1=x.2.2:=by
 obtain⟨i,E⟩:=List.mem_iff_getElem?.mp hx;have e:(2*i)/2=i:=#[]
 have b:(2*i)%2=0:=#[]
 by_cases z:φ x.1 x.2.1=x.2.2
 .exact z
 .have:=hw x hx;exact Xv (c _ x.1 x.2.1 (x.2.2-φ x.1 x.2.1) (by unfold tlE;rw[e,E,b];rfl) (by unfold hdE;rw[e,E,b];rfl) (by unfold rmE;rw[e,E,b];rfl) #[] g) f
def Y6.bwd(hw:Within dx φ){es:Got ν}(c:Y6 dx φ es){x:ν×ν×Int}(hx:x∈dx)(g:x.1∉Zd es)(f:x.2.1∈Zd es):φ x.1 x.2.1=0:=by
 obtain⟨i,E⟩:=List.mem_iff_getElem?.mp hx;have e:(2*i+1)/2=i:=#[]
 have b:¬(2*i+1)%2=0:=#[]
 by_cases z:φ x.1 x.2.1=0
 .exact z
 .have:=hw x hx;exact Xv (c _ x.2.1 x.1 (φ x.1 x.2.1) (by unfold tlE;rw[e,E];simp[b]) (by unfold hdE;rw[e,E];simp[b]) (by unfold rmE;rw[e,E];simp[b]) #[] f) g
end
structure Flow(y:Yd)(G:Gv)(φ:Zs Nd):Prop where
 wi:Within (Zv y G) φ
 kp:∀n,n≠.start->n≠.fin->VW (Zv y G) φ n=0
def Tz{y:Yd}(b:k<G.m):((.start,.guest k,G.wa k):Nd×Nd×Int)∈Zv y G:=Bo.mpr (.inl #[k,b,W7.mpr<|.inl rfl])
def D7{y:Yd}(c:k<G.m)(b:t<y.T)(h:G.th k t=true):((.guest k,.line (G.ln k) t,G.mo k):Nd×Nd×Int)∈Zv y G:=Bo.mpr (.inl #[k,c,W7.mpr<|.inr #[t,b,h,rfl]])
def PF{y:Yd}(b:t<y.T):((.line 0 t,.fin,ZG y 0 t):Nd×Nd×Int)∈Zv y G:=Bo.mpr (.inr #[t,b,JE.mpr<|.inl rfl])
def Kk{y:Yd}(b:t<y.T)(h0:0<l)(c:l<y.ls.length):((.line l t,.line (upN y l) t,ZG y l t):Nd×Nd×Int)∈Zv y G:=
 Bo.mpr (.inr #[t,b,JE.mpr<|.inr #[l-1,#[],by rw[show l-1+1=l by lia]]])
def moT(G:Gv)(t k:Nat):Int:=if G.th k t=true then G.mo k else 0
section
variable {y:Yd}{G:Gv}{φ:Zs Nd}(F:Flow y G φ)
include F
theorem Flow.tak(f:k<G.m)(b:t<y.T):0<=QY G φ t k/\QY G φ t k<=moT G t k:=by
 unfold QY moT;by_cases c:G.th k t=true
 .rw[Xe c,Xe c];exact F.wi _ (D7 f b c)
 .simp_all
theorem Flow.total(b:k<G.m):Q4 (λt=>QY G φ t k) y.T=φ .start (.guest k):=by
 have:=F.kp (.guest k) (by rintro⟨⟩) (by rintro⟨⟩);rw[ZnA y G φ b]at this;lia
theorem Flow.want(b:k<G.m):0<=φ .start (.guest k)/\φ .start (.guest k)<=G.wa k:=F.wi _ (Tz b)
theorem Flow.up(f:y.Ok)(b:∀k,k<G.m->G.ln k<y.ls.length){t:Nat}(i:t<y.T):∀n l,y.ls.length<=l+n->l<y.ls.length->upF y φ t l=Vf y G.m G.ln (QY G φ t) l
 |0,l,h,g=>#[]
 |n+1,l,h,g=>by
  have z:=F.kp (.line l t) (by rintro⟨⟩) (by rintro⟨⟩);rw[ZoM f G φ g i]at z;have e:Q4 (λc=>if Zn y c=some l then upF y φ t c else 0) y.ls.length=Q4 (λc=>if Zn y c=some l then Vf y G.m G.ln (QY G φ t) c else 0) y.ls.length:=by
   refine Zq λc j=>?_
   by_cases u:Zn y c=some l
   .rw[Xe u,Xe u];have:=UK f j u;exact Flow.up f b i n c #[] j
   .rw[Xd u,Xd u]
  rw[Bv f b _ g,<- e];lia
theorem Flow.up_ok(f:y.Ok)(b:t<y.T)(c:l<y.ls.length):0<=upF y φ t l/\upF y φ t l<=ZG y l t:=by
 unfold upF;by_cases z:l=0
 .subst z;exact F.wi _ (PF b)
 .rw[Xd z];exact F.wi _ (Kk b #[] c)
theorem Flow.load(c:y.Ok)(b:∀k,k<G.m->G.ln k<y.ls.length)(f:t<y.T)(g:l<y.ls.length):Vf y G.m G.ln (QY G φ t) l<=ZG y l t:=by
 rw[<- F.up c b f y.ls.length l #[] g];exact(F.up_ok c f g).2
def VX(es:Got Nd)(k:Nat):Bool:=decide (Nd.guest k∈Zd es)
def CS(es:Got Nd)(t l:Nat):Bool:=decide (Nd.line l t∈Zd es)
omit F in
theorem not_of[Decidable p](h:decide p=false):¬p:=BH h
theorem Flow.shut(ok:y.Ok)(f:∀k,k<G.m->G.ln k<y.ls.length){es:Got Nd}(g:Y6 (Zv y G) φ es)(j:Nd.fin∉Zd es)(b:t<y.T):
 Shut y G.m G.ln (QY G φ t) (moT G t) (λl=>ZG y l t) (VX es) (CS es t) where
 nn k hk:=(F.tak hk b).1
 full k hk hS hR:=by
  unfold QY moT;by_cases c:G.th k t=true
  .rw[Xe c,Xe c];exact g.fwd F.wi (D7 hk b c) (XX hS) (not_of hR)
  .rw[Xd c,Xd c]
 none k hk hS hR:=by
  unfold QY;by_cases c:G.th k t=true
  .rw[Xe c];exact g.bwd F.wi (D7 hk b c) (not_of hS) (XX hR)
  .rw[Xd c]
 top hR:=by
  have h0:=ok.l1;exact (F.up ok f b y.ls.length 0 #[] #[])▸(g.fwd F.wi (PF b) (XX hR) j)
 out c a hcl u h1 h2:=by
  have i:c≠0:=λz=>by subst z;rw[ok.up0]at u;cases u
  have h:=(NS ok #[] hcl).mpr u;rw[<- F.up ok f b y.ls.length c #[] hcl];unfold upF;rw[Xd i];exact g.fwd F.wi (Kk b #[] hcl) (XX h1) (by rw[h];exact not_of h2)
 inn c a hcl u h1 h2:=by
  have i:c≠0:=λz=>by subst z;rw[ok.up0]at u;cases u
  have h:=(NS ok #[] hcl).mpr u;rw[<- F.up ok f b y.ls.length c #[] hcl];unfold upF;rw[Xd i];exact g.bwd F.wi (Kk b #[] hcl) (not_of h1) (by rw[h];exact XX h2)
theorem Flow.filled{es:Got Nd}(c:Y6 (Zv y G) φ es)(hs:Nd.start∈Zd es)(b:k<G.m)(f:VX es k=false):Q4 (λt=>QY G φ t k) y.T=G.wa k:=by
 rw[F.total b];exact c.fwd F.wi (Tz b) hs (not_of f)
def VR(G:Gv)(S:Qm)(t l:Nat):Int:=Q4 (λk=>Zg S (moT G t) k*ind (G.ln k=l)) G.m
omit F in
theorem Le{y:Yd}(b:y.Ok):∀n j,j<n->j<y.ls.length->0∈upL y j
 |0,j,h,_=>#[]
 |n+1,j,h,c=>by
  by_cases z:j=0
  .subst z;exact NL y 0
  .exact At (b.ups j #[] c) λa f g=>(K8 b #[] c f 0 λq=>z q.symm).mpr (Le b n a #[]<|#[])
omit F in
theorem LI(c:y.Ok){m:Nat}(b:∀k,k<m->ln k<y.ls.length)(f:Qn):Vf y m ln f 0=Q4 f m:=
 Zq λk g=>by
  unfold ind;rw[Xe<|Le c _ _ (JN _)<|b k g,Int.mul_one]
theorem Flow.no_more(c:y.Ok)(b:∀k,k<G.m->G.ln k<y.ls.length)(S:Qm)(g:t<y.T):Q4 (Zg S<|QY G φ t) G.m<=passes y (λl=>ZG y l t) (VR G S t) 0:=by
 have m:=c.l1;rw[<- LI c b];refine Mir.no_more c b (λl i=>?_) (λl i=>?_) y.ls.length 0 #[] #[]
 .refine Wk λk h=>?_
  have q:=F.tak h g
  by_cases e:G.ln k=l
  .unfold Zg ind;split<;>lia
  .rw[VT e];lia
 .have q:=F.load c b g i;have j:=TQ (y:=y) (ln:=G.ln) (f:=Zg S _) (λk h=>Nx (F.tak h g).1) l;lia
theorem Flow.meet(f:y.Ok)(c:∀k,k<G.m->G.ln k<y.ls.length){es:Got Nd}(i:Y6 (Zv y G) φ es)(h:Nd.fin∉Zd es)(g:t<y.T):
 passes y (λl=>ZG y l t) (VR G (VX es) t) 0=Q4 (Zg (VX es)<|QY G φ t) G.m:=by
 have j:=f.l1;have a:=F.no_more f c (VX es) g;have b:=(F.shut f c i h g).all f c (own:=VR G _ t) (λl m=>rfl) y.ls.length 0 #[] #[] (λ_=>.inl rfl);rw[LI f c]at b;lia
omit F in
theorem NQ(f g:Qn):∀n,Q4 (λk=>f k-g k) n=Q4 f n-Q4 g n
 |0=>rfl
 |n+1=>by
  simp only[Q4];rw[NQ f g n];lia
theorem Flow.lack(f:y.Ok)(b:∀k,k<G.m->G.ln k<y.ls.length){es:Got Nd}(c:Y6 (Zv y G) φ es)(hs:Nd.start∈Zd es)(i:Nd.fin∉Zd es):
 Q4 (λk=>G.wa k-Q4 (λt=>QY G φ t k) y.T) G.m=Q4 (Zg (VX es) G.wa) G.m-Q4 (λt=>passes y (λl=>ZG y l t) (VR G (VX es) t) 0) y.T:=by
 rw[Zq λt g=>F.meet f b c i g,M9,<- NQ];refine Zq λk h=>?_
 cases s:VX es k with
 |true=>
  have:Q4 (λt=>Zg _ (QY G φ t) k) y.T=Q4 _ y.T:=Zq λt _=>by unfold Zg;rw[Xe s]
  rw[this];unfold Zg;rw[Xe s]
 |false=>
  have:Q4 (λt=>Zg (VX es) (QY G φ t) k) y.T=0:=by
   rw[Zq λt _=>?_,Vv];unfold Zg;simp_all
  rw[this,F.filled c hs h s];unfold Zg;simp_all
omit F in
theorem Zn9(y:Yd)(G:Gv)(φ:Zs Nd):VW (Zv y G) φ .start=Q4 (λk=>φ .start<|.guest k) G.m:=by
 unfold VW;rw[NW];have b:Q4 (λt=>φ (.line 0 t) .fin*(ind (Nd.line 0 t=.start)-ind (Nd.fin=.start))+Q4 (λi=>φ (.line (i+1) t) (.line (upN y<|i+1) t)*(ind (Nd.line (i+1) t=.start)-ind (Nd.line (upN y<|i+1) t=.start))) (y.ls.length-1)) y.T=0:=by
  rw[Zq λt _=>?_,Vv];rw[VT (by rintro⟨⟩),VT (by rintro⟨⟩),Zq λi _=>?_,Vv]
  .simp
  . simp
 rw[b,Jp];refine Zq λk _=>?_;rw[VT (p:=Nd.guest k=.start) (by rintro⟨⟩),Zq λt _=>?_,Vv]
 .simp[ind]
 .rw[VT λz=>nomatch z];simp
theorem Flow.push(g:0<=a){w:Qk}(hw:Chain (Zv y G) .start .fin w)(hn:w.Nodup)(f:∀e∈w,∃r,rmE (Zv y G) φ e=some r/\a<=r):
 Flow y G (Wv (Zv y G) a φ w)/\VW (Zv y G) (Wv (Zv y G) a φ w) .start=VW (Zv y G) φ .start+a:=by
 refine#[#[Cd (DM y G) g F.wi hn f,λn c b=>?_],?_]
 .rw[NO (DM y G) n hw,F.kp n c b,VT λz=>c z.symm,VT λz=>b z.symm];simp
 .rw[NO (DM y G) .start hw];simp[ind]
theorem Flow.most:VW (Zv y G) φ .start<=Q4 G.wa G.m:=by
 rw[Zn9];exact Wk λk b=>(F.want b).2
end
def C8{y:Yd}(h:∀x∈Zv y G,0<=x.2.2):Flow y G (λ_ _=>0):=by
 refine#[λx f=>#[YI _,h x f],λn _ _=>?_];have:∀b:Lay Nd,(b.map λx=>(0)*(ind (x.1=n)-ind (x.2.1=n))).sum=0:=λb=>by
  induction b with
  |nil=>rfl
  |cons x b c=>rw[XI,Gy,c];simp
 exact this _
end Mir
namespace Mir
def ZnL(e:Nat):Builtin.bitAnd (e:Int) 1=((e%2:Nat):Int):=by
 show((((e:Int).toNat &&& (1:Int).toNat)):Int)=_
 simp_all
def A3(e:Nat):e ||| 1=e+1-e%2:=by
 apply Nat.eq_of_testBit_eq;intro i;rw[Nat.testBit_or];have b:e%2=0\/e%2=1:=#[]
 cases i with
 |zero=>
  rw[Nat.testBit_zero,Nat.testBit_zero,Nat.testBit_zero];grind
 |succ i=>
  rw[Nat.testBit_succ,Nat.testBit_succ,Nat.testBit_succ];have:(e+1-e%2)/2=e/2:=#[]
  rw[this];simp
def Zps(e:Nat):Builtin.bitOr (e:Int) 1=((e+1-e%2:Nat):Int):=by
 unfold Builtin.bitOr;have a:Builtin.bitNot (e) = -(e)-1:=rfl;have b:Builtin.bitNot 1 = -2:=rfl;have c:Builtin.bitAnd (Builtin.bitNot<|e) (Builtin.bitNot 1)=Builtin.bitNot (((e ||| 1:Nat))):=by
  rw[a];unfold Builtin.bitAnd;rw[Xt #[]];show Builtin.bitNot ((((Builtin.bitNot _).toNat ||| (Builtin.bitNot (-2)).toNat)))=_;have h:(Builtin.bitNot (-(e)-1)).toNat=e:=by show(-_-1).toNat=e;lia
  have g:(Builtin.bitNot (-2)).toNat=1:=rfl;rw[h,g]
 rw[c,A3];show -(-_-1)-1=_
 lia
def RN(e:Nat):Builtin.bitXor (e:Int) 1=(Zhq e:Int):=by
 unfold Builtin.bitXor;rw[ZnL,Zps];unfold Zhq;split<;>lia
end Mir
namespace L2
abbrev KK:=List Key×List Key
def JX(P:Program)(w:World)(a:Addr)(xs:List (KK×Addr×V))(h:Heap):Prop:=xs.length<=sizeLine/\(a==sysModules)=false/\∃b:List (KK×Addr×Value),
 Paired (λ(x:KK×Addr×V) (y:KK×Addr×Value)=>x.1=y.1/\x.2.1=y.2.1/\QN x.2.2 y.2.2) xs b/\
 ∃o es c,h.get? a=some o/\o.ExactDict/\o.data=.dict es c/\es.toList=b.map (entryOfKey<|NJ<|Vr P w)/\(b.map (·.1)).Nodup
def pdO(P:Program)(w:World)(a:Addr)(xs:List (KK×Addr×V)):HO:=.ext (JX P w a xs)
def JX.move{xs:List (KK×Addr×V)}(x:JX P w a xs h1)(k:∀o,h1.get? a=some o->h2.get? a=some o):JX P w a xs h2:=by
 apply FB x;rintro z y b r o es c j⟨i,h,g,f⟩;exact#[z,y,b,r,o,es,c,k _ j,i,h,g,f]
def JX.ok{xs:List (KK×Addr×V)}(x:JX P w a xs h):ZZ P w H h a (pdO P w a xs):=by
 exact#[x,FB x λz y c r o es i b _=>#[o,b],λg f y k=>y.move k]
def V3(H:Hp)(k:KK)(b:Addr):Prop := ∃p q,H b=some (.tup [.ref p,.ref q])/\H p=some (.tup<|k.1.map kV)/\H q=some (.tup<|k.2.map kV)
def V3.mono(s:∀b ys,H b=some (.tup ys)->Z b=some (.tup ys)){b:Addr}(x:V3 H k b):V3 Z k b:=by
 exact aF x λp q g f c=>#[p,q,s _ _ g,s _ _ f,s _ _ c]
section
variable {H:Hp}{a b:Addr}
def DS(a:HOk P w H h)(x:V3 H k b):(NJ<|Vr P w).is h k b:=by
 refine aF x λp q m j i=>aV ((a b _ m)) λ_ g r o y v n s=>?_
 cases r with
 |cons f r=>
  cases r with
  |cons c r=>
   cases r;cases (f);cases (c);exact#[o,n,p,q,y,v,s,WW a j,WW a i]
def Kr{xs:List (KK×Addr×V)}(f:HOk P w H h)(e:H a=some (pdO P w a xs))(g:∀x∈xs,V3 H x.1 x.2.1):xs.length<=sizeLine/\(a==sysModules)=false/\∃vs,
 Paired (λ(x:KK×Addr×V) (y:KK×Addr×Value)=>x.1=y.1/\x.2.1=y.2.1/\QN x.2.2 y.2.2) xs vs/\h.DictOfH (NJ<|Vr P w) a vs:=by
 obtain⟨⟨z,y,vs,r,o,es,v,C,B,A,j,i⟩,c⟩:=(f a _ e);refine#[z,y,vs,r,o,es,v,C,B,A,j,?_,i];clear i j z e c;induction r with
 |nil=>intro x b;exact nomatch b
 |@cons p q ps D K t m=>
  intro x b;rcases Xf.mp b with rfl|b
  .have:=DS f (g p Xb);simp_all
  .exact m (λz s=>g z<|Xh _ s) x b
end
def Y9(xs:List (KK×Addr×V))(k:KK):Option V:=(xs.find? λx=>decide (x.1=k)).map (·.2.2)
abbrev RPD:=Paired (λ(x:KK×Addr×V) (y:KK×Addr×Value)=>x.1=y.1/\x.2.1=y.2.1/\QN x.2.2 y.2.2)
def RPD.val(k:KK){xs:List (KK×Addr×V)}(r:RPD xs vs):Vn (Y9 xs k) ((atKey vs k).map (·.2)):=by
 induction r with
 |nil=>exact True.intro
 |@cons p q ps b c t h=>
  by_cases e:p.1=k
  .have g:Y9 (p::ps) k=some p.2.2:=by simp[Y9, e]
   have f:(atKey (q::b) k).map (·.2)=some q.2.2:=by simp[atKey, <- c.1,e]
   rw[g,f];exact c.2.2
  .have g:Y9 (p::ps) k=Y9 ps k:=by simp[Y9, e]
   have f:(atKey (q::b) k).map (·.2)=(atKey b k).map (·.2):=by simp[atKey, <- c.1,e]
   simp_all
def JV(xs:List (KK×Addr×V))(k:KK)(b:Addr)(v:V):List (KK×Addr×V):=if (Y9 xs k).isSome=true then xs.map (λx=>if x.1=k then (x.1,x.2.1,v) else x) else xs++[(k,b,v)]
def RPD.repl(k:KK)(c:QN v u){xs:List (KK×Addr×V)}(r:RPD xs vs):RPD (xs.map λx=>if x.1=k then (x.1,x.2.1,v) else x) (vs.map<|putAt k u):=by
 induction r with
 |nil=>exact .nil
 |@cons p q ps g b t f=>
  rw[XI];refine .cons ?_ f;unfold putAt;by_cases e:p.1=k
  .rw[Xe e,Xe<|b.1▸e];exact#[b.1,b.2.1,c]
  .rw[Xd e,Xd<|b.1▸e];exact b
theorem Vn.some_eq:∀{x:Option V} {y:Qf},Vn x y->x.isSome=y.isSome
 |none,none,_=>rfl
 |some _,some _,_=>rfl
 |none,some _,h=>by cases h
 |some _,none,h=>by cases h
def RPD.put(k:KK)(b:Addr)(c:QN v u){xs:List (KK×Addr×V)}(r:RPD xs vs):RPD (JV xs k b v) (storedH vs k b u):=by
 have e:=Vn.some_eq (r.val k);rw[U4]at e;unfold JV storedH;rw[e];split
 .exact r.repl k c
 .exact Paired.snoc r #[rfl,rfl,c]
def ZlN(xs:List (KK×Addr×V))(k:KK)(b:Addr)(v:V):(JV xs k b v).length<=xs.length+1:=by
 unfold JV;split<;>simp
section
variable {O:St}{H:Hp}{a b:Addr}{r:Value}{hi:Qb}{xs:List (KK×Addr×V)}{k:KK}
def Zp9(d:A.units+6<cLine)(I:Qt X B O H s)(e:H a=some (pdO X.prog X.w a xs))(y:∀x∈xs,V3 H x.1 x.2.1)(D:V3 H k b)(l:xs.length<sizeLine)(m:QN v r)
(h:∀g,Qt X B O (upd H a<|pdO X.prog X.w a<|JV xs k b v) g->Q () g):wpAny (model X.prog X.w) A (setItem (.ref a) (.ref b) r) Q hi s:=by
 apply aL (Kr I.hok e y);intro z C j c dd;have Y:j.length<=sizeLine:=by rw[<- Paired.length c];exact z
 refine wpAny_setItem_heap (show A.units+1+5<cLine by lia) (DS I.hok D) dd λh' f w=>h _ ?_;apply aM f;rintro q es W i P M L⟨_,K⟩;exact Mr I (by rw[e];exact True.intro) w #[q,i] (JX.ok #[by have:=ZlN xs k b v;lia,C,_,RPD.put k b m c,q,es,W,i,P,M,L,K])
def Zq6(y:A.units+6<cLine)(I:Qt X B O H s)(e:H a=some (pdO X.prog X.w a xs))(r:∀x∈xs,V3 H x.1 x.2.1)(w:V3 H k b)(m:Y9 xs k=some v)
(h:∀u i,Qt X B O H i->QN v u->Q u i):wpAny (model X.prog X.w) A (getItem (.ref a)<|.ref b) Q hi s:=by
 apply aL (Kr I.hok e r);intro z C j f dd;have c:=RPD.val k f;rw[m]at c;cases g:atKey j k with
 |none=>rw[g]at c;cases c
 |some p=>
  rw[g]at c;exact wpAny_getItem_heap (show A.units+1+5<cLine by lia) (DS I.hok w) dd g (h _ _ (I.tok _) c)
def IX(v:A.units+6<cLine)(I:Qt X B O H s)(e:H a=some (pdO X.prog X.w a xs))(i:∀x∈xs,V3 H x.1 x.2.1)(m:V3 H k b)
(h:∀f,Qt X B O H f->Q (.bool<|!(Y9 xs k).isSome) f):wpAny (model X.prog X.w) A (compareOp .NotIn (.ref b)<|.ref a) Q hi s:=by
 apply aL (Kr I.hok e i);intro z j r c dd;have g:=Vn.some_eq (RPD.val k c);rw[U4]at g;exact wpAny_notIn_heap (show A.units+1+5<cLine by lia) (DS I.hok m) j dd<|g▸(h _ (I.tok _))
end
end L2
namespace L2
section
variable {O:St}{H:Hp}{a b:Addr}{d:V}{r:Value}{hi:Qb}{kvs:List (List Key×V)}{k:List Key}
def OW(L:A.units+1<cLine)(I:Qt X B O H s)(e:H a=some (.dT kvs))(C:H b=some (.tup<|k.map kV))(l:kvs.length<sizeLine)(D:QN d r)
(n:∀v u i,ZC kvs k=some v->Qt X B O H i->QN v u->Q u i)(Y:ZC kvs k=none->∀i,Qt X B O (upd H a<|.dT<|kvs++[(k,d)]) i->Q r i):
 wpAny (model X.prog X.w) A (call (.builtin "dict.setdefault") [.ref a,.ref b,r]) Q hi s:=by
 apply aL (Kq I.hok e);intro z y xs g dd;have K:xs.length<=sizeLine:=by rw[<- Paired.length g];exact z
 have f:=g.val k;refine call_meetsIn PySem.F.slot_dict_setdefault dd.typeIs PySem.F.entry_dict_setdefault (PySem.F.args_dict_setdefault_3 _ _ _) (Ze7 _ a b y r)
  #[tupleKind_room_in1 L,k,xs,WW I.hok C,dd,K,λp P=>?_,λW h' m M=>?_]
 .rw[P]at f;cases h:ZC kvs k with
  |none=>rw[h]at f;cases f
  |some v=>rw[h]at f;exact n v _ _ h (I.tok _) f
 .have h:ZC kvs k=none:=by
   rw[W]at f;cases h:ZC kvs k with
   |none=>rfl
   |some v=>rw[h]at f;cases f
  refine Y h _ ?_;apply aM m;rintro q es F w E x t⟨_,o⟩;refine Mr I (by rw[e];exact True.intro) M #[q,w] #[by simp;lia,y,_,(show KT H _ _ from Paired.snoc g #[rfl,C,D]).keeps λc ys j=>?_,q,es,F,w,E,x,t,o];rw[Qs λz=>by subst z;rw[e]at j;cases j];exact j
end
def PU(td g tx:TE):TE:=λO H Q=>td O H λx U=>∃a,x=.ref a/\IsD U a/\g O U λy h=>tx O h λz f=>∃c k b,y=.ref b/\f a=some (.dT c)/\f b=some (.tup<|k.map kV)/\c.length<sizeLine/\
 (∀v,ZC c k=some v->Q v f)/\(ZC c k=none->Q z (upd f a<|.dT<|c++[(k,z)]))
section
variable {o e f value:Expr}{ty:TE}
def IP(r:X.A.units+1<cLine)(t:PE X o td)(he:PE X e ty)(E:PE X f tx)(m:M2 X o "setdefault" T1 e f L3):PE X (.Call (.Attribute o "setdefault" T1) [e,f] [] L3) (PU td ty tx):=by
 refine λB s O H Q I h=>wpAny_Call_method m.base m.few m.line PySem.F.plainAttrs_dict PySem.F.slot_dict_setdefault PySem.F.type_dict_setdefault (QD (t B s O H _ I h) ?_);rintro u D ⟨x,U,j,M,a,rfl,d,p⟩;obtain rfl:=M;refine I0 (Tm j d) λA w _=>#[A,w,?_];rw[m.trees];refine Calls.callWith_builtin rfl (Calls.evalArgs_plain (Calls.spliced_cons (QD (he B D O U _ j p) λiv C ⟨y,Z,S,L,n⟩=>
  Calls.spliced_cons (QD (E B C O Z _ S n) λfv s3 ⟨z,T,R,i,q,k,b,F,N,J,l,Y,W⟩=>Calls.spliced_nil ?_))))
 subst F;cases (L);exact OW r R N J l i (λv u K c g P=>#[v,T,g,P,Y v c]) (λc K g=>#[z,_,g,i,W c])
def Pg(P:Program)(w:World)(td ty:TE):TE:=λO H Q=>td O H λx U=>ty O U λy c=>∃a b xs k v,x=.ref a/\y=.ref b/\c a=some (pdO P w a xs)/\(∀x∈xs,V3 c x.1 x.2.1)/\V3 c k b/\Y9 xs k=some v/\Q v c
def Tu(P:Program)(w:World)(ty td:TE):TE:=λO H Q=>ty O H λy U=>td O U λx c=>∃a b xs k,x=.ref a/\y=.ref b/\c a=some (pdO P w a xs)/\(∀x∈xs,V3 c x.1 x.2.1)/\V3 c k b/\Q (.bl<|!(Y9 xs k).isSome) c
def Pq(P:Program)(w:World)(td ty tv:TE):TS:=λCH O H=>tv O H λv U=>td O U λx e=>ty O e λy c=>∃a b xs k,x=.ref a/\y=.ref b/\c a=some (pdO P w a xs)/\(∀x∈xs,V3 c x.1 x.2.1)/\V3 c k b/\xs.length<sizeLine/\
 CH.nx O (upd c a<|pdO P w a<|JV xs k b v)
def Zo1{O:St}{H:Hp}{a:Addr}{xs:List (KK×Addr×V)}(I:Qt X B O H s)(e:H a=some (pdO X.prog X.w a xs)):s.TypeIs (.ref a) "dict" := by
 obtain⟨⟨_,_,f,_,o,es,g,c,b,_⟩,_⟩:=(I.hok a _ e)
 exact#[o,c,b.1]
def IC(C:X.A.units+6<cLine)(D:PE X o td)(E:PE X e ty)(hs:HY e):PE X (.Subscript o e pos) (Pg X.prog X.w td ty):=by
 refine λB s O H Q I h=>T8 PySem.F.slot_dict_getitem.lookup hs (QD (D B s O H _ I h) ?_);rintro u i ⟨x,U,d,m,A⟩;refine QD (E B i O U _ d A) ?_;rintro r q ⟨y,l,g,j,a,b,xs,k,v,L,K,f,W,P,M,w⟩;subst L K;obtain rfl:=m;obtain rfl:=j;exact#[Zo1 g f,Zq6 C g f W P M λn p Y c=>#[v,l,Y,c,w]]
def ZoA(m:X.A.units+6<cLine)(E:PE X e ty)(v:PE X o td):PC X .NotIn e o (Tu X.prog X.w ty td):=by
 refine λB s O H Q I h=>QD (E B s O H _ I h) ?_;rintro l c ⟨y,U,P,f,j⟩;refine QD (v B c O U _ P j) ?_;rintro u d ⟨x,W,M,g,a,b,xs,k,A,w,K,D,C,i⟩;subst A w;obtain rfl:=g;obtain rfl:=f;exact IX m M K D C λY L=>#[.bl _,W,L,rfl,i]
def Iu(D:X.A.units+6<cLine)(K:PE X o td)(E:PE X e ty)(C:PE X value tv)(hs:swapsWith value (some<|.Subscript o e pos') pos.line X.env=pure false):
 PS X (.Assign [.Subscript o e pos'] value pos) (Pq X.prog X.w td ty tv):=by
 refine λB s O H CH I h=>wpAny_Assign_Subscript (QD (C B s O H _ I h) ?_) hs;rintro r f ⟨v,U,q,j,A⟩;refine QD (K B f O U _ q A) ?_;rintro u c ⟨x,t,p,i,w⟩;refine QD (E B c O t _ p w) ?_;rintro G F ⟨y,J,n,g,a,b,xs,k,M,L,Y,W,P,l,m⟩;subst M L;obtain rfl:=i;obtain rfl:=g;exact Zp9 D n Y W P l j λz d=>#[O,_,d,m]
end
end L2
namespace L2
def AZ(P:Program)(w:World):TE:=λ_ H Q=>∀p,H p=none->Q (.ref p) (upd H p<|pdO P w p [])
def OP : PE X (.Dict [] [] pos) (AZ X.prog X.w):=λB s O H Q I h=>
 wpAny_Dict_empty #[.ref s.heap.objs.size,_,I.laid (λ_ _ q=>Xg _ q) (Xm _)
  (JX.ok #[XJ _,beq_eq_false_iff_ne.mpr<|Ne.symm<|XF I.big,[],.nil,_,(List.toArray []),0,XD _ rfl,#[rfl,rfl,rfl],rfl,rfl,Gz]),rfl,h _<|I.hok.fresh<|Xm _]
structure QF where
 ends:List (List Key)
 rooms:Ql
 leav:List (List Key×Ql)
 laid:List (KK×Int)
inductive LaidD(F:Hp):List (KK×Addr×V)->List (KK×Int)->Prop
 |nil:LaidD F [] []
 |cons {k:KK}{b:Addr}{n:Int}{xs:List (KK×Addr×V)}{ls:List (KK×Int)}:V3 F k b->LaidD F xs ls->LaidD F ((k,b,.int n)::xs) ((k,n)::ls)
theorem LaidD.mono{F c:Hp}(s:Q6 F c):∀{xs:List (KK×Addr×V)} {ls:List (KK×Int)},LaidD F xs ls->LaidD c xs ls
 |_,_,.nil=>.nil
 |_,_,.cons h t=>.cons (h.mono λb ys e=>s _ _ e) (t.mono s)
theorem LaidD.at{F H:Hp}(s:Q6 F H):∀{xs:List (KK×Addr×V)} {ls:List (KK×Int)},LaidD F xs ls->∀x∈xs,V3 H x.1 x.2.1
 |_,_,.nil,x,c=>nomatch c
 |_,_,.cons h t,x,c=>by
  rcases Xf.mp c with rfl|c
  .exact h.mono λb ys e=>s _ _ e
  .exact t.at s x c
inductive LeavD(F H:Hp):List (List Key×V)->List (List Key×Ql)->Qg->Prop
 |nil:LeavD F H [] [] []
 |cons {k:List Key}{a:Addr}{ns:Ql}{xs:List (List Key×V)}{ls:List (List Key×Ql)}{as:Qg}:VI F H a (ns.map PyData.int)->LeavD F H xs ls as->LeavD F H ((k,.ref a)::xs) ((k,ns)::ls) (a::as)
theorem LeavD.mem{F H:Hp}:∀{xs:List (List Key×V)} {ls:List (List Key×Ql)} {as:Qg},LeavD F H xs ls as->∀a∈as,F a=none/\H a≠none
 |_,_,_,.nil,a,b=>nomatch b
 |_,_,_,.cons h t,a,b=>by
  rcases Xf.mp b with rfl|b
  .exact Do h λf xs c _=>#[f,Z4 c]
  .exact t.mem a b
theorem LeavD.mono{F c H Z:Hp}(s:Q6 F c):∀{xs:List (List Key×V)} {ls:List (List Key×Ql)} {as:Qg},(∀a∈as,c a=none)->(∀a∈as,Z a=H a)->LeavD F H xs ls as->LeavD c Z xs ls as
 |_,_,_,_,_,.nil=>.nil
 |_,_,_,g,f,.cons h t=>by
  exact Do h λm xs j i=>.cons #[g _ Xb,xs,by rw[f _ Xb];exact j,i.mono s] (t.mono s (λa b=>g a<|Xh _ b) λa b=>f a<|Xh _ b)
theorem LeavD.addrs{F g H Z:Hp}:∀{xs:List (List Key×V)} {ls b:List (List Key×Ql)} {as c:Qg},LeavD F H xs ls as->LeavD g Z xs b c->as=c
 |_,_,_,_,_,.nil,.nil=>rfl
 |_,_,_,_,_,.cons _ t,.cons _ f=>by rw[t.addrs f]
structure NetOk(P:Program)(w:World)(C:Addr)(N:QF)(F H:Hp)(a L e r l d:Addr)(xs:List (List Key×V))(ys:List (KK×Addr×V))(as:Qg):Prop where
 nd:(a::L::e::r::l::d::as).Nodup
 ins:F a=none/\H a=some (.ins C L [("ends",.ref e),("rooms",.ref r),("leaving",.ref l),("laid",.ref d)])
 own:F L=none/\H L=some (.own a)
 ends:VI F H e (N.ends.map Ze)
 rooms:VI F H r (N.rooms.map PyData.int)
 leav:F l=none/\H l=some (.dT xs)/\LeavD F H xs N.leav as
 laid:F d=none/\H d=some (pdO P w d ys)/\LaidD F ys N.laid
def Zt(P:Program)(w:World)(C:Addr)(N:QF):OwnP where
 ok K F H v p := ∃a L e r l d xs ys y,v=.ref a/\p=a::L::e::r::l::d::y/\NetOk P w C N F H a L e r l d xs ys y
 there:=by
  rintro K F H v p ⟨a,L,e,r,l,d,xs,ys,y,rfl,rfl,o⟩ b f;obtain⟨_,⟨A,m⟩,⟨n,D⟩,⟨t,ex,W,_⟩,⟨k,Y,B,_⟩,⟨l1,l2,l3⟩,⟨u,X,_⟩⟩:=o;simp only[Xf]at f;rcases f with rfl|rfl|rfl|rfl|rfl|rfl|f
  .exact#[A,Z4 m]
  .exact#[n,Z4 D]
  .exact#[t,Z4 W]
  .exact#[k,Z4 B]
  .exact#[l1,Z4 l2]
  .exact#[u,Z4 X]
  .exact l3.mem b f
 mono:=by
  rintro K F F' H Z v p s h g ⟨a,L,e,r,l,d,xs,ys,y,rfl,rfl,o⟩;obtain⟨nd,⟨A,m⟩,⟨n,D⟩,⟨t,ex,W,I⟩,⟨k,Y,B,E⟩,⟨l1,l2,l3⟩,⟨u,X,O⟩⟩:=o;refine#[a,L,e,r,l,d,xs,ys,y,rfl,rfl,nd,#[h _<|by simp,by rw[g _<|by simp];exact m],#[h _<|by simp,by rw[g _<|by simp];exact D],#[h _<|by simp,ex,by rw[g _<|by simp];exact W,I.mono s],
   #[h _<|by simp,Y,by rw[g _<|by simp];exact B,E.mono s],#[h _<|by simp,by rw[g _<|by simp];exact l2,l3.mono s (λb f=>h b<|by simp[f]) λb f=>g b<|by simp[f]],#[h _<|by simp,by rw[g _<|by simp];exact X,O.mono s]]
 uniq:=by
  rintro K F H v p q ⟨a,L,e,r,l,d,xs,ys,y,rfl,rfl,o⟩ ⟨a',J,T,R,S,U,z,x,Q,ev,rfl,M⟩ c G;cases ev;have i:=o.ins.2.symm.trans M.ins.2;injection i with i;injection i with _ A m;subst A;simp only[List.cons.injEq,Prod.mk.injEq,true_and,and_true,V.ref.injEq]at m;obtain⟨rfl,rfl,rfl,rfl⟩:=m;have j:=o.leav.2.1.symm.trans M.leav.2.1;injection j with j;injection j with j;subst j;rw[o.leav.2.2.addrs M.leav.2.2];exact G
end L2
namespace L2
structure NetC(K:W.Frag)(C:Addr):Prop where
 cl:Cls K C
 ends:VL K C "ends"
 rooms:VL K C "rooms"
 leav:VL K C "leaving"
 laid:VL K C "laid"
section
variable {tb:TE}{N:QF}
def Q7.net(S:Q7 K H0 F Y O H)(e:zg Y i<|zo v<|Zt P w C N):
 ∃a L el r l d xs ys as,v=.ref a/\O[i]?=some (some<|.ref a)/\NetOk P w C N F H a L el r l d xs ys as/\(∀b∈a::L::el::r::l::d::as,H0 b=none/\F b=none/\H b≠none)/\
  ∀(Z:Hp) (m:QF) (g:List (List Key×V)) (f:List (KK×Addr×V)) (c:Qg),Q6 F Z->(∀b,b∉a::L::el::r::l::d::as->H b≠none->Z b=H b)->(∀b,H b≠none->Z b≠none)->
   NetOk P w C m F Z a L el r l d g f c->(∀b∈c,b∈as\/(H b=none/\H0 b=none))->Q7 K H0 F (Y.set i<|zo v<|Zt P w C m) O Z:=by
 apply aX (S.writeOwn e);rintro k p⟨a,L,el,r,l,d,xs,ys,as,rfl,rfl,y⟩A s;refine#[a,L,el,r,l,d,xs,ys,as,rfl,k,y,A,λZ m g f c X W M D B=>s Z _ _ X W M #[a,L,el,r,l,d,g,f,c,rfl,rfl,D] λb j=>?_];simp only[Xf]at j ⊢;rcases j with h|h|h|h|h|h|j
 .exact .inl (.inl h)
 .exact .inl (.inr<|.inl h)
 .exact .inl (.inr<|.inr<|.inl h)
 .exact .inl (.inr<|.inr<|.inr<|.inl h)
 .exact .inl (.inr<|.inr<|.inr<|.inr<|.inl h)
 .exact .inl (.inr<|.inr<|.inr<|.inr<|.inr<|.inl h)
 .rcases B b j with z|z
  .exact .inl (.inr<|.inr<|.inr<|.inr<|.inr<|.inr z)
  .exact .inr z
def LeavD.other{b:Addr}{xs:List (List Key×V)}(h:LeavD F H xs ls as)(n:b∉as):LeavD F (upd H b o) xs ls as:=
 h.mono (Q6.refl _) (λa c=>(h.mem a c).1) (λa c=>Qs λz=>n<|z▸c)
def NetOk.setRooms{xs:List (List Key×V)}{ys:List (KK×Addr×V)}(g:NetOk P w C N F H a L el r l d xs ys as){ns:Ql}(A:Qz F za (ns.map PyData.int)):
 NetOk P w C { N with rooms:=ns } F (upd H r<|.lst za) a L el r l d xs ys as:=by
 obtain⟨c,⟨y,v⟩,⟨i,h⟩,⟨Y,M,X,W⟩,⟨f,t,x,u⟩,⟨s,m,j⟩,⟨n,k,e⟩⟩:=g;have b:=c;simp only[Xu,Xf,not_or]at b;apply Hs b;rintro⟨G,E,q,_⟩⟨z,p,_⟩⟨o,_⟩⟨K,D,B⟩_;exact#[c,#[y,by rw[Qs q];exact v],#[i,by rw[Qs p];exact h],#[Y,M,by rw[Qs o];exact X,W],#[f,za,Q8,A],#[s,by rw[Qs<|Ne.symm K];exact m,j.other B],#[n,by rw[Qs<|Ne.symm D];exact k,e]]
def VN : ∀b,H b≠none->upd H a o b≠none:=λb c=>by
 by_cases z:b=a
 .subst z;rw[Q8];rintro⟨⟩
 .rw[Qs z];exact c
def Fc{f:Int->Int->Int}(c:NetC K C)(e:zg Y i<|zo v<|Zt P w C N){m:Int}(E:Qr K tb Y (.int k))(h0:0<=k)(Q:N.rooms[k.toNat]?=some m)(h:Qr K te Y (.int n))
(hn:CH.nx (Y.set i<|zo v<|Zt P w C { N with rooms:=N.rooms.set k.toNat (f m n) })):QB K (Dd (Ve K (Q3 i) "rooms") tb te (MY K) (ipI f) Uf) Y CH:=λF0 H0 F O H hi x S C'=>by
 apply aa (S.net e);rintro a L el r l d xs ys as rfl e1 o _;refine#[_,e1,a,C,L,_,.ref r,rfl,o.ins.2,c.cl,c.rooms,rfl,E H0 F O H _ S λF1 U y g r1=>?_];cases r1;apply Do o.rooms;intro _ rx r2 r3;have p:(N.rooms.map PyData.int)[k.toNat]?=some (.int m):=by rw[Xy,Q];rfl
 refine At ((r3.mono g.ff).get p) λz Z T=>#[r,rx,k,z,rfl,rfl,SqL.of<|g.hh _ _ r2,h0,Z,h H0 F1 O U _ (S.ext g) λR H2 u D X=>?_];cases X;cases T;refine#[m,n,rfl,rfl,?_];apply aa ((S.ext<|g.trans D).net e);rintro a' dx' el' G l' d' W M t ea g1 j⟨hp,wr⟩;cases ea;have A:=j.ins.2.symm.trans ((g.trans D).hh _ _ o.ins.2);injection A with A;injection A with _ _ B;simp only[List.cons.injEq,Prod.mk.injEq,true_and,and_true,V.ref.injEq]at B;apply aJ B;rintro rfl rfl rfl rfl;apply Do j.rooms;intro q1 I q2 J;have hlt:=(Xc.mp Q).1;have hr:Qz R (I.set k.toNat<|.int<|f m n) ((N.rooms.set k.toNat<|f m n).map PyData.int):=by
  rw[BC];exact J.set (.int _) _
 refine#[G,I,k,k.toNat,rfl,rfl,q2,?_,?_]
 .rw[J.length,Xj];unfold ixN;rw[Xe h0,Xe<|#[]]
 .have s:=hp G (by simp);exact C'.nx R O _ _ ((x.trans<|g.trans D).wr s.1 s.2.1) (wr _ { N with rooms:=N.rooms.set k.toNat (f m n) } W M t ((S.ext<|g.trans D).sub.upd s.2.1) (λb q _=>Qs λz=>q<|by rw[z];simp) VN (j.setRooms hr) λb q=>.inl q) hn
end
end L2
namespace L2
section
variable {N:QF}
def NetOk.same{xs:List (List Key×V)}{ys:List (KK×Addr×V)}
(c:NetOk P w C N F H a L el r l d xs ys as)(b:NetOk P w C N' F' Z a dx' el' r' l' d' xs' ys' as')(s:Z a=H a):dx'=L/\el'=el/\r'=r/\l'=l/\d'=d:=by
 have h:=b.ins.2;rw[s,c.ins.2]at h;grind
def NetOk.setEnds{xs:List (List Key×V)}{ys:List (KK×Addr×V)}(j:NetOk P w C N F H a L el r l d xs ys as){ns:List (List Key)}(K:Qz F za (ns.map Ze)):
 NetOk P w C { N with ends:=ns } F (upd H el<|.lst za) a L el r l d xs ys as:=by
 obtain⟨c,⟨D,B⟩,⟨s,m⟩,⟨M,t,x,u⟩,⟨i,f,h,g⟩,⟨A,y,v⟩,⟨Y,X,W⟩⟩:=j;have b:=c;simp only[Xu,Xf,not_or]at b;obtain⟨⟨G,q,E,_⟩,⟨p,z,_⟩,⟨o,n,k,e⟩,_⟩:=b;exact#[c,#[D,by rw[Qs q];exact B],#[s,by rw[Qs p];exact m],#[M,za,Q8,K],#[i,f,by rw[Qs<|Ne.symm o];exact h,g],#[A,by rw[Qs<|Ne.symm n];exact y,v.other e],#[Y,by rw[Qs<|Ne.symm k];exact X,W]]
def Zop(c:NetC K C)(e:zg Y i<|zo v<|Zt P w C N)(h:Qr K te Y (.int n))(T:N.rooms.length<1000)
(hn:CH.nx (Y.set i<|zo v<|Zt P w C { N with rooms:=N.rooms++[n] })):QB K (VB<|tBM K "list" Ye (Ve K (Q3 i) "rooms")<|QE te QJ) Y CH:=λF0 H0 F O H Z x S J=>by
 apply aa (S.net e);rintro a L el r l d xs ys as rfl E j _;refine#[_,E,a,C,L,_,.ref r,rfl,j.ins.2,c.cl,c.rooms,rfl,.inl #[rfl,_,SqL.of j.rooms.2.choose_spec.1],h H0 F O H _ S λI U u m X=>?_];cases X;apply aa ((S.ext m).net e);rintro a' G q D R d' y s B t g1 f⟨p,W⟩;cases t;apply Hs (j.same f ((m.hh _ _ j.ins.2).trans j.ins.2.symm));rintro rfl rfl rfl rfl rfl;apply Do f.rooms;intro Q k o M;have g:=p D (by simp);exact#[D,k,.int n,rfl,rfl,o,by rw[M.length,Xj];exact Vh<|#[],J.nx I O _ _ ((x.trans m).wr g.1 g.2.1) (W _ { N with rooms:=N.rooms++[n] } y s B ((S.ext m).sub.upd g.2.1) (λb A _=>Qs λz=>A<|by rw[z];simp) VN (f.setRooms<|by rw[XL];exact M.snoc<|.int n) λb A=>.inl A) hn]
def ZnR(c:NetC K C)(e:zg Y i<|zo v<|Zt P w C N)(h:Qr K te Y (Ze n))(Z:N.ends.length<1000)
(hn:CH.nx (Y.set i<|zo v<|Zt P w C { N with ends:=N.ends++[n] })):QB K (VB<|tBM K "list" Ye (Ve K (Q3 i) "ends")<|QE te QJ) Y CH:=λF0 H0 F O H hi x S J=>by
 apply aa (S.net e);rintro a L q r l d xs ys as rfl E j _;refine#[_,E,a,C,L,_,.ref q,rfl,j.ins.2,c.cl,c.ends,rfl,.inl #[rfl,_,SqL.of j.ends.2.choose_spec.1],h H0 F O H _ S λI U u s X=>?_];apply aa ((S.ext s).net e);rintro a' G m Q T d' A y D t g1 f⟨p,W⟩;cases t;apply Hs (j.same f ((s.hh _ _ j.ins.2).trans j.ins.2.symm));rintro rfl rfl rfl rfl rfl;apply Do f.ends;intro R k o M;have g:=p m (by simp);exact#[m,k,u,rfl,rfl,o,by rw[M.length,Xj];exact Vh<|#[],J.nx I O _ _ ((x.trans s).wr g.1 g.2.1) (W _ { N with ends:=N.ends++[n] } A y D ((S.ext s).sub.upd g.2.1) (λb B _=>Qs λz=>B<|by rw[z];simp) VN (f.setEnds<|by rw[XL];exact M.snoc X) λb B=>.inl B) hn]
def Fw(c:NetC K C)(e:zg Y i<|zo v<|Zt P w C N):Qr K (tCB (Jv K)<|QE (Ve K (Q3 i) "ends") QJ) Y (.int (N.ends.length:Int)):=λH0 F O H Q S q=>by
 apply aa (S.net e);rintro a L g r l d xs ys s rfl m b _;refine Do b.ends λ_ f j h=>#[_,m,a,C,L,_,.ref g,rfl,b.ins.2,c.cl,c.ends,rfl,g,f,rfl,.inl<|SqL.of j,?_];have:f.length=N.ends.length:=by rw[h.length,Xj]
 rw[this];exact q F H _ (Q1.refl S.sub) (.int _)
end
end L2
namespace L2
def Vi(ls:List (KK×Int))(k:KK):Option Int:=(ls.find? λx=>decide (x.1=k)).map (·.2)
def YL(ls:List (KK×Int))(k:KK)(n:Int):List (KK×Int):=if (Vi ls k).isSome=true then ls.map (λx=>if x.1=k then (x.1,n) else x) else ls++[(k,n)]
theorem LaidD.val{F:Hp}(k:KK):∀{xs:List (KK×Addr×V)} {ls:List (KK×Int)},LaidD F xs ls->Y9 xs k=(Vi ls k).map V.int
 |_,_,.nil=>rfl
 |_,_,.cons (k:=k') h t=>by
  by_cases e:k'=k
  .simp[Y9,Vi, e]
  .have:=t.val k;simpa [Y9,Vi, e] using this
theorem LaidD.length{F:Hp}:∀{xs:List (KK×Addr×V)} {ls:List (KK×Int)},LaidD F xs ls->xs.length=ls.length
 |_,_,.nil=>rfl
 |_,_,.cons h t=>by simp[t.length]
theorem LaidD.repl{F:Hp}(k:KK)(n:Int):∀{xs:List (KK×Addr×V)} {ls:List (KK×Int)},LaidD F xs ls->LaidD F (xs.map λx=>if x.1=k then (x.1,x.2.1,.int n) else x) (ls.map λx=>if x.1=k then (x.1,n) else x)
 |_,_,.nil=>.nil
 |_,_,.cons (k:=k') h t=>by
  rw[XI,XI];by_cases e:k'=k
  .simp only[e];exact .cons (e▸h) (t.repl k n)
  .simp only[e];exact .cons h (t.repl k n)
theorem LaidD.snoc{F:Hp}{k:KK}{b:Addr}(n:Int)(c:V3 F k b):∀{xs:List (KK×Addr×V)} {ls:List (KK×Int)},LaidD F xs ls->LaidD F (xs++[(k,b,.int n)]) (ls++[(k,n)])
 |_,_,.nil=>.cons c .nil
 |_,_,.cons h t=>.cons h (t.snoc n c)
def LaidD.put{b:Addr}(n:Int)(c:V3 F k b){xs:List (KK×Addr×V)}(t:LaidD F xs ls):LaidD F (JV xs k b<|.int n) (YL ls k n):=by
 unfold JV YL;rw[t.val k,U4];split
 .exact t.repl k n
 .exact t.snoc n c
def Nz{k1 k2:List Key}(r:Rep F y (.tuple [Ze k1,Ze k2])):∃b,y=.ref b/\V3 F (k1,k2) b:=by
 cases r with
 |tup h c=>
  cases c with
  |cons g c=>
   cases c with
   |cons f c=>
    cases c;apply At (Je g);rintro p rfl j;apply At (Je f);rintro q rfl i;exact#[_,rfl,p,q,h,j,i]
section
variable {ty:TE}{N:QF}{k1 k2:List Key}
def NetOk.setLaid{xs:List (List Key×V)}{ys:List (KK×Addr×V)}(j:NetOk P w C N F H a L el r l d xs ys as)(K:LaidD F ys' ls):
 NetOk P w C { N with laid:=ls } F (upd H d<|pdO P w d ys') a L el r l d xs ys' as:=by
 obtain⟨c,⟨D,B⟩,⟨s,m⟩,⟨n,Y,k,e⟩,⟨i,f,h,g⟩,⟨A,y,v⟩,⟨o,G,E⟩⟩:=j;have b:=c;simp only[Xu,Xf,not_or]at b;obtain⟨⟨a1,Z,U,T,t,_⟩,⟨S,R,Q,q,_⟩,⟨O,J,p,I⟩,⟨z,W,x⟩,⟨M,u⟩,X,_⟩:=b;exact#[c,#[D,by rw[Qs t];exact B],#[s,by rw[Qs q];exact m],#[n,Y,by rw[Qs p];exact k,e],#[i,f,by rw[Qs W];exact h,g],#[A,by rw[Qs M];exact y,v.other X],#[o,Q8,K]]
def ZpV(c:NetC K C)(e:zg Y i<|zo v<|Zt P w C N)(E:Qr K tv Y (.int n))(t:Qr K ty Y (.tuple [Ze k1,Ze k2]))(hl:N.laid.length<1000)
(hn:CH.nx (Y.set i<|zo v<|Zt P w C { N with laid:=YL N.laid (k1,k2) n })):QB K (Pq P w (Ve K (Q3 i) "laid") ty tv) Y CH:=λF0 H0 F O H hi x S C'=>
 E H0 F O H _ S λF1 U u j q=>by
  cases q;apply aa ((S.ext j).net e);rintro a L el r l d xs ys as rfl R m _;refine#[_,R,a,C,L,_,.ref d,rfl,m.ins.2,c.cl,c.laid,rfl,t H0 F1 O U _ (S.ext j) λF2 H2 y D p=>?_];have s:=S.ext (j.trans D);apply aa (s.net e);rintro a' T J r' l' k B A W Q g1 f⟨G,o⟩;cases Q;apply Hs (m.same f ((D.hh _ _ m.ins.2).trans m.ins.2.symm));rintro rfl rfl rfl rfl rfl;apply At (Nz p);rintro b rfl X;refine I0 f.laid λd1 Z M=>#[k,b,A,(k1,k2),rfl,rfl,Z,M.at s.sub,X.mono λc' z I=>s.sub _ _ I,by rw[M.length];exact Vh<|#[],?_];have g:=G k (by simp);exact C'.nx F2 O _ _ ((x.trans<|j.trans D).wr g.1 g.2.1) (o _ { N with laid:=YL N.laid _ n } B _ W (s.sub.upd g.2.1) (λb' h _=>Qs λz=>h<|by rw[z];simp) VN (f.setLaid<|M.put n X) λb' h=>.inl h) hn
end
end L2
namespace L2
def QX(ls:List (List Key×Ql))(k:List Key):Option (Ql):=(ls.find? λx=>decide (x.1=k)).map (·.2)
def Yl:List (List Key×Ql)->List Key->Int->List (List Key×Ql)
 |[],_,_=>[]
 |(b,c)::r,k,n=>if b=k then (b,c++[n])::r else (b,c)::Yl r k n
theorem LeavD.val{F H:Hp}(k:List Key):∀{xs:List (List Key×V)} {ls:List (List Key×Ql)} {as:Qg},LeavD F H xs ls as->(ZC xs k=none/\QX ls k=none) \/
 ∃a ns,ZC xs k=some (.ref a)/\QX ls k=some ns/\a∈as/\VI F H a (ns.map PyData.int)
 |_,_,_,.nil=>.inl #[rfl,rfl]
 |_,_,_,.cons (k:=k') (a:=a) (ns:=ns) (ls:=ls) h t=>by
  by_cases e:k'=k
  .exact .inr #[a,ns,Wa e,by simp[QX, e],Xb,h]
  .have q:QX ((k',ns)::ls) k=QX ls k:=by simp[QX, e]
   rw[YV e,q];rcases t.val k with z|⟨j,b,i,g,f,c⟩
   .exact .inl z
   .exact .inr #[j,b,i,g,Xh _ f,c]
theorem LeavD.app{F H:Hp}(k:List Key){a:Addr}{n:Int}{za:List V}:∀{xs:List (List Key×V)} {ls:List (List Key×Ql)} {as:Qg} {ns:Ql},LeavD F H xs ls as->as.Nodup->ZC xs k=some (.ref a)->QX ls k=some ns->
 Qz F za ((ns++[n]).map PyData.int)->LeavD F (upd H a<|.lst za) xs (Yl ls k n) as
 |_,_,_,_,.nil,_,h,_,_=>by cases h
 |_,_,_,ns,.cons (k:=k') (a:=a') (ns:=ns') (ls:=ls) (as:=as) h t,s,b,c,i=>by
  obtain⟨g,v⟩:=Xu.mp s;unfold Yl;by_cases e:k'=k
  .rw[Wa e]at b;have q:QX ((k',ns')::ls) k=some ns':=by simp[QX, e]
   rw[q]at c;cases b;cases c;rw[Xe e];exact .cons #[h.1,za,Q8,i] (t.other g)
  .rw[YV e]at b;have q:QX ((k',ns')::ls) k=QX ls k:=by simp[QX, e]
   rw[q]at c;rw[Xd e];have w:a∈as:=by
    rcases t.val k with z|⟨M,j,L,K,D,C⟩
    .grind
    .grind
   refine .cons ?_ (t.app k v b c i);apply Do h;intro B f A y
   exact#[B,f,by rw[Qs (λz=>g (by exact z▸w))];exact A,y]
theorem LeavD.snoc{F H:Hp}(k:List Key){a:Addr}(o:VI F H a []):∀{xs:List (List Key×V)} {ls:List (List Key×Ql)} {as:Qg},LeavD F H xs ls as->LeavD F H (xs++[(k,.ref a)]) (ls++[(k,[])]) (as++[a])
 |_,_,_,.nil=>.cons o .nil
 |_,_,_,.cons h t=>.cons h (t.snoc k o)
theorem LeavD.length{F H:Hp}:∀{xs:List (List Key×V)} {ls:List (List Key×Ql)} {as:Qg},LeavD F H xs ls as->xs.length=ls.length
 |_,_,_,.nil=>rfl
 |_,_,_,.cons h t=>by simp[t.length]
def Yt(ls:List (List Key×Ql))(k:List Key):List (List Key×Ql):=if (QX ls k).isSome=true then ls else ls++[(k,[])]
section
variable {N:QF}{k:List Key}
def NetOk.appLeav{xs:List (List Key×V)}{ys:List (KK×Addr×V)}(v:NetOk P w C N F H a L el r l d xs ys as){b:Addr}
(X:ZC xs k=some (.ref b))(he:QX N.leav k=some ns)(e:b∈as)(Y:Qz F za ((ns++[n]).map PyData.int)):NetOk P w C { N with leav:=Yl N.leav k n } F (upd H b<|.lst za) a L el r l d xs ys as:=by
 obtain⟨g,⟨W,M⟩,⟨A,y⟩,⟨I,u,G,E⟩,⟨s,i,m,j⟩,⟨K,D,B⟩,⟨Q,O,J⟩⟩:=v;have f:=g;simp only[Xu,Xf,not_or]at f;obtain⟨⟨a1,a2,a3,a4,a5,T⟩,⟨b1,b2,b3,b4,S⟩,⟨c1,c2,c3,R⟩,⟨g1,Z,p⟩,⟨U,o⟩,t,q⟩:=f;have c:∀{x:Addr},x∉as->x≠b:=λh z=>h (by exact z▸e)
 exact#[g,#[W,by rw[Qs<|c T];exact M],#[A,by rw[Qs<|c S];exact y],#[I,u,by rw[Qs<|c R];exact G,E],#[s,i,by rw[Qs<|c p];exact m,j],#[K,by rw[Qs<|c o];exact D,B.app k q X he Y],#[Q,by rw[Qs<|c t];exact O,J]]
end
end L2
namespace L2
section
variable {ty:TE}{N:QF}{k:List Key}
def TV(c:NetC K C)(e:zg Y i<|zo v<|Zt P w C N)(h:Qr K te Y (.int n))(he:QX N.leav k=some ns)(hz:ns.length<1000)
(hn:CH.nx (Y.set i<|zo v<|Zt P w C { N with leav:=Yl N.leav k n }))(x:Q1 F0 H0 F H)(S:Q7 K H0 F Y O H)(C':Cnv K F0 H0 CH hi)
{xs:List (List Key×V)}{ys:List (KK×Addr×V)}(m:NetOk P w C N F H a L el r l d xs ys as)(R:v=.ref a)(A:ZC xs k=some (.ref al)):
 tyV K "list" (.ref al) H/\QE te QJ O H λvs H2=>Ye (.ref al) vs H2 λ_ H3=>hi.nx O H3:=by
 have j:∀{F H:Hp} {a L el r l d:Addr} {xs:List _} {ys:List _} {as:Qg},NetOk P w C N F H a L el r l d xs ys as->ZC xs k=some (.ref al)->al∈as/\VI F H al (ns.map PyData.int):=λm A=>by
  rcases m.leav.2.2.val k with z|⟨a2,I,z1,z2,z3,z4⟩
  .grind
  .grind
 refine aL (j m A) λ_ _ za W _=>#[.inl #[rfl,_,SqL.of W],h H0 F O H _ S λF1 U u y G=>?_];cases G;apply aa ((S.ext y).net e);rintro a' Z T r' l' d' t D o q g1 g⟨Q,E⟩;rw[R]at q;cases q;apply Hs (m.same g ((y.hh _ _ m.ins.2).trans m.ins.2.symm));rintro rfl rfl rfl rfl rfl;have f:=g.leav.2.1.symm.trans (y.hh _ _ m.leav.2.1);injection f with f;injection f with f;subst f;apply aL (j g A);intro M m2 B J p;have s:=Q al (by simp[M]);exact#[al,B,.int n,rfl,rfl,J,by rw[p.length,Xj];exact Vh<|#[],C'.nx F1 O _ _ ((x.trans y).wr s.1 s.2.1) (E _ { N with leav:=Yl N.leav k n } _ D o ((S.ext y).sub.upd s.2.1) (λb X _=>Qs λz=>X<|by rw[z];simp[M]) VN
  (g.appLeav A he M<|by rw[XL];exact p.snoc<|.int n) (λb X=>.inl X)) hn]
def Fs(ls:List (List Key×Ql))(h:QX ls k=none):QX (ls++[(k,[])]) k=some []:=by
 induction ls with
 |nil=>simp[QX]
 |cons x ls g=>
  obtain⟨b,c⟩:=x
  by_cases e:b=k
  .simp[QX, e]at h
  .have q:QX ((b,c)::ls) k=QX ls k:=by simp[QX, e]
   rw[q]at h;have f:QX ((b,c)::ls++[(k,[])]) k=QX (ls++[(k,[])]) k:=by simp[QX, e]
   rw[f];exact g h
def ZnT(c:NetC K C)(e:zg Y i<|zo v<|Zt P w C N)(hy:Qr K ty Y (Ze k))(hl:N.leav.length<1000)(hz:∀ns,QX (Yt N.leav k) k=some ns->ns.length<1000)
(h:Qr K te (Y.set i<|zo v<|Zt P w C { N with leav:=Yt N.leav k }) (.int n))(hn:CH.nx (Y.set i<|zo v<|Zt P w C { N with leav:=Yl (Yt N.leav k) k n })):
 QB K (VB<|tBM K "list" Ye (PU (Ve K (Q3 i) "leaving") ty<|Wc QJ)<|QE te QJ) Y CH:=λF0 H0 F O H hi x S C'=>by
 apply aa (S.net e);rintro a L el r l d xs ys as rfl e1 ok⟨hp0,_⟩;refine#[_,e1,a,C,L,_,.ref l,rfl,ok.ins.2,c.cl,c.leav,rfl,l,rfl,.inr #[xs,Rd.of ok.leav.2.1],hy H0 F O H _ S λF1 U y x1 r1=>#[XJ _,λp X=>?_]];have T:=S.ext x1;have x2:Q1 F1 U F1 (upd U p<|.lst []):=Q1.own T.sub X;apply aa (T.net e);rintro a' s m G D R g M f ea g1 W⟨hp',wr⟩;cases ea;apply Hs (ok.same W ((x1.hh _ _ ok.ins.2).trans ok.ins.2.symm));rintro rfl rfl rfl rfl rfl;have hlt:=(Xc.mp e).1;apply At (Je r1);rintro b rfl hb;apply I0 W.leav;intro l1 l2 l3;have np:∀q∈a::s::m::G::D::R::f,q≠p:=λq hq z=>by rw[z]at hq;exact(hp' p hq).2.2 X
 have lp:=np D (by simp);have bp:b≠p:=λz=>by rw[z]at hb;rw[T.sub _ _ hb]at X;cases X
 refine#[g,k,b,rfl,by rw[Qs lp];exact l2,by rw[Qs bp];exact T.sub _ _ hb,by rw[l3.length];exact Vh<|#[],λv0 A=>?_,λA=>?_]
 .rcases l3.val k with z|⟨al,ns,z1,o,z3,z4⟩
  .rw[A]at z;cases z.1
  .rw[A]at z1;cases z1;have J:Yt N.leav k=N.leav:=by unfold Yt;rw[o];rfl
   rw[J]at h hn hz;have B:NetOk P w C N F1 (upd U p<|.lst []) a s m G D R g M f:=by
    obtain⟨q0,q1,q2,q3,q4,q5,I⟩:=W;exact Do q3 λQ ex e2 e3=>Do q4 λE rx r2 r3=>#[q0,#[q1.1,by rw[Qs<|np a<|by simp];exact q1.2],#[q2.1,by rw[Qs<|np s<|by simp];exact q2.2],#[Q,ex,by rw[Qs<|np m<|by simp];exact e2,e3],#[E,rx,by rw[Qs<|np G<|by simp];exact r2,r3],
     #[q5.1,by rw[Qs lp];exact q5.2.1,q5.2.2.other λz=>np p (by simp[z]) rfl],#[I.1,by rw[Qs<|np R<|by simp];exact I.2.1,I.2.2]]
   have S4:=wr _ N g M f (T.ext x2).sub (λZ _ j=>Qs λz=>j<|by exact z▸X) VN B (λZ j=>.inl j);exact TV (N:=N) c (Xk hlt) h o (hz ns o) (by rw[List.set_set];exact hn) (x.trans<|x1.trans x2) S4 C' B rfl A
 .have o:QX N.leav k=none:=by
   rcases l3.val k with z|⟨al,ns,z1,o,z3,z4⟩
   .exact z.2
   .rw[A]at z1;cases z1
  have J:Yt N.leav k=N.leav++[(k,[])]:=by unfold Yt;rw[o];rfl
  rw[J]at h hn hz;have fp:=T.sub.free X;have B:NetOk P w C { N with leav:=N.leav++[(k,[])] } F1 (upd (upd U p<|.lst []) D<|.dT<|g++[(k,.ref p)]) a s m G D R (g++[(k,.ref p)]) M (f++[p]):=by
   obtain⟨q0,q1,q2,q3,q4,q5,I⟩:=W;refine Do q3 λQ ex e2 e3=>Do q4 λE rx r2 r3=>?_;have nd':=q0;simp only[Xu,Xf,not_or]at nd';apply aG nd';rintro⟨a1,a2,a3,a4,a5,a6⟩⟨b1,b2,b3,b4,b5⟩⟨c1,c2,c3,c4⟩⟨g1',g2,g3⟩⟨h1,h2⟩⟨f1,f2⟩;have up:∀{q:Addr},q∈a::s::m::G::D::R::f->q≠D->upd (upd U p<|.lst []) D (.dT<|g++[(k,.ref p)]) q=U q:=λhq ne=>by rw[Qs ne,Qs<|np _ hq]
   refine#[?_,#[q1.1,by rw[up (by simp) a4];exact q1.2],#[q2.1,by rw[up (by simp) b3];exact q2.2],#[Q,ex,by rw[up (by simp) c2];exact e2,e3],#[E,rx,by rw[up (by simp) g1'];exact r2,r3],#[l1,Q8,?_],#[I.1,by rw[up (by simp)<|Ne.symm h1];exact I.2.1,I.2.2]]
   .have:(a::s::m::G::D::R::(f++[p]))=(a::s::m::G::D::R::f)++[p]:=by simp
    rw[this,JO];refine#[q0,by simp,λu hu t ht=>?_];cases Xi.mp ht;exact np u hu
   .exact LeavD.snoc k #[fp,[],by rw[Qs<|Ne.symm lp,Q8],.nil]<|(l3.other λz=>np p (by simp[z]) rfl).other h2
  have S4:=
   wr _ _ _ M (f++[p]) ((T.sub.upd fp).upd l1) (λZ hb1 hb2=>by rw[Qs (λz=>hb1<|by rw[z];simp),Qs λz=>hb2<|by exact z▸X]) (λZ j=>VN Z<|VN Z j) B (λZ j=>by
    rcases Xz.mp j with z|z
    .exact .inl z
    .cases Xi.mp z;exact .inr #[X,(x.trans x1).hh.free X])
  have hl0:=hp' D (by simp);exact TV c (Xk hlt) h (Fs _ o) (hz []<|Fs _ o) (by rw[List.set_set];exact hn) ((x.trans<|x1.trans x2).wr hl0.1 hl0.2.1) S4 C' B rfl (by
   rw[Fi k k (.ref p) g A,Xe rfl])
end
end L2
namespace L2
structure KTup(K:W.Frag)(g:Addr)(x:Str):Prop where
 ex:∃(d:Qj) (t:Nat) (n:Nat) (sl:Array (Qf)),K.lookup g=some #[.type "tuple",d,.seq (List.toArray [.str x t]) n,sl]
def ZpA{c:Shared}
(KX:K.In c.heap)(R:c.heap.Ns mainGlobals mg)(i:c.heap.Ns builtinsNs mb)(hbb:∀x:Str,x ≠ "__name__" -> mb x=bootBuiltins x)(S:c.heap.NoLimit)(hg:c.gens=(List.toArray []))
(p:c.heap.get? a=some { cls:=.type "list",data:=.seq vs.toArray })(E:IntsAre vs ns)(hl:ns.length<=sizeLine)(hr:Room k callerA)(tS:KTup K gS "start")(tE:KTup K gE "end")
(F:∀base:Heap,K.In base->base.Ns mainGlobals mg->FnOk P w K mg base CX0 k fa fd [x] sp)(X:∀(s:Shared) (u:Value),BindsTo s fd #[[u],[]] [(x,u)])
(hsp:∀H:Hp,SqL K H a (ns.map V.int)->H gS=some (.tup [.str "start"])->H gE=some (.tup [.str "end"])->sp [.ref a] H (λv _=>v=.bl true) λ_ _ _=>False):
 codeAny (model P w) callerA (.call (.ref fa) #[[.ref a],[]]) (λr L=>r=.ok (.ret<|.bool true)/\OldK c.heap L.heap/\L.os=c.os/\AllBare L.gens) c:=by
 apply Gr tS.ex;rintro dS kS cS⟨slS,lS⟩;apply Gr tE.ex;rintro dE kE cE⟨slE,lE⟩;have Y:=KX gS _ lS;have l:=KX gE _ lE;have naS:gS≠a:=λz=>by
  rw[z,p]at Y;injection Y with G;injection G with W;injection W with t;exact Xv t (by decide)
 have naE:gE≠a:=λz=>by
  rw[z,p]at l;injection l with G;injection G with W;injection W with t;exact Xv t (by decide)
 have nSE:gE≠gS:=λz=>by
  rw[z,lS]at lE;injection lE with G;injection G with _ _ W _;injection W with t _;have z4:=XS Array.toList t;simp only[List.cons.injEq,Value.str.injEq,and_true]at z4;exact Xv z4.1 (by decide)
 have M:∀f:Hp,CV f->SqL K f a (ns.map V.int)->HOk P w f c.heap->(∀b,f b≠none->b=a)->(f a≠none->K.lookup a=none)->
  codeAny (model P w) callerA (.call (.ref fa) #[[.ref a],[]]) (λr L=>r=.ok (.ret<|.bool true)/\OldK c.heap L.heap/\L.os=c.os/\AllBare L.gens) c:=by
  intro f hO hSq Q hA hK;have fS:f gS=none:=by
   cases q:f gS with
   |none=>rfl
   |some u=>exact Xv (hA gS<|by rw[q];simp) naS
  have fE:f gE=none:=by
   cases q:f gE with
   |none=>rfl
   |some u=>exact Xv (hA gE<|by rw[q];simp) naE
  have g:∀{b:Addr} {o:Obj},c.heap.get? b=some o->f b=none->(JW c.heap f).get? b=some o:=λe n=>OC e n
  have noA:∀{b:Addr} {o:Obj} {es:Array DictEntry} {ep:Nat},c.heap.get? b=some o->o.data=.dict es ep->f b=none:=λ{b o es ep} e d=>by
   cases q:f b with
   |none=>rfl
   |some u=>
    have e':b=a:=hA b (by rw[q];simp);subst e';rw[p]at e;cases e;cases d
  have B:∀{b:Addr} {m:Str->Qf},c.heap.Ns b m->(JW c.heap f).Ns b m:=λ{b m} ⟨o,es,ep,e,d,r⟩=>#[o,es,ep,g e<|noA e d,d,r]
  have T:=λb o e=>g (KX b o e) (by
   cases q:f b with
   |none=>rfl
   |some u=>
     have e':b=a:=hA b (by rw[q];simp);subst e';rw[hK<|by rw[q];simp]at e;cases e)
  let H:Hp:=upd (upd f gS<|.tup [.str "start"]) gE (.tup [.str "end"])
  have C:H gS=some (.tup [.str "start"]):=by show upd _ _ _ gS=_;rw[Qs<|Ne.symm nSE,Q8]
  have D:H gE=some (.tup [.str "end"]):=Q8;have A:∀b,b≠gS->b≠gE->H b=f b:=λb y j=>by show upd _ _ _ b=_;rw[Qs j,Qs y]
  have sm:Q6 f H:=λb u e=>by
   rw[A b (λz=>by rw[z,fS]at e;cases e) λz=>by rw[z,fE]at e;cases e];exact e
  have l1:∀x:Str,[V.str x].length<=sizeLine:=λ_=>YJ (Vh G6)
  have N:HOk P w H c.heap:=λb u e=>by
   by_cases y:b=gS
   .subst y;rw[C]at e;cases e;exact#[l1 _,[.str "start" kS],.cons #[kS,rfl] .nil,#[_,Y,rfl,_,rfl]]
   .by_cases j:b=gE
    .subst j;rw[D]at e;cases e;exact#[l1 _,[.str "end" kE],.cons #[kE,rfl] .nil,#[_,l,rfl,_,rfl]]
    .rw[A b y j]at e;rcases hO b with z|⟨o,xs,z⟩
     .rw[z]at e;cases e
     .rw[z]at e;cases e;obtain⟨q1,q2⟩:=Q b _ z;exact#[q1,q2]
  have e0:Env0 P w K mg (JW c.heap f) callerA [] c H:=#[rfl,#[T,B R,#[mb,B i,hbb],let ⟨mc,y,j⟩:=S;#[mc,B y,j]],λb o e=>by
   obtain⟨e1,e2⟩:=ES e;refine#[e1,?_]
   by_cases y:b=gS
   .exact .inr #[_,by exact y▸C]
   .by_cases j:b=gE
    .exact .inr #[_,by exact j▸D]
    .exact .inl (by rw[A b y j];exact e2),Nat.le_of_eq<|ZoT _ _,trivial,λb i=>Xv (show b∈([]:Qg) from i)<|by simp,N,.of_eq hg]
  refine codeAny_mono ((F _ T<|B R).run callerA [] c H #[[.ref a],[]] [.ref a] [.ref a] _ _ hr e0 (X c<|.ref a) (.cons rfl .nil) (hsp H (sm.seq hSq) C D)) λr L h=>?_
  cases r with
  |error e=>exact False.elim h
  |ok fl=>
   cases fl with
   |next=>exact False.elim h
   |brk=>exact False.elim h
   |cont=>exact False.elim h
   |ret u=>
    apply aP h;intro v Z os U un O r' q;subst q;obtain rfl:u=Value.bool true:=r';refine#[rfl,OldK.of_keep λb o e=>?_,os,U]
    by_cases y:b=gS
    .subst y;exact un.tupo b _ o C e (by simp)
    .by_cases j:b=gE
     .subst j;exact un.tupo b _ o D e (by simp)
     .rcases hO b with z|⟨ob,xs,z⟩
      .exact un.keep b o e (by rw[A b y j];exact z) (by exact λz=>Xv (show b∈([]:Qg) from z)<|by simp) (by simp)
      .obtain⟨e1,_⟩:=Q b _ z;obtain⟨e2,_⟩:=O b _ (un.frzs b ob _ (by rw[A b y j];exact z));rw[e]at e1;cases e1;exact e2
 cases hk:K.lookup a with
 |some o=>
  have e:=KX a o hk;rw[p]at e;cases e;refine M (λ_=>none) (λ_=>.inl rfl) (.inr #[_,vs.toArray,_,hk,rfl,rfl,rfl,by rw[Xs,E.length];exact hl,by simpa using (FE E)]) (λb u z=>by have I:(none:Option HO)=some u:=z;cases I) (λb z=>Xv rfl z) λz=>Xv rfl z
 |none=>
  refine M (λb=>if b=a then some (.frz { cls:=.type "list",data:=.seq vs.toArray }<|.lst<|ns.map V.int) else none) (λb=>?_) (.inl<|.inr #[{ cls:=.type "list",data:=.seq vs.toArray },Xe rfl]) (λb u z=>?_) (λb z=>?_) λ_=>hk
  .by_cases i:b=a
   .exact .inr #[_,_,Xe i]
   .exact .inl (Xd i)
  .by_cases i:b=a
   .have I:=(Xe i).symm.trans z;cases I;subst i;exact#[p,by rw[Xj];exact hl,vs,_,FE E,p]
   .have I:=(Xd i).symm.trans z;cases I
  .by_cases i:b=a
   .exact i
   .exact Xv (Xd i) z
def Zqd{l:W.OpenLaw}{K:Params->W.Frag}
(hn:l.most=some 63)(A:d.params.defaults=[])(Y:Room k callerA)
(r:∀(w:World) (h:Heap),YP w h->(K w.params).In h)
(F:∀(w:World) (mg:Str->Qf) (v:Addr) (h:Heap),(K w.params).In h->h.Ns mainGlobals mg->mg d.name=some (.ref v)->
  (∃j m,W.nsIn (K w.params) mainGlobals "START"=some (some<|.ref j)/\W.nsIn (K w.params) mainGlobals "END"=some (some<|.ref m)/\KTup (K w.params) j "start" /\ KTup (K w.params) m "end")/\
  ∃fd:FuncData,(∀(s:Shared) (u:Value),BindsTo s fd #[[u],[]] [(x,u)])/\
   ∀base:Heap,(K w.params).In base->base.Ns mainGlobals mg->FnOk l.prog w (K w.params) mg base CX0 k v fd [x] (Du<|K w.params)):
 W.WalkO q loose XP YP l.row.toRowW d [] (λf vs=>PySem.call f vs):=by
 refine Att.attach_callW hn A λw B S mg O v o N cd J a vs M G ρ Q R n y i c b g e=>?_
 have C:=r w _ ρ;apply Do (F w mg v _ C G.T.g y);rintro⟨j,m,X,P,L,D⟩fd p z;exact ZpA C G.T.g G.T.b G.T.builtins G.T.nolimit e i c (X4 b<|by decide) Y L D z p (λH t I E=>#[a,M,rfl,.inr #[j,m,X,P,I,E],#[t,b,g],λ_=>rfl])
def NH  {g:Addr}(a:W.nsIn K mainGlobals "START"=some (some<|.ref g)):Qr K (tC<|.ref g) Y (Ze [.inr "start"]):=λH0 F O H Q S q=>by
 rcases S.kt with b|⟨i,j,b,h,c,f⟩<;>rw[b]at a<;>cases a
 exact q F H _ (Q1.refl S.sub) (.tup c<|.cons (.str _) .nil)
def PD  {g:Addr}(b:W.nsIn K mainGlobals "START"=some (some<|.ref g'))(a:W.nsIn K mainGlobals "END"=some (some<|.ref g)):Qr K (tC<|.ref g) Y (Ze [.inr "end"]):=λH0 F O H Q S q=>by
 rcases S.kt with h|⟨j,m,h,f,i,c⟩
 .grind
 .rw[f]at a;cases a;exact q F H _ (Q1.refl S.sub) (.tup c<|.cons (.str _) .nil)
end L2
namespace L2
def KO(b:Room k A):A.units+6<cLine:=HD (Nat.add_le_add_left (by decide) _) b.units
def PX(f tv:TE):TE:=λO H Q=>∀p,H p=none->f O (upd H p<|.dT []) λx U=>tv O U λy c=>∃k b,x=.ref b/\c p=some (.dT [])/\c b=some (.tup<|k.map kV)/\Q (.ref p) (upd c p<|.dT [(k,y)])
def ZrJ(N:X.A.units+1<cLine)(d:PE X ke tk)(W:PE X ve tv):PE X (.Dict [some ke] [ve] pos) (PX tk tv):=by
 refine λB s O H Q I q=>wpAny_Dict_any rfl rfl (by simp) (by simp) (pairTrees_cons_walk<|QD (d B _ O _ _ (I.laid (t':=s.toks) (λ_ _ q=>Xg _ q) (Xm _) (LE s.heap I.big))<|q _ (I.hok.fresh (Xm s.heap.objs.size))) ?_);rintro J C ⟨x,U,E,K,M⟩;refine QD (W B C O U _ E M) ?_;rintro A G ⟨y,w,i,D,k,b,rfl,e,v,L⟩;refine pairTrees_nil_walk ?_;obtain rfl:=K;apply aL (Kq i.hok e);intro z l xs f dd;have P:xs=[]:=by cases f;rfl
 subst P;unfold storeAll;rw[List.forIn_cons];refine Xa (Xa<|wpAny_dictSet_heap (hsz:=XJ _) (show X.A.units<cLine by lia) (WW i.hok v) dd λh' h Y=>Xl ?_);apply aM h;rintro j es u m r p o⟨_,n⟩;refine Xl #[.ref s.heap.objs.size,upd w s.heap.objs.size<|.dT [(k,y)],Mr i (by exact e▸True.intro) Y #[j,m] #[YJ<|Vh<|by simp,l,_,(show KT w [_] [(k,b,A)] from .cons #[rfl,v,D] .nil).keeps λc ys g=>?_,j,es,u,m,r,p,o,n],rfl,L];rw[Qs λz=>by subst z;rw[e]at g;cases g];exact g
def Oq(w:Qr K tk Y (Ze k))(v:Qr K tv Y d):EvX K (PX tk tv) Y (VV [(k,d)]):=λH0 F O H Q S q=>λp f=>by
 have g:Q1 F H F (upd H p<|.dT []):=Q1.own S.sub f;refine w H0 F O _ _ (S.ext g) λL U x j s=>v H0 L O U _ (S.ext<|g.trans j) λD M y i m=>?_;apply At (Je s);rintro b rfl A;have X:=j.trans i;have c:=X.free (S.sub.free f) (by rw[Q8];rintro⟨⟩);refine#[k,b,rfl,X.hh _ _ Q8,X.fh _ _<|i.ff _ _ A,q D _ _ [p] ((g.trans X).wr f c) (λa B=>by cases Xi.mp B;exact f) #[p,_,rfl,rfl,c,Q8,.cons m .nil]]
inductive LeavZ(F:Hp):List (List Key×V)->List (List Key×Ql)->Prop
 |nil:LeavZ F [] []
 |cons {k:List Key}{a:Addr}{ns:Ql}{za:List V}{xs:List (List Key×V)}{ls:List (List Key×Ql)}:F a=some (.lst za)->Qz F za (ns.map PyData.int)->LeavZ F xs ls->LeavZ F ((k,.ref a)::xs) ((k,ns)::ls)
theorem LeavZ.mono{F b:Hp}(s:Q6 F b):∀{xs:List (List Key×V)} {ls:List (List Key×Ql)},LeavZ F xs ls->LeavZ b xs ls
 |_,_,.nil=>.nil
 |_,_,.cons h r t=>.cons (s _ _ h) (r.mono s) (t.mono s)
theorem LeavZ.val{F:Hp}(k:List Key):∀{xs:List (List Key×V)} {ls:List (List Key×Ql)},LeavZ F xs ls->(ZC xs k=none/\QX ls k=none)\/∃a ns za,ZC xs k=some (.ref a)/\QX ls k=some ns/\F a=some (.lst za)/\Qz F za (ns.map PyData.int)
 |_,_,.nil=>.inl #[rfl,rfl]
 |_,_,.cons (k:=k') (a:=a) (ns:=ns) (za:=za) (ls:=ls) h r t=>by
  by_cases e:k'=k
  .exact .inr #[a,ns,za,Wa e,by simp[QX, e],h,r]
  .have q:QX ((k',ns)::ls) k=QX ls k:=by simp[QX, e]
   rw[YV e,q];exact t.val k
theorem LeavD.fz{F c H:Hp}(s:Q6 F c):∀{xs:List (List Key×V)} {ls:List (List Key×Ql)} {as:Qg},LeavD F H xs ls as->(∀b∈as,c b=H b)->LeavZ c xs ls
 |_,_,_,.nil,_=>.nil
 |_,_,_,.cons h t,f=>by
  exact Do h λm xs j i=>.cons (by rw[f _ Xb];exact j) (i.mono s) (t.fz s λb g=>f b<|Xh _ g)
structure NetFz(P:Program)(w:World)(C:Addr)(N:QF)(F:Hp)(a L e r l d:Addr)(xs:List (List Key×V))(ys:List (KK×Addr×V)):Prop where
 ins:F a=some (.ins C L [("ends",.ref e),("rooms",.ref r),("leaving",.ref l),("laid",.ref d)])
 ends:∃ex,F e=some (.lst ex)/\Qz F ex (N.ends.map Ze)
 rooms:∃rx,F r=some (.lst rx)/\Qz F rx (N.rooms.map PyData.int)
 leav:F l=some (.dT xs)/\LeavZ F xs N.leav
 laid:F d=some (pdO P w d ys)/\LaidD F ys N.laid
def NetFz.mono{xs:List (List Key×V)}{ys:List (KK×Addr×V)}(s:Q6 F F')(h:NetFz P w C N F a L e r l d xs ys):NetFz P w C N F' a L e r l d xs ys:=by
 obtain⟨A,⟨B,y,v⟩,⟨b,m,j⟩,⟨i,g⟩,⟨f,c⟩⟩:=h;exact#[s _ _ A,#[B,s _ _ y,v.mono s],#[b,s _ _ m,j.mono s],#[s _ _ i,g.mono s],#[s _ _ f,c.mono s]]
def Vm(P:Program)(w:World)(C:Addr)(N:QF):ZP where
 ok K F v := ∃a L e r l d xs ys,v=.ref a/\NetFz P w C N F a L e r l d xs ys
 mono:=by
  rintro K F b v s ⟨a,L,e,r,l,d,xs,ys,rfl,h⟩;exact#[a,L,e,r,l,d,xs,ys,rfl,h.mono s]
def NetOk.fz{xs:List (List Key×V)}{ys:List (KK×Addr×V)}(h:NetOk P w C N F H a L el r l d xs ys as)(s:Q6 F F')(he:∀b∈a::L::el::r::l::d::as,F' b=H b):
 NetFz P w C N F' a L el r l d xs ys:=by
 obtain⟨W,⟨Y,m⟩,_,⟨e,y,B,A⟩,⟨M,c,g,f⟩,⟨X,j,i⟩,⟨k,K,D⟩⟩:=h;exact#[by rw[he _<|by simp];exact m,#[y,by rw[he _<|by simp];exact B,A.mono s],#[c,by rw[he _<|by simp];exact g,f.mono s],#[by rw[he _<|by simp];exact j,i.fz s λb v=>he b<|by simp[v]],#[by rw[he _<|by simp];exact K,D.mono s]]
def Zt.fz(h:(Zt P w C N).ok K F H v p)(s:Q6 F F')(he:∀b∈p,F' b=H b):(Vm P w C N).ok K F' v:=by
 apply aU h;rintro a L e r l d xs ys c rfl rfl o;exact#[a,L,e,r,l,d,xs,ys,rfl,o.fz s he]
def G1(kvs:Yi):ZP where
 ok K F v := ∃a xs,v=.ref a/\F a=some (.dT xs)/\PairD F xs kvs
 mono:=by
  rintro K F f v s ⟨a,xs,rfl,c,b⟩;exact#[a,xs,rfl,s _ _ c,b.mono s]
def VV.fz(h:(VV kvs).ok K F H v p)(s:Q6 F F')(he:∀b∈p,F' b=H b):(G1 kvs).ok K F' v:=by
 apply aT h;rintro a xs rfl rfl g f c;exact#[a,xs,rfl,by rw[he a Xb];exact f,c.mono s]
def Q7.freezeZ{Ψ:ZP}(s:Q7 K H0 F Y O H)(e:zg Y i<|zo v Φ)
(hz:∀{F c H:Hp} {u:V} {p:Qg},Φ.ok K F H u p->Q6 F c->(∀b∈p,c b=H b)->Ψ.ok K c u):
 ∃p,(∀a∈p,F a=none/\H a≠none/\H0 a=none)/\Q7 K H0 (frF F H p) (Y.set i<|zz Ψ) O H:=
 s.frz e λu p f=>#[rfl,hz f.2 (Jl λa h=>(Φ.there f.2 a h).1) λb g=>Wy g]
def K5(i:Nat){Ψ:ZP}(e:zg Y i<|zo v Φ)(hz:∀{F f H:Hp} {u:V} {p:Qg},Φ.ok K F H u p->Q6 F f->(∀b∈p,f b=H b)->Ψ.ok K f u)
(h:QB K t (Y.set i<|zz Ψ) CH):QB K t Y CH:=λF0 H0 F O H m x S C=>by
 refine At (S.freezeZ e hz) λp g j=>h F0 H0 _ O H m #[x.hh,x.ff.trans<|Jl λa c=>(g a c).1,j.sub,λa c=>?_] j C
 by_cases z:a∈p
 .exact .inr (g a z).2.2
 .rw[Ut z]at c;exact x.fr a c
def ZrY(i:Nat)(e:zg Y i<|zo v<|Zt P w C N)(h:QB K t (Y.set i<|zz<|Vm P w C N) CH):QB K t Y CH:=K5 i e (λa b c=>Zt.fz a b c) h
def Ly(i:Nat)(e:zg Y i<|zo v<|VV kvs)(h:QB K t (Y.set i<|zz<|G1 kvs) CH):QB K t Y CH:=K5 i e (λa b c=>VV.fz a b c) h
def Z5(K:W.Frag)(t:TE)(Y:Zbv)(Φ:OT->Prop):Prop := ∀(H0 F:Hp) (O:St) (H:Hp) (Q:VK),Q7 K H0 F Y O H->(∀b Z v p r,Φ r->Q1 F H b Z->(∀a∈p,H a=none)->Zh K b Z v r p->Q v Z)->t O H Q
def EvO.d(h:EvO K t Y r)(c:Φ r):Z5 K t Y Φ:=λH0 F O H Q S q=>h H0 F O H Q S λg Z v p x f b=>q g Z v p r c x f b
def Z5.o(h:Z5 K t Y (λb=>b=r)):EvO K t Y r:=λH0 F O H Q S q=>h H0 F O H Q S λg Z v p b e x f c=>by subst e;exact q g Z v p x f c
def Jb(h:Z5 K te Y Φ)(hn:∀r,Φ r->CH.nx (Y.set i<|some r)):QB K (Z9 te<|ZM i) Y CH:=λF0 H0 F O H k x S C=>
 h H0 F O H _ S λd Z v p r A b g y=>by
  refine C.nx d _ Z _ (x.trans b) ((S.ext b).set y (λa f=>x.hh.free<|g a f) (hn:=λa f j w s q X W c=>aA S.fp λn L l D=>At (L j s X) λe m P=>?_)) (hn r A);intro B;rw[W]at m;cases m;exact(D j a<|WA (P.ext b) c a B).2 (g a f)
def Nr(h:Z5 K te Y Φ)(f:∀r,Φ r->CH.rt r):QB K (Ys te) Y CH:=λF0 H0 F O H m x S C=>
 h H0 F O H _ S λj Z v p r e b g c=>C.rt j Z v r p (x.trans b) (λa i=>x.hh.free<|g a i) c (f r e)
def Nh(e:zg Y i<|zo v Φ)(b:CH.rt (.own v Φ)):QB K (Ys<|Q3 i) Y CH:=λF0 H0 F O H m x S C=>by
 exact aA S.fp λs h _ f=>At (h i _ e) λu j g=>#[_,j,C.rt F H u _ _ x (λa c=>(f i a c).1) g b]
def WH(r:OT):Prop := ∀(K:W.Frag) (F b H:Hp) (v:V) (p:Qg),(∀a∈p,b a=none)->Zh K F H v r p->Zh K b H v r p
def Rep.thin{w:V}(r:Rep F v d)(h:ZN d=some w):Rep F' v d:=by
 cases r<;>simp[ZN]at h
 .exact .non
 .exact .bl _
 .exact .int _
 .exact .str _
def JJ{w:V}(h:ZN d=some w):WH (.fz d):=λK F c H v p _ b=>#[b.1,b.2.thin h]
def D1(h:W0 ds):WH (.ol ds):=λK F j H v p c b=>by
 apply aY b;rintro a rfl rfl i xs g f;exact#[a,rfl,rfl,c a Xb,xs,g,f.flats h]
def KN(kvs:Yi):Prop := ∀x∈kvs,∃w,ZN x.2=some w
theorem PairD.flats{F c:Hp}:∀{xs:List (List Key×V)} {kvs:Yi},KN kvs->PairD F xs kvs->PairD c xs kvs
 |_,_,_,.nil=>.nil
 |_,_,h,.cons r t=>by
  obtain⟨w,e⟩:=h _ Xb;exact .cons (r.thin e) (t.flats λx b=>h x<|Xh _ b)
def Zrp(h:KN kvs):WH (.own v<|VV kvs):=λK F j H u p c b=>by
 apply ac b;rintro e a xs rfl rfl i g f;exact#[e,a,xs,rfl,rfl,c a Xb,g,f.flats h]
def LK{Ψ:ZP}(i:Nat)(e:zg Y i<|zo v Φ0)(hz:∀{F c H:Hp} {u:V} {p:Qg},Φ0.ok K F H u p->Q6 F c->(∀b∈p,c b=H b)->Ψ.ok K c u)
(y:∀r,Φ r->WH r)(h:Z5 K t (Y.set i<|zz Ψ) Φ):Z5 K t Y Φ:=λH0 F O H Q S q=>by
 refine At (S.freezeZ e hz) λp w A=>h H0 _ O H Q A λc Z u j r s x g m=>q _ Z u j r s (JC (λa f=>#[(w a f).1,(w a f).2.1]) x) g (y r s K c _ Z u j (λa f=>?_) m)
 by_cases z:a∈p
 .rw[Xe z]
 .rw[Xd z];exact(m.there a f).1
def R3(i:Nat)(e:zg Y i<|zo v<|Zt P w C N)(f:∀r,Φ r->WH r)(h:Z5 K t (Y.set i<|zz<|Vm P w C N) Φ):Z5 K t Y Φ:=
 LK i e (λa b c=>Zt.fz a b c) f h
def Zor(i:Nat)(e:zg Y i<|zo v<|Zt P w C N)(c:ZN d=some u)(h:Qr K t (Y.set i<|zz<|Vm P w C N) d):Qr K t Y d:=
 EvO.e (Z5.o<|R3 i e (λr b=>by subst b;exact JJ c)<|h.o.d rfl)
section
variable {tb ty:TE}{N:QF}{k:List Key}
def Q7.netz(S:Q7 K H0 F Y O H)(e:zg Y i<|zz<|Vm P w C N):∃a L el r l d xs ys,O[i]?=some (some<|.ref a)/\NetFz P w C N F a L el r l d xs ys:=by
 apply At S.fp;intro f h _;apply aQ (h i _ e);rintro v c _ a⟨L,el,r,l,d,xs,ys,rfl,b⟩;exact#[a,L,el,r,l,d,xs,ys,c,b]
def NB(c:NetC K C)(e:zg Y i<|zz<|Vm P w C N){k m:Int}(D:Qr K tb Y (.int k))(B:atI (N.rooms.map PyData.int) k=some (.int m)):Qr K (tOp (rIx K) (Ve K (Q3 i) "rooms") tb) Y (.int m):=λH0 F O H Q S q=>by
 apply ae (S.netz e);rintro a L X r l d xs ys⟨M,f⟩;refine#[_,M,a,C,L,_,.ref r,rfl,S.sub _ _ f.ins,c.cl,c.rooms,rfl,D H0 F O H _ S λW U y b A=>?_];cases A;exact At f.rooms λj v s=>At (Gj (s.mono b.ff) B) λz h g=>.inl #[r,j,k,z,rfl,rfl,SqL.of<|b.fh _ _<|b.ff _ _ v,h,q W U z b g]
def TW(c:NetC K C)(e:zg Y i<|zz<|Vm P w C N){k:Int}(D:Qr K tb Y (.int k))(B:atI (N.ends.map Ze) k=some n):Qr K (tOp (rIx K) (Ve K (Q3 i) "ends") tb) Y n:=λH0 F O H Q S q=>by
 apply ae (S.netz e);rintro a L g r l d xs ys⟨M,f⟩;refine#[_,M,a,C,L,_,.ref g,rfl,S.sub _ _ f.ins,c.cl,c.ends,rfl,D H0 F O H _ S λW U y b A=>?_];cases A;exact At f.ends λm v s=>At (Gj (s.mono b.ff) B) λz j h=>.inl #[g,m,k,z,rfl,rfl,SqL.of<|b.fh _ _<|b.ff _ _ v,j,q W U z b h]
def OO(c:NetC K C)(e:zg Y i<|zz<|Vm P w C N)(W:Qr K ty Y (Ze k)):Qr K (PK (Ve K (Q3 i) "leaving") ty<|Wc QJ) Y (.list<|((QX N.leav k).getD []).map PyData.int):=λH0 F O H Q S q=>by
 apply ae (S.netz e);rintro a L E r l d xs ys⟨o,g⟩;refine#[_,o,a,C,L,_,.ref l,rfl,S.sub _ _ g.ins,c.cl,c.leav,rfl,l,rfl,.inr #[xs,Rd.of<|S.sub _ _ g.leav.1],W H0 F O H _ S λv U y s D=>#[XJ _,λp X=>?_]];apply At (Je D);rintro b rfl n;have m:Q1 v U (upd v p<|.lst []) _:=Q1.new (S.ext s).sub X;have f:=s.trans m;refine#[ZC xs k,VP.t (f.fh _ _ (f.ff _ _ g.leav.1)) (m.fh _ _ (m.ff _ _ n)),?_];rcases g.leav.2.val k with ⟨j,h⟩|⟨G,z,x,j,h,B,A⟩
 .rw[j];exact q _ _ _ f (by rw[h];exact .lst Q8 .nil)
 .rw[j];exact q _ _ _ f (by rw[h];exact .lst (f.ff _ _ B)<|A.mono f.ff)
def OL(c:NetC K C)(e:zg Y i<|zz<|Vm P w C N){k1 k2:List Key}(m:Qr K ty Y (.tuple [Ze k1,Ze k2]))(hn:Vi N.laid (k1,k2)=some n):Qr K (Pg P w (Ve K (Q3 i) "laid") ty) Y (.int n):=λH0 F O H Q S q=>by
 apply ae (S.netz e);rintro a L M r l d xs ys⟨A,g⟩;refine#[_,A,a,C,L,_,.ref d,rfl,S.sub _ _ g.ins,c.cl,c.laid,rfl,m H0 F O H _ S λD B y f k=>?_];apply At (Nz k);rintro b rfl s;have j:=S.ext f;have h:=g.laid.2.mono f.ff;exact#[d,b,ys,_,.int n,rfl,rfl,f.fh _ _<|f.ff _ _ g.laid.1,h.at j.sub,s.mono λW z v=>j.sub _ _ v,by rw[h.val,hn];rfl,q D B _ f<|.int n]
def Zo6(c:NetC K C){k1 k2:List Key}(m:Qr K ty Y (.tuple [Ze k1,Ze k2]))(e:zg Y i<|zz<|Vm P w C N):Qr K (Tu P w ty<|Ve K (Q3 i) "laid") Y (.bool<|!(Vi N.laid (k1,k2)).isSome):=λH0 F O H Q S q=>
 m H0 F O H _ S λD B y h k=>by
  have f:=S.ext h;apply ae (f.netz e);rintro a L M r l d xs ys⟨A,g⟩;apply At (Nz k);rintro b rfl s;refine#[_,A,a,C,L,_,.ref d,rfl,f.sub _ _ g.ins,c.cl,c.laid,rfl,d,b,ys,_,rfl,rfl,f.sub _ _ g.laid.1,g.laid.2.at f.sub,s.mono λW z v=>f.sub _ _ v,q D B _ h ?_];rw[g.laid.2.val,U4];exact .bl _
def Q7.dctz(S:Q7 K H0 F Y O H)(e:zg Y i<|zz<|G1 kvs):∃a xs,O[i]?=some (some<|.ref a)/\F a=some (.dT xs)/\PairD F xs kvs:=by
 apply At S.fp;intro g h _;apply af (h i _ e);rintro v f _ a xs rfl c b;exact#[a,xs,f,c,b]
def TC(e:zg Y i<|zz<|G1 kvs)(w:Qr K ty Y (Ze k))(A:Y4 kvs k=some d):Qr K (Dc (Q3 i) ty) Y d:=λH0 F O H Q S q=>by
 refine KE (S.dctz e) λa xs h _=>#[_,h,w H0 F O H _ S λL U y f v=>?_];apply aF ((S.ext f).dctz e);intro N s c D C;rw[h]at c;cases c;apply At (Je v);rintro b rfl B;rcases C.val k with ⟨_,z⟩|⟨x,M,m,g,j⟩
 .grind
 .rw[A]at g;cases g;exact#[a,x,rfl,m▸VP.t (f.fh _ _ D) (f.fh _ _ B),q L U x f j]
def AH(g:Qr K ty Y (Ze k))(e:zg Y i<|zz<|G1 kvs):Qr K (MW ty<|Q3 i) Y (.bool (Y4 kvs k).isSome):=λH0 F O H Q S q=>
 g H0 F O H _ S λv U y c f=>by
  apply aF ((S.ext c).dctz e);intro a xs s m j;apply At (Je f);rintro b rfl h;exact#[_,s,a,_,rfl,VP.t (c.fh _ _ m)<|c.fh _ _ h,q v U _ c<|by rw[Rz j];exact .bl _]
end
end L2
namespace L2
inductive SpD(K:W.Frag)(R:List OT->(OT->Prop)->Prop)(vs:List V)(H:Hp)(Q:VK):Prop
 |mk (F:Hp)(ts:List OT)(Φ:OT->Prop)(kt:KTs K F)(sm:Q6 F H)(ha:Args K F vs ts)(hR:R ts Φ)(k:∀F' Z v p r,Φ r->Q1 F H F' Z->(∀a∈p,H a=none)->Zh K F' Z v r p->Q v Z):SpD K R vs H Q
def Zm(K:W.Frag)(R:List OT->(OT->Prop)->Prop):Sp:=λb H Q _=>SpD K R b H Q
def MO(K:W.Frag)(t:TA)(Y:Zbv)(Φ:List OT->Prop):Prop := ∀(H0 F:Hp) (O:St) (H:Hp) (Q:List V->Hp->Prop),Q7 K H0 F Y O H->(∀c Z b ts,Φ ts->Q1 F H c Z->Args K c b ts->Q b Z)->t O H Q
def JA(h:Z0 K t Y ts)(s:R ts Φ):Z5 K (ZS (Zm K R) [] hi t) Y Φ:=λH0 F O H Q S q=>
 h H0 F O H _ S λA U B b f=>#[A,ts,Φ,(S.ext b).kt,b.fh,by rw[Xx];exact f,s,λy w v p r i c j g=>q y w v p r i (b.trans c) (λa m=>b.hh.free<|j a m) g]
def Jz(h:Z0 K t Y ts)(c:Φ ts):MO K t Y Φ:=λH0 F O H Q S q=>h H0 F O H Q S λf Z b x r=>q f Z b ts c x r
def Ae(h:Z5 K ta Y Φ)(E:∀r,Φ r->∃ds,r=.ol ds/\Φ' [.fz<|.list ds]):MO K (QE ta QJ) Y Φ':=λH0 F O H Q S q=>
 h H0 F O H _ S λs U v p r j x m i=>by
  apply At (E r j);rintro ds rfl b;apply aY i;rintro a rfl rfl c xs g f;exact q _ U [.ref a] _ b (x.freeze c g<|m a Xb) (.fz (.lst Q8<|f.mono<|Q6.new c) .nil)
section
variable {N:QF}
def NoF(m:Str):Prop := ∀e r l d:Addr,([("ends",V.ref e),("rooms",V.ref r),("leaving",V.ref l),("laid",V.ref d)]:List (Str×V)).lookup m=none
def N4(D:NoF m)(e:zg Y i<|zz<|Vm P w C N)(h:Z0 K t Y ts)(W:R (.zow (Vm P w C N)::ts) Φ):
 Z5 K (ZQ C m (Zm K R) [] hi (Q3 i) t) Y Φ:=λH0 F O H Q S q=>by
 apply ae (S.netz e);rintro a L X r l d xs ys⟨k,g⟩;refine#[_,k,a,L,_,rfl,S.sub _ _ g.ins,D _ _ _ _,h H0 F O H _ S λu U x c s=>#[u,_,Φ,(S.ext c).kt,c.fh,.zow (Ψ:=Vm P w C N) #[a,L,X,r,l,d,xs,ys,rfl,g.mono c.ff]<|by rw[Xx];exact s,W,λo n v p y A j B f=>q o n v p y A (c.trans j) (λb M=>c.hh.free<|B b M) f]]
def OY(G:NoF m)(J:Z5 K ta Y Φ1)(hz:∀r,Φ1 r->∃v N,r=.own v (Zt P w C N)/\∃c,R (.zow (Vm P w C N)::ts) c/\∀r,c r->Φ r)
(h:Z0 K t Y ts):Z5 K (ZQ C m (Zm K R) [] hi ta t) Y Φ:=λH0 F O H Q S q=>
 J H0 F O H _ S λX U v p r u j x s=>by
  apply KE (hz r u);rintro v0 N rfl⟨c,I,E⟩;obtain⟨rfl,s⟩:=s;have M:Q6 X (frF X U p):=Jl λa g=>((λa g=>(Zt P w C N).there s a g) a g).1
  have f:Q1 F H _ U:=#[j.hh,j.ff.trans M,Nm j.fh,λa g=>by
   by_cases z:a∈p
   .exact .inr (x a z)
   .rw[Ut z]at g;exact j.fr a g]
  apply aU s;rintro a L T r l d xs ys as rfl rfl o;exact#[a,L,_,rfl,o.ins.2,G _ _ _ _,h H0 _ O U _ (S.ext f) λF2 H2 vs i k=>#[F2,_,c,(S.ext<|f.trans i).kt,i.fh,.zow (Ψ:=Vm P w C N) #[a,L,T,r,l,d,xs,ys,rfl,(o.fz M (λb D=>Wy D)).mono i.ff]<|by rw[Xx];exact k,I,λF3 Z v n W A e B y=>q F3 Z v n W (E W A) ((f.trans i).trans e) (λb D=>(f.trans i).hh.free (B b D)) y]]
structure ExtN(p:Qg)(F H F' Z:Hp):Prop where
 hh:∀b o,b∉p->H b=some o->Z b=some o
 ff:Q6 F F'
 fh:Q6 F' Z
 fr:∀b,F' b≠none->F b≠none\/H b=none\/b∈p
inductive SpN(K:W.Frag)(P:Program)(w:World)(C:Addr)(R:QF->List OT->(QF->Prop)->Prop)(vs:List V)(H:Hp)(Q:VK):Prop
 |mk (F:Hp)(a:Addr)(vs':List V)(p:Qg)(ts:List OT)(N:QF)(Ψ:QF->Prop)(e:vs=.ref a::vs')(kt:KTs K F)(sm:Q6 F H)(ha:Args K F vs' ts)(ok:(Zt P w C N).ok K F H (.ref a) p)(hR:R N ts Ψ)
  (k:∀F' Z p' N',Ψ N'->ExtN p F H F' Z->(Zt P w C N').ok K F' Z (.ref a) p'->(∀b∈p',b∈p\/H b=none)->Q .non Z):SpN K P w C R vs H Q
def spN(K:W.Frag)(P:Program)(w:World)(C:Addr)(R:QF->List OT->(QF->Prop)->Prop):Sp:=λb H Q _=>SpN K P w C R b H Q
def Y0{W:Type}{Φ:W->OwnP}{N:W}{F H:Hp}{O:St}(S:Q7 K H0 F Y O H)(x:Q1 F0 H0 F H)(e:zg Y i<|zo v<|Φ N):
 ∃p,O[i]?=some (some v)/\(Φ N).ok K F H v p/\∀g Z h y,ExtN p F H g Z->(Φ y).ok K g Z v h->(∀b∈h,b∈p\/H b=none)->
  Q1 F0 H0 g Z/\Q7 K H0 g (Y.set i<|zo v<|Φ y) O Z/\∀(q:Qg),(∀b∈q,(b∈p\/H b=none)/\b∉h)->(∀b∈q,H0 b=none)/\∀b∈q,∀(j:Nat) (u:V) (t':OT) (A:Qg),(Y.set i<|zo v<|Φ y)[j]?=some (some t')->O[j]?=some (some u)->Zh K g Z u t' A->b∉A:=by
 apply aD (S.chg e);rintro u p a⟨rfl,d⟩M k;refine#[p,a,d,λg Z h y f s C=>?_];obtain⟨r,n⟩:=k g Z (.own _ _) h f.ff f.fh (λb l c=>by
  obtain⟨o,X⟩:=Mq c;rw[f.hh b o l X,X]) f.fr #[rfl,s] (λb c=>(C b c).imp id λz=>#[z,x.hh.free z])
 refine#[#[λb o c=>f.hh b o (λz=>by rw[(M b z).1]at c;cases c)<|x.hh b o c,x.ff.trans f.ff,f.fh,λb c=>?_],r,λq L=>#[λb c=>(L b c).1.elim (λz=>(M b z).1) λz=>x.hh.free z,λb c j u t' A B D m w=>?_]]
 .rcases f.fr b c with z|z|z
  .exact x.fr b z
  .exact .inr (x.hh.free z)
  .exact .inr (M b z).1
 .by_cases P:j=i
  .subst P;rw[Xk (Xc.mp e).1]at B;cases B;rw[a]at D;cases D;exact(L b c).2 ((Φ y).uniq s m.2 b w)
  .rw[Xp<|Ne.symm P]at B;have z:=n j u t' A P B D m b w;exact(L b c).1.elim z.1 z.2
def FU{f:Type}{Φ:f->OwnP}{N:f}{s:Qh}{vs:List V}{F H:Hp}{c:V}{p:Qg}(w:KTs K F)(v:Q6 F H)(m:Args K F vs ts)(g:(Φ N).ok K F H c p):
 Q7 K (λb=>if b∈p then none else H b) F (zr s<|(.own c<|Φ N)::ts) (start s (c::vs)) H:=
 NU (ts:=.own c (Φ N)::ts) (λ|0=>p|_=>[]) w v (XS Nat.succ m.length) (λ|0,t,e=>by cases e;exact#[c,rfl,rfl,g]|i+1,t,e=>m.get i t e) (λ|0,0,_,_,_=>rfl|0,_+1,_,_,h=>(nomatch h)|_+1,_,_,h,_=>(nomatch h)) (λ|0,b,j=>⟨Xe j,((Φ N).there g b j).2⟩|_+1,_,h=>(nomatch h))
def L4{Ψ:QF->Prop}(S:Q7 K H0 F Y O H)(x:Q1 F0 H0 F H)(e:zg Y i<|zo v<|Zt P w C N)(hn:∀c,Ψ c->CH.nx (Y.set i<|zo v<|Zt P w C c))(D:Cnv K F0 H0 CH hi):
 ∃a p,v=.ref a/\(Zt P w C N).ok K F H (.ref a) p/\∀f Z g c,Ψ c->ExtN p F H f Z->(Zt P w C c).ok K f Z (.ref a) g->(∀b∈g,b∈p\/H b=none)->hi.nx O Z:=by
 apply aA (Y0 S x e);intro p _ m k;apply ae (id m);rintro a _ _ _ _ _ _ _⟨_,rfl,_⟩;exact#[a,p,rfl,m,λf Z g c A s j h=>I0 (k f Z g c s j h) λy B _=>D.nx f O Z _ y B (hn c A)]
def Uw(D:NoF m)(e:zg Y i<|zo v<|Zt P w C N)(W:MO K t Y ΦA)
(M:∀ts,ΦA ts->∃Ψ,R N ts Ψ/\∀h,Ψ h->CH.nx (Y.set i<|zo v<|Zt P w C h)):QB K (VB<|ZQ C m (spN K P w C R) [] E' (Q3 i) t) Y CH:=λF0 H0 F O H q x S o=>by
 apply aa (S.net e);rintro a L u r l d xs ys z rfl k y _;refine#[_,k,a,L,_,rfl,y.ins.2,D _ _ _ _,W H0 F O H _ S λn U j ts A b s=>At (M ts A) λΨ f B=>aF (L4 (S.ext b) (x.trans b) e B o) λE p X c g=>?_];cases X;exact#[n,a,j++[],p,ts,N,Ψ,rfl,(S.ext b).kt,b.fh,by rw[Xx];exact s,c,f,g]
def Lr(e:zg Y i<|zo v<|Zt P w C N)(B:MO K t Y ΦA)
(A:∀ts,ΦA ts->∃Ψ,R N ts Ψ/\∀h,Ψ h->CH.nx (Y.set i<|zo v<|Zt P w C h)):QB K (VB<|ZS (spN K P w C R) [] E'<|QE (Q3 i) t) Y CH:=λF0 H0 F O H n x S X=>by
 apply aa (S.net e);rintro a L o r l d xs ys q rfl M k _;refine#[_,M,B H0 F O H _ S λW U j ts s b m=>At (A ts s) λΨ f y=>aF (L4 (S.ext b) (x.trans b) e y X) λu p D c g=>?_];cases D;exact#[W,a,j++[],p,ts,N,Ψ,rfl,(S.ext b).kt,b.fh,by rw[Xx];exact m,c,f,g]
def spI(P:Program)(w:World)(C:Addr):Sp:=λc H Q _=>∃x L,c=[.ref x]/\H x=some (.ins C L [])/\∀e r l d Z,H e=none->H r=none->H l=none->H d=none->[x,e,r,l,d].Nodup->
 Z x=some (.ins C L [("ends",.ref e),("rooms",.ref r),("leaving",.ref l),("laid",.ref d)])->Z e=some (.lst [])->Z r=some (.lst [])->Z l=some (.dT [])->Z d=some (pdO P w d [])->(∀b,b∉[x,e,r,l,d]->Z b=H b)->Q .non Z
def Io:EvX K (GM C (spI P w C) [] hi QJ) Y (Zt P w C #[[],[],[],[]]):=λH0 F O H Q S q=>λx L y m v=>by
 refine#[x,L,rfl,Q8,λe r l d Z I E G J D h1 h2 h3 U T k=>#[rfl,?_]];have s:∀{b:Addr},upd (upd H L<|.own x) x (.ins C L []) b=none->H b=none/\b≠x/\b≠L:=λ{b} f=>by
  have N:b≠x:=λz=>by rw[z,Q8]at f;cases f
  rw[Qs N]at f;have M:b≠L:=λz=>by rw[z,Q8]at f;cases f
  rw[Qs M]at f;exact#[f,N,M]
 refine I0 (s I) λp e2 n=>I0 (s E) λB r2 A=>I0 (s G) λX l2 W=>I0 (s J) λu d2 t=>?_;have j:Z L=some (.own x):=by
  rw[k L<|by simp only[Xf,X5,or_false,not_or];exact#[v,Ne.symm n,Ne.symm A,Ne.symm W,Ne.symm t],Qs v,Q8]
 have a:∀b o,H b=some o->Z b=some o:=λb o f=>by
  have g:∀{c:Addr},H c=none->b≠c:=λR z=>by rw[z,R]at f;cases f
  rw[k b<|by simp only[Xf,X5,or_false,not_or];exact#[g y,g p,g B,g X,g u],Qs<|g y,Qs<|g m];exact f
 have i:∀{b:Addr},H b=none->F b=none:=λf=>S.sub.free f;refine q F Z (.ref x) [x,L,e,r,l,d] #[a,Q6.refl _,λb o f=>a b o<|S.sub b o f,λ_ h=>.inl h] (λb f=>?_) #[x,L,e,r,l,d,[],[],[],rfl,rfl,?_,#[i y,h1],#[i m,j],#[i p,[],h2,.nil],#[i B,[],h3,.nil],#[i X,U,.nil],#[i u,T,.nil]]
 .grind
 .simp only[Xu,Xf,X5,or_false,not_or]at D ⊢;apply aJ D;rintro⟨a1,a2,a3,a4⟩b1 c1 f1;exact#[#[Ne.symm v,a1,a2,a3,a4],#[Ne.symm n,Ne.symm A,Ne.symm W,Ne.symm t],b1,c1,f1]
end
section
variable {base:Heap}
def Fun.evD{x:Str}{st:Stmt}{f:Addr}{N:Qh}{k:Nat}{R:List OT->(OT->Prop)->Prop}(F:Fun K x qual st f fd)(S:Qo N ps (QG st))(g:∀ts Φ,R ts Φ->ts.length=ps.length)
(m:∀ts Φ,R ts Φ->∀H b,B0 P w K mg base N qual st k f H b λt=>QB K t (ini N ts) { nx:=λ_=>Φ<|.fz .none,rt:=Φ }):FnOk P w K mg base CX0 (k+1) f fd ps (Zm K R):=by
 refine F.ok S (by rintro D H Q b ⟨F,ts,Φ,_,_,h,i,_⟩;exact h.length.trans<|g ts Φ i) ?_;rintro D H Q b ⟨F,ts,Φ,W,B,h,i,q⟩ j A outer s X;exact At (m ts Φ i H b j A outer s X) λt d a=>#[t,d,a F H F _ H _ (Q1.refl B) (Bs W B h) #[λy C Z J c _ e=>q y Z _ [] _ e c (by rintro _ ⟨⟩) #[rfl,.non],λy Z v L p c Y M e=>q y Z v p L e c Y M,λ_ _ _ _ _ _ z=>False.elim z,λ_ _ _ _ _ _ z=>False.elim z]]
def Fun.evN{x:Str}{st:Stmt}{f:Addr}{N:Qh}{k:Nat}{R:QF->List OT->(QF->Prop)->Prop}(F:Fun K x qual st f fd)(S:Qo N ps (QG st))(B:∀M ts Ψ,R M ts Ψ->ts.length+1=ps.length)
(X:∀v M ts Ψ,R M ts Ψ->∀H i,B0 P w K mg base N qual st k f H i λt=>QB K t (ini N (.own v (Zt P w C M)::ts)) { nx:=λJ=>∃j,Ψ j/\J[0]?=some (zo v<|Zt P w C j),rt:=λ_=>False }):
 FnOk P w K mg base CX0 (k+1) f fd ps (spN K P w C R):=by
 refine F.ok S (by rintro E H Q i ⟨F,a,m,p,ts,M,Ψ,e,_,_,D,_,L,_⟩;rw[e,WG,D.length];exact B _ _ _ L) ?_;rintro E H Q i ⟨F,a,m,p,ts,M,Ψ,rfl,G,Y,D,d,L,q⟩ W A outer s I;apply At (X (.ref a) M ts Ψ L H i W A outer s I);intro t U T;have l:∀b,(λb=>if b∈p then none else H b:Hp) b=none->b∈p\/H b=none:=λb c=>by
  by_cases z:b∈p
  .exact .inl z
  .simp only[Xd z]at c;exact .inr c
 refine#[t,U,T F _ F _ H _ #[λb o c=>?_,Q6.refl _,Y,λ_ h=>.inl h] (FU G Y D d)
  #[λn r Z J g S' ⟨j,O,e0⟩=>?_,λn Z v r' p g hp d e=>False.elim e,λ_ _ _ _ _ _ z=>False.elim z,λ_ _ _ _ _ _ z=>False.elim z]]
 .grind
 .apply aA S'.fp;intro fp g1 g2 g3;apply aA (g1 0 _ e0);rintro u u1 rfl y;refine q n Z (fp 0) j O #[λb o nb c=>g.hh b o<|#[],g.ff,g.fh,λb c=>?_] y (λb c=>l b (g3 0 b c).1);rcases g.fr b c with z|z
  .exact .inl z
  .exact .inr ((l b z).symm)
structure Mf(K:W.Frag)(C:Addr)(m qual:Str)(st:Stmt)(ps:Qh):Prop where
 ex:∃f fd,Fun K m qual st f fd/\Meth K C m f/\Vp K fd ps []
def Z8(P:Program)(w:World)(K:W.Frag)(mg:Str->Qf)(base:Heap)(C:Addr)(m:Str)(ps:Qh)(k:Nat)(sp:Sp):Prop:=
 ∃f fd,Meth K C m f/\Vp K fd ps []/\FnOk P w K mg base CX0 k f fd ps sp
def Mf.go{b:CXT}{st:Stmt}{k:Nat}(CH:Mf K C m qual st ps)(h:∀f fd,Fun K m qual st f fd->FnOk P w K mg base b k f fd ps sp):∃f fd,Meth K C m f/\Vp K fd ps []/\FnOk P w K mg base b k f fd ps sp:=by
 exact aF CH.ex λf fd F c g=>#[f,fd,c,g,h f fd F]
def Mf.evD{st:Stmt}{N:Qh}{k:Nat}{R:List OT->(OT->Prop)->Prop}(CH:Mf K C m qual st ps)(S:Qo N ps (QG st))
(c:∀f ts Φ,R ts Φ->∀H g,B0 P w K mg base N qual st k f H g λt=>QB K t (ini N ts) { nx:=λ_=>Φ<|.fz .none,rt:=Φ })(b:∀ts Φ,R ts Φ->ts.length=ps.length:=by intro _ _ h;cases h<;>rfl):Z8 P w K mg base C m ps (k+1) (Zm K R):=CH.go λf _ F=>F.evD S b (c f)
def Mf.evN{st:Stmt}{N:Qh}{k:Nat}{R:QF->List OT->(QF->Prop)->Prop}(CH:Mf K C m qual st ps)(S:Qo N ps (QG st))
(c:∀f v M ts Ψ,R M ts Ψ->∀H i,B0 P w K mg base N qual st k f H i λt=>QB K t (ini N (.own v (Zt P w C M)::ts)) { nx:=λJ=>∃g,Ψ g/\J[0]?=some (zo v<|Zt P w C g),rt:=λ_=>False })(b:∀M ts Ψ,R M ts Ψ->ts.length+1=ps.length:=by intro _ _ _ h;cases h<;>rfl):Z8 P w K mg base C m ps (k+1) (spN K P w C R):=CH.go λf _ F=>F.evN S b (c f)
def Df.evD{x:Str}{st:Stmt}{N:Qh}{k:Nat}{R:List OT->(OT->Prop)->Prop}(CH:Df K mg x st ps)(S:Qo N ps (QG st))
(c:∀f ts Φ,R ts Φ->∀H g,B0 P w K mg base N x st k f H g λt=>QB K t (ini N ts) { nx:=λ_=>Φ<|.fz .none,rt:=Φ })(b:∀ts Φ,R ts Φ->ts.length=ps.length:=by intro _ _ h;cases h<;>rfl):QC P w K mg base x ps (k+1) (Zm K R):=CH.go λf _ F=>F.evD S b (c f)
def Df.evN{x:Str}{st:Stmt}{N:Qh}{k:Nat}{R:QF->List OT->(QF->Prop)->Prop}(CH:Df K mg x st ps)(S:Qo N ps (QG st))
(c:∀f v M ts Ψ,R M ts Ψ->∀H i,B0 P w K mg base N x st k f H i λt=>QB K t (ini N (.own v (Zt P w C M)::ts)) { nx:=λJ=>∃g,Ψ g/\J[0]?=some (zo v<|Zt P w C g),rt:=λ_=>False })(b:∀M ts Ψ,R M ts Ψ->ts.length+1=ps.length:=by intro _ _ _ h;cases h<;>rfl):QC P w K mg base x ps (k+1) (spN K P w C R):=CH.go λf _ F=>F.evN S b (c f)
def HR(P:Program)(w:World)(K:W.Frag)(mg:Str->Qf)(base:Heap)(x:Str)(C:Addr)(k:Nat):Prop:=
 ∃f fd,Mk K C f/\mg x=some (.ref C)/\Vp K fd Zak []/\FnOk P w K mg base CX0 k f fd Zak (spI P w C)
end
def YW  {o e:Expr}  {t:TA}{k:Nat}{g:Sem Bool}(M:Z8 X.prog X.w X.K X.mg X.base C m ps j sp)(c:NetC X.K C)(i:Room k X.A)(he:PE X o ta)(y:PA X (e::es) t)(v:j<=k:=by walk_at"j")
(b:zs X e es:=by rfl)(hpl:zb X pos es:=by rfl)
(h:eval (.Call (.Attribute o m T1) (e::es) [] pos) X.env=(do
  let ov <- eval o X.env
  standAt T1.atName
  let (f,first) <- holding [ov] (getMethod ov m g)
  callWith pos f first (backTo pos<|starEach (e::es) X.env)<|backToKw pos<|keywordEach [] X.env):=by rfl):
 PE X (.Call (.Attribute o m T1) (e::es) [] pos) (ZQ C m sp [] E0 ta t):=by
 exact aF M λf fd s w F=>TD he c.cl s F (i.mono v) w .nil GE y b hpl h
def Oa{x:Str}{p:Pos}{k:Nat}(M:HR X.prog X.w X.K X.mg X.base x C j)(c:Room k X.A)(h:j+1<=k:=by walk_at"j")(i:Gl X x:=by rfl)(b:(x==("__debug__" : Str))=false:=by decide +kernel):
 PE X (.Call (.Name x p) [] [] pos) (GM C (spI X.prog X.w C) [] E0 QJ):=by
 exact aD M λf fd M g m F=>ZrQ M F (c.mono h) i g m .nil GE b
end L2
namespace Mir
open PySem L2
def nk:Nd->List Key
 |.start=>[.inr "start"]
 |.fin=>[.inr "end"]
 |.guest k=>[.inr "guest",.inl (k:Int)]
 |.line l t=>[.inr "line",.inl (l:Int),.inl (t:Int)]
theorem UR:∀{a b:Nd},nk a=nk b->a=b
 |.start,.start,_=>rfl
 |.fin,.fin,_=>rfl
 |.start,.fin,h=>Xv h (by decide)
 |.fin,.start,h=>Xv h (by decide)
 |.guest a,.guest b,h=>by
  injection h with _ h;injection h with h _;injection h with h;have:a=b:=#[]
  rw[this]
 |.line a b,.line c d,h=>by
  injection h with _ h;injection h with g h;injection h with f _;injection g with g;injection f with f;have j:a=c:=#[]
  have i:b=d:=#[]
  rw[j,i]
 |.start,.guest _,h=>by have q:=XS List.length h;simp[nk]at q
 |.start,.line _ _,h=>by have q:=XS List.length h;simp[nk]at q
 |.fin,.guest _,h=>by have q:=XS List.length h;simp[nk]at q
 |.fin,.line _ _,h=>by have q:=XS List.length h;simp[nk]at q
 |.guest _,.start,h=>by have q:=XS List.length h;simp[nk]at q
 |.guest _,.fin,h=>by have q:=XS List.length h;simp[nk]at q
 |.guest _,.line _ _,h=>by have q:=XS List.length h;simp[nk]at q
 |.line _ _,.start,h=>by have q:=XS List.length h;simp[nk]at q
 |.line _ _,.fin,h=>by have q:=XS List.length h;simp[nk]at q
 |.line _ _,.guest _,h=>by have q:=XS List.length h;simp[nk]at q
def A6{b:Nd}:nk a=nk b↔a=b:=#[UR,λh=>by rw[h]]
def GC:Option Nat->PyData
 |none=>.none
 |some e=>.int (e:Int)
def kvG(es:Got Nd):Yi:=es.map λx=>(nk x.1,GC x.2)
theorem NT(n:Nd):∀es:Got Nd,Y4 (kvG es) (nk n)=(Ud es n).map GC
 |[]=>rfl
 |(k,v)::es=>by
  have b:=NT n es;unfold Ud at b ⊢;rw[XU];unfold kvG Y4 at b ⊢;rw[XI,List.find?_cons];by_cases e:k=n
  .subst e;simp
  .have f:¬nk k=nk n:=λz=>e (UR z)
   have c:(n==k)=false:=by rw[beq_eq_false_iff_ne];exact λz=>e z.symm
   rw[c];simp only[f,decide_false];exact b
def Zmw{es:Got Nd}:(es.lookup n).isSome=decide (n∈Zd es):=by
 induction es with
 |nil=>rfl
 |cons p es b=>
  obtain⟨k,v⟩:=p;rw[XU];by_cases e:n=k
  .subst e;simp[Zd]
  .have c:(n==k)=false:=by rw[beq_eq_false_iff_ne];exact e
   rw[c];have:decide (n∈Zd ((k,v)::es))=decide (n∈Zd es):=by
    apply decide_eq_decide.mpr;unfold Zd;rw[XI,Xf];exact#[λz=>z.resolve_left e,.inr]
   exact this▸b
def Md(n:Nd)(es:Got Nd):(Y4 (kvG es)<|nk n).isSome=decide (n∈Zd es):=by
 rw[NT,U4];exact Zmw
def Zr9(es:Got Nd):KN (kvG es):=λx b=>by
 apply At (XH.mp b);rintro y _ rfl;cases h:y.2 with
 |none=>exact#[.non,by simp[h,GC,ZN]]
 |some e=>exact#[.int<|e,by simp[h,GC,ZN]]
def ZrT{es:Got Nd}{e:Nat}(h:n∉Zd es):BK (kvG es) (nk n) (.int (e:Int))=kvG (es++[(n,some e)]):=by
 unfold BK;have:¬((kvG es).any λb=>decide (b.1=nk n))=true:=λz=>by
  apply At (List.any_eq_true.mp z);intro x g c;apply At (XH.mp g);rintro y f rfl;exact h (by exact ((UR (XX c)))▸(XH.mpr #[y,f,rfl]))
 rw[Xd this];unfold kvG;rw[XL];rfl
structure NetR(N:QF)(dx:Lay Nd)(φ:Zs Nd):Prop where
 ends:N.ends=(WS dx).map nk
 rooms:N.rooms=Yp dx φ
 leav:∀(n:Nd) (e:Int),e∈(QX N.leav<|nk n).getD [] ↔ ∃j:Nat,e=(j:Int)/\tlE dx j=some n
 laid:∀(i:Nat) (x:Nd×Nd×Int),dx[i]?=some x->Vi N.laid (nk x.1,nk x.2.1)=some ((2*i:Nat):Int)
 laid0:∀p q:Nd,(p,q)∉dx.map (λx=>(x.1,x.2.1))->Vi N.laid (nk p,nk q)=none
 l1:N.leav.length<=2*dx.length
 l2:N.laid.length<=dx.length
 l3:∀k ns,QX N.leav k=some ns->ns.length<=2*dx.length
theorem C2(φ:Zs Nd):NetR #[[],[],[],[]] [] φ where
 ends:=rfl
 rooms:=rfl
 leav n e:=by
  constructor
  .intro h;simp[QX]at h
  .rintro⟨j,_,h⟩;simp[tlE]at h
 laid i x h:=by simp at h
 laid0 p q _:=rfl
 l1:=XJ _
 l2:=XJ _
 l3 k ns h:=by simp[QX]at h
def Jg : QX ((k',ns)::ls) k=if k'=k then some ns else QX ls k:=by
 by_cases e:k'=k
 .simp[QX, e]
 .simp[QX, e]
theorem Lj(k k':List Key)(x:Int):∀ls:List (List Key×Ql),QX (Yl ls k x) k'=if k'=k then (QX ls k).map (· ++ [x]) else QX ls k'
 |[]=>by
  unfold Yl;by_cases e:k'=k
  . simp[QX]
  .rw[Xd e]
 |(j,f)::ls=>by
  unfold Yl
  by_cases e:j=k
  .rw[Xe e,Jg,Jg,Jg,Xe e]
   by_cases b:k'=k
   .simp_all
   .rw[Xd b,Xd λz=>b<|z.symm.trans e,Xd λz=>b<|z.symm.trans e]
  .rw[Xd e,Jg,Jg,Jg,Xd e,Lj k k' x ls]
   by_cases b:k'=k
   .simp_all
   .simp_all
theorem DC(k:List Key)(x:Int):∀ls:List (List Key×Ql),(Yl ls k x).length=ls.length
 |[]=>rfl
 |(j,b)::ls=>by
  unfold Yl;split
  .simp
  .simp[DC k x ls]
theorem FX(k k':List Key):∀ls:List (List Key×Ql),QX ls k=none->QX (ls++[(k,[])]) k'=if k'=k then some [] else QX ls k'
 |[],_=>by
  rw[ME,Jg];by_cases e:k'=k
  .rw[Xe e,Xe e.symm]
  .rw[Xd e,Xd λz=>e z.symm]
 |(j,b)::ls,h=>by
  rw[Jg]at h;by_cases e:j=k
  .grind
  .rw[Xd e]at h;rw[BD,Jg,Jg,FX k k' ls h];by_cases c:k'=k
   .simp_all
   .simp_all
def N6(ls:List (List Key×Ql))(k k':List Key):QX (Yt ls k) k'=if k'=k then some ((QX ls k).getD []) else QX ls k':=by
 unfold Yt;cases h:QX ls k with
 |some b=>
  simp_all
 |none=>
  rw[Xd<|by simp,FX k k' ls h];rfl
def Na(ls:List (List Key×Ql))(k:List Key):(Yt ls k).length<=ls.length+1:=by
 unfold Yt;split
 .lia
 .simp
def G4(N:QF)(s e:List Key)(r:Int):QF:={ N with ends:=N.ends++[e],rooms:=N.rooms++[r],leav:=Yl (Yt N.leav s) s (N.ends.length:Int) }
def GA(N:QF)(s e:List Key)(r:Int):QF:=G4 (G4 { N with laid:=YL N.laid (s,e) (N.ends.length:Int) } s e r) e s 0
def Bt(N:QF)(s e:List Key)(r:Int)(k:List Key):QX (G4 N s e r).leav k=if k=s then some ((QX N.leav s).getD []++[(N.ends.length:Int)]) else QX N.leav k:=by
 show QX (Yl _ s _) k=_;rw[Lj,N6, N6];simp_all
def Ji : Vi ((k',n)::ls) k=if k'=k then some n else Vi ls k:=by
 by_cases e:k'=k
 .simp[Vi, e]
 .simp[Vi, e]
theorem L6(k k':KK)(n:Int):∀ls:List (KK×Int),Vi (ls.map λx=>if x.1=k then (x.1,n) else x) k'=if k'=k then (Vi ls k).map λ_=>n else Vi ls k'
 |[]=>by
  by_cases e:k'=k
  .rw[Xe e];rfl
  .rw[Xd e];rfl
 |(j,m)::ls=>by
  rw[XI];have c:=L6 k k' n ls
  by_cases e:j=k
  .simp only[e,if_true];rw[Ji,Ji,Ji,c];by_cases b:k'=k
   .simp[b]
   .have:¬k=k':=λz=>b z.symm
    simp[b,this]
  .simp only[e,if_false];rw[Ji,Ji,Ji,c];by_cases b:k'=k
   .simp[b,e]
   .simp[b]
theorem LY(k k':KK)(n:Int):∀ls:List (KK×Int),Vi ls k=none->Vi (ls++[(k,n)]) k'=if k'=k then some n else Vi ls k'
 |[],_=>by
  rw[ME,Ji];by_cases e:k'=k
  .rw[Xe e,Xe e.symm]
  .rw[Xd e,Xd λz=>e z.symm]
 |(j,m)::ls,h=>by
  rw[Ji]at h;by_cases e:j=k
  .grind
  .rw[Xd e]at h;rw[BD,Ji,Ji,LY k k' n ls h];by_cases b:k'=k
   .simp_all
   .simp_all
def LU(ls:List (KK×Int))(k k':KK)(n:Int):Vi (YL ls k n) k'=if k'=k then some n else Vi ls k':=by
 unfold YL;cases h:Vi ls k with
 |some m=>rw[Xe<|by rfl,L6,h];rfl
 |none=>rw[Xd<|by simp,LY k k' n ls h]
def OE(ls:List (KK×Int))(k:KK)(n:Int):(YL ls k n).length<=ls.length+1:=by
 unfold YL;split
 .simp
 .simp
def FA{c:Type}[DecidableEq c](b:Lay c):(WS b).length=2*b.length:=by
 unfold WS;induction b with
 |nil=>rfl
 |cons x b f=>rw[List.flatMap_cons,Xn,f];simp;lia
def NetR.elen(h:NetR N dx φ):N.ends.length=2*dx.length:=by rw[h.ends,Xj,FA]
def Ru{c:Type}[DecidableEq c](b:Lay c)(φ:Zs c):(Yp b φ).length=2*b.length:=by
 unfold Yp;induction b with
 |nil=>rfl
 |cons x b f=>rw[List.flatMap_cons,Xn,f];simp;lia
def DJ{x:Nd×Nd×Int} : tlE (dx++[x]) j=some n↔tlE dx j=some n\/(j=2*dx.length/\n=x.1)\/(j=2*dx.length+1/\n=x.2.1):=by
 unfold tlE;by_cases h:j/2<dx.length
 .rw[U6 h];constructor
  .exact .inl
  .rintro(z|⟨z,_⟩|⟨z,_⟩)
   .exact z
   .lia
   .lia
 .rw[Gu<|#[],HI.mpr (show dx.length<=j/2 by lia)]
  by_cases b:j/2=dx.length
  .rw[b,BB];simp only[List.getElem?_cons_zero,Wn, Option.some.injEq];by_cases p:j%2=0
   .rw[Xe p];constructor
    .exact λz=>.inr (.inl #[#[],z.symm])
    .rintro(z|⟨_,z⟩|⟨z,_⟩)
     .cases z
     .exact z.symm
     .lia
   .rw[Xd p];constructor
    .exact λz=>.inr (.inr #[#[],z.symm])
    .rintro(z|⟨z,_⟩|⟨_,z⟩)
     .cases z
     .lia
     .exact z.symm
  .have:([x])[j/2-dx.length]?=none:=HI.mpr (by simp;lia);rw[this];constructor
   .simp_all
   .rintro(z|⟨z,_⟩|⟨z,_⟩)
    .cases z
    .lia
    .lia
theorem OI(h:NetR N dx φ){s:Nd}(h0:φ s e=0)(new:(s,e)∉dx.map (λx=>(x.1,x.2.1))):NetR (GA N (nk s) (nk e) r) (dx++[(s,e,r)]) φ where
 ends:=by
  show(N.ends++[nk e])++[nk s]=_
  unfold WS;rw[MG,XL,h.ends];simp[WS]
 rooms:=by
  show(N.rooms++[r])++[0]=_
  rw[ h.rooms];simp[Yp,h0]
 leav n e':=by
  have l1:(G4 { N with laid:=YL N.laid (nk s,nk e) (N.ends.length) } (nk s) (nk e) r).ends.length=2*dx.length+1:=by
   show(N.ends++[nk e]).length=_
   rw[Xn,h.elen];rfl
  have q:(QX (GA N (nk s) (nk e) r).leav (nk n)).getD []=((QX N.leav<|nk n).getD []++(if n=s then [((2*dx.length:Nat):Int)] else []))++(if n=e then [((2*dx.length+1:Nat):Int)] else []):=by
   unfold GA;rw[Bt,l1,Bt,Bt];rw[h.elen];simp only[A6];by_cases B:n=e
   .subst B
    by_cases c:n=s
    .subst c;simp
    .simp[c]
   .by_cases c:n=s
    .subst c;simp[B]
    .simp[B,c]
  rw[q,Xz,Xz,h.leav n e'];constructor
  .rintro((⟨j,rfl,y⟩|z)|z)
   .exact#[j,rfl,DJ.mpr<|.inl y]
   .by_cases c:n=s
    .rw[Xe c]at z;exact#[2*dx.length,Xi.mp z,DJ.mpr<|.inr<|.inl #[rfl,c]]
    .rw[Xd c]at z;cases z
   .by_cases c:n=e
    .rw[Xe c]at z;exact#[2*dx.length+1,Xi.mp z,DJ.mpr<|.inr<|.inr #[rfl,c]]
    .rw[Xd c]at z;cases z
  .rintro⟨j,rfl,y⟩;rcases DJ.mp y with z|⟨rfl,z⟩|⟨rfl,z⟩
   .exact .inl (.inl #[j,rfl,z])
   .exact .inl (.inr<|by rw[Xe z];exact Xi.mpr rfl)
   .exact .inr (by rw[Xe z];exact Xi.mpr rfl)
 laid i x hx:=by
  show Vi (YL N.laid (nk s,nk e)<|N.ends.length) (nk x.1,nk x.2.1)=_;rw[LU,h.elen];by_cases E:i<dx.length
  .rw[U6 E]at hx;have ne:¬(nk x.1,nk x.2.1)=(nk s,nk e):=λz=>new (by
    injection z with w v;exact XH.mpr #[x,List.mem_of_getElem? hx,by rw[UR w,UR v]])
   rw[Xd ne];exact h.laid i x hx
  .rw[Gu<|#[]]at hx;have A:i=dx.length:=by
    have:=(Xc.mp hx).1;simp at this;lia
   subst A;rw[BB]at hx;cases hx;rw[Xe rfl]
 laid0 p q hn:=by
  show Vi (YL N.laid (nk s,nk e)<|N.ends.length) (nk p,nk q)=_;rw[XL,Xz,not_or]at hn;rw[LU,Xd λz=>?_]
  .exact h.laid0 p q hn.1
  .injection z with w v;exact hn.2 (by rw[UR w,UR v];simp)
 l1:=by
  have a:=h.l1;have b:(GA N (nk s) (nk e) r).leav.length<=N.leav.length+2:=by
   show(Yl (Yt (Yl (Yt N.leav<|nk s) (nk s) _)<|nk e) (nk e) _).length<=_
   rw[DC];refine X4 (Na _ _) ?_;rw[DC];have:=Na N.leav (nk s);lia
  simp;lia
 l2:=by
  have a:=h.l2;have b:(GA N (nk s) (nk e) r).laid.length<=N.laid.length+1:=OE _ _ _;simp;lia
 l3 k ns hk:=by
  have g:∀f,((QX N.leav f).getD []).length<=2*dx.length:=λf=>by
   cases z:QX N.leav f with
   |none=>exact XJ _
   |some m=>exact h.l3 f m z
  have D:∀f,((QX (G4 { N with laid:=YL N.laid (nk s,nk e) (N.ends.length) } (nk s) (nk e) r).leav f).getD []).length<=2*dx.length+1:=λf=>by
   rw[Bt];by_cases z:f=nk s
   .rw[Xe z];have:=g (nk s);simpa using this
   .rw[Xd z];have:=g f;lia
  unfold GA at hk;rw[Bt]at hk;by_cases z:k=nk e
  .rw[Xe z]at hk;cases hk;have:=D (nk e);simp at this ⊢;lia
  .rw[Xd z]at hk;have:=D k;rw[hk]at this;simp at this ⊢;lia
def Zoo{b:Lay Nd}(W:Dis b){φ:Zs Nd}{a r s:Int}{e:Nat}(c:(Yp b φ)[e]?=some r)(g:(Yp b φ)[Zhq e]?=some s):Yp b (YD b a φ e)=((Yp b φ).set e (r-a)).set (Zhq e) (s+a):=by
 have v:Zhq e/2=e/2:=by unfold Zhq;split<;>lia
 rw[Bn]at c g;unfold rmE at c g;rw[v]at g;cases f:b[e/2]? with
 |none=>rw[f]at c;cases c
 |some x=>
  rw[f]at c g;simp only[Wn,Option.some.injEq]at c g;have P:YD b a φ e=Yj φ x.1 x.2.1 (if e%2=0 then a else -a):=by unfold YD;rw[f]
  have A:Yj φ x.1 x.2.1 (if e%2=0 then a else -a) x.1 x.2.1=φ x.1 x.2.1+(if e%2=0 then a else -a):=by unfold Yj;rw[Xe #[rfl,rfl]]
  have d:=(Xc.mp f).1;have Y:=Ru b φ;have j:e<(Yp b φ).length:=#[]
  refine List.ext_getElem? λi=>?_;rw[Bn,List.getElem?_set,List.getElem?_set,Bn,P];by_cases h:Zhq e=i
  .subst h;rw[Xe rfl,Xe (show Zhq e<((Yp b φ).set e (r-a)).length by simpa using #[])];unfold rmE;rw[v,f];simp only[Wn,Option.some.injEq];rw[A];have D:(Zhq e%2=0)=¬(e%2=0):=by
    unfold Zhq;split<;>lia
   by_cases p:e%2=0
   .simp_all
   .have K:Zhq e%2=0:=by rw[D];exact p
    rw[Xe K]at g ⊢;rw[Xd p];lia
  .rw[Xd h]
   by_cases w:e=i
   .subst w;rw[Xe rfl,Xe j];unfold rmE;rw[f];simp only[Wn,Option.some.injEq];rw[A];by_cases p:e%2=0
    .rw[Xe p]at c ⊢;rw[Xe p];lia
    .rw[Xd p]at c ⊢;rw[Xd p];lia
   .rw[Xd w];unfold rmE;cases X:b[i/2]? with
    |none=>rfl
    |some y=>
     have L:¬(y.1=x.1/\y.2.1=x.2.1):=λ⟨C,B⟩=>by
      have q:=KZ W X f C B;unfold Zhq at h;split at h<;>lia
     have m:Yj φ x.1 x.2.1 (if e%2=0 then a else -a) y.1 y.2.1=φ y.1 y.2.1:=by unfold Yj;rw[Xd L]
     simp only[Wn,m]
def U8(b:Lay Nd)(φ:Zs Nd)(es:Got Nd)(c:List Nd):Prop := ∀e m n r,tlE b e=some m->hdE b e=some n->rmE b φ e=some r->0<r->m∈Zd es->m∉c->n∈Zd es
def U8.closed{es:Got Nd}(h:U8 dx φ es []):Y6 dx φ es:=λe m n r i g f c b=>h e m n r i g f c b (by rintro⟨⟩)
def U1{es:Got Nd}{x:Nd×Option Nat}:n∈Zd (es++[x])↔n∈Zd es\/n=x.1:=by
 unfold Zd;simp
def U8.add{es:Got Nd}{c V:List Nd}(h:U8 dx φ es (c++V))(n:Nd)(o:Option Nat):U8 dx φ (es++[(n,o)]) (c++(V++[n])):=λe m k r v s j i g b=>by
 rw[<- BG,Xz,not_or]at b
 rcases U1.mp g with z|z
 .exact U1.mpr (.inl<|h e m k r v s j i z b.1)
 .exact Xv z (λz=>b.2 (by simp[z]))
theorem Tree.inClosed{g:Lay Nd}{φ:Zs Nd}{s:Nd}{c:Got Nd}(b:Y6 g φ c)(hs:s∈Zd c):∀{es:Got Nd},Tree g φ s es->∀n∈Zd es,n∈Zd c
 |_,.root,n,f=>by
  have e:=by simpa [Zd] using f
  simp_all
 |_,.add t f v i m j w,n,h=>by
  rcases U1.mp h with z|z
  .exact t.inClosed b hs n z
  .rw[z];exact b _ _ _ _ i v j w (t.inClosed b hs _ m)
end Mir
namespace L2
theorem Cu{F f H:Hp}:∀{as:Qg} {X3:List (Qd)},(∀ds∈X3,W0 ds)->(∀a∈as,f a=none)->ZL F H as X3->ZL f H as X3
 |[],[],_,_,_=>trivial
 |a::as,ds::X3,h,c,o=>by
  obtain⟨⟨_,xs,s,m⟩,g⟩:=o;exact#[#[c a Xb,xs,s,m.flats<|h ds Xb],Cu (λd i=>h d<|Xh _ i) (λb j=>c b<|Xh _ j) g]
 |[],_::_,_,_,o=>False.elim o
 |_::_,[],_,_,o=>False.elim o
def Ol(h:∀ds∈X3,W0 ds):WH (.oll X3):=λK F y H v p c f=>by
 apply aP f;rintro a s rfl rfl m w j i;exact#[a,s,rfl,rfl,m,c a Xb,j,Cu h (λb g=>c b<|Xh _ g) i]
end L2
namespace L2
section
variable {hi:Qb}{d:Drawn}{t:Nat}{os:OsState}
variable {q:Str}{N:Addr}{bs:Qe}{sub:Qe}
abbrev PY(C a:Addr):Obj:={ cls:=.ref C,data:=.fields (List.toArray [.ref a,.none,.none,.none,.bool false,.none]) }
abbrev AT(vs:Qe):Obj:={ cls:=.type "tuple",data:=.seq vs.toArray }
def Wp(h:Heap)(C:Addr)(vs:Qe):Heap:=(h.push<|AT vs).push (PY C h.objs.size)
def Ii(F:ExcBaseFacts Xa6 newId initId L1)(T:OwnTail h L1 bm){rest:Qe}{f:Addr}
(j:h.get? C=some (excClassObj nm q C N bs bm SF sn sub ab col dd k0 k1 k2 k3 k5 newId))(hn:h.Ns N mN)
(E:mN "__init__"=some (.ref f))(L:h.get? f=some fo)(M:fo.cls=.type "function")(c:rest.length<=sizeLine)
(K:wpAny (model prog w) A (call (.ref f) (.ref (h.objs.size+1)::rest)) (λr B=>r=.none/\Q (.done<|.ret<|.ref<|h.objs.size+1) B) hi #[Wp h C rest,g,d,t,os]):
 wpAny (model prog w) A (Builtin.«type.__call__» #[.ref C::rest,[]]) Q hi #[h,g,d,t,os]:=by
 have m:∀b o,h.get? b=some o->(Wp h C rest).get? b=some o:=λb o e=>Xg _ (Xg _ e)
 repeat (first
  |with_reducible refine wpAny_loadPart_at j ?_
  |with_reducible refine wpAny_madeBy_exc j ?_
  |wp_step)
 refine codeAny_call_builtin_code (Code.quiet_builtin _ F.quiet)
  (wpAny_check_new_subT F T j ?_)
 refine codeAny_exc_new_subT F T j ?_ c;show wpAny _ _ _ _ _ #[Wp h C rest,g,d,t,os];have D:(Wp h C rest).get? _=some _:=HL (by rw[Jq]) rfl;have i:=m _ _ j;have s:(Value.ref C::bm).contains (.ref C)=true:=by simp
 repeat (first
  |with_reducible refine wpAny_loadPart_at D ?_
  |(with_reducible refine wpAny_isSubtype_exc i ?_;rw[s])
  |wp_step)
 refine wpAny_typeLookup_tail i (hn.keeps m) (T.keeps m) F.mroIs F.init.lookup ?_;rw[E];refine wpAny_holding (Xa<|wpAny_bindSpecial_def (m _ _ L) M (Xa (wpAny_mono K (λr B v=>?_) λ_ _ z=>z)));obtain⟨rfl,v⟩:=v
 wp_walk
 exact v
def A4(F:ExcBaseFacts Xa6 newId initId L1)(T:OwnTail h L1 bm){rest:Qe}{f:Addr}
(c:h.get? C=some (excClassObj nm q C N bs bm SF sn sub ab col dd k0 k1 k2 k3 k5 newId))(hn:h.Ns N mN)
(E:mN "__init__"=some (.ref f))(j:h.get? f=some fo)(m:fo.cls=.type "function")(b:rest.length<=sizeLine)
(B:wpAny (model prog w) (A.under<|.builtin "type.__call__" #[.ref C::rest,[]]) (call (.ref f) (.ref (h.objs.size+1)::rest)) (λr i=>r=.none/\Q (.ref<|h.objs.size+1) i) hi #[Wp h C rest,g,d,t,os]):
 wpAny (model prog w) A (call (.ref C) rest) Q hi #[h,g,d,t,os]:=by
 have y:=tc_lookup;have v:=tc_bind (.ref C);have s:(#[h,g,d,t,os]:Shared).TypeIs (.ref C) "type" := #[_,c,rfl];refine wpAny_call (codeAny_of_tree ?_)
 repeat (any_goals (first
  |assumption
  |with_reducible refine wpAny_loadPart_at c ?_
  |wp_step))
 refine#[rfl,codeAny_call_builtin_at (Code.quiet_builtin _<|by decide +kernel) entry_typeCall (wpAny_check_type_call_sub c (Ii F T c hn E j m b ?_))];simp_all
end
end L2
namespace L2
def phX(C e:Addr)(b:Qj):Heap->Prop:=λh=>∃(t:Addr) (c:Array (Qf)),h.get? e=some { cls:=.ref C,dict:=b,data:=.fields (List.toArray [.ref t,.none,.none,.none,.bool false,.none]),slots:=c }
def Dw(p:phX C e dct h):ZZ P w H h e (.ext<|phX C e dct):=#[p,by exact aN p λt b q=>#[_,q],λg f c k=>by exact aN c λt b q=>#[t,b,k _ q]]
section
variable {hi:Qb}{d:Drawn}{t:Nat}{os:OsState}
variable {q:Str}{N:Addr}{bs:Qe}{sub:Qe}
def An(F:ExcBaseFacts Xa6 newId initId L1)(T:OwnTail h L1 bm){v:Value}
(i:h.get? C=some (excClassObj nm q C N bs bm SF sn sub ab col dd k0 k1 k2 k3 k5 newId))
(he:h.get? e=some { cls:=.ref C,dict:=dct,data:=.fields (List.toArray [.ref a,.none,.none,.none,.bool false,.none]),slots:=sl })
(c:∀h',(∀b o,b≠e->h.get? b=some o->h'.get? b=some o)->phX C e dct h'->Q .none #[h',g,d,t,os]):
 wpAny (model prog w) A (call (.builtin initId) [.ref e,v]) Q hi #[h,g,d,t,os]:=by
 refine wpAny_call (codeAny_call_builtin F.init.plain F.initEntry<|wpAny_check_init_subT F T i he rfl ?_)
 wp_walk using AutoSeq1.wpAny_loadPart' he
 refine c _ (λb o f z=>?_) #[h.objs.size,sl,?_]
 .rw[XT _ _<|Ne.symm f];exact Xg _ z
 .rw[Jt _ (Xg _ he) rfl];rfl
end
structure U7(K:W.Frag)(ρ C f:Addr):Prop where
 ga:W.specialIn K (.ref ρ) "__getattribute__"=some (some<|.builtin "type.__getattribute__")
 rd:W.readsIn K ρ (.type "type")=true
 ini:W.findCls K (.ref ρ) (.type "type") "__init__"=some (.val<|.builtin "ValueError.__init__")
 cls:∀h:Heap,K.In h->∃(L1 bm:Qe) (nm q:Str) (N:Addr) (bs:Qe) (SF:Bool) (sn:Qh) (sub:Qe) (ab:Bool) (col:Option Bool) (dd:Qj) (k0 k1 k2 k3 k5:Qf),
  ExcBaseFacts "ValueError" "ValueError.__new__" "ValueError.__init__" L1/\OwnTail h L1 bm/\h.get? C=some (excClassObj nm q C N bs bm SF sn sub ab col dd k0 k1 k2 k3 k5 "ValueError.__new__")/\
  ∃(mN:Str->Qf) (fo:Obj),h.Ns N mN/\mN "__init__"=some (.ref f)/\h.get? f=some fo/\fo.cls=.type "function"
def tXI(C:Addr)(i:Nat):TE:=λO H Q=>∃e b,O[i]?=some (some<|.ref e)/\H e=some (.ext<|phX C e b)/\Q .non H
def LC{f:Addr}(c:U7 X.K ρ C f){x y:Str}{K D w v j:Pos}{g:Str}{A:Nat}(Z:Gl X x)(S:X.mg x=some (.ref ρ))(hN:X.N[i]?=some y)(J:Vis X.env.scope y)
(L:(x==("__debug__" : Str))=false:=by decide)(hd:(y==("__debug__" : Str))=false:=by decide)(M:(y==("__classdict__" : Str))=false:=by decide){t:Sem Bool}
(R:eval (.Call (.Attribute (.Name x K) "__init__" D) [.Name y w,.Constant (.str g) A v] [] j) X.env=(do
  let ov <- eval (.Name x K) X.env
  standAt D.atName
  let (f,first) <- holding [ov] (getMethod ov "__init__" t)
  callWith j f first (backTo j<|starEach [.Name y w,.Constant (.str g) A v] X.env)<|backToKw j<|keywordEach [] X.env):=by rfl):
 PE X (.Call (.Attribute (.Name x K) "__init__" D) [.Name y w,.Constant (.str g) A v] [] j) (tXI C i):=by
 refine λB s O H Q I h=>aF h λe Y e1 P q=>W.methodCall_KW (J7 I Z S (W.method_cls I.kIn c.ga (W.cls_value I.kIn c.rd c.ini rfl (PyProof.Rows.callWith_builtin1 (QD ((Qu (PJ hN J hd M) (Qu Vd Qq)) j B _ O H (λd U=>d=[.ref e,.str g]/\U=H) (I.tok (s.toks+1)) #[_,e1,rfl,rfl]) ?_) rfl rfl))) L) R;rintro us o ⟨d,U,a,r,ev,eH⟩;subst ev eH;cases r with
 |cons p r=>
 cases r with
 |cons r2 r=>
 cases r;cases p;apply I0 (a.hok e _ P);rintro⟨ta,sl,he⟩_ _;apply ag (c.cls _ a.kIn);rintro L1 bm nm qn N bs SF sn n ab col dd k0 k1 k2 k3 k5⟨F,T,hC,_⟩;refine An F T hC he λh' E k=>?_;have u:Mut (U e):=by rw[P];trivial
 have eu:upd U e (.ext<|phX C e Y)=U:=by
  funext b
  by_cases l:b=e
  .subst l;simp[upd,P]
  .simp[upd,l]
 exact#[.non,U,(eu▸(a.write (t':=o.toks) u Qa E (by exact aN k λ_ _ z=>#[_,z]) (Dw k))),rfl,q]
end L2
namespace L2
def WZ:Qe->Bool
 |.ref _::r=>WZ r
 |l=>l==[.type "ValueError",.type "Exception",.type "BaseException",.type "object"]
theorem Fu(b:Value):∀{l:Qe},WZ l=true->refuseLoop b "__setattr__" l=pure ()
 |.ref c::r,e=>by rw[refuseLoop_ref];exact Fu b (by simpa [WZ] using e)
 |[],e=>by cases e
 |.type n::r,e=>by rw[show _=_ from beq_iff_eq.mp e];exact PySem.F.store_ValueError.passes b
theorem Tj:∀{l:Qe},WZ l=true->l.contains (.type "object")=true
 |.ref c::r,e=>by rw[List.contains_cons,Tj<|by simpa [WZ] using e,Bool.or_true]
 |[],e=>by cases e
 |.type n::r,e=>by rw[show _=_ from beq_iff_eq.mp e];decide
section
open PySem.W
variable {R:Result->Shared->Prop}{K:Frag}{x:Addr}
def A0{v:Value}(X:K.In s.heap)(I:W.InstAt s.heap x ox C od)(M:((clsIn K C).any λcd=>WZ cd.mro)=true)(L:takerIn K C name=some r)
(h:∀b,wpAny (model prog w) A.in1 (match r with|some a=>Builtin.ObjectAttr.setByDescriptor a (.ref x) v|none=>Builtin.ObjectAttr.storeInOwnDict (.ref x) (.ref C) (.str name tk) name v b)
  (λfin i=>match fin with|.done f=>R (.ok f) i|.again c'=>c'.quiet=true/\codeAny (model prog w) A c' R i) (λe i=>R (.error e) i) s):
 codeAny (model prog w) A (.call (.builtin "object.__setattr__") #[[.ref x,.str name tk,v],[]]) R s:=by
 have g:=PySem.F.store_object;apply At (any_some M);intro cd B j;have D:cd.mro.isEmpty=false:=by cases q:cd.mro with|nil=>rw[q]at j;cases j|cons _ _=>rfl
 refine codeAny_call_builtin g.slot.plain g.entry (@check_slot _ _ _ s "object.__setattr__" "object" "__setattr__" _ [.str name tk,v] [] _ g.kind g.split (I.type.andThen (looks_mroIn X<|by unfold mroIn;rw[B,Option.bind_some,Xd<|by rw[D];decide,Tj j])) (g.args _ _ v) ?_);apply At (Option.bind_eq_some_iff.mp L);intro c d y;have P:Looks (model prog w) s.heap (mroOf<|.ref C) cd.mro:=(looks_clsIn X B).andThen .now;have k:Looks (model prog w) s.heap (Builtin.ObjectAttr.storeTaker? c) r:=by
  cases c with
  |none=>cases y;exact .now
  |some a=>
   apply At (Option.map_eq_some_iff.mp y);rintro b Y rfl;refine(looks_takesIn X Y).andThen ?_;cases b<;>exact .now
 rw[osa_eq,refuse_eq];refine Xa (Xa<|I.type.here<|Xa<|P.here ?_);rw[Fu _ j];exact Xl (Xa<|I.type.here<|Xa<|(looks_findIn X d).here (Xa<|k.here (h _)))
def C6{v:Value}(X:K.In s.heap)
(hs:findIn K (.ref C) "__setattr__"=some (some<|.builtin "object.__setattr__"))(a:((clsIn K C).any λcd=>WZ cd.mro)=true)(Y:takerIn K C name=some none)(d:hasDictIn K C=true)
(hx:s.heap.get? x=some { cls:=.ref C,dict:=none,data:=.fields fs,slots:=sl })
(h:∀h' t',(∀b o,b≠x->s.heap.get? b=some o->h'.get? b=some o)->h'.get? x=some { cls:=.ref C,dict:=some s.heap.objs.size,data:=.fields fs,slots:=sl }->
  h'.Ns1 s.heap.objs.size (λy=>if y=name then some v else none)->Q () { s with heap:=h',toks:=t' }):
 wpAny (model prog w) A (setAttr (.ref x) name v) Q hi s:=by
 have c:W.InstAt s.heap x _ C none:=#[hx,rfl,rfl,trivial];refine W.set_plain X c hs (A0 X c a Y λb=>At (W.any_some d) λcd l D=>Xa (Xl<|Xa<|Xa<|wpAny_loadPart hx<|Xa<|W.Looks.here (W.looks_clsIn X l) ?_));rw[D];have f:=XF (Xo hx);dsimp only;refine Xa (wpAny_alloc' (Xa (wpAny_update' (Xg _ hx) (Xl ?_))));have m:((s.heap.push { cls:=.type "dict",data:=.dict (List.toArray []) }).update x λo=>{ cls:=o.cls,dict:=some s.heap.objs.size,data:=o.data,slots:=o.slots }).get? s.heap.objs.size
  = some { cls:=.type "dict",data:=.dict (List.toArray []) }:=
  (Heap.get?_update_ne _ _ _ _ f.symm).trans (HL rfl rfl)
 have j:((s.heap.push { cls:=.type "dict",data:=.dict (List.toArray []) }).update x λo=>{ cls:=o.cls,dict:=some s.heap.objs.size,data:=o.data,slots:=o.slots }).Ns s.heap.objs.size (λ_=>none):=
  #[_,(List.toArray []),_,m,rfl,λe k=>Xv k<|by simp,λ_=>rfl]
 exact Xa (Xl<|Xa<|wpAny_nsSet1 (Heap.Ns1.of_empty j) λh' g hs=>aB (g.count (Within.cons name v Within.nil)) λr n p i B L=>Xa (wpAny_lookBehind i (by rw[B];exact pastItsLine_dict<|X4 L<|by simp) (Xl (h _ _ (λb q M P=>((hs.2 b<|XF<|Xo P).trans ((Heap.get?_update_ne _ _ _ _ M).trans (Xg _ P)))) ((hs.2 x f).trans (Jt _ (Xg _ hx) rfl)) g))))
end
end L2
namespace L2
structure S7(K:W.Frag)(C:Addr):Prop where
 sa:W.findIn K (.ref C) "__setattr__"=some (some<|.builtin "object.__setattr__")
 ov:((W.clsIn K C).any λcd=>WZ cd.mro)=true
 hd:W.hasDictIn K C=true
def sXF(C:Addr)(ta tv:TE)(f:Str):TS:=λCH O H=>tv O H λy U=>ta O U λx b=>∃e,x=.ref e/\b e=some (.ext<|phX C e none)/\
 ∀L,b L=none->L≠e->CH.nx O (upd (upd b e<|.ext<|phX C e<|some L) L<|.xd [(f,y)])
section
variable {o value:Expr}
def Lc(c:S7 X.K C)(r:W.takerIn X.K C f=some none)(G:PE X o ta)(w:PE X value tv)(hs:swapsWith value (some<|.Attribute o f pos') pos.line X.env=pure false):PS X (.Assign [.Attribute o f pos'] value pos) (sXF C ta tv f):=by
 refine λB s O H CH I h=>plainObj_wpAny_Assign_Attribute (QD (w B s O H _ I h) ?_) hs;rintro u Y ⟨y,U,N,a,q⟩;refine QD (G B Y O U _ N q) ?_;rintro S R ⟨x,Q,b,d,e,rfl,M,k⟩;obtain rfl:=d;apply I0 (b.hok e _ M);rintro⟨ta,P,L⟩_ _;refine C6 b.kIn c.sa c.ov r c.hd L λh' t' n K E=>?_;have l:Mut (Q e):=by rw[M];trivial
 have i:=(XF<|Xo L).symm;refine#[O,_,(b.write (t':=t') l Qa n #[_,K] (Dw #[ta,P,K])).track (o:=.xd [_]) (by rw[Qs i];exact b.fresh) b.sz (Y3 b.lt) (λz c F m=>?_) (λp t m=>?_) #[_,E,λg=>?_],k _ b.fresh i]
 .obtain⟨v,w⟩:=b.cell z c F;subst m;exact At w λT D _=>Xv (Xo D) (X8 _)
 .have:=(b.pin p t).1;rw[m]at this;exact Xv (Xo this) (X8 _)
 .by_cases A:g=f
  .subst A;simp[List.lookup];exact a
  .rw[Xd A];have:(g==f)=false:=by simpa using A
   simp[List.lookup,this];trivial
end
def MQ(C:Addr)(sp:Sp)(c:XK)(t:TA):TE:=λO H Q=>t O H λb U=>b.length<=1000/\∀x,U x=none->
 sp (.ref x::b) (upd U x<|.ext<|phX C x none) (λv f=>v=.non/\Q (.ref x) f) c
section
variable {CX:CXT}{k:Nat}{f:Addr}{hi:XK}{x:Str}{p:Pos}{e:Expr}{t:TA}
def ZpO{O:St}{H:Hp}{Q:VK}{us:Qe}{vs:List V}(c:U7 X.K ρ C f)(F:FnOk X.prog X.w X.K X.mg X.base CX k f fd ps sp)(a:Room (k+1) X.A)(n:Vp X.K fd ps [])
(hx:Y7 CX X hi)(I:Qt X B O H s)(r:QU vs us)(hl:vs.length<=1000)
(h:∀x,H x=none->sp (.ref x::vs) (upd H x<|.ext<|phX C x none) (λv S=>v=.non/\Q (.ref x) S) hi):
 wpAny (model X.prog X.w) X.A (call (.ref C) us) (EP X B O Q) X.xe s:=by
 apply ag (c.cls _ I.kIn);rintro L1 bm nm qn N bs SF sn K ab col dd k0 k1 k2 k3 k5⟨U,T,z,mN,fo,q,E,l,w⟩;have A:=h (s.heap.objs.size+1) (I.hok.fresh<|Gw _);obtain⟨j,g,d,D,os⟩:=s;have Y:∀b o,j.get? b=some o->(Wp j C us).get? b=some o:=λb o e=>Xg _ (Xg _ e);have m:=I.laid (t':=D) Y (Gw _) (Dw #[_,_,HL (by rw[Jq]) rfl]);have y:QU (V.ref (j.objs.size+1)::vs) (Value.ref (j.objs.size+1)::us):=.cons rfl r
 have t:(Value.ref (j.objs.size+1)::us++[]).length=ps.length:=by
  have e:=y.length;rw[F.len _ _ _ _ A]at e;simpa using e.symm
 refine A4 U T z q E l w (by rw[<- r.length,sizeLine_eq];lia)<|wpAny_call (codeAny_mono (F.run _ X.stack _ _ _ (Value.ref (j.objs.size+1)::us) _ _ hi (a.make C us []) (m.env0.make C us []) (by simpa using n _ (Value.ref (j.objs.size+1)::us) m.kIn t) y A) λr L i=>?_);cases r with
 |error e=>exact hx B O _ _ e L m i
 |ok G=>
  cases G with
  |ret u=>
   apply aD (m.after i);intro v Z R M J P;subst J;exact#[M,#[V.ref<|j.objs.size+1,Z,R,rfl,P]]
  |next=>exact False.elim i
  |brk=>exact False.elim i
  |cont=>exact False.elim i
def ZrB(c:U7 X.K ρ C f)(i:W.keepIn X.K (.ref C)=true)(F:FnOk X.prog X.w X.K X.mg X.base CX k f fd ps sp)(j:Room (k+1) X.A)(v:Gl X x)(m:X.mg x=some (.ref C))(w:Vp X.K fd ps [])(hx:Y7 CX X hi)
(y:PA X (e::es) t)(b:(x==("__debug__" : Str))=false:=by decide)(he:zs X e es:=by rfl)(hpl:zb X pos es:=by rfl):
 PE X (.Call (.Name x p) (e::es) [] pos) (MQ C sp hi t):=by
 refine λB s O H Q I h=>wpAny_Call_Name_kw (J7 I v m (W.callWith_K I.ok.mod.kin i (QD (y pos B s O H _ I h) ?_) he hpl) b);rintro D K ⟨A,U,g,r,q⟩;exact#[g.kIn,ZpO c F j w hx g r q.1 q.2]
end
def sXR(C:Addr)(te:TE)(R:Addr->Qj->Hp->Prop):TS:=λCH O H=>te O H λv U=>∃e b,v=.ref e/\U e=some (.ext<|phX C e b)/\R e b U
section
variable {hi:Qb}{env:Env}
variable {q:Str}{N:Addr}{bs:Qe}{sub:Qe}
def TK(m:A.handled=none)
(h:wpAny M A x (λv f=>∃e t c i bm nm q N bs SF sn sub ab col dd k0 k1 k2 k3 k5 newId,v=.ref e/\bm.contains (Value.type "BaseException")=true/\f.heap.get? C=some (excClassObj nm q C N bs bm SF sn sub ab col dd k0 k1 k2 k3 k5 newId)/\
  f.heap.get? e=some { cls:=.ref C,dict:=c,data:=.fields (List.toArray [.ref t,.none,.none,.none,.bool false,.none]),slots:=i }/\hi (.ref e) f) hi s):
 wpAny M A (raiseStmt env (some x) none) Q hi s:=by
 refine Xa (wpAny_mono h (λv f B=>?_) λ_ _ x=>x);apply ag B;rintro e t c i bm nm q N bs SF sn sub ab col dd k0 k1⟨k2,k3,k5,newId,rfl,b,j,w,y⟩;have g:(Value.ref C::bm).contains (.type "BaseException")=true:=by rw[List.contains_cons,b,Bool.or_true]
 repeat (first|with_reducible refine wpAny_loadPart_at w ?_|with_reducible refine wpAny_loadPart_at j ?_|(with_reducible refine wpAny_isSubtype_exc j ?_;rw[g])|wp_step)
 exact wpAny_raiseNew_none m y
end
end L2
namespace L2
section
variable {hi:Qb}
structure Leaves(l:List Env)(e:Addr)(oe:Obj)(h h':Heap)(T:Addr):Prop where
 keep:∀b o,b∉l.filterMap (·.frame)->b≠e->h.get? b=some o->h'.get? b=some o
 slot:∀b o,b∈l.filterMap (·.frame)->h.get? b=some o->∃sl,h'.get? b=some { o with slots:=sl }
 new:h.objs.size<=T
 exc:h'.get? e=some (Obj.mapFields (·.setIfInBounds 1 (Value.ref T)) oe)
 tb:∃oT ts,h'.get? T=some oT/\oT.data=.fields ts/\ts[3]?=some .none
def Ft
(K:A.frames=some (env::outer))(W:s.heap.FunFrames base (env::outer))(u:env.frame=some dx)
(he:s.heap.get? e=some oe)(L:oe.data=.fields vs)(hsz:1<vs.size)
(h:∀h' T,Leaves (env::outer) e oe s.heap h' T->Q () { s with heap:=h' }):
 wpAny M A (do let a <- frameOf env;let g <- entryPlaceOf dx hadNext;let b <- EntryCells.newEntry head a .none (rawInt dx) .none g;setField (.ref e) 1 b) (λ_ p=>wpAny M A (setFlight (.ref e) none) Q hi p) hi s:=by
 have m:e∉(env::outer).filterMap (·.frame):=λt=>by
  apply Do (W.mem t);intro _ o j D;rw[he]at j;injection j with j;subst j;exact D vs L
 refine Xa (wpAny_frameOf_fun K W u λc C=>Xa (wpAny_entryPlaceOf λg y=>Xa (wpAny_newObj_type ?_<|y.sizeOk5 _ _ _ _ _)));have k:=(C.2.1 e m).trans he;have l:=Xg { cls:=.type "traceback",dict:=none,data:=.fields ([head,.ref dx,.none,rawInt dx,.none]++(if g.isEmpty then List.replicate 6 Value.none else g)).toArray } k;refine wpAny_setField l L hsz ?_;have B:=Y3 (Xo k);have d:=Obj.data_mapFields L (·.setIfInBounds 1 (Value.ref c.objs.size));have Y:=Jt (Obj.mapFields (·.setIfInBounds 1 (Value.ref c.objs.size))) l (Obj.isFreed_of_fields d);have X:=(XT (c.push { cls:=.type "traceback",dict:=none,data:=.fields ([head,.ref dx,.none,rawInt dx,.none]++(if g.isEmpty then List.replicate 6 Value.none else g)).toArray })
  (Obj.mapFields (·.setIfInBounds 1 (Value.ref c.objs.size))) (Ne.symm B)).trans (XD c rfl)
 refine Xa (WE Y d (x:=.ref c.objs.size) (by simp[hsz]) (wpAny_setField X rfl (by simp only[Xs,Xn,WG,List.length_nil]<;>lia) (h _ c.objs.size ?_)));have i:∀b o,b≠e->c.get? b=some o->
  (((c.push { cls:=.type "traceback",dict:=none,data:=.fields ([head,.ref dx,.none,rawInt dx,.none]++(if g.isEmpty then List.replicate 6 Value.none else g)).toArray }).update e (Obj.mapFields (·.setIfInBounds 1 (Value.ref c.objs.size)))).update c.objs.size
    (Obj.mapFields (·.setIfInBounds 3 ((none:Qj).elim Value.none λf=>rawInt f)))).get? b=some o:=λb o v w=>by
  rw[XT _ _ (Y3 (Xo w)),XT _ _<|Ne.symm v];exact Xg _ w
 refine#[λb o w v j=>i b o v<|(C.2.1 b w).trans j,λb o w j=>?_,?_,?_,?_]
 .obtain⟨n,r⟩:=C.2.2 b o j;exact#[n,i b _ (λq=>m<|q▸w) r]
 .exact Nat.le_of_eq C.1.symm
 .rw[XT _ _ B];exact Y
 .exact#[_,_,Jt _ X<|Obj.isFreed_of_fields<|Obj.data_mapFields rfl _,Obj.data_mapFields rfl _,by first|(simp;done)|(rcases y with rfl|⟨_,_,_,_,_,_,_,rfl⟩<;>simp)]
def Zm4
(b:A.frames=some (env::outer))(i:s.heap.FunFrames base (env::outer))(c:env.frame=some dx)
(he:s.heap.get? e=some oe)(f:oe.data=.fields vs)(g:vs[1]?=some .none)
(h:∀h' T,Leaves (env::outer) e oe s.heap h' T->Q () { s with heap:=h' }):wpAny M A (leaving env<|.ref e) Q hi s:=by
 unfold leaving noteFrame;simp only[c];exact Xa (Xa<|WE he f g (Ft b i c he f (Array.getElem?_eq_some_iff.mp g).1 h))
def RQ{f:Env}{ts:Array Value}
(K:A.frames=some (f::outer))(k:s.heap.FunFrames base (f::outer))(L:f.frame=some dx)
(he:s.heap.get? e=some oe)(P:oe.data=.fields vs)(W:vs[1]?=some (.ref T0))(l:T0≠e)(hT:s.heap.get? T0=some oT)(g:oT.data=.fields ts)(B:ts[3]?=some .none)
(h:∀h' T,Leaves (f::outer) e oe s.heap h' T->Q () { s with heap:=h' }):wpAny M A (noteFrame (.ref e) f) (λ_ Y=>wpAny M A (setFlight (.ref e) none) Q hi Y) hi s:=by
 unfold noteFrame;simp only[L];refine Xa (WE he P W (Xa (WE hT g B (Xa (wpAny_setField hT g (Array.getElem?_eq_some_iff.mp B).1 ?_)))));have v:=(Array.getElem?_eq_some_iff.mp B).1;have m:Obj.mapFields (·.setIfInBounds 3 Value.none) oT=oT:=by
  obtain⟨c,d,p,n⟩:=oT;subst g;have:ts.setIfInBounds 3 Value.none=ts:=by
   apply Array.ext_getElem?;intro i;rw[Array.getElem?_setIfInBounds];by_cases E:3=i
   .subst E;rw[Xe rfl,Xe v,B]
   .rw[Xd E]
  unfold Obj.mapFields;simp[this]
 have j:∀b o,s.heap.get? b=some o->(s.heap.update T0 _).get? b=some o:=λb o w=>by
  by_cases q:b=T0
  .subst q;rw[hT]at w;cases w;rw[Jt _ hT<|Obj.isFreed_of_fields<|Obj.data_mapFields g _,m]
  .rw[XT _ _<|Ne.symm q];exact w
 refine Ft K (k.of_keeps λb o w a=>#[o,j b o w,rfl]) L (j e _ he) P (Array.getElem?_eq_some_iff.mp W).1 λh' T y=>h h' T ?_
 exact#[λb o D C X=>y.keep b o D C<|j b o X,λb o D C=>y.slot b o D<|j b o C,by have:=y.new;simpa only [Heap.size_update] using this,y.exc,y.tb]
def ZnP{ts:Array Value}
(b:A.frames=some (env::outer))(g:s.heap.FunFrames base (env::outer))(i:env.frame=some dx)
(he:s.heap.get? e=some oe)(j:oe.data=.fields vs)(v:vs[1]?=some (.ref T0))(f:T0≠e)(hT:s.heap.get? T0=some oT)(c:oT.data=.fields ts)(m:ts[3]?=some .none)
(h:∀h' T,Leaves (env::outer) e oe s.heap h' T->Q () { s with heap:=h' }):wpAny M A (leaving env<|.ref e) Q hi s:=Xa (RQ b g i he j v f hT c m h)
end
end L2
namespace L2
def phT(T:Addr):Heap->Prop:=λh=>∃b ts,h.get? T=some b/\b.data=.fields ts/\ts[3]?=some .none
def phF(C e:Addr)(c:Qj)(T:Addr):Heap->Prop:=λh=>∃(b:Array Value) (f:Array (Qf)),h.get? e=some { cls:=.ref C,dict:=c,data:=.fields b,slots:=f }/\b[1]?=some (.ref T)/\b[2]?=some .none
def AA(p:phT T h):ZZ P w H h T (.ext<|phT T):=#[p,by exact KE p λo _ q _=>#[_,q],λf c b k=>by exact KE b λo ts q r=>#[o,ts,k _ q,r]]
def AM(p:phF C e dct T h):ZZ P w H h e (.ext<|phF C e dct T):=#[p,by exact KE p λo _ q _=>#[_,q],λf c b k=>by exact KE b λo ts q r=>#[o,ts,k _ q,r]]
abbrev left(C e:Addr)(dct:Qj)(T:Addr)(H:Hp):Hp:=upd (upd H e<|.ext<|phF C e dct T) T (.ext<|phT T)
section
variable {O:St}{H:Hp}
def DV(I:Qt X B O H s)(K:Mut (H e))
(he:s.heap.get? e=some { cls:=.ref C,dict:=dct,data:=.fields vs,slots:=a })(hsz:1<vs.size)(W:vs[2]?=some .none)
(h:Leaves X.stack e { cls:=.ref C,dict:=dct,data:=.fields vs,slots:=a } s.heap h' T):Qt X B O (left C e dct T H) { s with heap:=h' }:=by
 have i:∀b,H b=none->b≠e:=λb f q=>by subst q;rwa[f]at K
 have j:∀b o,H b=some o->b≠e->left C e dct T H b=some o:=λb o f q=>by
  unfold left;rw[Qs<|(λb o f=>XF (XG (I.hok.lt f) h.new)) b o f,Qs q];exact f
 have w:∀b o,H b=some o->b∉frs X.stack:=λb o f q=>by rw[I.stkFree b q]at f;cases f
 have g:∀b o,H b=some o->¬Mut (some o)->b≠e:=λb o f n q=>by subst q;exact n (f▸K)
 have d:Un (frs X.stack) [] H (left C e dct T H) s.heap h':=
  { keep:=λb o m f A _=>h.keep b o A (i b f) m
    slot:=λb o m f A _=>h.slot b o A m
    free:=λb o m f _=>by
     unfold left;rw[Qs<|XF<|XG (Xo m) h.new,Qs<|i b f];exact f
    there:=λb o m _=>by
     by_cases A:b∈frs X.stack
     .obtain⟨a,z⟩:=h.slot b o A m;exact#[_,z]
     .by_cases q:b=e
      .subst q;exact#[_,h.exc]
      .exact#[_,h.keep b o A q m]
    tups:=λb xs f=>j b _ f (g b _ f λz=>z)
    frzs:=λb o u f=>j b _ f (g b _ f λz=>z)
    tupo:=λb xs o f m _=>h.keep b o (w b _ f) (g b _ f λz=>z) m
    tbls:=λb ps f=>#[(List.toArray []),by rw[j b _ f<|g b _ f λz=>z];simp] }
 have M:HOk X.prog X.w (left C e dct T H) h':=λb u f=>by
  by_cases q:b=T
  .subst q;unfold left at f;rw[Q8]at f;cases f;exact AA h.tb
  .by_cases L:b=e
   .subst L;unfold left at f;rw[Qs q,Q8]at f;cases f;exact AM #[_,_,h.exc,by simp[hsz],by rw[Array.getElem?_setIfInBounds_ne<|by decide];exact W]
   .have D:=by unfold left at f;rw[Qs q,Qs L]at f;exact f
    refine(I.hok b u D).stay (λc v y Y=>?_) (λc y=>?_) λc xs y=>?_
    .rcases y with z|z
     .subst z;exact h.keep c v (w c _ D) L Y
     .exact h.keep c v (w c _ z) (g c _ z λz=>z) Y
    .exact j c _ y (g c _ y λz=>z)
    .exact j c _ y (g c _ y λz=>z)
 exact I.call d M I.bare<|by rintro b ⟨⟩
end
end L2
namespace L2
def Fly(C e:Addr)(b:Qj)(H:Hp):Prop := ∃T,T≠e/\H e=some (.ext<|phF C e b T)/\H T=some (.ext<|phT T)
def XE(C:Addr)(R:Addr->Qj->Hp->Prop):XK:=λv b H=>∃e,v=.ref e/\Fly C e b H/\R e b H
def CX1(P:Program)(w:World):CXT:=λouter H s f v b=>∃c Z,b.os=s.os/\AllBare b.gens/\Un (frs outer) [] H Z s.heap b.heap/\HOk P w Z b.heap/\f v c Z
def Vx(C:Addr)(R:Addr->Qj->Hp->Prop):Prop := ∀e b H T,R e b H->H T=none->T≠e->R e b (left C e b T H)
section
variable {base:Heap}{N:Qh}{f:Addr}{R:Addr->Qj->Hp->Prop}
abbrev cx1(P:Program)(w:World)(K:W.Frag)(mg:Str->Qf)(base:Heap)(N:Qh)(qual:Str)(scope:Scope)(f:Addr)(cd:Value)(A:Around)(outer:List Env)(s0:Shared)(H0:Hp)(hi:XK):Cx:=JU (CX1 P w) P w K mg base N qual scope f cd A outer s0 H0 hi
variable {O:St}{H:Hp}
def OR(h:T≠e):Fly C e dct (left C e dct T H):=#[T,h,by unfold left;rw[Qs<|Ne.symm h,Q8],by unfold left;rw[Q8]]
def PL(c:Vx C R)(I:Qt (cx1 P w K mg base N qual scope f cd A outer s0 H0<|XE C R) B O (left C e dct T H) { s with heap:=h' })(hT:H T=none)(b:T≠e)(r:R e dct H):
 CX1 P w outer H0 s0 (XE C R) (.ref e) { s with heap:=h' }:=#[dct,_,I.os,I.bare,I.base,I.hok,e,rfl,OR b,c e dct H T r hT b]
def LP(g:Vx C R)(I:Qt (cx1 P w K mg base N qual scope f cd A outer s0 H0<|XE C R) B O H s)(he:H e=some (.ext<|phX C e dct))(r:R e dct H):
 (cx1 P w K mg base N qual scope f cd A outer s0 H0<|XE C R).xe (.ref e) s:=by
 apply I0 (I.hok e _ he);rintro⟨t,h,b⟩_ _;exact Zm4 I.ok.frames I.stack rfl b rfl rfl λh' T c=>PL g (DV I (by rw[he];trivial) b (by simp) rfl c) (I.hok.fresh c.new) (Y3<|XG (Xo b) c.new) r
def Y5(o:Vx C R):Y7 (CX1 P w) (cx1 P w K mg base N qual scope f cd A outer s0 H0<|XE C R) (XE C R):=by
 intro B O H s v a I h;apply aT h;rintro u Z l i Y y⟨e,rfl,⟨x,D,W,hT⟩,r⟩;obtain⟨n,g,d,t,k⟩:=a;obtain rfl:=l;have c:=I.call (h':=n) (g':=g) (d':=d) (t':=t) Y y i (by rintro b ⟨⟩);apply I0 (c.hok e _ W);rintro⟨E,F,m,X,L⟩_ _;apply I0 (c.hok x _ hT);rintro⟨G,ts,j,q,p⟩_ _;exact ZnP c.ok.frames c.stack rfl m rfl X D j q p λh' T M=>PL o (DV c (by rw[W];trivial) m (Array.getElem?_eq_some_iff.mp X).1 L M) (c.hok.fresh M.new) (Y3<|XG (Xo m) M.new) r
end
end L2
namespace L2
section
variable {f:Addr}{e:Expr}{R:Addr->Qj->Hp->Prop}
def OD(c:U7 X.K ρ C f)(g:X.calm=true)(D:PE X e te)(hx:∀B O H s a b,Qt X B O H s->H a=some (.ext<|phX C a b)->R a b H->X.xe (.ref a) s):PS X (.Raise (some e) none pos) (sXR C te R):=by
 refine λB s O H CH I h=>Xa (wpAny_standAt<|TK (C:=C) (I.ok.hd g)<|Xa<|QD (D B s O H _ I h) ?_);rintro u W ⟨v,U,m,r,a,b,rfl,w,q⟩;refine Xa<|wpAny_standAt<|Xl ?_;obtain rfl:=r;apply I0 (m.hok a _ w);rintro⟨t,y,j⟩_ _;apply ag (c.cls _ m.kIn);rintro L1 bm nm A N M SF sn i ab col dd k0 k1 k2 k3 k5⟨P,T,K,_⟩
 exact#[a,t,b,y,bm,nm,A,N,M,SF,sn,i,ab,col,dd,k0,k1,k2,k3,k5,_,rfl,T.hasType P.hasBase,K,j,hx _ _ _ _ _ _ m w q]
end
end L2
namespace L2
inductive Lefts(C e:Addr)(dct:Qj):Hp->Hp->Prop
 |nil {H}:Lefts C e dct H H
 |step {H Z T}:Lefts C e dct H Z->Z T=none->T≠e->Lefts C e dct H (left C e dct T Z)
def Lefts.head(hT:H T=none)(he:T≠e)(h:Lefts C e dct (left C e dct T H) Z):Lefts C e dct H Z:=by
 induction h with
 |nil=>exact .step .nil hT he
 |step _ a b c=>exact .step c a b
abbrev YH(X:Cx)(e:Addr)(pn:Qc):Cx:={ X with pn:=pn,A:=X.A.mark (some<|.ref e),calm:=false,xe:=λ_ _=>False }
section
variable {O:St}{H:Hp}{CH:Ends}
def Qt.toPn(I:Qt X B O H s):Qt { X with pn:=X.pn++B } [] O H s:=
 #[#[I.ok.mod,I.ok.kind,I.ok.glob,I.ok.blt,I.ok.above,I.ok.inj,I.ok.has,I.ok.cab,I.ok.hd,I.ok.frames,I.ok.stk,I.ok.exf,I.ok.bs,I.ok.bsz,I.ok.noex,I.ok.exfs,I.ok.funs,I.ok.frf],I.os,I.bare,I.base,I.loc,I.cell,I.free,I.freeC,λp b=>I.pin p<|by simpa using b,I.hok,I.len]
def Qt.ofPn(I:Qt { X with pn:=X.pn++B } pins' O H s):Qt X B O H s:=
 #[#[I.ok.mod,I.ok.kind,I.ok.glob,I.ok.blt,I.ok.above,I.ok.inj,I.ok.has,I.ok.cab,I.ok.hd,I.ok.frames,I.ok.stk,I.ok.exf,I.ok.bs,I.ok.bsz,I.ok.noex,I.ok.exfs,I.ok.funs,I.ok.frf],I.os,I.bare,I.base,I.loc,I.cell,I.free,I.freeC,λp b=>I.pin p<|X9 _ b,I.hok,I.len]
def Qt.toHandler(I:Qt { X with pn:=pn } B O H s):Qt (YH X e pn) B O H s:=
 #[#[I.ok.mod,I.ok.kind,I.ok.glob,I.ok.blt,I.ok.above,I.ok.inj,I.ok.has,I.ok.cab,(λz=>by cases z),I.ok.frames,I.ok.stk,I.ok.exf,I.ok.bs,I.ok.bsz,I.ok.noex,I.ok.exfs,I.ok.funs,I.ok.frf],I.os,I.bare,I.base,I.loc,I.cell,I.free,I.freeC,I.pin,I.hok,I.len]
def Qt.ofHandler(b:X.Ok)(I:Qt (YH X e pn) B O H s):Qt { X with pn:=pn } B O H s:=
 #[#[I.ok.mod,I.ok.kind,I.ok.glob,I.ok.blt,I.ok.above,I.ok.inj,I.ok.has,I.ok.cab,b.hd,b.frames,I.ok.stk,I.ok.exf,I.ok.bs,I.ok.bsz,I.ok.noex,I.ok.exfs,I.ok.funs,I.ok.frf],I.os,I.bare,I.base,I.loc,I.cell,I.free,I.freeC,I.pin,I.hok,I.len]
def SP.ofPn{f:Flow}(h:SP { X with pn:=X.pn++B,xe:=hi } pins' CH f s'):SP X B CH f s':=by
 have o:∀{b Z},Qt { X with pn:=X.pn++B,xe:=hi } pins' b Z s'->Qt X B b Z s':=λI=>Qt.ofPn (I.unwish)
 cases f with
 |next=>exact KE h λb Z I q=>#[b,Z,o I,q]
 |brk=>exact KE h λb Z I q=>#[b,Z,o I,q]
 |cont=>exact KE h λb Z I q=>#[b,Z,o I,q]
 |ret u=>exact aB h λv b Z I r q=>#[v,b,Z,o I,r,q]
end
def FP(he:phF C e dct T s.heap)(hT:phT T s.heap)
(h:∀h',(∀b o,s.heap.get? b=some o->h'.get? b=some o)->Q () { s with heap:=h' }):wpAny M A (setFlight (.ref e) none) Q hi s:=by
 refine aF he λL B D K _=>aF hT λv ts g j y=>?_;have f:=(Array.getElem?_eq_some_iff.mp y).1;have m:Obj.mapFields (·.setIfInBounds 3 Value.none) v=v:=by
  obtain⟨c,d,P,B⟩:=v;subst j;have:ts.setIfInBounds 3 Value.none=ts:=by
   apply Array.ext_getElem?;intro i;rw[Array.getElem?_setIfInBounds];by_cases E:3=i
   .subst E;rw[Xe rfl,Xe f,y]
   .rw[Xd E]
  unfold Obj.mapFields;simp[this]
 refine wpAny_setFlight_none D rfl K g j f (h _ λb o w=>?_)
 by_cases q:b=T
 .subst q;rw[g]at w;cases w;rw[Jt _ g<|Obj.isFreed_of_fields<|Obj.data_mapFields j _,m]
 .rw[XT _ _<|Ne.symm q];exact w
def YN(b:Ends->TS):TS:=λCH O H=>b CH CH O H
end L2
namespace L2
open PySem PySem.Spec PyProof.Rows PySem.W
abbrev MR:Qe:=[.type "ValueError",.type "Exception",.type "BaseException",.type "object"]
def ZnF{K:Frag}{v:Value}(X:K.In h)(G:h.Ns N mg)(e:nsIn K N n=some (some v)):mg n=some v:=by
 apply aB G;rintro o es w b g⟨_,f⟩;unfold nsIn at e;split at e
 .rename_i c d i m j q;have:=X _ _ q;rw[b]at this;cases this;cases g;split at e
  .rename_i s;cases e;rw[<- f];unfold nsFind findBy;simp_all
  .lia
 .cases e
def Dv(K:Frag)(C f:Addr):Bool:=match K.lookup C with
 |some #[.type "type",_,.cls cd,b]=>(match cd.mro,b.toList with
   |.ref c::bm,[_,_,_,_,some<|.builtin n,_]=>c==C&&n == "ValueError.__new__" && !cd.hasDel&&tailIn K MR bm&&nsOkIn K cd.ns&&nsIn K cd.ns "__init__" == some (some<|.ref f)
   |_,_=>false)
 |_=>false
theorem Tq{K:Frag}{f:Addr}(q:Dv K C f=true)(v:K.lookup f=some fo)(A:fo.cls=.type "function")
(ga:specialIn K (.ref ρ) "__getattribute__"=some (some<|.builtin "type.__getattribute__"))(rd:readsIn K ρ (.type "type")=true)(ini:findCls K (.ref ρ) (.type "type") "__init__"=some (.val<|.builtin "ValueError.__init__")):U7 K ρ C f where
 ga:=ga
 rd:=rd
 ini:=ini
 cls:=λh X=>by
  unfold Dv at q;split at q
  .rename_i dd cd i y;split at q
   .rename_i L bm k0 k1 k2 k3 n k5 j D;simp only[Wo,beq_iff_eq,Bool.not_eq_true']at q;obtain⟨⟨⟨⟨⟨rfl,rfl⟩,b⟩,w⟩,hok⟩,c⟩:=q;obtain⟨nm,bs,s,ns,m,hd,sn,sub,ab,col,B⟩:=cd;dsimp only at j b hok c;subst j b;have g:i=(List.toArray [k0,k1,k2,k3,some<|.builtin "ValueError.__new__",k5]):=by
     obtain⟨l⟩:=i;simp_all
    subst g;have G:h.Ns ns _:=.of_isNs (isNs_of_in X hok);exact#[MR,bm,nm,m,ns,bs,hd,sn,sub,ab,col,dd,k0,k1,k2,k3,k5,PySem.F.excBase_ValueError,tail_of_in X w,X _ _ y,_,fo,G,ZnF X G c,X _ _ v,A]
   .cases q
  .cases q
end L2
namespace L2
def U9(P:Program)(w:World)(K:W.Frag)(mg:Str->Qf)(base:Heap)(x:Str)(ps:Qh)(k:Nat)(sp:Sp):Prop:=
 ∃f fd,mg x=some (.ref f)/\W.keepIn K (.ref f)=true/\Vp K fd ps []/\FnOk P w K mg base (CX1 P w) k f fd ps sp
section
variable {base:Heap}
def B1(P:Program)(w:World)(K:W.Frag)(mg:Str->Qf)(base:Heap)(N:Qh)(q:Str)(st:Stmt)(k:Nat)(f:Addr)(H:Hp)(c:XK)(G:TS->Prop):Prop := ∀(b:Value) (A:Around) (outer:List Env) (s:Shared),Room k (A.deeper<|envOfC q (QG st) s.heap.objs.size f b)->∃t,PSs (cx1 P w K mg base N q (QG st) f b A outer s H c) (Yy st) t/\G t
def Fun.okX{x:Str}{st:Stmt}{f:Addr}{N:Qh}{k:Nat}(F:Fun K x qual st f fd)(S:Qo N ps (QG st))(c:∀vs H Q b,sp vs H Q b->vs.length=ps.length)
(j:∀vs H Q b,sp vs H Q b->B1 P w K mg base N qual st k f H b (Rn N vs H Q)):FnOk P w K mg base (CX1 P w) (k+1) f fd ps sp:=by
 apply aU F.ex;rintro L D kV B C W i M m rfl v h;exact Pd v h S c λA outer s H vs Q b y g=>j vs H Q b g i A outer s y
end
def Bi{x:Str}{p:Pos}{e:Expr}{t:TA}{k:Nat}{c:XK}(C:U9 X.prog X.w X.K X.mg X.base x ps j sp)(g:Room k X.A)(hx:Y7 (CX1 X.prog X.w) X c)(w:PA X (e::es) t)(m:j<=k:=by walk_at"j")(s:Gl X x:=by rfl)
(b:(x==("__debug__" : Str))=false:=by decide +kernel)
(he:zs X e es:=by rfl)(hpl:zb X pos es:=by rfl):PE X (.Call (.Name x p) (e::es) [] pos) (ZS sp [] c t):=by
 exact aD C λf fd h i v F=>TF F (g.mono m) s h i v .nil hx w b he hpl
def Mu(K:W.Frag)(C:Addr)(f:Str):Sp:=λb H Q _=>∃(e p:Addr) (xs:List V),b=[.ref e,.ref p]/\H e=some (.ext<|phX C e none)/\SqL K H p xs/\
 ∀q L,H q=none->H L=none->L≠q->L≠e->q≠e->Q .non (upd (upd (upd H q<|.lst xs) e<|.ext<|phX C e<|some L) L<|.xd [(f,.ref q)])
def Ou(h:Mu K C f vs H Q hi):
 YC (VB<|tXI C 0) (sXF C (Q3 0) (tCB (DA K)<|QE (Q3 1) QJ) f) { nx:=λ_ Z=>Q .non Z,rt:=Q } (vs.map some++List.replicate n none) H:=by
 apply aB h;rintro e p xs rfl j⟨v,s⟩;refine#[e,none,rfl,j,#[.ref p,rfl,#[p,xs,rfl,.inl v,λq c=>?_]]];have g:q≠e:=λz=>by subst z;rw[j]at c;cases c
 refine#[.ref e,rfl,e,rfl,by rw[Qs<|Ne.symm g];exact j,λL b m=>?_];have i:L≠q:=λz=>by subst z;rw[Q8]at b;cases b
 exact s q L c (by rwa[Qs i]at b) i m g
end L2
namespace L2
structure FldL(f:Str)(e:Addr)(F H H0:Hp)(ds:Qd)(L q:Addr)(xs:List V):Prop where
 hd:H L=some (.xd [(f,.ref q)])
 hq:H q=some (.lst xs)
 fq:F q=none
 rp:Qz F xs ds
 nd:L≠e
 nq:q≠e
 dq:L≠q
 fe:F e=none
 fd:F L=none
 q0:H0 q=none
 d0:H0 L=none
def Fld(f:Str)(e:Addr)(F H H0:Hp)(b:Qj)(ds:Qd):Prop := ∃L q xs,b=some L/\FldL f e F H H0 ds L q xs
def Fld.back(h:Fld f e F H U dct ds)(s:Q6 H0 U):Fld f e F H H0 dct ds:=by
 exact L0 h λL q xs a b=>#[L,q,xs,a,b.hd,b.hq,b.fq,b.rp,b.nd,b.nq,b.dq,b.fe,b.fd,s.free b.q0,s.free b.d0]
def V8(K:W.Frag)(C:Addr){δ:Type}(FL:Addr->Hp->Hp->Hp->Qj->δ->Prop)(R:List OT->(OT->Prop)->Prop)(j:List OT->(δ->Prop)->Prop):Sp:=λh H Q i=>∃F ts,KTs K F/\Q6 F H/\Args K F h ts/\∃RR,i=XE C RR/\Vx C RR/\
 ((∃g,R ts g/\∀f Z v p r,g r->Q1 F H f Z->(∀a∈p,H a=none)->Zh K f Z v r p->Q v Z)\/(∃b,j ts b/\∀f Z e c d,b d->Q1 F H f Z->H e=none->FL e f Z H c d->RR e c Z))
abbrev spX(K:W.Frag)(C:Addr)(f:Str)(R:List OT->(OT->Prop)->Prop)(Rx:List OT->(Qd->Prop)->Prop):Sp:=V8 K C (Fld f) R Rx
def EvZ(K:W.Frag)(F0 H0:Hp)(t:TS)(Y:Zbv):Prop := ∀(F:Hp) (O:St) (H:Hp) (b:Ends),Q1 F0 H0 F H->Q7 K H0 F Y O H->t b O H
section
variable {base:Heap}
def ZR(P:Program)(w:World)(K:W.Frag)(mg:Str->Qf)(base:Heap)(N:Qh)(q:Str)(st:Stmt)(k:Nat)(C:Addr)(R:List OT->(OT->Prop)->Prop)(f:Addr):Prop := ∀H RR ts b,Vx C RR->R ts b->B1 P w K mg base N q st k f H (XE C RR) λt=>QB K t (ini N ts) { nx:=λ_=>b<|.fz .none,rt:=b }
def ZX{δ:Type}(P:Program)(w:World)(K:W.Frag)(mg:Str->Qf)(base:Heap)(N:Qh)(q:Str)(st:Stmt)(k:Nat)(C:Addr)(FL:Addr->Hp->Hp->Hp->Qj->δ->Prop)(h:List OT->(δ->Prop)->Prop)(f:Addr):Prop := ∀F H RR ts b,Vx C RR->(∀g Z e c d,b d->Q1 F H g Z->H e=none->FL e g Z H c d->RR e c Z)->h ts b->B1 P w K mg base N q st k f H (XE C RR) λt=>EvZ K F H t (ini N ts)
def Fun.evZ{x qual:Str}{f:Addr}{fd:FuncData}{st:Stmt}{N ps:Qh}{k:Nat}{C:Addr}{δ:Type}{FL:Addr->Hp->Hp->Hp->Qj->δ->Prop}{R:List OT->(OT->Prop)->Prop}{W:List OT->(δ->Prop)->Prop}(F:Fun K x qual st f fd)(S:Qo N ps (QG st))(D:∀ts Φ,R ts Φ->ts.length=ps.length)(c:∀ts Φ,W ts Φ->ts.length=ps.length)(g:ZR P w K mg base N qual st k C R f)(h:ZX P w K mg base N qual st k C FL W f):FnOk P w K mg base (CX1 P w) (k+1) f fd ps (V8 K C FL R W):=by
 refine F.okX S (λl H Q E ⟨F,ts,_,_,i,RR,_,_,q⟩=>?_) λl H Q E ⟨F,ts,Y,m,i,RR,G,st,q⟩ j A outer s a=>?_
 .rcases q with ⟨r,b,_⟩|⟨r,b,_⟩
  .exact i.length.trans (D ts r b)
  .exact i.length.trans (c ts r b)
 .subst G;rcases q with ⟨Φ,b,q⟩|⟨y,b,q⟩
  .refine At (g H RR ts Φ st b j A outer s a) λt M L=>#[t,M,L F H F _ H _ (Q1.refl m) (Bs Y m i) #[λX d Z J B _ e=>?_,λX Z v n p B u o e=>?_,λ_ _ _ _ _ _ z=>False.elim z,λ_ _ _ _ _ _ z=>False.elim z]]
   .exact q X Z _ [] _ e B (by rintro _ ⟨⟩) #[rfl,.non]
   .exact q X Z v p n e B u o
  .exact At (h F H RR ts y st q b j A outer s a) λt M L=>#[t,M,L F _ H _ (Q1.refl m)<|Bs Y m i]
def Df.evZ{x:Str}{st:Stmt}{N ps:Qh}{k:Nat}{C:Addr}{δ:Type}{FL:Addr->Hp->Hp->Hp->Qj->δ->Prop}{R:List OT->(OT->Prop)->Prop}{j:List OT->(δ->Prop)->Prop}(CH:Df K mg x st ps)(S:Qo N ps (QG st))(c:∀f,ZR P w K mg base N x st k C R f)(g:∀f,ZX P w K mg base N x st k C FL j f)(i:∀ts Φ,R ts Φ->ts.length=ps.length:=by intro _ _ h;cases h<;>rfl)(b:∀ts Φ,j ts Φ->ts.length=ps.length:=by intro _ _ h;cases h<;>rfl):U9 P w K mg base x ps (k+1) (V8 K C FL R j):=CH.go λf _ F=>F.evZ S i b (c f) (g f)
end
end L2
namespace L2
section
variable {hi:XK}
def O4{Φx:Qd->Prop}(h:Qr K ta Y (.list ds))(J:Φx ds)(I:∀p Z e B d,Φx d->Q1 F0 H0 p Z->H0 e=none->Fld f e p Z H0 B d->RR e B Z):EvZ K F0 H0 (sXR C (MQ C (Mu K C f) hi<|QE ta QJ) RR) Y:=by
 refine λF O H CH x S=>h H0 F O H _ S λQ U v M r=>#[by simp,λe D=>?_]
 cases r with
 |@lst a xs _ u t=>
 have k:=M.fh a _ u;have X:a≠e:=λz=>by subst z;rw[D]at k;cases k
 refine#[e,a,xs,rfl,Q8,SqL.of<|by rw[Qs X];exact k,λq L w A y j g=>#[rfl,e,some L,rfl,?_,?_]]
 .rw[Qs<|Ne.symm j,Q8]
 .have i:=by rw[Qs g]at w;exact w
  have m:=by rw[Qs j]at A;exact A
  have l:Q6 U (upd (upd (upd (upd U e<|.ext<|phX C e none) q<|.lst xs) e<|.ext<|phX C e<|some L) L<|.xd [(f,.ref q)]):=λb o c=>by
   have n:b≠e:=λz=>by subst z;rw[D]at c;cases c
   have G:b≠q:=λz=>by subst z;rw[i]at c;cases c
   have E:b≠L:=λz=>by subst z;rw[m]at c;cases c
   rw[Qs E,Qs n,Qs G,Qs n];exact c
  have s:=x.trans M;have P:upd (upd (upd (upd U e<|.ext<|phX C e none) q<|.lst xs) e<|.ext<|phX C e<|some L) L (.xd [(f,.ref q)]) q=some (.lst xs):=by
   rw[Qs<|Ne.symm y,Qs g,Q8]
  exact I Q _ e _ ds J (s.trans #[l,Q6.refl _,s.fh.trans l,λb c=>.inl c]) (s.hh.free D) #[L,q,xs,rfl,Q8,P,M.fh.free i,t,j,g,y,s.fh.free D,s.fh.free m,s.hh.free i,s.hh.free m]
def E3(M:Zbv->Prop)(g:QB K t Y { nx:=M,rt:=λ_=>False })(f:∀J,M J->EvZ K F0 H0 u J):EvZ K F0 H0 (YC t u) Y:=λF O H hi x S=>
 g F0 H0 F O H _ x S #[λi b Z J c h e=>f J e i b Z hi c h,λ_ _ _ _ _ _ _ _ z=>z.elim,λ_ _ _ _ _ _ z=>False.elim z,λ_ _ _ _ _ _ z=>False.elim z]
def As(i:Nat)(e:Y[i]?=some (some<|.ol ds))(h:EvZ K F0 H0 t (Y.set i<|zf<|.list ds)):EvZ K F0 H0 t Y:=λF O H hi x S=>by
 exact aP (S.freeze e) λa xs f c b _ _ g=>h _ O H hi (x.freeze f c b) g
def GR(g:QB K t Y { nx:=λJ=>J=ρ1,rt:=λ_=>False })(f:EvZ K F0 H0 u ρ1):EvZ K F0 H0 (YC t u) Y:=λF O H hi x S=>
 g F0 H0 F O H _ x S #[λi b Z J c h e=>by subst e;exact f i b Z hi c h,λ_ _ _ _ _ _ _ _ z=>z.elim,λ_ _ _ _ _ _ z=>False.elim z,λ_ _ _ _ _ _ z=>False.elim z]
def J6(h:EvZ K F0 H0 t Y):EvZ K F0 H0 (YC t u) Y:=λF O H hi x S=>h F O H _ x S
def De{b:Bool}(h:QO K tA Y b)(i:b=true->EvZ K F0 H0 t Y)(g:b=false->EvZ K F0 H0 u Y):EvZ K F0 H0 (YB tA t u) Y:=λF O H hi x S=>
 h H0 F O H _ S λf Z c=>by
  cases b with
  |true=>rw[Xe rfl];exact i rfl f O Z hi (x.trans c) (S.ext c)
  |false=>rw[Xd<|by decide];exact g rfl f O Z hi (x.trans c) (S.ext c)
def ZrO(y:Z0 K t Y ts)(w:Rx ts Φx)(st:Vx C RR)(j:∀g Z e b d,Φx d->Q1 F0 H0 g Z->H0 e=none->Fld f e g Z H0 b d->RR e b Z)(x:Q1 F0 H0 F H)(S:Q7 K H9 F Y O H):
 ZS (spX K C f R Rx) [] (XE C RR) t O H Q:=y H9 F O H _ S λA U B c i=>
 #[A,ts,(S.ext c).kt,c.fh,by rw[Xx];exact i,RR,rfl,st,.inr #[Φx,w,λg Z e b d v h s m=>j g Z e b d v ((x.trans c).trans h) ((x.trans c).hh.free s)<|m.back (x.trans c).hh]]
def Ld(i:Z0 K t Y ts)(h:Rx ts Φx)(st:Vx C RR)(g:∀c Z e b d,Φx d->Q1 F0 H0 c Z->H0 e=none->Fld f e c Z H0 b d->RR e b Z):
 EvZ K F0 H0 (VB<|ZS (spX K C f R Rx) [] (XE C RR) t) Y:=λF O H hi x S=>ZrO i h st g x S
def Lz(w:Z0 K t Y ts)(s:R ts Φ)(st:Vx C RR):Z5 K (ZS (spX K C f R Rx) [] (XE C RR) t) Y Φ:=λH0 F O H Q S q=>
 w H0 F O H _ S λB U D b g=>
  #[B,ts,(S.ext b).kt,b.fh,by rw[Xx];exact g,RR,rfl,st,.inl #[Φ,s,λA y v p r i c j h=>q A y v p r i (b.trans c) (λa m=>b.hh.free<|j a m) h]]
def W9(h:Z5 K t Y Φ)(hn:CH.nx Y):QB K (VB t) Y CH:=λF0 H0 F O H hi x S c=>
 h H0 F O H _ S λf Z v p r _ b _ _=>c.nx f O Z Y (x.trans b) (S.ext b) hn
end
end L2
namespace L2
section
variable {tb:Ends->TS}
def M5(h:Lefts C e dct H Z)(s:Q6 G H)(he:G e=none):Q6 G Z:=by
 induction h with
 |nil=>exact s
 |@step U T v hT m j=>
  intro b o f;have i:b≠e:=λz=>by subst z;rw[he]at f;cases f
  have c:=j b o f;have g:b≠T:=λz=>by subst z;rw[hT]at c;cases c
  unfold left;rw[Qs g,Qs i];exact c
def Iz(h:∀b,QB K (tb b) Y CH):QB K (YN tb) Y CH:=λF0 H0 F O H b x S c=>h b F0 H0 F O H b x S c
end
end L2
namespace L2
structure XC(K:W.Frag)(mg:Str->Qf)(x:Str)(ρ C f:Addr):Prop where
 cl:U7 K ρ C f
 kp:W.keepIn K (.ref C)=true
 m:mg x=some (.ref C)
def GL(P:Program)(w:World)(K:W.Frag)(mg:Str->Qf)(base:Heap)(f:Addr)(ps:Qh)(k:Nat)(sp:Sp):Prop := ∃fd,Vp K fd ps []/\FnOk P w K mg base CX0 k f fd ps sp
section
variable {base:Heap}{N:Qh}{f:Addr}
def Gk{x:Str}{p:Pos}{e:Expr}{t:TA}{k:Nat}(c:XC K mg x ρ C f)(L:GL P w K mg base f ps j sp)(b:Vx C RR)(h:Room k (cx1 P w K mg base N qual scope f0 cd A outer s0 H0<|XE C RR).A)
(y:PA (cx1 P w K mg base N qual scope f0 cd A outer s0 H0<|XE C RR) (e::es) t)(i:j+1<=k:=by walk_at"j")(m:Gl (cx1 P w K mg base N qual scope f0 cd A outer s0 H0<|XE C RR) x:=by rfl)
(g:(x==("__debug__" : Str))=false:=by decide)(he:starEach (e::es) (cx1 P w K mg base N qual scope f0 cd A outer s0 H0<|XE C RR).env=(false,eval e (cx1 P w K mg base N qual scope f0 cd A outer s0 H0<|XE C RR).env)::starEach es (cx1 P w K mg base N qual scope f0 cd A outer s0 H0<|XE C RR).env:=by rfl)
(hpl:(backTo pos<|starEach es (cx1 P w K mg base N qual scope f0 cd A outer s0 H0<|XE C RR).env).any (·.1)=false:=by rfl):
 PS (cx1 P w K mg base N qual scope f0 cd A outer s0 H0<|XE C RR) (.Raise (some<|.Call (.Name x p) (e::es) [] pos) none pos') (sXR C (MQ C sp E0 t) RR):=by
 exact At L λfd v F=>OD c.cl rfl (ZrB c.cl c.kp F (h.mono i) m c.m v GE y g he hpl) (λB O H s a D I he r=>LP b I he r)
end
end L2
namespace L2
def Dh(CH:Ends)(j:Nat):Ends:={ nx:=λO H=>CH.nx (O.set j none) H,rt:=λ_ _=>False }
def XWg(X:Cx)(c:XK)(pn:Qc)(v:Value)(s:Shared):Prop := ∃(O:St) (H:Hp) (b:Qj),Qt { X with pn:=pn } [] O H s/\c v b H
abbrev Ky(X:Cx)(hi:XK)(pn:Qc):Cx:={ X with pn:=pn,xe:=XWg X hi pn }
section
variable {O:St}{H:Hp}
def Rf : Y7 (CX1 X.prog X.w) (Ky X hi pn) hi:=by
 intro B O H s v m I h;apply aT h;intro i Z y c j f C;obtain⟨K,g,d,t,w⟩:=m;obtain rfl:=y;exact#[O,Z,i,((I.call (d':=d) (t':=t) j f c (by rintro b ⟨⟩)).unwish).pins_of (λp A=>by cases A),C]
def Zq9(I:Qt X B O H s)(K:X.N.Nodup)(E:X.N[i]?=some x)(D:X.env.scope.names.lookup x=some .local)
(h:∀f,Qt X B (O.set i none) H f->Q () f):wpAny M A (do bindName X.env x .none;unbindBehindTheSuite X.env x pos) Q hi s:=by
 refine At (id I.loc) λm w C=>wpAny_nameGoes_keeps D w (by rw[I.ok.kind];rfl) λh' v b g=>h _ (I.poke K E g I.ok.above I.free (.inl rfl) b C (by rintro _ ⟨⟩) λy u j q=>q.imp ?_<|by rintro⟨k,c,e,z⟩;exact#[k,c,e,z.sameBut g<|I.cne y c e]);rintro⟨k,e⟩;exact#[k,by simp[j,e]]
end
end L2
namespace L2
def Q7.setN(u:Option V)(s:Q7 K H0 F Y O H):Q7 K H0 F (Y.set r none) (O.set r u) H:=by
 obtain⟨b,i,h,m,g,f,c⟩:=s;refine#[b,i,by simp[h],m,λj t e=>?_,f,c]
 by_cases z:r=j
 .subst z
  by_cases l:r<Y.length
  .simp_all
  .simp_all
 .rw[Xp z]at e ⊢;exact g j t e
end L2
namespace L2
section
open PySem.W
variable {hi:Qb}{K:Frag}{x:Addr}{ox:Obj}{od:Option Obj}{name:Str}{tk:Tok}{fill expr:Bool}
structure G0(K:Frag)(C:Addr):Prop where
 ga:findIn K (.ref C) "__getattribute__"=some (some<|.builtin "BaseException.__getattribute__")
 gt:findIn K (.ref C) "__getattr__"=some none
 mb:mroIn K C (.type "BaseException")=some true
def F9  (c:G0 K C)(X:K.In s.heap)(I:InstAt s.heap x ox C od)(h:Q () s):wpAny M A (checkBuiltinCall "BaseException.__getattribute__" #[[.ref x,nameV],[]]) Q hi s:=by
 have i:builtinKind "BaseException.__getattribute__"=some .slot:=by decide +kernel
 have b:splitId "BaseException.__getattribute__"=some ("BaseException","__getattribute__"):=by decide +kernel
 have f:=looks_mroIn (M:=M) X c.mb;refine Xa (((I.type (M:=M)).andThen f).at ?_)
 repeat (any_goals (first|assumption|wp_step))
def LN(c:G0 K C)(X:K.In s.heap)(I:InstAt s.heap x ox C od)
(h:codeAny (model prog w) A (.call (.builtin "BaseException.__getattribute__") #[[.ref x,.str name tk],[]]) (λr i=>∃v,r=.ok (.ret v)/\wpAny (model prog w) A (handedOut v) Q hi i) s):
 wpAny (model prog w) A (getAttrBy (.ref x) (.str name tk) fill expr) Q hi s:=by
 have f:(expr&&onTheHeap (Value.builtin "BaseException.__getattribute__"))=false:=by cases expr<;>rfl
 have b:(Value.builtin "BaseException.__getattribute__" == Value.builtin "object.__getattribute__")=false:=by decide +kernel
 have j:(onTheHeap (Value.ref C)&&Value.builtin "BaseException.__getattribute__" == Value.builtin "object.__getattribute__")=false:=by rw[b];rfl
 refine wpAny_holding (Xa<|(I.type (M:=model prog w)).at<|Xa<|(looks_findIn (M:=model prog w) X c.ga).at (Xa ((looks_findIn (M:=model prog w) X c.gt).at (Xa (wpAny_attempt<|wpAny_holding ?_)))));unfold callGetattribute;rw[f];unfold boundAndCalled;rw[F.excAttr_ValueError.ga.bind (.ref x)];refine wpAny_call (codeAny_mono h λr i g=>?_);apply At g;rintro v rfl g;exact g
def Zq5{v:Value}(c:G0 K C)(X:K.In s.heap)(I:InstAt s.heap x ox C od)(f:findObj K C od name=some (.value v))(b:handedIn v=true)(h:Q v { s with toks:=s.toks+1 }):wpAny (model prog w) A (getAttr (.ref x) name expr) Q hi s:=by
 refine Xa (wpAny_mkText<|LN c X I<|codeAny_call_builtin F.excAttr_ValueError.ga.plain F.entry_bexc_ga<|F9 c X I (Xa (Xl<|Xa<|Xl<|Xa<|(I.type (M:=model prog w)).at<|Xa<|(looks_find (M:=model prog w) X I f).at (Xl #[v,rfl,?_]))));rw[handedOut_of b];exact Xl h
def ZoF(c:G0 K C)(SF:hasDictIn K C=true)(v:findIn K (.ref C) "__class__"=some (some<|.builtin "object.__class__"))
(hn:specialIn K (.builtin "object.__class__") "__get__"=some (some<|.builtin "getset_descriptor.__get__"))(b:takesIn K (.builtin "object.__class__")=some true)(f:mroIn K C (.type "object")=some true)
(X:K.In s.heap)(I:InstAt s.heap x ox C od)(h:Q (some<|.ref C) { s with toks:=s.toks+1 }):wpAny (model prog w) A (getAttr? (.ref x) "__class__") Q hi s:=by
 have g:findObj K C od "__class__"=some (.bind (.builtin "getset_descriptor.__get__")<|.builtin "object.__class__"):=by
  apply At (any_some SF);intro cd m _;unfold findObj;simp_all
 exact Xa (wpAny_mkText<|Xa<|wpAny_attempt<|LN c X I<|codeAny_call_builtin F.excAttr_ValueError.ga.plain F.entry_bexc_ga<|F9 c X I (Xa (Xl<|Xa<|Xl<|Xa<|(I.type (M:=model prog w)).at<|Xa<|(looks_find (M:=model prog w) X I g).at (Xa (wpAny_holding<|wpAny_call<|class_get X I f (Xl #[_,rfl,Xl<|Xl h]))))))
theorem L5(c:G0 K C)(SF:hasDictIn K C=true)(y:findIn K (.ref C) "__class__"=some (some<|.builtin "object.__class__"))
(hn:specialIn K (.builtin "object.__class__") "__get__"=some (some<|.builtin "getset_descriptor.__get__"))(i:takesIn K (.builtin "object.__class__")=some true)(w:mroIn K C (.type "object")=some true):
 KitX K (.ref x) (.ref C) (λh=>InstAt h x ox C od) where
 ty:=λ_ _ _ I=>I.type
 it:=λ_ _ X _=>by
  apply At (any_some SF);intro m b _;unfold clsIn at b;split at b
  .rename_i B A s f j;intro W P E' M k q;exact Xa (wpAny_loadPart (k _ _<|X _ _ j)<|Xl q)
  .cases b
 ne:=λh D dd v n L X g=>by
  refine At (any_some SF) λm b _=>Bool.eq_false_iff.mpr λq=>?_;have e:=Value.ref.inj (beq_iff_eq.mp q);subst e;unfold clsIn at b;split at b
  .rename_i B A s f j;have z:=(X _ _ j).symm.trans g;cases z
  .cases b
 ca:=λX I k=>ZoF c SF y hn i w X I k
end
def tXG(C:Addr)(ta:TE)(f:Str):TE:=λO H Q=>ta O H λx U=>∃e L T v,x=.ref e/\U e=some (.ext<|phF C e (some L) T)/\U L=some (.xd [(f,v)])/\Q v U
structure S8(K:W.Frag)(C:Addr):Prop where
 ga:G0 K C
 hd:W.hasDictIn K C=true
section
variable {e:Expr}
def Tp{H:Hp}{O:St}(I:Qt X B O H s){a T:Addr}{e:List (Str×V)}(v:H a=some (.ext<|phF C a (some L) T))(m:H L=some (.xd e)):
 ∃(c:Str->Qf) (g od:Obj),W.InstAt s.heap a g C (some od)/\(∀b,W.lookIn b od=some (c b))/\∀f,Vn (e.lookup f) (c f):=by
 apply I0 (I.hok a _ v);rintro⟨w,y,h,_⟩_ _;exact At ((I.hok L _ m)) λc n r=>At (LV n) λod i j=>#[c,_,od,#[h,rfl,rfl,i],j,r]
def D6(c:S8 X.K C)(n:VL X.K C f)(he:PE X e ta)(y:attributeBase e f X.env (eval e X.env)=eval e X.env:=by rfl):PE X (.Attribute e f pos) (tXG C ta f):=by
 refine λB s O H Q I h=>Tv y (QD (he B s O H _ I h) ?_);rintro u M ⟨x,U,g,j,a,L,T,v,rfl,K,D,q⟩;obtain rfl:=j;exact aB (Tp g K D) λd P Y b w r=>At (Vn.some_of (by have:=r f;simpa [List.lookup] using this)) λu m i=>Zq5 c.ga g.kIn b (W.findObj_own c.hd n rfl (by rw[w,m])) (Ff i) #[v,U,g.tok _,i,q]
def G3:V->Qf
 |.ref a=>some (.ref a)
 |.ty t=>some (.type t)
 |_=>none
structure ML(K:W.Frag)(C:Addr):Prop where
 ga:G0 K C
 hd:W.hasDictIn K C=true
 fc:W.findIn K (.ref C) "__class__"=some (some<|.builtin "object.__class__")
 sp:W.specialIn K (.builtin "object.__class__") "__get__"=some (some<|.builtin "getset_descriptor.__get__")
 tk:W.takesIn K (.builtin "object.__class__")=some true
 mo:W.mroIn K C (.type "object")=some true
def G2(K:W.Frag)(C:Addr):List V->Hp->VK->Prop:=λxs H Q=>∃x c f b,xs=[x,c]/\G3 c=some f/\
 ((∃e L T g,x=.ref e/\H e=some (.ext<|phF C e (some L) T)/\H L=some (.xd g)/\W.kitOne K (.ref C) f=some b)\/(∃e T,x=.ref e/\H e=some (.ext<|phF C e none T)/\W.kitOne K (.ref C) f=some b)\/(x=.non/\W.kitOne K (.type "NoneType") f=some b))/\Q (.bl b) H
def E5(c:ML X.K C):Va X (.builtin "isinstance") (G2 X.K C):=by
 intro B s O H xs a Q I r h;apply aW h;rintro x P M b rfl f y q;apply aF (BU r);rintro u w rfl v i;have K:w=M:=by
  cases P<;>simp[G3]at f
  .subst f;exact i
  .subst f;exact i
 subst K;rcases y with ⟨e,L,T,n,rfl,A,D,j⟩|⟨e,T,rfl,A,j⟩|⟨rfl,j⟩
 .obtain rfl:=v;exact L0 (Tp I A D) λl k od m _=>W.kia_one (L5 c.ga c.hd c.fc c.sp c.tk c.mo) I.kIn m j #[] λg=>#[.bl b,H,I.tok g,rfl,q]
 .obtain rfl:=v;apply I0 (I.hok e _ A);rintro⟨Y,d,y,_⟩_ _;exact W.kia_one (L5 (od:=none) c.ga c.hd c.fc c.sp c.tk c.mo) I.kIn #[y,rfl,rfl,trivial] j #[] λg=>#[.bl b,H,I.tok g,rfl,q]
 .obtain rfl:=v;exact W.kia_one W.kitx_none I.kIn trivial j #[] λg=>#[.bl b,H,I.tok g,rfl,q]
end
def WJ(C:Addr)(f:Str)(ds:Qd)(e L q:Addr):OwnP where
 ok:=λK F H v p=>p=[e,L,q]/\(F e=none/\F L=none/\F q=none)/\(∃T,H e=some (.ext<|phF C e (some L) T))/\H L=some (.xd [(f,.ref q)])/\∃xs,H q=some (.lst xs)/\Qz F xs ds
 there:=λ{K F H v p} h a b=>by
  apply JH h;rintro rfl⟨B,A,y⟩⟨T,m⟩j xs i _;rcases Xf.mp b with rfl|b
  .exact#[B,Z4 m]
  .rcases Xf.mp b with rfl|b
   .exact#[A,Z4 j]
   .rcases Xf.mp b with rfl|b
    .exact#[y,Z4 i]
    .cases b
 mono:=λ{K F M H Z v p} s g c h=>by
  apply JH h;rintro rfl⟨B,A,y⟩⟨T,m⟩j xs i r;exact#[rfl,#[g _ Xb,g _ (Xh _ Xb),g _ (Xh _ (Xh _ Xb))],#[T,(c _ Xb).trans m],(c _ (Xh _ Xb)).trans j,xs,(c _ (Xh _ (Xh _ Xb))).trans i,r.mono s]
 uniq:=λ{K F H v p D} h h' a b=>by
  obtain⟨rfl,_⟩:=h;obtain⟨rfl,_⟩:=h';exact b
def ND(h:Lefts C e dct H Z){b:Addr}(i:b≠e)(g:H b=some o):Z b=some o:=by
 induction h with
 |nil=>exact g
 |@step U T m hT j c=>
  have f:b≠T:=λz=>by subst z;rw[hT]at c;cases c
  unfold left;rw[Qs f,Qs i];exact c
section
variable {e q:Addr}
def Q7.exc(S:Q7 K H0 F Y O H)(h:zg Y i<|zo v<|WJ C f ds e L q):O[i]?=some (some v)/\(∃T,H e=some (.ext<|phF C e (some L) T))/\H L=some (.xd [(f,.ref q)])/\(∃xs,H q=some (.lst xs)/\Qz F xs ds)/\F q=none/\H0 q=none:=by
 obtain⟨A,M,D,P,s,B,m⟩:=S;apply aO (s i _ h);rintro u y b g⟨X,W,w⟩⟨hT,j,c⟩;subst b;exact#[y,hT,j,c,w,(m i q<|by rw[g];exact Xh _<|Xh _ Xb).1]
def Mb{b:Bool}(h:zg Y i<|zo (.ref e)<|WJ C f ds e L q)(j:G3 c=some cv)(g:W.kitOne K (.ref C) cv=some b):Qr K (tCB (G2 K C)<|QE (Q3 i)<|QE (tC c) QJ) Y (.bool b):=λH0 F O H Q S k=>by
 apply aJ (S.exc h);rintro v⟨T,s⟩m _;exact#[.ref e,v,.ref e,c,cv,b,rfl,j,.inl #[e,L,T,_,rfl,s,m,g],k F H _ (Q1.refl S.sub)<|.bl b]
end
end L2
namespace L2
def QU.at(r:QU xs us):∀i:Nat,(xs[i]?=none/\us[i]?=none)\/∃x u,xs[i]?=some x/\us[i]?=some u/\QN x u:=by
 induction r with
 |nil=>intro i;exact .inl #[rfl,rfl]
 |cons a b c=>
  intro i;cases i with
  |zero=>exact .inr #[_,_,rfl,rfl,a]
  |succ i=>exact c i
end L2
namespace L2
theorem Ce:∀{us:Qe} {ns:Ql},IntsAre us ns->QU (ns.map V.int) us
 |_,_,.nil=>.nil
 |_,_,.cons n t h=>.cons #[t,rfl] (Ce h)
def TL:List V->Hp->VK->Prop:=λxs H Q=>∃(x:V) (b:Ql),xs=[x]/\Rep H x (.list<|b.map PyData.int)/\b.length<64/\∀(p:Addr) (c:Ql),H p=none->c.Perm b->c.Pairwise (· <= ·)->Q (.ref p) (upd H p<|.lst<|c.map V.int)
def ZqC:Va X (.builtin "sorted") TL:=by
 intro B s O H xs Y Q I r h;apply aD h;rintro x A rfl v g q;apply At (YE r);rintro u rfl w;cases v with
 |@lst a ys _ L y=>
  cases w;apply By (I.hok _ _ L);intro z f n i e;have l:f.length=A.length:=by rw[<- i.length,Uu y];simp
  refine sorted_ints #[_,e,rfl,n,rfl] (Bx (by exact ((Uu y))▸i)) #[] λc C W m P=>?_;obtain⟨k,K⟩:=sortedAll_at s.heap f c;refine#[.ref _,_,I.laid (λb d q=>sortedAll_old q) (Gw _) ?_,rfl,q _ C (I.hok.fresh<|Gw _) m P];refine#[by rw[Xj,m.length_eq];exact YJ<|XG g<|by decide,c.toList,k,Ce W,?_];rw[K]
def ON:∀{l m:Ql},l.Perm m->l.Pairwise (· <= ·)->m.Pairwise (· <= ·)->l=m:=λp f c=>p.eq_of_pairwise (λa b _ _ h h'=>Int.le_antisymm h h') f c
def Zqw{ms:Ql}(h:Qr K ta Y (.list<|ns.map PyData.int))(m:ms.Perm ns)(hs:ms.Pairwise (· <= ·))(hn:ns.length<64):EvO K (tCB TL<|QE ta QJ) Y (.ol<|ms.map PyData.int):=λH0 F O H Q S q=>
 h H0 F O H _ S λs U v g i=>#[v,ns,rfl,i.mono g.fh,hn,λp j f k1 k2=>by
  have e:=ON (k1.trans m.symm) k2 hs;subst e;exact I0 (Ga g f (Fa j)) λa b c=>q _ _ _ _ a b c]
end L2
set_option maxHeartbeats 8000000
set_option maxHeartbeats 8000000
set_option maxHeartbeats 8000000
set_option maxHeartbeats 8000000
set_option maxHeartbeats 8000000
namespace L2
def Zpb:bootBuiltins "sorted"=some (.builtin "sorted"):=by decide +kernel
end L2
namespace L2
def AB:bootBuiltins "set"=some (.type "set"):=by decide +kernel
def RV:bootBuiltins "ValueError"=some (.type "ValueError"):=by decide +kernel
def WQ : Y7 (CX1 X.prog X.w) X (XE C λ_ _ _=>False):=λ_ _ _ _ _ _ _ h=>by
 apply aT h;rintro _ _ _ _ _ _⟨_,_,_,z⟩;exact z.elim
def Us:Vx C λ_ _ _=>False:=λ_ _ _ _ z=>z.elim
end L2
namespace L2
abbrev Zc3:=List (Key×PyData)
def Yv(kvs:Zc3)(k:Key):Option PyData:=(kvs.find? λb=>decide (b.1=k)).map (·.2)
def Uc(kvs:Zc3)(k:Key)(d:PyData):Zc3:=if (kvs.any λb=>decide (b.1=k))=true then kvs.map (λb=>if b.1=k then (b.1,d) else b) else kvs++[(k,d)]
inductive PairK(F:Hp):List (Key×V)->Zc3->Prop
 |nil:PairK F [] []
 |cons {k:Key}{x:V}{d:PyData}{xs:List (Key×V)}{kvs:Zc3}:Rep F x d->PairK F xs kvs->PairK F ((k,x)::xs) ((k,d)::kvs)
theorem PairK.mono{F b:Hp}(s:Q6 F b):∀{xs:List (Key×V)} {kvs:Zc3},PairK F xs kvs->PairK b xs kvs
 |_,_,.nil=>.nil
 |_,_,.cons r t=>.cons (r.mono s) (t.mono s)
theorem PairK.length{F:Hp}:∀{xs:List (Key×V)} {kvs:Zc3},PairK F xs kvs->xs.length=kvs.length
 |_,_,.nil=>rfl
 |_,_,.cons _ t=>by simp[t.length]
theorem PairK.val{F:Hp}(k:Key):∀{xs:List (Key×V)} {kvs:Zc3},PairK F xs kvs->(ZC xs k=none/\Yv kvs k=none)\/∃x d,ZC xs k=some x/\Yv kvs k=some d/\Rep F x d
 |_,_,.nil=>.inl #[rfl,rfl]
 |_,_,.cons (k:=k') (x:=x) (d:=d) (kvs:=kvs) r t=>by
  by_cases e:k'=k
  .exact .inr #[x,d,Wa e,by simp[Yv, e],r]
  .have q:Yv ((k',d)::kvs) k=Yv kvs k:=by simp[Yv, e]
   rw[YV e,q];exact t.val k
theorem PairK.any{F:Hp}(k:Key):∀{xs:List (Key×V)} {kvs:Zc3},PairK F xs kvs->(xs.any λb=>decide (b.1=k))=(kvs.any λb=>decide (b.1=k))
 |_,_,.nil=>rfl
 |_,_,.cons _ t=>by simp[t.any k]
theorem PairK.mapP{F:Hp}(k:Key){y:V}{d:PyData}(r:Rep F y d):∀{xs:List (Key×V)} {kvs:Zc3},PairK F xs kvs->PairK F (xs.map λb=>if b.1=k then (b.1,y) else b) (kvs.map λb=>if b.1=k then (b.1,d) else b)
 |_,_,.nil=>.nil
 |_,_,.cons (k:=k') c t=>by
  rw[XI,XI];by_cases e:k'=k
  .simp only[e];exact .cons r (t.mapP k r)
  .simp only[e];exact .cons c (t.mapP k r)
theorem PairK.snoc{F:Hp}(k:Key){y:V}{d:PyData}(r:Rep F y d):∀{xs:List (Key×V)} {kvs:Zc3},PairK F xs kvs->PairK F (xs++[(k,y)]) (kvs++[(k,d)])
 |_,_,.nil=>.cons r .nil
 |_,_,.cons b t=>.cons b (t.snoc k r)
def PairK.put(k:Key)(r:Rep F y d){xs:List (Key×V)}(t:PairK F xs kvs):PairK F (Yr xs k y) (Uc kvs k d):=by
 unfold Yr Uc;rw[t.any k];split
 .exact t.mapP k r
 .exact t.snoc k r
def dkP(kvs:Zc3):OwnP where
 ok K F H v p := ∃a xs,v=.ref a/\p=[a]/\F a=none/\H a=some (.dK xs)/\PairK F xs kvs
 there:=by
  rintro K F H v p ⟨a,xs,rfl,rfl,h,f,g⟩ b j;cases Xi.mp j;exact#[h,Z4 f]
 mono:=by
  rintro K F y H Z v p s w m ⟨a,xs,rfl,rfl,h,f,g⟩;exact#[a,xs,rfl,rfl,w a Xb,by rw[m a Xb];exact f,g.mono s]
 uniq:=by
  rintro K F H v p q ⟨a,xs,rfl,rfl,_⟩ ⟨b,ys,e,rfl,_⟩ c i;cases e;exact i
section
variable {ty:TE}{kvs:Zc3}{k:Key}{d:PyData}
def Q7.dk(S:Q7 K H0 F Y O H)(e:zg Y i<|zo v<|dkP kvs):
 ∃a xs,v=.ref a/\O[i]?=some (some<|.ref a)/\F a=none/\H0 a=none/\H a=some (.dK xs)/\PairK F xs kvs:=by
 apply aX (S.writeOwn e);rintro g p⟨a,xs,rfl,rfl,f,d,c⟩b _;exact#[a,xs,rfl,g,f,(b a Xb).1,d,c]
def IW(e:zg Y i<|zo v<|dkP kvs)(W:Qr K tv Y d)(P:Qr K ty Y (WI k))(hz:kvs.length<sizeLine)(hn:CH.nx (Y.set i<|zo v<|dkP<|Uc kvs k d)):QB K (MZ (Q3 i) ty tv) Y CH:=λF0 H0 F O H G x S C=>
 W H0 F O H _ S λt U u f L=>by
  apply aF ((S.ext f).dk e);rintro a xs rfl n _;refine#[_,n,P H0 t O U _ (S.ext f) λr N y g D=>?_];have m:=S.ext (f.trans g);apply aP (m.dk e);intro J B j _ h l X A;cases j;rw[M3 D];refine#[a,_,rfl,Ju.k X<|by rw[A.length];exact hz,?_];apply aX (m.writeOwn e);intro _ p M E w;apply aT M;rintro o s j rfl _ I _;cases j;refine C.nx r O _ _ ((x.trans<|f.trans g).wr l h) (w _ (dkP _) [a] (m.sub.upd h) (λc b _=>Qs λz=>b<|by exact z▸Xb) (λc b=>?_) #[a,_,rfl,rfl,h,Q8,A.put k<|L.mono g.ff] λc b=>.inl b) hn
  by_cases z:c=a
  .subst z;rw[Q8];rintro⟨⟩
  .rw[Qs z];exact b
def OB:EvX K Te Y (dkP []):=λH0 F O H Q S q=>λp b=>by
 have d:F p=none:=by
  cases z:F p with
  |none=>rfl
  |some o=>rw[S.sub _ _ z]at b;cases b
 refine q F _ _ [p] (Q1.own S.sub b) (λa c=>by cases Xi.mp c;exact b) #[p,[],rfl,rfl,d,Q8,.nil]
end
end L2
variable {kvs:L2.Zc3}
namespace L2
structure HandS where
 yard:PyData
 now:Int
 known:Qd
 given:Ql
 gone:Zc3
 made:List Zc3
inductive MadeD(F H:Hp):Qg->List Zc3->Prop
 |nil:MadeD F H [] []
 |cons {a:Addr}{xs:List (Key×V)}{kvs:Zc3}{as:Qg}{ms:List Zc3}:F a=none->H a=some (.dK xs)->PairK F xs kvs->MadeD F H as ms->MadeD F H (a::as) (kvs::ms)
theorem MadeD.mem{F H:Hp}:∀{as:Qg} {ms:List Zc3},MadeD F H as ms->∀a∈as,F a=none/\H a≠none
 |_,_,.nil,a,b=>nomatch b
 |_,_,.cons f c _ t,a,b=>by
  rcases Xf.mp b with rfl|b
  .exact#[f,Z4 c]
  .exact t.mem a b
theorem MadeD.mono{F c H Z:Hp}(s:Q6 F c):∀{as:Qg} {ms:List Zc3},(∀a∈as,c a=none)->(∀a∈as,Z a=H a)->MadeD F H as ms->MadeD c Z as ms
 |_,_,_,_,.nil=>.nil
 |_,_,g,f,.cons j i h t=>.cons (g _ Xb) (by rw[f _ Xb];exact i) (h.mono s) (t.mono s (λa b=>g a<|Xh _ b) λa b=>f a<|Xh _ b)
def MadeD.other{b:Addr}(h:MadeD F H as ms)(n:b∉as):MadeD F (upd H b o) as ms:=
 h.mono (Q6.refl _) (λa c=>(h.mem a c).1) (λa c=>Qs λz=>n<|z▸c)
inductive MadeZ(F:Hp):Qg->List Zc3->Prop
 |nil:MadeZ F [] []
 |cons {a:Addr}{xs:List (Key×V)}{kvs:Zc3}{as:Qg}{ms:List Zc3}:F a=some (.dK xs)->PairK F xs kvs->MadeZ F as ms->MadeZ F (a::as) (kvs::ms)
theorem MadeZ.mono{F b:Hp}(s:Q6 F b):∀{as:Qg} {ms:List Zc3},MadeZ F as ms->MadeZ b as ms
 |_,_,.nil=>.nil
 |_,_,.cons f c t=>.cons (s _ _ f) (c.mono s) (t.mono s)
theorem MadeD.fz{F b H:Hp}(s:Q6 F b):∀{as:Qg} {ms:List Zc3},(∀a∈as,b a=H a)->MadeD F H as ms->MadeZ b as ms
 |_,_,_,.nil=>.nil
 |_,_,c,.cons _ h g t=>.cons (by rw[c _ Xb];exact h) (g.mono s) (t.fz s λa f=>c a<|Xh _ f)
abbrev hfs(y:V)(n:Int)(k g d m:Addr):List (Str×V):=[("yard",y),("present",.int n),("known",.ref k),("given",.ref g),("gone",.ref d),("made",.ref m)]
structure HandOk(C:Addr)(N:HandS)(F H:Hp)(a L k g d m:Addr)(y:V)(xs:List (Key×V))(as:Qg):Prop where
 nd:(a::L::k::g::d::m::as).Nodup
 ins:F a=none/\H a=some (.ins C L<|hfs y N.now k g d m)
 own:F L=none/\H L=some (.own a)
 yd:Rep F y N.yard
 known:VI F H k N.known
 given:VI F H g (N.given.map PyData.int)
 gone:F d=none/\H d=some (.dK xs)/\PairK F xs N.gone
 made:F m=none/\H m=some (.lst<|as.map V.ref)/\MadeD F H as N.made
def HandOk.mono{g m:Addr}{xs:List (Key×V)}(o:HandOk C N F H a L k g d m y xs as)(s:Q6 F F')(f:∀b∈a::L::k::g::d::m::as,F' b=none)(c:∀b∈a::L::k::g::d::m::as,Z b=H b):HandOk C N F' Z a L k g d m y xs as:=by
 obtain⟨v,⟨l,D⟩,⟨Y,j⟩,i,⟨k1,B,k2,k3⟩,⟨n,K,P,M⟩,⟨p,X,W⟩,⟨e,A,w⟩⟩:=o;exact#[v,#[f _<|by simp,by rw[c _<|by simp];exact D],#[f _<|by simp,by rw[c _<|by simp];exact j],i.mono s,#[f _<|by simp,B,by rw[c _<|by simp];exact k2,k3.mono s],#[f _<|by simp,K,by rw[c _<|by simp];exact P,M.mono s],
  #[f _<|by simp,by rw[c _<|by simp];exact X,W.mono s],#[f _<|by simp,by rw[c _<|by simp];exact A,w.mono s (λb h=>f b<|by simp[h]) λb h=>c b<|by simp[h]]]
inductive HandPk(C:Addr)(N:HandS)(F H:Hp)(v:V)(p:Qg):Prop
 |mk (a L k g d m:Addr)(y:V)(xs:List (Key×V))(as:Qg)(e:v=.ref a)(ep:p=a::L::k::g::d::m::as)(o:HandOk C N F H a L k g d m y xs as):HandPk C N F H v p
def QM(C:Addr)(N:HandS):OwnP where
 ok _ F H v p:=HandPk C N F H v p
 there:=by
  rintro K F H v p ⟨a,L,k,g,d,m,y,xs,A,rfl,rfl,o⟩ b h;obtain⟨_,⟨w,f⟩,⟨P,M⟩,_,⟨k1,G,k2,_⟩,⟨n,J,l,_⟩,⟨u,t,_⟩,⟨m1,m2,W⟩⟩:=o;simp only[Xf]at h;rcases h with rfl|rfl|rfl|rfl|rfl|rfl|h
  .exact#[w,Z4 f]
  .exact#[P,Z4 M]
  .exact#[k1,Z4 k2]
  .exact#[n,Z4 l]
  .exact#[u,Z4 t]
  .exact#[m1,Z4 m2]
  .exact W.mem b h
 mono:=by
  rintro K F S H Z v p s e Y ⟨a,L,k,g,d,m,y,xs,A,rfl,rfl,o⟩;exact#[a,L,k,g,d,m,y,xs,A,rfl,rfl,o.mono s e Y]
 uniq:=by
  rintro K F H v p q ⟨a,L,k,g,d,m,y,xs,A,rfl,rfl,o⟩ ⟨R,r,I,O,Q,E,z,D,x,ev,rfl,B⟩ c X;cases ev;have i:=o.ins.2.symm.trans B.ins.2;injection i with i;injection i with _ w f;subst w;simp only[hfs,List.cons.injEq,Prod.mk.injEq,true_and,and_true,V.ref.injEq]at f;obtain⟨rfl,rfl,rfl,rfl,rfl⟩:=f;have j:=o.made.2.1.symm.trans B.made.2.1;injection j with j;injection j with j;rw[DR j];exact X
structure HandFz(C:Addr)(N:HandS)(F:Hp)(a L k g d m:Addr)(y:V)(ks gs:List V)(xs:List (Key×V))(as:Qg):Prop where
 ins:F a=some (.ins C L<|hfs y N.now k g d m)
 yd:Rep F y N.yard
 known:F k=some (.lst ks)/\Qz F ks N.known
 given:F g=some (.lst gs)/\Qz F gs (N.given.map PyData.int)
 gone:F d=some (.dK xs)/\PairK F xs N.gone
 made:F m=some (.lst<|as.map V.ref)/\MadeZ F as N.made
def Zj(C:Addr)(N:HandS):ZP where
 ok K F v := ∃a L k g d m y b f xs h,v=.ref a/\HandFz C N F a L k g d m y b f xs h
 mono:=by
  rintro K F X v s ⟨a,L,k,g,d,m,y,b,f,xs,h,rfl,⟨W,P,⟨M,D⟩,⟨B,A⟩,⟨w,j⟩,⟨i,c⟩⟩⟩;exact#[a,L,k,g,d,m,y,b,f,xs,h,rfl,s _ _ W,P.mono s,#[s _ _ M,D.mono s],#[s _ _ B,A.mono s],#[s _ _ w,j.mono s],#[s _ _ i,c.mono s]]
def QM.fz(h:(QM C N).ok K F H v p)(s:Q6 F F')(he:∀b∈p,F' b=H b):(Zj C N).ok K F' v:=by
 obtain⟨a,L,k,g,d,m,y,xs,X,rfl,rfl,o⟩:=h;obtain⟨Y,⟨l,w⟩,_,c,⟨k1,j,k2,k3⟩,⟨n,B,M,D⟩,⟨q,W,P⟩,⟨e,i,f⟩⟩:=o;exact#[a,L,k,g,d,m,y,j,B,xs,X,rfl,by rw[he _<|by simp];exact w,c.mono s,#[by rw[he _<|by simp];exact k2,k3.mono s],#[by rw[he _<|by simp];exact M,D.mono s],#[by rw[he _<|by simp];exact W,P.mono s],#[by rw[he _<|by simp];exact i,f.fz s λb A=>he b<|by simp[A]]]
structure HandC(K:W.Frag)(C:Addr):Prop where
 cl:Cls K C
 yd:VL K C "yard"
 pr:VL K C "present"
 kn:VL K C "known"
 gv:VL K C "given"
 go:VL K C "gone"
 md:VL K C "made"
def NoH(m:Str):Prop := ∀(y:V) (n:Int) (k g d e:Addr),(hfs y n k g d e).lookup m=none
section
variable {ty:TE}{N:HandS}
def Q7.hz(S:Q7 K H0 F Y O H)(e:zg Y i<|zz<|Zj C N):∃a L k g d m y b gs xs as,O[i]?=some (some<|.ref a)/\HandFz C N F a L k g d m y b gs xs as:=by
 apply At S.fp;intro j h _;apply aQ (h i _ e);rintro v f _ a⟨L,k,g,d,m,y,b,gs,xs,as,rfl,c⟩;exact#[a,L,k,g,d,m,y,b,gs,xs,as,f,c]
def JI(c:HandC K C)(e:zg Y i<|zz<|Zj C N):Qr K (Ve K (Q3 i) "yard") Y N.yard:=λH0 F O H Q S q=>by
 apply ah (S.hz e);rintro a L k g d m y f h xs j⟨b,o⟩;exact#[_,b,a,C,L,_,y,rfl,S.sub _ _ o.ins,c.cl,c.yd,rfl,q F H y (Q1.refl S.sub) o.yd]
def Mx(c:HandC K C)(e:zg Y i<|zz<|Zj C N):Qr K (Ve K (Q3 i) "present") Y (.int N.now):=λH0 F O H Q S q=>by
 apply ah (S.hz e);rintro a L k g d m y f h xs j⟨b,o⟩;exact#[_,b,a,C,L,_,.int N.now,rfl,S.sub _ _ o.ins,c.cl,c.pr,rfl,q F H _ (Q1.refl S.sub)<|.int _]
def Bz(c:HandC K C)(e:zg Y i<|zz<|Zj C N):Qr K (Ve K (Q3 i) "known") Y (.list N.known):=λH0 F O H Q S q=>by
 apply ah (S.hz e);rintro a L k g d m y f h xs j⟨b,o⟩;exact#[_,b,a,C,L,_,.ref k,rfl,S.sub _ _ o.ins,c.cl,c.kn,rfl,q F H _ (Q1.refl S.sub)<|.lst o.known.1 o.known.2]
def R1(c:HandC K C)(e:zg Y i<|zz<|Zj C N):Qr K (Ve K (Q3 i) "given") Y (.list<|N.given.map PyData.int):=λH0 F O H Q S q=>by
 apply ah (S.hz e);rintro a L k g d m y f h xs j⟨b,o⟩;exact#[_,b,a,C,L,_,.ref g,rfl,S.sub _ _ o.ins,c.cl,c.gv,rfl,q F H _ (Q1.refl S.sub)<|.lst o.given.1 o.given.2]
def Rg(c:HandC K C)(h:Qr K ty Y (WI k))(e:zg Y i<|zz<|Zj C N):Qr K (MW ty<|Ve K (Q3 i) "gone") Y (.bool (Yv N.gone k).isSome):=λH0 F O H Q S q=>
 h H0 F O H _ S λv U y b f=>by
  apply ah ((S.ext b).hz e);rintro a L M g d m B D P xs X⟨s,o⟩;refine#[_,s,a,C,L,_,.ref d,rfl,b.fh _ _ o.ins,c.cl,c.go,rfl,?_];rw[M3 f];refine#[d,_,rfl,VP.q<|b.fh _ _ o.gone.1,?_];have j:(ZC xs k).isSome=(Yv N.gone k).isSome:=by
   rcases o.gone.2.val k with _|⟨x,W,A,w,_⟩
   .simp_all
   .simp_all
  rw[j];exact q v U _ b (.bl _)
def Gi(W:NoH m)(e:zg Y i<|zz<|Zj C N)(h:Z0 K t Y ts)(l:R (.zow (Zj C N)::ts) Φ):
 Z5 K (ZQ C m (Zm K R) [] hi (Q3 i) t) Y Φ:=λH0 F O H Q S q=>by
 apply ah (S.hz e);rintro a L k g d B y D n xs r⟨o,j⟩;exact#[_,o,a,L,_,rfl,S.sub _ _ j.ins,W _ _ _ _ _ _,h H0 F O H _ S λz U E c w=>#[z,_,Φ,(S.ext c).kt,c.fh,.zow ((Zj C N).mono c.ff #[a,L,k,g,d,B,y,D,n,xs,r,rfl,j])<|by rw[Xx];exact w,l,λx u v p A M s P f=>q x u v p A M (c.trans s) (λb X=>c.hh.free<|P b X) f]]
def Gh(b:NoH m)(e:zg Y i<|zz<|Zj C N)(h:Z0 K t Y ts)(c:R (.zow (Zj C N)::ts) (λr=>r=.fz d)):Qr K (ZQ C m (Zm K R) [] hi (Q3 i) t) Y d:=EvO.e (Z5.o<|Gi b e h c)
def W8(i:Nat)(e:zg Y i<|zo v<|QM C N)(f:∀r,Φ r->WH r)(h:Z5 K t (Y.set i<|zz<|Zj C N) Φ):Z5 K t Y Φ:=
 LK i e (λa b c=>QM.fz a b c) f h
def Jk(i:Nat)(e:zg Y i<|zo v<|QM C N)(c:ZN d=some u)(h:Qr K t (Y.set i<|zz<|Zj C N) d):Qr K t Y d:=
 EvO.e (Z5.o<|W8 i e (λr b=>by subst b;exact JJ c)<|h.o.d rfl)
def Bp{b:Bool}(i:Nat)(e:zg Y i<|zo v<|QM C N)(h:QO K t (Y.set i<|zz<|Zj C N) b):QO K t Y b:=λH0 F O H Q S q=>by
 exact At (S.freezeZ e (λa b c=>QM.fz a b c)) λp f j=>h H0 _ O H Q j λm Z x=>q _ Z (JC (λa g=>#[(f a g).1,(f a g).2.1]) x)
def Q7.hand(S:Q7 K H0 F Y O H)(e:zg Y i<|zo v<|QM C N):
 ∃a L k g d m y xs as,v=.ref a/\O[i]?=some (some<|.ref a)/\HandOk C N F H a L k g d m y xs as/\(∀b∈a::L::k::g::d::m::as,H0 b=none/\F b=none/\H b≠none)/\
  ∀(Z:Hp) (w:HandS) (s:V) (f:List (Key×V)) (c:Qg),Q6 F Z->(∀b,b∉a::L::k::g::d::m::as->H b≠none->Z b=H b)->(∀b,H b≠none->Z b≠none)->
   HandOk C w F Z a L k g d m s f c->(∀b∈c,b∈as\/(H b=none/\H0 b=none))->Q7 K H0 F (Y.set i<|zo v<|QM C w) O Z:=by
 apply aX (S.writeOwn e);rintro n p⟨a,L,k,g,d,m,y,xs,as,rfl,rfl,B⟩D A;refine#[a,L,k,g,d,m,y,xs,as,rfl,n,B,D,λZ w s f c l X W P M=>A Z _ _ l X W #[a,L,k,g,d,m,s,f,c,rfl,rfl,P] λb j=>?_];simp only[Xf]at j ⊢;rcases j with h|h|h|h|h|h|j
 .exact .inl (.inl h)
 .exact .inl (.inr<|.inl h)
 .exact .inl (.inr<|.inr<|.inl h)
 .exact .inl (.inr<|.inr<|.inr<|.inl h)
 .exact .inl (.inr<|.inr<|.inr<|.inr<|.inl h)
 .exact .inl (.inr<|.inr<|.inr<|.inr<|.inr<|.inl h)
 .rcases M b j with z|z
  .exact .inl (.inr<|.inr<|.inr<|.inr<|.inr<|.inr z)
  .exact .inr z
def HandOk.same{g m:Addr}{xs:List (Key×V)}
(c:HandOk C N F H a L k g d m y xs as)(b:HandOk C N' F' Z a dx' k' g' d' m' y' xs' as')(s:Z a=H a):dx'=L/\k'=k/\g'=g/\d'=d/\m'=m/\y'=y:=by
 have h:=b.ins.2;rw[s,c.ins.2]at h;grind
def HandOk.setKnown{g m:Addr}{xs:List (Key×V)}(h:HandOk C N F H a L k g d m y xs as)(D:Qz F za ns):
 HandOk C { N with known:=ns } F (upd H k<|.lst za) a L k g d m y xs as:=by
 obtain⟨c,⟨B,A⟩,⟨j,i⟩,f,⟨k1,t,k2,k3⟩,⟨W,K,P,M⟩,⟨e,Y,X⟩,⟨w,v,s⟩⟩:=h;have b:=c;simp only[Xu,Xf,not_or]at b;apply aJ b;rintro⟨u,r,_⟩⟨q,_⟩⟨p,o,n,l⟩_;exact#[c,#[B,by rw[Qs r];exact A],#[j,by rw[Qs q];exact i],f,#[k1,za,Q8,D],#[W,K,by rw[Qs<|Ne.symm p];exact P,M],#[e,by rw[Qs<|Ne.symm o];exact Y,X],#[w,by rw[Qs<|Ne.symm n];exact v,s.other l]]
def HandOk.setGiven{g m:Addr}{xs:List (Key×V)}(h:HandOk C N F H a L k g d m y xs as){ns:Ql}(K:Qz F za (ns.map PyData.int)):
 HandOk C { N with given:=ns } F (upd H g<|.lst za) a L k g d m y xs as:=by
 obtain⟨c,⟨D,B⟩,⟨j,i⟩,f,⟨k1,A,k2,k3⟩,⟨M,q,t,r⟩,⟨l,e,Y⟩,⟨w,v,s⟩⟩:=h;have b:=c;simp only[Xu,Xf,not_or]at b;apply Hs b;rintro⟨z,x,p,_⟩⟨u,o,_⟩⟨n,_⟩⟨X,W,P⟩_;exact#[c,#[D,by rw[Qs p];exact B],#[j,by rw[Qs o];exact i],f,#[k1,A,by rw[Qs n];exact k2,k3],#[M,za,Q8,K],#[l,by rw[Qs<|Ne.symm X];exact e,Y],#[w,by rw[Qs<|Ne.symm W];exact v,s.other P]]
def ZoL(c:HandC K C)(e:zg Y i<|zo v<|QM C N)(h:Qr K te Y n)(R:N.known.length<1000)
(hn:CH.nx (Y.set i<|zo v<|QM C { N with known:=N.known++[n] })):QB K (VB<|tBM K "list" Ye (Ve K (Q3 i) "known")<|QE te QJ) Y CH:=λF0 H0 F O H T x S I=>by
 apply aa (S.hand e);rintro a L k g d m y xs as rfl t s _;refine#[_,t,a,C,L,_,.ref k,rfl,s.ins.2,c.cl,c.kn,rfl,.inl #[rfl,_,SqL.of s.known.2.choose_spec.1],h H0 F O H _ S λG U u w l=>?_];apply aa ((S.ext w).hand e);rintro a' E P g' d' Q W A D r Z f⟨q,X⟩;cases r;apply aG (s.same f ((w.hh _ _ s.ins.2).trans s.ins.2.symm));rintro rfl rfl rfl rfl rfl rfl;apply Do f.known;intro J o p M;have j:=q P (by simp);exact#[P,o,u,rfl,rfl,p,by rw[M.length];exact Vh<|#[],I.nx G O _ _ ((x.trans w).wr j.1 j.2.1) (X _ { N with known:=N.known++[n] } W A D ((S.ext w).sub.upd j.2.1) (λb B _=>Qs λz=>B<|by rw[z];simp) VN (f.setKnown<|M.snoc l) λb B=>.inl B) hn]
def Zq2(c:HandC K C)(e:zg Y i<|zo v<|QM C N)(h:Qr K te Y (.int n))(T:N.given.length<1000)
(hn:CH.nx (Y.set i<|zo v<|QM C { N with given:=N.given++[n] })):QB K (VB<|tBM K "list" Ye (Ve K (Q3 i) "given")<|QE te QJ) Y CH:=λF0 H0 F O H Z x S I=>by
 apply aa (S.hand e);rintro a L k g d m y xs as rfl t s _;refine#[_,t,a,C,L,_,.ref g,rfl,s.ins.2,c.cl,c.gv,rfl,.inl #[rfl,_,SqL.of s.given.2.choose_spec.1],h H0 F O H _ S λG U u w l=>?_];apply aa ((S.ext w).hand e);rintro a' E R P d' Q W A D r g1 f⟨q,X⟩;cases r;apply aG (s.same f ((w.hh _ _ s.ins.2).trans s.ins.2.symm));rintro rfl rfl rfl rfl rfl rfl;apply Do f.given;intro J o p M;have j:=q P (by simp);exact#[P,o,u,rfl,rfl,p,by rw[M.length,Xj];exact Vh<|#[],I.nx G O _ _ ((x.trans w).wr j.1 j.2.1) (X _ { N with given:=N.given++[n] } W A D ((S.ext w).sub.upd j.2.1) (λb B _=>Qs λz=>B<|by rw[z];simp) VN (f.setGiven<|by rw[XL];exact M.snoc l) λb B=>.inl B) hn]
end
end L2
variable {N:L2.HandS}
namespace L2
inductive SpP(K:W.Frag){α:Type}(Φ:α->OwnP)(R:α->List OT->(OT->α->Prop)->Prop)(vs:List V)(H:Hp)(Q:VK):Prop
 |mk (F:Hp)(v0:V)(vs':List V)(p:Qg)(ts:List OT)(N:α)(Ψ:OT->α->Prop)(e:vs=v0::vs')(kt:KTs K F)(sm:Q6 F H)(ha:Args K F vs' ts)(ok:(Φ N).ok K F H v0 p)(hR:R N ts Ψ)
  (k:∀F' Z p' N' v r q,Ψ r N'->ExtN p F H F' Z->(Φ N').ok K F' Z v0 p'->(∀b∈p',b∈p\/H b=none)->Zh K F' Z v r q->(∀b∈q,(b∈p\/H b=none)/\b∉p')->Q v Z):SpP K Φ R vs H Q
def spP(K:W.Frag){b:Type}(Φ:b->OwnP)(R:b->List OT->(OT->b->Prop)->Prop):Sp:=λc H Q _=>SpP K Φ R c H Q
abbrev spH(K:W.Frag)(C:Addr)(R:HandS->List OT->(OT->HandS->Prop)->Prop):Sp:=spP K (QM C) R
def UD(K:W.Frag)(C CR:Addr){δ:Type}(FL:Addr->Hp->Hp->Hp->Qj->δ->Prop)(R:HandS->List OT->(OT->HandS->Prop)->Prop)(f:List OT->(δ->Prop)->Prop):Sp:=λc H Q b=>(∃RR,b=XE CR RR/\Vx CR RR/\spH K C R c H Q b)\/V8 K CR FL (λ_ _=>False) f c H Q b
abbrev G8(K:W.Frag)(C CR:Addr)(f:Str)(R:HandS->List OT->(OT->HandS->Prop)->Prop)(Rx:List OT->(Qd->Prop)->Prop):Sp:=UD K C CR (Fld f) R Rx
def BN(K:W.Frag)(C:Addr)(R:HandS->List OT->(OT->HandS->Prop)->Prop)(R2:List OT->(OT->Prop)->Prop):Sp:=λb H Q c=>spH K C R b H Q c\/Zm K R2 b H Q c
def EvR(K:W.Frag)(t:TS)(Y:Zbv)(Ψ:OT->Zbv->Prop):Prop := ∀(F0 H0 F:Hp) (O:St) (H:Hp) (h:Ends),Q1 F0 H0 F H->Q7 K H0 F Y O H->
 (∀c b Z J v r q,Q1 F0 H0 c Z->Q7 K H0 c J b Z->Zh K c Z v r q->(∀a∈q,H0 a=none)->(∀a∈q,∀u f g,J[0]?=some (some f)->b[0]?=some (some u)->Zh K c Z u f g->a∉g)->Ψ r J->h.rt v Z)->t h O H
section
variable {t u:TS}
def Z7(M:Zbv->Prop)(h:QB K t Y { nx:=M,rt:=λ_=>False })(g:∀J,M J->EvR K u J Ψ):EvR K (YC t u) Y Ψ:=λF0 H0 F O H f x S k=>
 h F0 H0 F O H _ x S #[λj b Z J c i e=>g J e F0 H0 j b Z f c i k,λ_ _ _ _ _ _ _ _ z=>z.elim,λ_ _ _ _ _ _ z=>False.elim z,λ_ _ _ _ _ _ z=>False.elim z]
def Z6(c:QB K t Y { nx:=λJ=>J=e,rt:=λ_=>False })(b:EvR K u e Ψ):EvR K (YC t u) Y Ψ:=Z7 _ c λJ h=>by exact h▸b
def VZ(h:Qr K te Y d)(c:Ψ (.fz d) Y):EvR K (Ys te) Y Ψ:=λF0 H0 F O H g x S k=>
 h H0 F O H _ S λf Z v b r=>k f O Z Y v (.fz d) [] (x.trans b) (S.ext b) #[rfl,r] (by rintro _ ⟨⟩) (by rintro _ ⟨⟩) c
def EM(s:j≠0)(e:Y[j]?=some (some r))(i:Ψ r Y):EvR K (Ys<|Q3 j) Y Ψ:=λF0 H0 F O H N x S k=>by
 refine aA S.fp λP h w t=>At (h j _ e) λv C g=>#[v,C,k F O H Y v r _ x S g (λa c=>(t j a c).1) (λa c u L M B A b m=>?_) i];apply At (h 0 _ B);intro D f y;rw[A]at f;cases f;exact s (w j 0 a c<|WA y b a m)
def Wt{b:Bool}(h:QO K tA Y b)(j:b=true->EvR K t Y Ψ)(i:b=false->EvR K u Y Ψ):EvR K (YB tA t u) Y Ψ:=λF0 H0 F O H f x S k=>
 h H0 F O H _ S λg Z c=>by
  cases b with
  |true=>rw[Xe rfl];exact j rfl F0 H0 g O Z f (x.trans c) (S.ext c) k
  |false=>rw[Xd<|by decide];exact i rfl F0 H0 g O Z f (x.trans c) (S.ext c) k
variable {α:Type}{Φ:α->OwnP}{N:α}
abbrev fiO{α:Type}(v:V)(Φ:α->OwnP)(Ψ:OT->α->Prop):OT->Zbv->Prop:=λr J=>∃M',Ψ r M'/\J[0]?=some (zo v<|Φ M')
def NC{R:α->List OT->(OT->α->Prop)->Prop}{Ψ:OT->α->Prop}
(h:EvR K t (ini dx (.own v0 (Φ N)::ts)) (fiO v0 Φ Ψ))
(M:KTs K F)(w:Q6 F H)(X:Args K F vs ts)(L:(Φ N).ok K F H v0 p)
(q:∀g Z m A v r q,Ψ r A->ExtN p F H g Z->(Φ A).ok K g Z v0 m->(∀b∈m,b∈p\/H b=none)->Zh K g Z v r q->(∀b∈q,(b∈p\/H b=none)/\b∉m)->Q v Z):
 t { nx:=q0,rt:=Q } (start dx (v0::vs)) H:=by
 have s:∀b,(λb=>if b∈p then none else H b:Hp) b=none->b∈p\/H b=none:=λb c=>by
  grind
 refine h F _ F _ H _ #[λb o c=>?_,Q6.refl _,w,λ_ h=>.inl h] (FU M w X L) λg B Z J v r D i e j P W ⟨k,Y,y⟩=>?_
 .grind
 .apply aA e.fp;intro x d n a;apply aA (d 0 _ y);rintro u C rfl f;refine q g Z _ k v r D Y #[λb o l c=>i.hh b o<|#[],i.ff,i.fh,λb c=>?_] f (λb c=>s b (a 0 b c).1) j (λb c=>#[s b<|P b c,W b c _ _ _ y C #[rfl,f]]);rcases i.fr b c with z|z
  .exact .inl z
  .exact .inr ((s b z).symm)
end
def ZK(P:Program)(w:World)(K:W.Frag)(mg:Str->Qf)(base:Heap)(C:Addr)(m:Str)(ps:Qh)(k:Nat)(sp:Sp):Prop:=
 ∃f fd,Meth K C m f/\Vp K fd ps []/\FnOk P w K mg base (CX1 P w) k f fd ps sp
section
variable {base:Heap}{CR:Addr}
def EvR.sq(h:EvR K t Y Ψ):EvR K (YC t u) Y Ψ:=λF0 H0 F O H b x S k=>h F0 H0 F O H { b with nx:=u b } x S k
def Mf.evHXn{m qual:Str}{st:Stmt}{L ps:Qh}{k:Nat}{δ:Type}{FL:Addr->Hp->Hp->Hp->Qj->δ->Prop}{R:HandS->List OT->(OT->HandS->Prop)->Prop}{n:List OT->(δ->Prop)->Prop}(CH:Mf K C m qual st ps)(S:Qo L ps (QG st))
(j:∀f H RR v M ts Ψ,Vx CR RR->R M ts Ψ->B1 P w K mg base L qual st k f H (XE CR RR) λt=>EvR K (YC t<|Ys<|tC .non) (ini L (.own v (QM C M)::ts))<|fiO v (QM C) Ψ)
(y:∀f,ZX P w K mg base L qual st k CR FL n f)(X:∀M ts Ψ,R M ts Ψ->ts.length+1=ps.length:=by intro _ _ _ h;cases h<;>rfl)(i:∀ts Φ,n ts Φ->ts.length=ps.length:=by intro _ _ h;cases h<;>rfl):ZK P w K mg base C m ps (k+1) (UD K C CR FL R n):=by
 refine CH.go λf fd F=>F.okX S (λx H Q G h=>?_) λx H Q G h B A outer s u=>?_
 .rcases h with ⟨RR,_,_,F,o,W,p,ts,M,Ψ,e,_,_,c,_,g,_⟩|⟨F,ts,_,_,c,RR,_,_,q⟩
  .rw[e,WG,c.length];exact X _ _ _ g
  .rcases q with ⟨_,z,_⟩|⟨r,g,_⟩
   .exact z.elim
   .exact c.length.trans (i ts r g)
 .rcases h with ⟨RR,l,b,F,o,W,p,ts,M,Ψ,e,Y,D,c,E,g,q⟩|⟨F,ts,Y,D,c,RR,rfl,b,q⟩
  .subst e l;exact At (j f H RR o M ts Ψ b g B A outer s u) λt d a=>#[t,d,NC (R:=R) (q0:=λ_ _=>False) a Y D c E q]
  .rcases q with ⟨_,z,_⟩|⟨N,g,q⟩
   .exact z.elim
   .exact At (y f F H RR ts N b q g B A outer s u) λt d a=>#[t,d,a F _ H _ (Q1.refl D)<|Bs Y D c]
def Df.evH2{x:Str}{st:Stmt}{m:Qh}{k:Nat}{R:HandS->List OT->(OT->HandS->Prop)->Prop}{R2:List OT->(OT->Prop)->Prop}(CH:Df K mg x st ps)(S:Qo m ps (QG st))
(j:∀f v M ts Ψ,R M ts Ψ->∀H b,B0 P w K mg base m x st k f H b λt=>EvR K t (ini m (.own v (QM C M)::ts))<|fiO v (QM C) Ψ)
(d:∀f ts Φ,R2 ts Φ->∀H b,B0 P w K mg base m x st k f H b λt=>QB K t (ini m ts) { nx:=λ_=>Φ<|.fz .none,rt:=Φ })(W:∀M ts Ψ,R M ts Ψ->ts.length+1=ps.length:=by intro _ _ _ h;cases h<;>rfl)(i:∀ts Φ,R2 ts Φ->ts.length=ps.length:=by intro _ _ h;cases h<;>rfl):QC P w K mg base x ps (k+1) (BN K C R R2):=by
 refine CH.go λf fd F=>F.ok S (λu H Q b h=>?_) λu H Q b h y A outer s o=>?_
 .rcases h with ⟨F,n,L,p,ts,M,Ψ,e,_,_,c,_,g,_⟩|⟨F,ts,Φ,_,_,c,g,_⟩
  .rw[e,WG,c.length];exact W _ _ _ g
  .exact c.length.trans (i ts Φ g)
 .rcases h with ⟨F,n,L,p,ts,M,Ψ,rfl,X,B,c,N,g,q⟩|⟨F,ts,Φ,X,B,c,g,q⟩
  .exact At (j f n M ts Ψ g H b y A outer s o) λt a Y=>#[t,a,NC (R:=R) Y X B c N q]
  .exact At (d f ts Φ g H b y A outer s o) λt a Y=>#[t,a,Y F H F _ H _ (Q1.refl B) (Bs X B c) #[λl r Z J D _ e=>q l Z _ [] _ e D (by rintro _ ⟨⟩) #[rfl,.non],λl Z v E p D G N e=>q l Z v p E e D G N,λ_ _ _ _ _ _ z=>False.elim z,λ_ _ _ _ _ _ z=>False.elim z]]
end
def V6  {o:Expr}  {k:Nat}{b:Sem Bool}(M:Z8 X.prog X.w X.K X.mg X.base C m ps j sp)(c:HandC X.K C)(h:Room k X.A)(he:PE X o ta)(s:j<=k:=by walk_at"j")
(g:eval (.Call (.Attribute o m T1) [] [] pos) X.env=(do
  let ov <- eval o X.env
  standAt T1.atName
  let (f,first) <- holding [ov] (getMethod ov m b)
  callWith pos f first (backTo pos<|starEach [] X.env)<|backToKw pos<|keywordEach [] X.env):=by rfl):
 PE X (.Call (.Attribute o m T1) [] [] pos) (ZQ C m sp [] E0 ta QJ):=by
 exact aF M λf fd i v F=>IQ he c.cl i F (h.mono s) v .nil GE g
def V5  {o e:Expr}  {t:TA}{k:Nat}{g:XK}{h:Sem Bool}(M:ZK X.prog X.w X.K X.mg X.base C m ps j sp)(c:HandC X.K C)(s:Room k X.A)(hx:Y7 (CX1 X.prog X.w) X g)(he:PE X o ta)(A:PA X (e::es) t)(w:j<=k:=by walk_at"j")
(b:zs X e es:=by rfl)(hpl:zb X pos es:=by rfl)
(i:eval (.Call (.Attribute o m T1) (e::es) [] pos) X.env=(do
  let ov <- eval o X.env
  standAt T1.atName
  let (f,first) <- holding [ov] (getMethod ov m h)
  callWith pos f first (backTo pos<|starEach (e::es) X.env)<|backToKw pos<|keywordEach [] X.env):=by rfl):
 PE X (.Call (.Attribute o m T1) (e::es) [] pos) (ZQ C m sp [] g ta t):=by
 exact aF M λf fd v y F=>TD he c.cl v F (s.mono w) y .nil hx A b hpl i
section
variable {t:TA}{CR:Addr}
def QM.at(h:(QM C N).ok K F H v p):∃a L y n k g d e,v=.ref a/\H a=some (.ins C L<|hfs y n k g d e):=by
 obtain⟨a,L,k,g,d,m,y,xs,b,rfl,_,o⟩:=h;exact#[a,L,y,_,k,g,d,m,rfl,o.ins.2]
def OS{Ψ:OT->HandS->Prop}(hm:NoH m)(e:zg Y i<|zo v<|QM C N)(hx:Qr K tx Y d0)(hf:ZN d0=some w0)(hA:Z0 K t Y ts)(hR:R N ts Ψ)(st:Vx CR RR)
(hn:∀r h,Ψ r h->∃d w,r=.fz d/\ZN d=some w/\CH.nx ((Y.set i<|zo v<|QM C h).set j (some<|.ol [d0,d]))):
 QB K (Z9 (Wc<|QE tx<|QE (ZQ C m (G8 K C CR f R Rx) [] (XE CR RR) (Q3 i) t) QJ)<|ZM j) Y CH:=λF0 H0 F O H hi x S C'=>
 hx H0 F O H _ S λF1 U u c r1=>by
  apply aA (Y0 (S.ext c) (x.trans c) e);intro p0 s0 a _;apply ae (QM.at a);rintro T L y n k g d e'⟨rfl,h1⟩;refine#[.ref T,s0,T,L,_,rfl,h1,hm _ _ _ _ _ _,hA H0 F1 O U _ (S.ext c) λF2 H2 vs s r2=>.inl #[RR,rfl,st,aA (Y0 (S.ext<|c.trans s) (x.trans<|c.trans s) e) λp s1 W I=>#[F2,_,vs++[],p,ts,N,Ψ,rfl,(S.ext<|c.trans s).kt,s.fh,by rw[Xx];exact r2,W,hR,λD Z p' h v' r q hr xn l M P hq=>?_]]];apply aF (hn r h hr);rintro d w rfl hfd o;refine I0 (I D Z p' h xn l M) λX' B _=>#[YJ<|Vh<|by show(2)<=1000;decide,λz hz=>C'.nx D _ _ _ (X'.trans (Q1.own B.sub hz)) ((B.ext (Q1.own B.sub hz)).set (t:=.ol [d0,d]) #[z,rfl,rfl,B.sub.free hz,_,Q8,.cons (r1.thin hf)<|.cons P.2 .nil] (λb G=>?_) (hn:=λb G k u' t' q' m1 Q X E=>?_)) o]
  .cases Xi.mp G;exact X'.hh.free hz
  .cases Xi.mp G;refine aA B.fp λfp g1 g2 g3=>At (g1 k t' m1) λu2 f1 f2=>?_;rw[f1]at Q;cases Q;exact(g3 k z<|WA (f2.ext (Q1.own B.sub hz)) X z E).2 hz
def OU(W:NoH m)(e:zg Y i<|zz<|Zj C N)(hx:Qr K tx Y d0)(p:Z0 K t Y ts)(o:Rx (.zow (Zj C N)::ts) Φx)(st:Vx CR RR)
(P:∀s Z e b d,Φx d->Q1 F0 H0 s Z->H0 e=none->Fld f e s Z H0 b d->RR e b Z)(x:Q1 F0 H0 F H)(S:Q7 K H9 F Y O H):
 Z9 (Wc<|QE tx<|QE (ZQ C m (G8 K C CR f R Rx) [] (XE CR RR) (Q3 i) t) QJ) (ZM j) hi O H:=
 hx H9 F O H _ S λG U u c J=>by
  apply ah ((S.ext c).hz e);rintro a L k g d D y M q xs z⟨r,w⟩;refine#[_,r,a,L,_,rfl,c.fh _ _ w.ins,W _ _ _ _ _ _,p H9 G O U _ (S.ext c) λE Q I h B=>.inr ?_];have v:=x.trans (c.trans h);exact#[E,_,(S.ext<|c.trans h).kt,h.fh,.zow ((Zj C N).mono h.ff #[a,L,k,g,d,D,y,M,q,xs,z,rfl,w])<|by rw[Xx];exact B,RR,rfl,st,.inr #[Φx,o,λs Z e b d n A l X=>P s Z e b d n (v.trans A) (v.hh.free l)<|X.back v.hh]]
def ZrF{R2:List OT->(OT->Prop)->Prop}{Ψ:OT->HandS->Prop}(P:i≠j)(e:zg Y i<|zo v<|QM C N)(X:Z0 K t Y ts)(W:R N ts Ψ)
(hn:∀r b,Ψ r b->CH.nx ((Y.set i<|zo v<|QM C b).set j (some r))):
 QB K (Z9 (ZS (BN K C R R2) [] E'<|QE (Q3 i) t)<|ZM j) Y CH:=λF0 H0 F O H I x S u=>by
 refine At (Y0 S x e) λG s0 _=>#[_,s0,X H0 F O H _ S λo U A c B=>.inl (aA (Y0 (S.ext c) (x.trans c) e) λp E h s=>#[o,_,A++[],p,ts,N,Ψ,rfl,(S.ext c).kt,c.fh,by rw[Xx];exact B,h,W,λw Z D b z r q L y m f g M=>?_])];apply I0 (s w Z D b y m f);intro l n a;obtain⟨k,d⟩:=a q M;exact u.nx w _ Z _ l (n.set g k (hn:=d)) (hn r b L)
def Fh{R2:List OT->(OT->Prop)->Prop}(h:Z0 K t Y ts)(s:R2 ts Φ):Z5 K (ZS (BN K C R R2) [] E' t) Y Φ:=λH0 F O H Q S q=>
 h H0 F O H _ S λA U B b f=>.inr #[A,ts,Φ,(S.ext b).kt,b.fh,by rw[Xx];exact f,s,λy w v p r i c j g=>q y w v p r i (b.trans c) (λa m=>b.hh.free<|j a m) g]
end
def MM(C:Addr):Sp:=λc H Q _=>∃x L y,c=[.ref x,y]/\H x=some (.ins C L [])/\∀k g d m Z,H k=none->H g=none->H d=none->H m=none->[x,k,g,d,m].Nodup->
 Z x=some (.ins C L<|hfs y 0 k g d m)->Z k=some (.lst [])->Z g=some (.lst [])->Z d=some (.dK [])->Z m=some (.lst [])->(∀b,b∉[x,k,g,d,m]->Z b=H b)->Q .non Z
def Ks(P:Program)(w:World)(K:W.Frag)(mg:Str->Qf)(base:Heap)(x:Str)(C:Addr)(ps:Qh)(k:Nat):Prop:=
 ∃f fd,Mk K C f/\mg x=some (.ref C)/\Vp K fd ps []/\FnOk P w K mg base CX0 k f fd ps (MM C)
def OQ  {x:Str}{p:Pos}{e:Expr}{t:TA}{k:Nat}(M:Ks X.prog X.w X.K X.mg X.base x C ps j)(c:Room k X.A)(s:PA X (e::es) t)(h:j+1<=k:=by walk_at"j")(i:Gl X x:=by rfl)(b:(x==("__debug__" : Str))=false:=by decide +kernel)
(he:zs X e es:=by rfl)(hpl:zb X pos es:=by rfl):
 PE X (.Call (.Name x p) (e::es) [] pos) (GM C (MM C) [] E0 t):=by
 exact aD M λf fd M g m F=>IA M F (c.mono h) i g m .nil GE s b he hpl
def OV(h:Qr K ta Y yd):EvX K (GM C (MM C) [] hi<|QE ta QJ) Y (QM C #[yd,0,[],[],[],[]]):=λH0 F O H Q E q=>h H0 F O H _ E λG U B w I=>λx L A s y=>by
 have S:=E.ext w;refine#[x,L,B,rfl,Q8,λe r l d Z T J R hd M h1 h2 h3 h4 h5 k=>#[rfl,?_]];have v:∀{b:Addr},upd (upd U L<|.own x) x (.ins C L []) b=none->U b=none/\b≠x/\b≠L:=λ{b} f=>by
  have P:b≠x:=λz=>by rw[z,Q8]at f;cases f
  rw[Qs P]at f;have N:b≠L:=λz=>by rw[z,Q8]at f;cases f
  rw[Qs N]at f;exact#[f,P,N]
 refine I0 (v T) λp e2 n=>I0 (v J) λj r2 D=>I0 (v R) λX l2 W=>I0 (v hd) λu d2 t=>?_;have m:Z L=some (.own x):=by
  rw[k L<|by simp only[Xf,X5,or_false,not_or];exact#[y,Ne.symm n,Ne.symm D,Ne.symm W,Ne.symm t],Qs y,Q8]
 have a:∀b o,U b=some o->Z b=some o:=λb o f=>by
  have g:∀{c:Addr},U c=none->b≠c:=λhc z=>by rw[z,hc]at f;cases f
  rw[k b<|by simp only[Xf,X5,or_false,not_or];exact#[g A,g p,g j,g X,g u],Qs<|g A,Qs<|g s];exact f
 have i:∀{b:Addr},U b=none->G b=none:=λf=>S.sub.free f;refine q G Z (.ref x) [x,L,e,r,l,d] (w.trans #[a,Q6.refl _,λb o f=>a b o<|S.sub b o f,λ_ h=>.inl h]) (λb f=>?_) #[x,L,e,r,l,d,B,[],[],rfl,rfl,?_,#[i A,h1],#[i s,m],I,#[i p,[],h2,.nil],#[i j,[],h3,.nil],#[i X,h4,.nil],#[i u,h5,.nil]]
 .refine w.hh.free ?_
  grind
 .simp only[Xu,Xf,X5,or_false,not_or]at M ⊢;apply aJ M;rintro⟨a1,a2,a3,a4⟩b1 c1 f1;exact#[#[Ne.symm y,a1,a2,a3,a4],#[Ne.symm n,Ne.symm D,Ne.symm W,Ne.symm t],b1,c1,f1]
end L2
namespace L2
section
variable {O:St}{H:Hp}
def Zol(Y:Qt X B O H s)(P:X.N.Nodup)(E:X.N[i]?=some x)(f:X.env.scope.names.lookup x=some .cell)(g:X.fn x=true)
(h:∀L,Qt X B (O.set i none) H L->Q () L):wpAny M A (do bindName X.env x .none;unbindBehindTheSuite X.env x pos) Q hi s:=by
 have D:i<O.length:=by rw[Y.len];exact(Xc.mp E).1
 refine Xa (wpAny_bindName<|DD (v:=.non) Y P E (.inr f) rfl (λs I=>?_)<|.inl g);apply At (id I.loc);intro m n N;have o:=I.cne;obtain⟨c,b⟩:=I.ok.has x (.inl f);have j:s.heap.IsCell c (some .none):=by
  apply At (N i x .non E (by rw[Xk D]) (.inr<|.inl f));intro u d q;cases d;rcases q with ⟨k,_⟩|⟨k,W,e,z⟩
  .have z:=f.symm.trans k;cases z
  .rw[b]at e;cases e;exact z
 refine wpAny_onRaise<|Xa (wpAny_point<|Xa ?_);unfold deleteName;have C:X.env.kindOf x=some .cell:=f;simp only[C];refine Xa (wpAny_cellOf b<|Xa<|wpAny_cellGet j (wpAny_cellSet j λh' K w=>wpAny_point (h _<|List.set_set .. ▸ I.poke (ov:=none) P E w (I.ok.cab x c g b) (I.freeC x c b) (.inr #[#[_,j],_,K]) (n.sameBut w<|Ne.symm<|I.cne x c b) N (by rintro _ ⟨⟩) λy u l q=>q.imp id<|by rintro⟨k,W,e,a⟩;exact#[k,W,e,a.sameBut w λq=>l<|I.ok.inj _ _ _ (q▸e) b])))
end
def EHc(C:Addr)(th:Addr->TS)(CH:Ends)(n j:Nat):XK:=XE C λe b H=>∀(O:St) Z T,O.length=n->Lefts C e b H Z->Z T=none->T≠e->th e (Dh CH j) (O.set j<|some<|.ref e) (left C e b T Z)
def Ri{CH:Ends}:Vx C λe b H=>∀(O:St) Z T,O.length=n->Lefts C e b H Z->Z T=none->T≠e->th e (Dh CH j) (O.set j<|some<|.ref e) (left C e b T Z):=λ_ _ _ _ r hT c O Z h f g=>r O Z h f (.head hT c g)
section
variable {Xa6:Addr}{tb:Ends->TS}{x n:Str}
def Hf{O:St}{CH:Ends}(cm:W.exmOne X.K (.ref C) (.ref Xa6)=some true)(c:X.Ok)(b:X.stack=X.env::X.outer)(L:X.env.frame=some X.env.locals)(hg:Gl X x)(hm:X.mg x=some (.ref Xa6))
(Y:X.N.Nodup)(K:X.N[j]?=some n)(g:X.env.scope.names.lookup n=some .local\/(X.env.scope.names.lookup n=some .cell/\X.fn n=true))
(hh:∀e pn,PSs (YH X e pn) (b0::suite)<|th e)(I:Qt { X with pn:=X.pn++B } [] O H s)(P:T0≠e)(he:H e=some (.ext<|phF C e dct T0))(hT:H T0=some (.ext<|phT T0))
(hd:(x==("__debug__" : Str))=false)
(hq:∀T,H T=none->T≠e->th e (Dh CH j) (O.set j<|some<|.ref e) (left C e dct T H))(o:∀f l,SP X B CH f l->Q f l):
 wpAny (model X.prog X.w) X.A (noteFrame (.ref e) X.env) (λ_ G=>wpAny (model X.prog X.w) X.A (setFlight (.ref e) none) (λ_ y=>wpAny (model X.prog X.w) X.A (handleBy (.ref e) X.env (.ExceptHandler (some<|.Name x np) (some n) (b0::suite) hpos::rest)) Q hi y) hi G) hi s:=by
 apply I0 (I.hok e _ he);rintro⟨vs,sl,D,r,a⟩_ _;apply I0 (I.hok T0 _ hT);rintro⟨oT,ts,A,p,h3⟩_ _
 have d:=I.stack;have d:s.heap.FunFrames X.base (X.env::X.outer):=by rw[<- b];exact d
 refine RQ (by rw[c.frames,b]) d L D rfl r P A p h3 λh' T w=>?_;have h:=DV I (by rw[he];trivial) D (Array.getElem?_eq_some_iff.mp r).1 a (by exact b▸w);have i:=Y3 (XG (Xo D) w.new);have m:Qt (YH X e<|X.pn++B) [] O _ { s with heap:=h' }:=h.toHandler;refine wpAny_handleBy_cons (codeAny_handlers_test<|J7 m hg hm ((W.exm_one h.kIn ((W.Looks.ld w.exc).andThen .now) cm).here (codeAny_handlers_suite_as ?_)) hd) (by intro q;cases q);have U:left C e dct T H e=some (.ext<|phF C e dct T):=by unfold left;rw[Qs<|Ne.symm i,Q8]
 have S:left C e dct T H T=some (.ext<|phT T):=by unfold left;rw[Q8]
 refine I0 (m.hok e _ U) λR _ _=>I0 (m.hok T _ S) λJ _ _=>FP R J λp k2=>DD (X:=YH X e (X.pn++B)) (m.kept (t':=s.toks) k2) Y K (g.imp id And.left) (v:=.ref e) rfl (λy J3=>wpAny_mono (hh e _ [] y _ _ (Dh CH j) J3<|hq T (I.hok.fresh w.new) i) (λfl s4 z=>?_) λ_ _ z=>False.elim z) (g.symm.imp And.right id)
 cases fl with
 |next=>
  apply KE z;intro E Z t q;rcases g with g|⟨g,M⟩
  .exact Zq9 (X:=YH X e (X.pn++B)) t Y K g λF k=>o _ _ #[_,Z,(k.ofHandler c).ofPn,q]
  .exact Zol (X:=YH X e (X.pn++B)) t Y K g M λF k=>o _ _ #[_,Z,(k.ofHandler c).ofPn,q]
 |ret u=>exact aB z λ_ _ _ _ _ z=>False.elim z
 |brk=>exact KE z λ_ _ _ z=>False.elim z
 |cont=>exact KE z λ_ _ _ z=>False.elim z
def Rk(r:W.exmOne X.K (.ref C) (.ref Xa6)=some true)(m:X.stack=X.env::X.outer)(w:X.env.frame=some X.env.locals)(Y:Gl X x)(L:X.mg x=some (.ref Xa6))
(o:X.N.Nodup)(N:X.N[j]?=some n)(M:X.env.scope.names.lookup n=some .local\/(X.env.scope.names.lookup n=some .cell/\X.fn n=true))
(l:∀CH i,PSs (Ky X (EHc C th CH X.N.length j) i) body<|tb CH)(P:∀e i,PSs (YH X e i) (b0::suite)<|th e)(k:(x==("__debug__" : Str))=false:=by decide):
 PS X (.Try body (.ExceptHandler (some<|.Name x np) (some n) (b0::suite) hpos::rest) [] [] pos) (YN tb):=by
 intro B s O H CH I h;have t:Qt (Ky X (EHc C th CH X.N.length j)<|X.pn++B) [] O H s:=I.toPn.wish _;refine wpAny_Try_except (wpAny_mono (l CH _ [] s O H CH t h) (λA D q=>?_) λv D q=>?_)
 .have f:=SP.ofPn q;cases A with
  |next=>exact wpAny_execs_nil f
  |ret u=>exact f
  |brk=>exact f
  |cont=>exact f
 .apply L0 q;rintro g U p c⟨e,rfl,⟨F,y,d,hT⟩,K⟩;exact Hf r I.ok m w Y L o N M P c y d hT k (λT a b=>K g _ T c.len .nil a b) λA E z=>z
end
end L2
namespace L2
def Bq(f:CXT)(X:Cx)(b:St->XK):Prop := ∀(B:Qc) (O:St) (H:Hp) (s:Shared) (e:Value) (c:Shared),Qt X B O H s->f X.stack H s (b O) e c->X.xe e c
def XWp(X:Cx)(c:St->XK)(pn:Qc)(v:Value)(s:Shared):Prop := ∃(O:St) (H:Hp) (b:Qj),Qt { X with pn:=pn } [] O H s/\c O v b H
abbrev GT(X:Cx)(Eσ:St->XK)(pn:Qc):Cx:={ X with pn:=pn,xe:=XWp X Eσ pn }
def Hh : Bq (CX1 X.prog X.w) (GT X Eσ pn) Eσ:=by
 intro B O H s v m I h;apply aT h;intro i Z y c j f C;obtain⟨K,g,d,t,w⟩:=m;obtain rfl:=y;exact#[O,Z,i,((I.call (d':=d) (t':=t) j f c (by rintro b ⟨⟩)).unwish).pins_of (λp A=>by cases A),C]
end L2
namespace L2
section
variable {d:PyData}
def Q7.freezeO(hz:∀{p:Qg},Φ.ok K F H v p->Rep (frF F H p) v d)(s:Q7 K H0 F Y O H)(e:zg Y i<|zo v Φ):
 ∃p,(∀a∈p,F a=none/\H a≠none/\H0 a=none)/\Q7 K H0 (frF F H p) (Y.set i<|zf d) O H:=
 s.frz e λu p b=>by
  obtain⟨rfl,b⟩:=b;exact#[rfl,hz b]
end
end L2
namespace L2
def lsO(d0:PyData)(ds:Qd):OwnP where
 ok K F H v p := ∃a b x,v=.ref a/\p=[a,b]/\a≠b/\F a=none/\H a=some (.lst [x,.ref b])/\Rep F x d0/\VI F H b ds
 there:=by
  rintro K F H v p ⟨a,b,x,rfl,rfl,_,y,f,_,w,xs,h,_⟩ c g;simp only[Xf,X5,or_false]at g;rcases g with rfl|rfl
  .exact#[y,Z4 f]
  .exact#[w,Z4 h]
 mono:=by
  rintro K F L H Z v p s m j ⟨a,b,x,rfl,rfl,n,y,f,r,w,xs,h,A⟩;exact#[a,b,x,rfl,rfl,n,m _<|by simp,by rw[j _<|by simp];exact f,r.mono s,m _<|by simp,xs,by rw[j _<|by simp];exact h,A.mono s]
 uniq:=by
  rintro K F H v p q ⟨a,b,x,rfl,rfl,_,_,f,_⟩ ⟨D,C,B,e,rfl,_,_,i,_⟩ c g;cases e;have z:=f.symm.trans i;simp only[Option.some.injEq,HO.lst.injEq,List.cons.injEq,V.ref.injEq,and_true]at z;exact z.2▸g
def IS{w:V}(h0:ZN d0=some w)(h:W0 ds):WH (.own v<|lsO d0 ds):=λK F y H u p c f=>by
 apply ai f;rintro e a b x rfl rfl n s⟨j,r,m,xs,i,g⟩;exact#[e,a,b,x,rfl,rfl,n,c _<|by simp,j,r.thin h0,c _<|by simp,xs,i,g.flats h]
def lsO.frz(f:(lsO d0 ds).ok K F H v p):Rep (frF F H p) v (.list [d0,.list ds]):=by
 have c:Q6 F (frF F H p):=Jl λa g=>((lsO d0 ds).there f a g).1;apply aM f;rintro a b x rfl rfl n s⟨j,r,m,xs,i,h⟩;exact .lst (by rw[Wy<|by simp];exact j) (.cons (r.mono c)<|.cons (.lst (by rw[Wy<|by simp];exact i)<|h.mono c) .nil)
def Zrj(J:i≠j)(E:Y[i]?=some (some<|.ol [d0]))(h:zg Y j<|zo (.ref e)<|WJ C f ds e L q)(hn:∀v,CH.nx<|(Y.set j none).set i (zo v<|lsO d0 ds)):
 QB K (VB<|tBM K "list" Ye (Q3 i)<|QE (tXG C (Q3 j) f) QJ) Y CH:=λF0 H0 F O H hi x S c=>by
 obtain⟨kt,s1,s2,d,R,B,p⟩:=id S;apply aZ (R i _ E);rintro u u1 a rfl ui U xs Q ra;apply aO (R j _ h);rintro w w1 rfl wp⟨f1,f2,f3⟩⟨⟨T,hT⟩,hd,ys,hq,rq⟩;have I:=(Xc.mp E).1;have G:=(Xc.mp h).1;have n:a∈d i:=by rw[ui];exact Xb
 have o:q∈d j:=by rw[wp];simp
 have W:a≠q:=λz=>J (B i j a n<|z▸o);have a0:=(p i a n).1;have q0:=(p j q o).1
 obtain⟨P,rfl,r0⟩:∃P,xs=[P]/\Rep F P d0:=by
  cases ra with
  |cons r1 r2=>cases r2;exact#[_,rfl,r1]
 refine#[.ref a,u1,.inl #[rfl,_,SqL.of Q],.ref e,w1,e,L,T,.ref q,rfl,hT,hd,a,[P],.ref q,rfl,rfl,Q,Vh<|by show(1)<=1000;decide,c.nx F O _ _ (x.wr a0 U) #[kt,s1.upd U,by simp[s2],λk=>if k=i then [a,q] else if k=j then [] else d k,λk t D=>?_,λk l b g hc=>?_,λk b g=>?_] (hn<|.ref a)]
 .by_cases m:k=i
  .subst m;rw[Xk<|by simpa using I]at D;cases D;refine#[.ref a,u1,rfl,a,q,P,rfl,?_,W,U,Q8,r0,f3,ys,by rw[Qs<|Ne.symm W];exact hq,rq];simp
  .rw[Xp<|Ne.symm m]at D
   by_cases A:k=j
   .subst A;rw[Xk G]at D;cases D
   .rw[Xp<|Ne.symm A]at D;refine At (R k t D) λv' g1 g2=>#[v',g1,?_];simp only[Xd m,Xd A];exact g2.other λz=>m (B k i a z n)
 .have y:∀k b,b∈(if k=i then [a,q] else if k=j then [] else d k)->(k=i/\(b=a\/b=q))\/(k≠i/\k≠j/\b∈d k):=λk b m=>by
   by_cases z:k=i
   .rw[Xe z]at m;exact .inl #[z,by simpa using m]
   .rw[Xd z]at m
    by_cases s:k=j
    .rw[Xe s]at m;cases m
    .rw[Xd s]at m;exact .inr #[z,s,m]
  rcases y k b g with ⟨r,X⟩|⟨r,z2,X⟩
  .rcases y l b hc with ⟨N,_⟩|⟨N,Z,M⟩
   .rw[r,N]
   .rcases X with rfl|rfl
    .exact Xv (B l i _ M n) N
    .exact Xv (B l j _ M o) Z
  .rcases y l b hc with ⟨N,M⟩|⟨N,Z,M⟩
   .rcases M with rfl|rfl
    .exact Xv (B k i _ X n) r
    .exact Xv (B k j _ X o) z2
   .exact B k l b X M
 .refine#[?_,VN b ?_]
  .by_cases z:k=i
   .simp only[Xe z,Xf,X5,or_false]at g;rcases g with rfl|rfl
    .exact a0
    .exact q0
   .simp only[Xd z]at g
    by_cases s:k=j
    .simp[s]at g
    .simp only[Xd s]at g;exact(p k b g).1
  .by_cases z:k=i
   .simp only[Xe z,Xf,X5,or_false]at g;rcases g with rfl|rfl
    .exact Z4 Q
    .exact Z4 hq
   .simp only[Xd z]at g
    by_cases s:k=j
    .simp[s]at g
    .simp only[Xd s]at g;exact(p k b g).2
structure SA(K:W.Frag)(mg:Str->Qf)(ρ C cg ct:Addr):Prop where
 em:W.exmOne K (.ref C) (.ref ρ)=some true
 my:mg "YardError"=some (.ref ρ)
 gt:S8 K C
 na:VL K C "some"
 is:ML K C
 k1:W.kitOne K (.ref C) (.ref C)=some true
 k2:W.kitOne K (.ref C) (.type "ValueError")=some true
 kg:W.kitOne K (.ref C) (.ref cg)=some false
 kt:W.kitOne K (.ref C) (.ref ct)=some false
 m1:mg "NoGuest"=some (.ref cg)
 m2:mg "NoTime"=some (.ref ct)
end L2
section
set_option maxHeartbeats 400000
namespace L2
def Pa(X:Cx):List V->Hp->VK->Prop:=λxs H Q=>X.calm=true/\∃(x:V) (b:Ql) (M:Int),xs=[x]/\Rep H x (.list<|b.map PyData.int)/\M∈b/\(∀a∈b,a<=M)/\Q (.int M) H
def EA:Va X (.builtin "max") (Pa X):=by
 intro B s O H xs U Q I r h;apply ai h;rintro F x f M rfl a K g q;apply At (YE r);rintro u rfl P;cases a with
 |@lst l ys _ G Y=>
  cases P;have S:=Uu Y;subst S;apply aA (I.list (SqL.of G));intro c W p hz;have C:=p.isList;have E:=Bx W;have L:=E.length;have hpos:0<f.length:=HE.mpr λz=>by rw[z]at K;cases K
  have m:l<s.heap.objs.size:=by exact At C λ_ e _=>Xo e
  refine call_max_walk (wpAny_pyIter_list C (#[s.heap.objs.size,[s.heap.objs.size,l],[s.heap.objs.size],c.toArray.size,_,_,_,rfl,Walks.list (A:=X.A.in1) (I.ok.hd F) _ l (XF m) c.toArray,
   #[#[_,XD _ rfl,rfl,rfl],C.push _],λb w=>?_,by simp only[Xs];lia,CmpOf.ints_gt (λi=>f.getD i 0) (λi v y=>Uq E<|by simpa using y),λv h' Z y n=>?_]))
  .rw[Jq];rcases Xf.mp w with rfl|w
   .exact JN _
   .rcases Xf.mp w with rfl|w
    .exact BF m
    .cases w
  .rw[List.getElem?_toArray]at y;obtain⟨t,rfl⟩:=Uq E y;obtain⟨R,N⟩:=argBest_gt (λi=>f.getD i 0) (c.toArray.size-1);have d:c.toArray.size=c.length:=by simp
   generalize argBest _ (c.toArray.size-1)=k at R N ⊢;have D:k<f.length:=#[]
   have T:f.getD k 0=M:=by
    have J:f.getD k 0∈f:=by simp[D]
    have h2:=g _ J;obtain⟨j,o,e⟩:=BA.mp K;have h3:=N j #[];have h4:f.getD j 0=M:=by simp[o,e]
    lia
   exact#[.int M,H,I.kept<|Nc n,#[t,by rw[T]],q]
def ER{ns:Ql}{M:Int}(h:Qr K ta Y (.list<|ns.map PyData.int))(g:X.calm=true)(i:M∈ns)(f:∀a∈ns,a<=M):Qr K (tCB (Pa X)<|QE ta QJ) Y (.int M):=λH0 F O H Q S q=>
 h H0 F O H _ S λj U v b c=>#[g,v,ns,M,rfl,c.mono b.fh,i,f,q j U _ b<|.int _]
def C4(b:Zbv->Prop)(h:QB K t Y { nx:=b,ct:=CH.ct,bk:=CH.bk,rt:=CH.rt })(k:∀J,b J->CH.nx J):QB K t Y CH:=λF0 H0 F O H i x S C=>
 h F0 H0 F O H i x S #[λm c Z J f j g=>C.nx m c Z J f j<|k J g,C.rt,C.bk,C.ct]
end L2
end
namespace L2
def olP(ds:Qd):OwnP where
 ok K F H v p := ∃a,v=.ref a/\p=[a]/\VI F H a ds
 there:=by
  rintro K F H v p ⟨a,rfl,rfl,g,xs,f,_⟩ c b;cases Xi.mp b;exact#[g,Z4 f]
 mono:=by
  rintro K F w H Z v p s i h ⟨a,rfl,rfl,g,xs,f,j⟩;exact#[a,rfl,rfl,i _<|by simp,xs,by rw[h _<|by simp];exact f,j.mono s]
 uniq:=by
  rintro K F H v p q ⟨a,rfl,rfl,_⟩ ⟨m,e,rfl,_⟩ c b;cases e;exact b
def EvW(K:W.Frag)(t:TE)(Y:Zbv)(i:Nat)(Θ:Int->OT->Prop):Prop := ∀(F0 H0 F:Hp) (O:St) (H:Hp) (Q:VK),Q1 F0 H0 F H->Q7 K H0 F Y O H->
 (∀b Z n o,Θ n o->Q1 F0 H0 b Z->Q6 F b->Q7 K H0 b (Y.set i<|some o) O Z->Q (.int n) Z)->t O H Q
section
variable {tb:TE}{t:TA}
def olP.frz(b:(olP ds).ok K F H v p):Rep (frF F H p) v (.list ds):=by
 apply aY b;rintro a rfl rfl i xs h g;exact .lst (by rw[Wy<|by simp];exact h) (g.mono (Jl λa f=>((olP ds).there b a f).1))
def M4(i:Nat)(e:zg Y i<|zo v<|olP ds)(f:ZN d=some u)(h:Qr K te (Y.set i<|zf<|.list ds) d):Qr K te Y d:=λH0 F O H Q S q=>by
 exact At (S.freezeO olP.frz e) λp b g=>h H0 _ O H Q g λj Z v x r=>q _ Z v (JC (λa c=>#[(b a c).1,(b a c).2.1]) x) (r.thin f)
def Hi(e:zg Y i<|zo v<|olP ds)(h:Qr K te Y d)(E:Qr K tb Y (.int k))(M:ixN ds.length k=some j)(hn:CH.nx (Y.set i<|zo v<|olP<|ds.set j d)):
 QB K (Z9 te<|BJ (Q3 i) tb Uf) Y CH:=λF0 H0 F O H I x S C=>
 h H0 F O H _ S λX U u b D=>by
  apply aX ((S.ext b).writeOwn e);rintro P p⟨a,rfl,rfl,r,xs,q,o⟩G _;refine#[_,P,E H0 X O U _ (S.ext b) λW Q y f B=>?_];cases B;apply aX ((S.ext<|b.trans f).writeOwn e);rintro _ n⟨J,N,rfl,l,ys,L,t⟩m w;cases N;exact I0 (m a Xb) λA g _=>#[a,ys,k,j,rfl,rfl,L,by rw[t.length];exact M,C.nx W O _ _ ((x.trans<|b.trans f).wr A g) (w _ (olP _) [a] ((S.ext<|b.trans f).sub.upd g) (λc s _=>Qs λz=>s<|by exact z▸Xb) VN #[a,rfl,rfl,g,_,Q8,t.set (D.mono f.ff) j] λc s=>.inl s) hn]
def Ty{b:Type}{Φ:b->OwnP}{N:b}{R:b->List OT->(OT->b->Prop)->Prop}{Ψ:OT->b->Prop}(e:zg Y i<|zo v<|Φ N)(W:Z0 K t Y ts)(P:R N ts Ψ)(hn:∀r f,Ψ r f->∃n,r=.fz (.int n)/\Θ n (.own v<|Φ f)):
 EvW K (ZS (spP K Φ R) [] E'<|QE (Q3 i) t) Y i Θ:=λF0 H0 F O H Q x S q=>by
 refine At (Y0 S x e) λu s0 _=>#[_,s0,W H0 F O H _ S λd U B c D=>aA (Y0 (S.ext c) (x.trans c) e) λp l j w=>#[d,v,B++[],p,ts,N,Ψ,rfl,(S.ext c).kt,c.fh,by rw[Xx];exact D,j,P,λA Z L f k r o M y m g h z=>?_]];apply At (hn r f M);rintro n rfl s;apply I0 (w A Z L f y m g);intro X a _;obtain⟨_,C⟩:=h;cases C;exact q A Z n _ s X (c.ff.trans y.ff) a
def Mh{s:TE->TS}(hw:EvW K te Y i Θ)(hs:∀(H0 F:Hp) (O:St) (H:Hp) (b:Ends),Q7 K H0 F Y O H->(∀Q:VK,(∀n U,s (tC<|.int n) b O U->Q (.int n) U)->te O H Q)->s te b O H)
(hn:∀n o,Θ n o->QB K (s<|tC<|.int n) (Y.set i<|some o) CH):QB K (s te) Y CH:=λF0 H0 F O H b x S c=>
 hs H0 F O H b S λQ h=>hw F0 H0 F O H Q x S λm Z n o f g _ j=>h n Z (hn n o f F0 H0 m O Z b g j c)
def Fg(y:Qr K ta Y (.list ds))(hw:EvW K te Y i Θ)(hn:∀n o,Θ n o->∃d,atI ds n=some d/\CH.nx ((Y.set i<|some o).set j (zf d))):QB K (Z9 (tOp (rIx K) ta te)<|ZM j) Y CH:=λF0 H0 F O H C x S c=>
 y H0 F O H _ S λA U u g w=>hw F0 H0 A O U _ (x.trans g) (S.ext g) λB Z n o b v h m=>by
  apply At (hn n o b);intro d e f;cases w with
  |@lst a xs _ k1 k2=>
   exact At (Gj (k2.mono h) e) λz t s=>.inl #[a,xs,n,z,rfl,rfl,SqL.of<|m.sub _ _<|h _ _ k1,t,c.nx B _ Z _ v (m.setF s) f]
end
section
variable {base:Heap}
def Df.evP{g:Type}{Φ:g->OwnP}{x:Str}{st:Stmt}{B:Qh}{k:Nat}{R:g->List OT->(OT->g->Prop)->Prop}(CH:Df K mg x st ps)(S:Qo B ps (QG st))
(b:∀f v M ts Ψ,R M ts Ψ->∀H c,B0 P w K mg base B x st k f H c λt=>EvR K t (ini B (.own v (Φ M)::ts))<|fiO v Φ Ψ)(j:∀M ts Ψ,R M ts Ψ->ts.length+1=ps.length:=by intro _ _ _ h;cases h<;>rfl):QC P w K mg base x ps (k+1) (spP K Φ R):=by
 refine CH.go λf fd F=>F.ok S (λL H Q c h=>?_) λL H Q c h C A outer s Y=>?_
 .obtain⟨F,D,i,p,ts,M,Ψ,e,_,_,m,_,y,_⟩:=h;rw[e,WG,m.length];exact j _ _ _ y
 .obtain⟨F,D,i,p,ts,M,Ψ,rfl,X,N,m,W,y,q⟩:=h;exact At (b f D M ts Ψ y H c C A outer s Y) λt d a=>#[t,d,NC (R:=R) a X N m W q]
end
def Pz(X:Cx):List V->Hp->VK->Prop:=λxs H Q=>X.calm=true/\∃(x:V) (b:Ql) (M:Int),xs=[x]/\Rep H x (.tuple<|b.map PyData.int)/\M∈b/\(∀a∈b,a<=M)/\Q (.int M) H
def E9:Va X (.builtin "max") (Pz X):=by
 intro B s O H xs T Q I r h;apply ai h;rintro p x f M rfl a K g q;apply At (YE r);rintro u rfl P;cases a with
 |@tup l ys _ F Y=>
  cases P;have R:=Uu Y;subst R;apply aA (I.tuple (SqT.of F));intro c W C Z;have E:=Bx W;have L:=E.length;have hpos:0<f.length:=HE.mpr λz=>by rw[z]at K;cases K
  have m:l<s.heap.objs.size:=by exact At C λ_ e _=>Xo e
  refine call_max_walk (wpAny_pyIter_tuple C (#[s.heap.objs.size,[s.heap.objs.size,l],[s.heap.objs.size],c.toArray.size,_,_,_,rfl,Walks.tuple (A:=X.A.in1) (I.ok.hd p) _ l (XF m) c.toArray,
   #[#[_,XD _ rfl,rfl,rfl],C.push _],λb w=>?_,by simp only[Xs];lia,CmpOf.ints_gt (λi=>f.getD i 0) (λi v y=>Uq E<|by simpa using y),λv h' U y n=>?_]))
  .rw[Jq];rcases Xf.mp w with rfl|w
   .exact JN _
   .rcases Xf.mp w with rfl|w
    .exact BF m
    .cases w
  .rw[List.getElem?_toArray]at y;obtain⟨t,rfl⟩:=Uq E y;obtain⟨J,N⟩:=argBest_gt (λi=>f.getD i 0) (c.toArray.size-1);have d:c.toArray.size=c.length:=by simp
   generalize argBest _ (c.toArray.size-1)=k at J N ⊢;have D:k<f.length:=#[]
   have S:f.getD k 0=M:=by
    have G:f.getD k 0∈f:=by simp[D]
    have h2:=g _ G;obtain⟨j,o,e⟩:=BA.mp K;have h3:=N j #[];have h4:f.getD j 0=M:=by simp[o,e]
    lia
   exact#[.int M,H,I.kept<|Nc n,#[t,by rw[S]],q]
def Iv{ns:Ql}{M:Int}(h:Qr K ta Y (.tuple<|ns.map PyData.int))(g:X.calm=true)(i:M∈ns)(f:∀a∈ns,a<=M):Qr K (tCB (Pz X)<|QE ta QJ) Y (.int M):=λH0 F O H Q S q=>
 h H0 F O H _ S λj U v b c=>#[g,v,ns,M,rfl,c.mono b.fh,i,f,q j U _ b<|.int _]
end L2
namespace L2
def Zjm:entryFor table "proto.unchain"=some Builtin.«proto.unchain» := entryFor_of_tree (by kernel_rfl)
section
variable {hi:Qb}
def ZnH{x left step:Int}{h:Obj}{vs:Array Value}{Q:Qf->Shared->Prop}(B:A.handled=some (.ref e))(c:IsRangeIter s.heap it x left step)(f:left<=0)(he:s.heap.get? e=some h)(D:h.data=.fields vs)(L:vs[2]?=some .none)
(K:∀h',Heap.ExtBut it s.heap h'->Q none { s with heap:=h' }):wpAny (model prog w) A (pyNext<|.ref it) Q hi s:=by
 refine Xa (wpAny_attempt (wpAny_callSpecial?_slot (#[_,c,rfl]) F.slot_range_iterator_next
  (wpAny_call_entry F.slot_range_iterator_next (#[_,c,rfl]) F.entry_range_iterator_next ?_<|F.args_range_iterator_next_1 _)))
 show wpAny _ _ (field _ 0 >>= _) _ _ s;refine Xa (WE c rfl (x:=rawInt x) rfl (Xa (WE c rfl (x:=rawInt left) rfl (Xa (WE c rfl (x:=rawInt step) rfl ?_)))));show wpAny _ _ (if left<=0 then _ else _) _ _ s;rw[Xe f];refine Xa (wpAny_rule (Xa<|Xa<|Xa (m:=firstArgMember _ _) (wpAny_of_eq (a:=Value.none) rfl (wpAny_newObj_type (Xa (wpAny_handled ?_)) (by size_fits)))))
 first|rw[show A.in1.handled=some _ from B]|rw[B]
 have i:(Value.ref e != Value.ref (s.heap.push { cls:=Value.type "tuple",data:=Data.seq (List.toArray []) }).objs.size)=true:=by
  rw[Jq _ _,bne_iff_ne];intro z;injection z with z;exact XF (BF (Xo he)) z
 show wpAny _ _ (if _=true then _ else _) _ _ _;rw[Xe i];refine Xa (wpAny_holding<|wpAny_runValue<|codeAny_builtin Zjm (Xa (WE (Xg _ (Xg _ he)) D L (Xl<|Xa<|Xa (wpAny_load (XD _ rfl) (wpAny_update (XD _ rfl) (wpAny_throw (Xa (wpAny_isInstance #[_,Jt _ (XD _ rfl) rfl,rfl] isSubtype_stop (Xl (K _ λb o M C=>?_)))))))))))
 rw[XT _ _ (λz=>by
  have:=Xo C;rw[Jq _ _]at z;exact Xv this<|by rw[<- z];exact Nat.not_lt.mpr<|Gw _)]
 exact (Xg { cls:=Value.type "StopIteration",data:=Data.fields ((List.toArray [Value.ref s.heap.objs.size,Value.none,Value.none,Value.none,Value.bool false,Value.none])++ownMembersOf (Value.type "StopIteration") []) } (Xg { cls:=Value.type "tuple",data:=Data.seq (List.toArray []) } C))
end
def HS(C e:Addr)(lo:Int)(n:Nat):It where
 go:=(Itr lo n).go
 stop:=λi H=>(Itr lo n).stop i H/\∃dct T,H e=some (.ext<|phF C e dct T)
 yld:=(Itr lo n).yld
theorem ZlS(hh:X.A.handled=some (.ref e))(it:Addr)(lo:Int)(n:Nat):TurnX X tg (HS C e lo n) [it] it (λi h=>IsRangeIter h it (lo+(i:Nat)*1) ((n:Int)-(i:Nat)) 1) where
 mem:=by simp
 obj:=λi h c b f=>by
  simp_all
 keep:=λi h h' c k=>k it (by simp) _ c
 item:=by
  intro t Y M a K _ i B s O H N I m c hg;apply aG (m it (by simp));intro f0 D l A y w;have P:i<n:=hg;refine wpAny_pyNext_range_item c #[] λh' j v=>?_;have r:lo+((i+1:Nat))*1=lo+(i)*1+1:=by push_cast;lia
  have q:(n:Int)-((i+1:Nat))=(n)-(i)-1:=by push_cast;lia
  have g:IsRangeIter h' it (lo+((i+1:Nat))*1) ((n)-((i+1:Nat))) 1:=by rw[r,q];exact j
  refine#[_,rfl,GH g rfl rfl (by decide) #[.int<|lo+i,H,I.turned (λb o f e=>(v.2 b f).trans e) f0 D A y w,?_,#[rfl,rfl],g,λb f=>(m b f).1]];have z:lo+(i)=lo+(i)*1:=#[]
  rw[z];exact#[_,rfl]
 done:=by
  refine λt Y M a K _ i B s O H N I m c hg=>aG (m it (by simp)) λf0 D l A y w=>aj hg λhg dct T W=>?_;apply I0 (I.hok e _ W);rintro⟨u,x,L,E,d⟩_ _;exact ZnH (by exact K▸hh) c (by have:n<=i:=hg;lia) L rfl d λh' p=>#[rfl,I.turned (λb o f e=>p b o f e) f0 D A y w]
 self:=λ_ _ _ _ _ c h=>wpAny_pyIter_rangeiter c h
def Ku(C e:Addr)(ta:TA):TI:=λO H R=>ta O H λb U=>∃j:Int,b=[.int j] /\ -(2^62)<=j/\j<2^62/\R (HS C e 0 j.toNat) U
def ZoP{e:Addr}{O:St}{H:Hp}{R:It->Hp->Prop}{g:Qb}{lo E:Int}{t u v:Tok}{f:Nat}(h:X.A.handled=some (.ref e))(I:Qt X B O H s)(h1 : -(2^62)<=lo)(m:lo<2^62)(h3 : -(2^62)<=E)(j:E<2^62)
(q:R (HS C e lo (E-lo).toNat) H):wpAny (model X.prog X.w) X.A (pyIter<|.ref s.heap.objs.size) (SO X B O tg R) g { s with heap:=s.heap.push { cls:=.type "range",data:=.fields (List.toArray [.int lo t,.int E u,.int 1 v]) },toks:=f }:=by
 refine wpAny_pyIter_range (IsRange.new ..) (small_one h1 m h3 j) ?_;have c:Qt X B O H { s with heap:=s.heap.push { cls:=.type "range",data:=.fields (List.toArray [.int lo t,.int E u,.int 1 v]) },toks:=f }:=I.kept λb o e=>Xg _ e
 refine#[(s.heap.push { cls:=.type "range",data:=.fields (List.toArray [.int lo t,.int E u,.int 1 v]) }).objs.size,[(s.heap.push { cls:=.type "range",data:=.fields (List.toArray [.int lo t,.int E u,.int 1 v]) }).objs.size],_,_,H,rfl,
  c.kept λb o e=>Xg _ e,ZlS h _ lo (E-lo).toNat,?_,λb i=>?_,q]
 .have y:lo+((0:Nat))*1=lo:=by simp
  have w:(((E-lo).toNat))-((0:Nat))=Builtin.Range.rangeSize lo E 1:=by rw[rangeSize_one];split<;>lia
  rw[y,w];exact XD _ rfl
 .have e:b=(s.heap.push { cls:=.type "range",data:=.fields (List.toArray [.int lo t,.int E u,.int 1 v]) }).objs.size:=by simpa using i
  subst e;exact c.fpOk (Xm _) (c.hok.fresh<|Xm _)
def Ro  {ta:TA}(m:X.A.handled=some (.ref e))(v:Gl X "range")(i:X.mg "range"=none)(w:PA X [a] ta)(hs:starEach [a] X.env=[(false,eval a X.env)]:=by rfl):PIH X tg (.Call (.Name "range" p) [a] [] pos) (Ku C e ta):=by
 refine λB s O H R I h=>Call_ (Uk I v i boot_range<|PyProof.Rows.callWith_type1 (QD (w pos B s O H _ I h) ?_) hs rfl);rintro D K ⟨A,U,y,f,b⟩;obtain⟨j,rfl,b,g,q⟩:=b;cases f with
 |cons r c=>
  cases c;obtain⟨t,rfl⟩:=r;exact call_range_1 (ZoP m y #[] #[] b g<|by simpa using q)
def BL(C:Addr)(f:Str)(ds:Qd)(e L q:Addr):ZP where
 ok:=λK F v=>v=.ref e/\(∃T,F e=some (.ext<|phF C e (some L) T))/\F L=some (.xd [(f,.ref q)])/\∃xs,F q=some (.lst xs)/\Qz F xs ds
 mono:=by
  rintro K F i v s ⟨rfl,⟨T,h⟩,g,xs,c,b⟩;exact#[rfl,#[T,s _ _ h],s _ _ g,xs,s _ _ c,b.mono s]
section
variable {tb:Ends->TS}{n:Nat}{e q:Addr}
def WJ.fz(h:(WJ C f ds e L q).ok K F H (.ref e) p)(s:Q6 F F')(he:∀b∈p,F' b=H b):(BL C f ds e L q).ok K F' (.ref e):=by
 apply JH h;rintro rfl _⟨T,j⟩i xs g c;exact#[rfl,#[T,by rw[he _<|by simp];exact j],by rw[he _<|by simp];exact i,xs,by rw[he _<|by simp];exact g,c.mono s]
def Q7.excz(S:Q7 K H0 F Y O H)(h:zg Y i<|zz<|BL C f ds e L q):O[i]?=some (some<|.ref e)/\(∃T,F e=some (.ext<|phF C e (some L) T))/\F L=some (.xd [(f,.ref q)]):=by
 apply At S.fp;intro m g _;apply aO (g i _ h);rintro v j _ rfl c⟨b,_⟩;exact#[j,c,b]
def AD{b:Bool}(h:zg Y i<|zz<|BL C f ds e L q)(j:G3 c=some cv)(g:W.kitOne K (.ref C) cv=some b):Qr K (tCB (G2 K C)<|QE (Q3 i)<|QE (tC c) QJ) Y (.bool b):=λH0 F O H Q S k=>by
 apply I0 (S.excz h);rintro s⟨T,n⟩m;exact#[.ref e,s,.ref e,c,cv,b,rfl,j,.inl #[e,L,T,_,rfl,S.sub _ _ n,S.sub _ _ m,g],k F H _ (Q1.refl S.sub)<|.bl b]
def Zpv(h:zg Y i<|zz<|BL C f ds e L q)(s:Z0 K t Y [.fz<|.int k])(h1 : -(2^62)<=k)(w:k<2^62):EvI K (Ku C e t) Y (VA 0 k.toNat):=λH0 F O H R S r=>
 s H0 F O H _ S λB U D c m=>by
  cases m with
  |fz a b=>
   cases b;cases a;apply I0 ((S.ext c).excz h);rintro _⟨T,y⟩_;refine#[k,rfl,h1,w,r B U _ c λA N j g=>#[#[?_,_,T,g _ _<|j _ _ y],λi d v=>?_]]
   .rw[JD];exact Xm _
   .obtain⟨E,rfl⟩:=W6 v;exact#[E,λx M n=>by
     obtain⟨rfl,rfl⟩:=n;exact#[A,Q1.refl g,.int _]]
def Q7.freezeZX{Ψ:ZP}(s:Q7 K H0 F Y O H)(e:zg Y i<|zo v Φ)
(hz:∀{F f H:Hp} {p:Qg},Φ.ok K F H v p->Q6 F f->(∀b∈p,f b=H b)->Ψ.ok K f v):
 ∃p,(∀a∈p,F a=none/\H a≠none/\H0 a=none)/\Q7 K H0 (frF F H p) (Y.set i<|zz Ψ) O H:=
 s.frz e λu p c=>by
  obtain⟨rfl,c⟩:=c;exact#[rfl,hz c (Jl λa h=>(Φ.there c a h).1) λb g=>Wy g]
def ZrK(i:Nat)(h:zg Y i<|zo (.ref e)<|WJ C f ds e L q)(v:W0 fs)(k:EvO K t (Y.set i<|zz<|BL C f ds e L q) (.ol fs)):EvO K t Y (.ol fs):=λH0 F O H Q S r=>by
 refine At (S.freezeZX h (λa b c=>WJ.fz a b c)) λp s w=>k H0 _ O H Q w λy Z u m x j n=>r _ Z u m (JC (λa g=>#[(s a g).1,(s a g).2.1]) x) j (D1 v K y _ Z u m (λa g=>?_) n)
 by_cases z:a∈p
 .rw[Xe z]
 .rw[Xd z];exact(n.there a g).1
def ZoY(Φx:Qd->Prop)(hj:j<n)(hth:∀ds e L q,Φx ds->QB K (th e) ((List.replicate n none).set j (zo (.ref e)<|WJ C f ds e L q)) { nx:=λJ=>CH.nx<|J.set j none,rt:=λ_=>False })
(hz:∀(v:Ends) (F0 H0 F:Hp) (O:St) (H:Hp),Q1 F0 H0 F H->Q7 K H0 F Y O H->(∀B Z e i ds,Φx ds->Q1 F H B Z->H e=none->Fld f e B Z H i ds->∀(h:St) d T,h.length=n->Lefts C e i Z d->d T=none->T≠e->th e (Dh v j) (h.set j<|some<|.ref e) (left C e i T d))->tb v v O H):QB K (YN tb) Y CH:=λF0 H0 F O H v x S c=>by
 refine hz v F0 H0 F O H x S λB Z e i ds P w E b h d T hl A hT s=>?_;apply L0 b;rintro L q xs rfl b;have X:=ND A b.nd b.hd;have W:=ND A b.nq b.hq;have M:L≠T:=λz=>by subst z;rw[hT]at X;cases X
 have D:q≠T:=λz=>by subst z;rw[hT]at W;cases W
 have o:=M5 (.step A hT s) w.fh b.fe;have u:left C e (some L) T d e=some (.ext<|phF C e (some L) T):=by unfold left;rw[Qs<|Ne.symm s,Q8]
 have r:left C e (some L) T d L=some (.xd [(f,.ref q)]):=by unfold left;rw[Qs M,Qs b.nd];exact X
 have p:left C e (some L) T d q=some (.lst xs):=by unfold left;rw[Qs D,Qs b.nq];exact W
 refine hth ds e L q P F0 H0 B (h.set j<|some<|.ref e) _ (Dh v j) (x.trans #[M5 (.step A hT s) w.hh E,w.ff,o,w.fr]) #[S.kt.mono w.ff,o,by simp[hl],λk=>if k=j then [e,L,q] else [],λk t y=>?_,λk l a g hb=>?_,λk a g=>?_] #[λF4 G H4 I Q S4 U=>c.nx F4 _ H4 _ Q (S4.setN none) U,λ_ _ _ _ _ _ _ _ z=>False.elim z,λ_ _ _ _ _ _ z=>False.elim z,λ_ _ _ _ _ _ z=>False.elim z]
 .by_cases m:k=j
  .subst m;rw[Xk<|by simpa using hj]at y;cases y;refine#[.ref e,Xk #[],?_];dsimp only;rw[Xe rfl];exact#[rfl,rfl,#[b.fe,b.fd,b.fq],#[T,u],r,xs,p,b.rp]
  .rw[Xp<|Ne.symm m,Sw]at y;split at y<;>cases y
 .by_cases m:k=j
  .by_cases hm:l=j
   .lia
   .simp[hm]at hb
  .simp[m]at g
 .dsimp only at g
  by_cases m:k=j
  .rw[Xe m]at g;rcases Xf.mp g with rfl|g
   .exact#[x.hh.free E,Z4 u]
   .rcases Xf.mp g with rfl|g
    .exact#[x.hh.free b.d0,Z4 r]
    .rcases Xf.mp g with rfl|g
     .exact#[x.hh.free b.q0,Z4 p]
     .cases g
  .simp[m]at g
end
end L2
namespace L2
def CO:TE:=λ_ _ _=>False
def Tc : PE X e CO:=λ_ _ _ _ _ _ h=>h.elim
section
variable {k:Nat}{r:R2}
def A5{s:TE->TS}(hw:EvW K te Y i Θ)(hs:∀(H0 F:Hp) (O:St) (H:Hp) (b:Ends),Q7 K H0 F Y O H->(∀Q:VK,(∀n U,s (tC<|.int n) b O U->Q (.int n) U)->te O H Q)->s te b O H)
(hn:∀n o,Θ n o->EvR K (s<|tC<|.int n) (Y.set i<|some o) Ψ):EvR K (s te) Y Ψ:=λF0 H0 F O H b x S c=>
 hs H0 F O H b S λQ h=>hw F0 H0 F O H Q x S λk Z n o f g _ j=>h n Z (hn n o f F0 H0 k O Z b g j c)
def JB(hw:EvW K te Y i Θ)(hn:∀n o,Θ n o->CH.nx ((Y.set i<|some o).set j (zi n))):QB K (Z9 te<|ZM j) Y CH:=
 Mh (s:=λx=>Z9 x _) hw (λ_ _ _ _ _ _ h=>h _ λ_ _ q=>q) λn o h=>ZF Q2 (hn n o h)
def L7(hw:EvW K te Y i Θ)(hn:∀n o,Θ n o->QB K (Z9 (tOp r (tC c)<|tC<|.int n)<|ZM j) (Y.set i<|some o) CH):QB K (Z9 (tOp r (tC c) te)<|ZM j) Y CH:=
 Mh (s:=λx=>Z9 _ _) hw (λ_ _ _ _ _ _ h=>h _ λ_ _ q=>q) hn
def Lq(v:zg Y k<|zf d)(hw:EvW K te Y i Θ)(hn:∀n o,Θ n o->QB K (Z9 (tOp r (Q3 k)<|tC<|.int n)<|ZM j) (Y.set i<|some o) CH):QB K (Z9 (tOp r (Q3 k) te)<|ZM j) Y CH:=
 Mh (s:=λx=>Z9 _ _) hw (λH0 F O H w S h=>by
  exact At S.fp λy g _=>At (g k _ v) λm c _=>#[m,c,h _<|by rintro n U ⟨f,b,q⟩;rw[c]at b;cases b;exact q]) hn
def Ob{g:TG}{b:TS}(hw:EvW K te Y i Θ)(hn:∀n o,Θ n o->QB K (UE (BT<|QE (tOp r (tC c)<|tC<|.int n) QJ) g b) (Y.set i<|some o) CH):QB K (UE (BT<|QE (tOp r (tC c) te) QJ) g b) Y CH:=
 Mh (s:=λx=>UE (BT<|QE _ QJ) g b) hw (λ_ _ _ _ _ _ h=>h _ λ_ _ q=>q) hn
def IE{b:Nat}(B:Y[b]?=some (some<|.ol ds))(A:zg Y k<|zf d)(hw:EvW K te Y i Θ)
(hn:∀n o,Θ n o->QB K (VB<|tBM K "list" Ye (Q3 b)<|QE (tOp r (Q3 k)<|tCB r2<|QE (tOp r3 (tC<|.int n)<|tC c) QJ) QJ) (Y.set i<|some o) CH):
 QB K (VB<|tBM K "list" Ye (Q3 b)<|QE (tOp r (Q3 k)<|tCB r2<|QE (tOp r3 te<|tC c) QJ) QJ) Y CH:=
 Mh (s:=λx=>VB<|tBM K "list" Ye _<|QE (tOp r _<|tCB r2<|QE (tOp r3 x _) QJ) QJ) hw (λH0 F O H L S h=>by
  refine At S.fp λM g _=>At (g k _ A) λw v _=>?_;apply aZ (g b _ B);rintro u m a rfl _ _ xs y _;refine#[.ref a,m,.inl #[rfl,_,SqL.of y],w,v,h _ λn U ⟨D,j,_,C,f,q⟩=>?_];rw[m]at j;cases j;rw[v]at f;cases f;exact q) hn
def EQ(e1:zg Y a1<|zf d1)(D:zg Y a2<|zf d2)(C:zg Y a3<|zf d3)(B:zg Y a4<|zf d4)(hw:EvW K te Y i Θ)
(hn:∀n o,Θ n o->EvR K (Ys<|G9<|QE (Q3 a1)<|QE (Q3 a2)<|QE (Q3 a3)<|QE (Q3 a4)<|QE (tOp r (tC c)<|tC<|.int n) QJ) (Y.set i<|some o) Ψ):
 EvR K (Ys<|G9<|QE (Q3 a1)<|QE (Q3 a2)<|QE (Q3 a3)<|QE (Q3 a4)<|QE (tOp r (tC c) te) QJ) Y Ψ:=
 A5 (s:=λx=>Ys<|G9<|QE _<|QE _<|QE _<|QE _<|QE _ QJ) hw (λH0 F O H W S h=>by
  refine At S.fp λX g _=>At (g a1 _ e1) λA m _=>At (g a2 _ D) λy k _=>At (g a3 _ C) λw j _=>At (g a4 _ B) λv f _=>#[A,m,y,k,w,j,v,f,h _ λn U ⟨P,k1,N,k2,M,k3,L,b,q⟩=>?_];rw[m]at k1;cases k1;rw[k]at k2;cases k2;rw[j]at k3;cases k3;rw[f]at b;cases b;exact q) hn
end
end L2
namespace L2
section
variable {hi:Qb}
theorem Fl{it t:Addr}{b:Array Value}(f:t≠it):∀(n i:Nat) (s:Shared) (Q:Qe->Shared->Prop),s.heap.IsListIter it t i->s.heap.IsList t b->i+n<=b.size->
 (∀h',h'.IsListIter it t (i+n)->Heap.SameBut it s.heap h'->Q ((b.toList.drop i).take n) { s with heap:=h' })->wpAny (model prog w) A (draw (.ref it) n) Q hi s
 |0,i,s,Q,c,_,_,h=>Xl (by simpa using h s.heap c<|Heap.SameBut.refl ..)
 |n+1,i,s,Q,c,j,v,h=>by
  have g:i<b.size:=#[]
  refine Xa (wpAny_pyNext_list_item c j (x:=b[i]) (by simp) λL B m=>Xa (wpAny_holding<|Fl f n _ _ _ B (j.extBut m.extBut f) #[] λC K y=>Xl ?_));have D:b.toList.drop i=b[i]::b.toList.drop (i+1):=by simp[Sy,g]
  have:=h C #[] (m.trans y);simp_all
def Zme(m:A.handled=none)(c:s.heap.IsList t items)
(v:∀h',Heap.ExtBut s.heap.objs.size s.heap h'->Q items.toList { s with heap:=h' }):wpAny (model prog w) A (unpackItems (.ref t) items.size none) Q hi s:=by
 have f:t≠s.heap.objs.size:=by exact At c λo j _=>XF (Xo j)
 refine Xa ?_
 .refine Xa (wpAny_specialOf c.typeIs F.slot_list_iter.lookup (Xl<|Xa (wpAny_holding<|wpAny_pyIter_list c (Xa (wpAny_holding<|Fl f items.size 0 _ _ #[_,XD _ rfl,rfl,rfl] (c.push _) #[] λK B i=>?_)))));rw[List.take_of_length_le (by simp)];rw[Xd<|by simp];refine Xa (wpAny_holding<|wpAny_pyNext_list_end m B ((c.push _).extBut i.extBut f) (by simp) λD C=>Xl (v D λb o h e=>C b o h<|i.extBut b o h<|Xg _ e))
def ZlY{x1}(f:A.handled=none)(c:s.heap.IsList t items)
(hn:(assignEach elts env).length=items.size)(b:(assignEach elts env).findIdx? (·.1)=none)
(h:∀h',Heap.ExtBut s.heap.objs.size s.heap h'->wpAny (model prog w) A (assignInOrder ((assignEach elts env).map (·.2)) items.toList) Q hi { s with heap:=h' }):
 wpAny (model prog w) A (assign (.Tuple elts x1 pos) env<|.ref t) Q hi s:=by
 refine Xa (wpAny_standAt ?_);unfold unpack;rw[hn,b];exact Xa (wpAny_holding<|Zme f c h)
end
def MT(K:W.Frag)(n:Nat)(t:TGs):TG:=λv O H Q=>∃a xs,v=.ref a/\SqL K H a xs/\xs.length=n/\t xs O H Q
def UO{k:Nat}{n:Nat}(A:X.calm=true)(h:PGs X es t)
(hn:(assignEach es X.env).length=n:=by rfl)(f:(assignEach es X.env).findIdx? (·.1)=none:=by rfl):PG X (.Tuple es k pos) (MT X.K n t):=by
 intro B s O H v u Q I r c;obtain⟨a,xs,rfl,w,y,c⟩:=c;cases r;exact aA (I.list w) λi g m K=>ZlY (I.ok.hd A) m.isList (by simp[hn,<- y,g.length]) f λh' j=>h B _ O H xs _ Q (I.kept (t':=s.toks) λb o e=>j b o (XF<|Xo e) e) (by simpa using g) c
def CG(h:G5 K gs ds Y ρ1)(hn:ds.length=n):GTo K (MT K n gs) (.list ds) Y ρ1:=λH0 F O H x Q S r q=>by
 cases r with
 |@lst a xs _ c b=>exact#[a,xs,rfl,SqL.of<|S.sub _ _ c,by rw[b.length,hn],h H0 F O H xs Q S b q]
end L2
namespace L2
def Zmr(h:Z5 K ta Y Φ1)(l:Z0 K t Y ts)(v:∀r,Φ1 r->∃ds Ψ,r=.ol ds/\R ds ts Ψ/\∀r w,Ψ r w->Φ r):
 Z5 K (ZS (spP K olP R) [] E'<|QE ta t) Y Φ:=λH0 F O H Q S q=>
 h H0 F O H _ S λE U u p L s y e W=>by
  apply aF (v L s);rintro ds Ψ rfl v k;refine l H0 E O U _ (S.ext y) λx T A i D=>?_;apply aA (W.ext i);rintro a rfl rfl N;have c:=y.trans i;have J:=e a Xb;refine#[x,.ref a,A++[],[a],ts,ds,Ψ,rfl,(S.ext c).kt,i.fh,by rw[Xx];exact D,#[a,rfl,rfl,N],v,λG Z I n B r M X g P C j d=>q G Z B M r (k r n X) #[λb o f=>?_,c.ff.trans g.ff,g.fh,λb f=>?_] (λb f=>?_) j]
  .refine g.hh b o (λz=>?_) (c.hh b o f)
   grind
  .rcases g.fr b f with z|z|z
   .exact c.fr b z
   .exact .inr (c.hh.free z)
   .grind
  .rcases(d b f).1 with z|z
   .grind
   .exact c.hh.free z
end L2
namespace L2
section
variable {ty:TE}
def HandOk.setGone{g m:Addr}{xs:List (Key×V)}(h:HandOk C N F H a L k g d m y xs as)(K:PairK F za ns):
 HandOk C { N with gone:=ns } F (upd H d<|.dK za) a L k g d m y za as:=by
 obtain⟨c,⟨D,B⟩,⟨j,i⟩,f,⟨k1,A,k2,k3⟩,⟨e,W,Y,X⟩,⟨n,t,r⟩,⟨w,v,s⟩⟩:=h;have b:=c;simp only[Xu,Xf,not_or]at b;obtain⟨⟨I,G,E,q,_⟩,⟨z,x,p,_⟩,⟨u,o,_⟩,⟨l,_⟩,⟨P,M⟩,_⟩:=b;exact#[c,#[D,by rw[Qs q];exact B],#[j,by rw[Qs p];exact i],f,#[k1,A,by rw[Qs o];exact k2,k3],#[e,W,by rw[Qs l];exact Y,X],#[n,Q8,K],#[w,by rw[Qs<|Ne.symm P];exact v,s.other M]]
def ZrI(c:HandC K C)(e:zg Y i<|zo v<|QM C N)(q:Qr K tv Y d)(p:Qr K ty Y (WI k))(hz:N.gone.length<sizeLine)
(hn:CH.nx (Y.set i<|zo v<|QM C { N with gone:=Uc N.gone k d })):QB K (MZ (Ve K (Q3 i) "gone") ty tv) Y CH:=λF0 H0 F O H hi x S Q=>
 q H0 F O H _ S λJ U u s n=>by
  apply aa ((S.ext s).hand e);rintro a L kk g d m y xs as rfl E w _;refine#[_,E,a,C,L,_,.ref d,rfl,w.ins.2,c.cl,c.go,rfl,p H0 J O U _ (S.ext s) λI H2 R j l=>?_];apply aa ((S.ext<|s.trans j).hand e);rintro a' G k' g' M Z P W B t g1 f⟨r,X⟩;cases t;apply aG (w.same f ((j.hh _ _ w.ins.2).trans w.ins.2.symm));rintro rfl rfl rfl rfl rfl rfl;apply I0 f.gone;intro T o D;have h:=r M (by simp);rw[M3 l];exact#[M,_,rfl,Ju.k o<|by rw[D.length];exact hz,Q.nx I O _ _ ((x.trans<|s.trans j).wr h.1 h.2.1) (X _ _ P _ B ((S.ext<|s.trans j).sub.upd h.2.1) (λb A _=>Qs λz=>A<|by rw[z];simp) VN (f.setGone<|D.put k<|n.mono j.ff) λb A=>.inl A) hn]
end
end L2
namespace L2
def Dz:bootBuiltins "dict"=some (.type "dict"):=by decide +kernel
def KA:List V->Hp->VK->Prop:=λb H Q=>∃a kvs,b=[.ref a]/\H a=some (.dK kvs)/\∀p,H p=none->Q (.ref p) (upd H p<|.dK kvs)
def NI:Va X (.type "dict") KA:=by
 intro B s O H xs i Q I r h;apply aF h;rintro a kvs rfl f q;apply At (YE r);rintro u rfl b;cases b;exact OF I (.of f) λp j c g=>#[.ref p,_,g,rfl,q p c]
section
variable {tb:TE}{t:TA}{u:V}
def Q7.absorb(s:Q7 K H0 F Y O H)(X:i≠j)(e:zg Y i<|zo v Φ)(x:zg Y j<|zo u Φj):
 O[i]?=some (some v)/\O[j]?=some (some u)/\∃p q,Φ.ok K F H v p/\Φj.ok K F H u q/\(∀a∈p,H0 a=none/\F a=none/\H a≠none)/\(∀a∈q,H0 a=none/\F a=none/\H a≠none)/\(∀a∈q,a∉p)/\
  ∀(Z:Hp) (t:OwnP) (B:Qg),Q6 F Z->(∀b,b∉p->b∉q->H b≠none->Z b=H b)->(∀b,H b≠none->Z b≠none)->t.ok K F Z v B->(∀a∈B,a∈p\/a∈q\/(H a=none/\H0 a=none))->
   Q7 K H0 F ((Y.set j none).set i (zo v t)) O Z:=by
 obtain⟨Q,h1,S,M,d,y,m⟩:=s;apply aA (d i _ e);rintro v' G rfl E;apply aA (d j _ x);rintro n f1 rfl r;refine#[G,f1,M i,M j,E,r,λa c=>#[(m i a c).1,(Φ.there E a c).1,(m i a c).2],λa c=>#[(m j a c).1,(Φj.there r a c).1,(m j a c).2],λa c f=>X (y j i a c f).symm,λZ t B J R N o A=>?_];have P:=(Xc.mp e).1;have W:=(Xc.mp x).1;refine#[Q,J,by simp[S],λk=>if k=i then B else if k=j then [] else M k,λk I w=>?_,λk l a c f=>?_,λk a c=>?_]
 .by_cases h:k=i
  .subst h;rw[Xk<|by simpa using P]at w;cases w;refine#[_,G,rfl,?_];simp only[if_true];exact o
  .rw[Xp<|Ne.symm h]at w
   by_cases g:k=j
   .subst g;rw[Xk W]at w;cases w
   .rw[Xp<|Ne.symm g]at w;refine At (d k I w) λn U T=>#[n,U,?_];simp only[Xd h,Xd g];exact T.keep λb f=>R b (λz=>h<|y k i b f z) (λz=>g<|y k j b f z) (m k b f).2
 .have C:∀{k l:Nat} {a:Addr},k≠i->a∈(if k=j then ([]) else M k)->a∈B->False:=λ{k l a} h c f=>by
   by_cases g:k=j
   .rw[Xe g]at c;exact nomatch c
   .rw[Xd g]at c;rcases A a f with z|z|z
    .exact h (y k i a c z)
    .exact g (y k j a c z)
    .exact(m k a c).2 z.1
  by_cases h:k=i
  .by_cases D:l=i
   .lia
   .simp only[Xe h]at c;simp only[Xd D]at f;exact(C (l:=0) D f c).elim
  .simp only[Xd h]at c
   by_cases D:l=i
   .simp only[Xe D]at f;exact(C (l:=0) h c f).elim
   .simp only[Xd D]at f
    by_cases g:k=j
    .rw[Xe g]at c;exact nomatch c
    .by_cases L:l=j
     .rw[Xe L]at f;exact nomatch f
     .rw[Xd g]at c;rw[Xd L]at f;exact y k l a c f
 .by_cases h:k=i
  .simp only[Xe h]at c;rcases A a c with z|z|z
   .exact#[(m i a z).1,N a (m i a z).2]
   .exact#[(m j a z).1,N a (m j a z).2]
   .exact#[z.2,(t.there o a c).2]
  .simp only[Xd h]at c
   by_cases g:k=j
   .rw[Xe g]at c;exact nomatch c
   .rw[Xd g]at c;exact#[(m k a c).1,N a (m k a c).2]
def EF{m:Int}(c:HandC K C)(e:zg Y i<|zo v<|QM C N)(E:Qr K tb Y (.int k))(h0:0<=k)(l:N.given[k.toNat]?=some m)(h:Qr K te Y (.int n))
(hn:CH.nx (Y.set i<|zo v<|QM C { N with given:=N.given.set k.toNat (m+n) })):QB K (Dd (Ve K (Q3 i) "given") tb te (MY K) (ipI λa b=>a+b) Uf) Y CH:=λF0 H0 F O H hi x S C'=>by
 apply aa (S.hand e);rintro a L kk g d m' y xs as rfl e1 t _;refine#[_,e1,a,C,L,_,.ref g,rfl,t.ins.2,c.cl,c.gv,rfl,E H0 F O H _ S λF1 U y1 f T=>?_];cases T;apply Do t.given;intro _ J R Q;have D:(N.given.map PyData.int)[k.toNat]?=some (.int m):=by rw[Xy,l];rfl
 refine At ((Q.mono f.ff).get D) λz r q=>#[g,J,k,z,rfl,rfl,SqL.of<|f.hh _ _ R,h0,r,h H0 F1 O U _ (S.ext f) λp H2 u w B=>?_];cases B;cases q;refine#[m,n,rfl,rfl,?_];apply aa ((S.ext<|f.trans w).hand e);rintro a' dx' k' o d' m'' G A P ea g1 j⟨hp,I⟩;cases ea;apply aG (t.same j (((f.trans w).hh _ _ t.ins.2).trans t.ins.2.symm));rintro rfl rfl rfl rfl rfl rfl;apply Do j.given;intro q1 W Z X;have hlt:=(Xc.mp l).1;have hr:Qz p (W.set k.toNat<|.int<|m+n) ((N.given.set k.toNat<|m+n).map PyData.int):=by
  rw[BC];exact X.set (.int _) _
 have s:=hp o (by simp);refine#[o,W,k,k.toNat,rfl,rfl,Z,?_,?_]
 .rw[X.length,Xj];unfold ixN;rw[Xe h0,Xe<|#[]]
 .exact C'.nx p O _ _ ((x.trans<|f.trans w).wr s.1 s.2.1) (I _ _ G A P ((S.ext<|f.trans w).sub.upd s.2.1) (λb M _=>Qs λz=>M<|by rw[z];simp) VN (j.setGiven hr) λb M=>.inl M) hn
theorem MadeD.len{F H:Hp}:∀{as:Qg} {ms:List Zc3},MadeD F H as ms->as.length=ms.length
 |_,_,.nil=>rfl
 |_,_,.cons _ _ _ t=>by simp[t.len]
theorem MadeD.snoc{F H:Hp}{b:Addr}{xs:List (Key×V)}{ms:List Zc3}(g:F b=none)(f:H b=some (.dK xs))(c:PairK F xs kvs):∀{as:Qg} {ms:List Zc3},MadeD F H as ms->MadeD F H (as++[b]) (ms++[kvs])
 |_,_,.nil=>.cons g f c .nil
 |_,_,.cons j i h t=>.cons j i h (MadeD.snoc (ms:=ms) g f c t)
def HandOk.addMade{g m b:Addr}{xs:List (Key×V)}(u:HandOk C N F H a L k g d m y xs as)(i:b∉a::L::k::g::d::m::as)(l:F b=none)(Y:H b=some (.dK za))(X:PairK F za kvs):
 HandOk C { N with made:=N.made++[kvs] } F (upd H m<|.lst<|(as++[b]).map V.ref) a L k g d m y xs (as++[b]):=by
 obtain⟨h,⟨P,M⟩,⟨w,v⟩,j,⟨k1,K,k2,k3⟩,⟨q,n,p,o⟩,⟨G,E,x⟩,⟨D,m2,B⟩⟩:=u;have c:=h;simp only[Xu,Xf,not_or]at c;obtain⟨⟨a1,a2,a3,a4,O,a6⟩,⟨b1,b2,b3,J,b5⟩,⟨c1,c2,I,c4⟩,⟨f1,r,f3⟩,⟨t,S⟩,s,R⟩:=c;simp only[Xf,not_or]at i;obtain⟨n1,n2,n3,Z,U,A,T⟩:=i;have f:(a::L::k::g::d::m::(as++[b])).Nodup:=by
  have e:a::L::k::g::d::m::(as++[b])=(a::L::k::g::d::m::as)++[b]:=rfl;rw[e,JO];refine#[h,by simp,λz hz Q W=>?_]
  grind
 refine#[f,#[P,by rw[Qs O];exact M],#[w,by rw[Qs J];exact v],j,#[k1,K,by rw[Qs I];exact k2,k3],#[q,n,by rw[Qs r];exact p,o],#[G,by rw[Qs t];exact E,x],#[D,Q8,?_]];exact(B.snoc (ms:=N.made) l Y X).other λz=>by
  rcases Xz.mp z with z|z
  .exact s z
  .exact A (Xi.mp z).symm
def HandOk.setNow{g m:Addr}{xs:List (Key×V)}(h:HandOk C N F H a L k g d m y xs as)(n:Int):
 HandOk C { N with now:=n } F (upd H a<|.ins C L<|hfs y n k g d m) a L k g d m y xs as:=by
 obtain⟨c,⟨w,q⟩,⟨j,i⟩,f,⟨k1,v,k2,k3⟩,⟨K,A,D,B⟩,⟨W,P,M⟩,⟨u,t,s⟩⟩:=h;have b:=c;simp only[Xu,Xf,not_or]at b;obtain⟨⟨p,o,l,e,Y,X⟩,_⟩:=b;exact#[c,#[w,Q8],#[j,by rw[Qs<|Ne.symm p];exact i],f,#[k1,v,by rw[Qs<|Ne.symm o];exact k2,k3],#[K,A,by rw[Qs<|Ne.symm l];exact D,B],#[W,by rw[Qs<|Ne.symm e];exact P,M],#[u,by rw[Qs<|Ne.symm Y];exact t,s.other X]]
def O3(hj:0≠j)(c:HandC K C)(e0:zg Y 0<|zo v<|QM C N)(ej:zg Y j<|zo u<|dkP kvs)(hl:N.made.length<1000)
(hr:∀w,Ψ (.own w<|dkP kvs)<|(Y.set j none).set 0 (zo v<|QM C { N with made:=N.made++[kvs],now:=N.now+1 })):
 EvR K (YC (VB<|tBM K "list" Ye (Ve K (Q3 0) "made")<|QE (Q3 j) QJ)<|YC (Lb K (Q3 0) (tC<|.int 1) SU "present")<|Ys<|tCB KA<|QE (Q3 j) QJ) Y Ψ:=λF0 H0 F O H hi x S kk=>by
 apply I0 (S.absorb hj e0 ej);rintro s0 sj⟨p,q,Q,J,hp,hq,hd,wr⟩;obtain⟨a,L,k,g,d,m,y,xs,D,rfl,rfl,P⟩:=Q;apply aT J;rintro b E rfl rfl b1 b2 b3;have n:=hd b Xb;have X:=hp m (by simp);have e:=hp a (by simp);have i:=P.addMade n b1 b2 b3;have t:=i.setNow (N.now+1);have nb:b≠a/\b≠m:=by
  simp only[Xf,not_or]at n;exact#[n.1,n.2.2.2.2.2.1]
 refine#[_,s0,a,C,L,_,.ref m,rfl,P.ins.2,c.cl,c.md,rfl,.inl #[rfl,_,SqL.of P.made.2.1],_,sj,m,_,_,rfl,rfl,P.made.2.1,by rw[Xj,P.made.2.2.len];exact Vh<|#[],?_];have em:D.map V.ref++[V.ref b]=(D++[b]).map V.ref:=by rw[XL];rfl
 rw[em];refine#[_,s0,a,C,L,_,.int N.now,rfl,i.ins.2,c.cl,c.pr,rfl,N.now,1,rfl,rfl,L,_,i.ins.2,by show 6<1000;decide,?_];have ef:Yk "present" (.int<|N.now+1) (hfs y N.now k g d m)=hfs y (N.now+1) k g d m:=rfl;rw[ef];generalize B:upd H m (.lst<|(D++[b]).map V.ref)=U at i t;generalize A:upd U a (.ins C L<|hfs y (N.now+1) k g d m)=M at t;have e2:∀z,z≠a->z≠m->M z=H z:=λz l z2=>by rw[<- A,Qs l,<- B,Qs z2]
 have X1:Q1 F0 H0 F U:=by rw[<- B];exact x.wr X.1 X.2.1
 have X2:Q1 F0 H0 F M:=by rw[<- A];exact X1.wr e.1 e.2.1
 have I:∀z,H z≠none->U z≠none:=by rw[<- B];exact VN
 have G:∀z,U z≠none->M z≠none:=by rw[<- A];exact VN
 have o:=wr M (QM C { N with made:=N.made++[kvs],now:=N.now+1 }) (a::L::k::g::d::m::(D++[b])) X2.fh
  (λz l _ _=>e2 z (λh=>l<|by rw[h];simp) λh=>l<|by rw[h];simp) (λz f=>G z<|I z f) #[a,L,k,g,d,m,y,xs,D++[b],rfl,rfl,t] (λz f=>by
   have ee:a::L::k::g::d::m::(D++[b])=(a::L::k::g::d::m::D)++[b]:=rfl;rw[ee]at f;rcases Xz.mp f with f|f
   .exact .inl f
   .exact .inr (.inl f))
 refine#[_,sj,b,E,rfl,(e2 b nb.1 nb.2).trans b2,λr s=>kk F O _ _ (.ref r) (.own (.ref r)<|dkP kvs) [r] (X2.trans (Q1.own o.sub s)) (o.ext (Q1.own o.sub s)) #[rfl,r,E,rfl,rfl,o.sub.free s,Q8,b3] (λz f=>by rw[Xi.mp f];exact (X2.hh.free s)) (λz f u' t' q' f1 f2 R W=>?_) (hr _)];rw[Xi.mp f]at W;refine aA o.fp λfp g1 g2 g3=>At (g1 0 _ f1) λv2 h1 h2=>?_;rw[f2]at h1;cases h1;exact(g3 0 r<|WA (h2.ext (Q1.own o.sub s)) R r W).2 s
def Am{t:TS}(i:Nat)(e:Y[i]?=some (some r))(j:G7 r=some d)(h:EvR K t (Y.set i<|zf d) Ψ):EvR K t Y Ψ:=λF0 H0 F O H g x S C=>by
 refine At (S.freezeG e j) λp c f=>h F0 H0 _ O H g #[x.hh,x.ff.trans<|Jl λa b=>(c a b).1,f.sub,λa b=>?_] f C
 by_cases z:a∈p
 .exact .inr (c a z).2.2
 .rw[Ut z]at b;exact x.fr a b
end
end L2
namespace L2
def dlP(m:List Zc3):OwnP where
 ok K F H v p := ∃a f,v=.ref a/\p=a::f/\(a::f).Nodup/\F a=none/\H a=some (.lst<|f.map V.ref)/\MadeD F H f m
 there:=by
  rintro K F H v p ⟨a,f,rfl,rfl,nd,y,h,i⟩ b g;rcases Xf.mp g with rfl|g
  .exact#[y,Z4 h]
  .exact i.mem b g
 mono:=by
  rintro K F W H Z v p s B A ⟨a,f,rfl,rfl,nd,y,h,i⟩;exact#[a,f,rfl,rfl,nd,B a Xb,by rw[A a Xb];exact h,i.mono s (λb g=>B b<|Xh _ g) λb g=>A b<|Xh _ g]
 uniq:=by
  rintro K F H v p q ⟨a,f,rfl,rfl,nd,y,h,i⟩ ⟨P,N,e,rfl,C,M,w,L⟩ c D;cases e;have j:=h.symm.trans w;injection j with j;injection j with j;rw[DR j];exact D
def JZ(kvs:Zc3):Prop := ∀x∈kvs,∃k n,x.1=.inl k/\x.2=.int n
def PairK.thin{xs:List (Key×V)}(b:JZ kvs)(h:PairK F xs kvs):PairK F' xs kvs:=by
 induction h with
 |nil=>exact .nil
 |@cons k x d xs kvs r t c=>
  apply KE (b _ Xb);intro k0 n g e;subst e;exact .cons (r.thin rfl) (c λx f=>b x<|Xh _ f)
theorem MadeD.thin{F f H:Hp}:∀{as:Qg} {ms:List Zc3},(∀a∈as,f a=none)->(∀k∈ms,JZ k)->MadeD F H as ms->MadeD f H as ms
 |_,_,_,_,.nil=>.nil
 |_,_,c,b,.cons _ j i t=>.cons (c _ Xb) j (i.thin<|b _ Xb) (t.thin (λa h=>c a<|Xh _ h) λk g=>b k<|Xh _ g)
def II(h:∀k∈kss,JZ k):WH (.own v<|dlP kss):=λK F y H u p c f=>by
 apply ac f;rintro e a s rfl rfl g w⟨m,j⟩;exact#[e,a,s,rfl,rfl,g,c a Xb,m,j.thin (λb i=>c b<|Xh _ i) h]
def Kh(xs:List (Key×V)):Prop := ∀p∈xs,∃k n,p.1=.inl k/\p.2=.int n
def PairK.ints{xs:List (Key×V)}(h:PairK F xs kvs)(c:JZ kvs):Kh xs:=by
 induction h with
 |nil=>rintro p ⟨⟩
 |@cons k x d xs kvs r t f=>
  intro p b;rcases Xf.mp b with rfl|b
  .apply KE (c _ Xb);intro k0 n i e;subst e;cases r;exact#[k0,n,i,rfl]
  .exact f (λx g=>c x<|Xh _ g) p b
def PairK.one{xs:List (Key×V)}(b:JZ kvs)(h:PairK F xs kvs):∀{ys:List (Key×V)},PairK F ys kvs->xs=ys:=by
 induction h with
 |nil=>
  intro ys h';cases h';rfl
 |@cons k x d xs kvs r t g=>
  intro ys h';apply KE (b _ Xb);intro k0 n j e;subst e;cases h' with
  |cons f c=>
   cases r;cases f;rw[g (λx i=>b x<|Xh _ i) c]
def O0{xs:List (Key×V)}(c:(xs.map (·.1)).Nodup):∀p∈xs,ZC xs p.1=some p.2:=by
 induction xs with
 |nil=>rintro p ⟨⟩
 |cons q xs f=>
  intro p b;rw[XI,Xu]at c;rcases Xf.mp b with rfl|b
  .exact Wa rfl
  .rw[YV λz=>c.1<|by rw[z];exact XH.mpr #[p,b,rfl]];exact f c.2 p b
def CA{xs:List (Key×V)}(r:KV xs ka)(h:∀p∈xs,∃n t,p.2=.int n/\valueAt kb p.1=some (.int n t)):W.KeqHits A s kb ka true:=by
 induction r with
 |nil=>exact .nil
 |@cons p q ps K y t w=>
  obtain⟨B,f⟩:=y;apply KE (h p Xb);intro n j D i;rw[D]at f;obtain⟨b,C⟩:=f;obtain⟨k,v⟩:=q;subst C;exact .hit (B▸i) ((show(n==n)=true by simp)▸(SeqAt.EqAt.int_int (A:=A) (s:=s) n b n j)) (w λm c=>h m<|Xh _ c)
section
variable {O:St}{H:Hp}
def Lo(d:h.DictOf (Vr P w) a vs)(f:∀p∈vs,∃i,p.1=.inl i):h.DictOf (Vr P' w') a vs:=by
 apply aM d;rintro o es X N M L K⟨H,D⟩;have g:∀{l:List DictEntry} {c:List _},Pairs (Vr P w) l c->(∀p∈c,∃i,p.1=.inl i)->Pairs (Vr P' w') l c/\∀e∈l,∃i,UG (.inl i) e.key=true:=by
  intro l c q;induction q with
  |nil=>exact λ_=>#[.nil,by rintro e ⟨⟩]
  |@cons e v es kvs j s t y=>
   intro f;obtain⟨B,A⟩:=y λp C=>f p (Xh _ C);refine#[.cons j s B,λr b=>?_]
   rcases Xf.mp b with rfl|b
   .obtain⟨i,n⟩:=f v Xb;exact#[i,n▸j]
   .exact A r b
 obtain⟨k1,k2⟩:=g H f;refine#[o,es,X,N,M,L,λe b=>?_,k1,D];apply At (K e b);intro k W O;obtain⟨i,m⟩:=k2 e (by simpa using b);have Y:=(Vr P w).inj e.key k (.inl i) W m;subst Y;exact#[.inl i,m,O]
def ZoS(I:Qt X B O H s){b:Addr}{xs:List (Key×V)}(k:H a=some (.dK xs))(d:H b=some (.dK xs))(hx:Kh xs)(A:Around)(P:Program)(w:World):
 ∃C y,(a==sysModules)=false/\(b==sysModules)=false/\s.heap.DictOf (Vr P w) a C/\s.heap.DictOf (Vr P w) b y/\C.length=y.length/\W.KeqHits A s y C true:=by
 refine aL (Kl I.hok k) λz N h f dd=>aL (Kl I.hok d) λo M g c j=>?_;have L:(xs.map (·.1)).Nodup:=by
  rw[c.keys];apply aM j;rintro _ _ _ _ _ _ _⟨_,q⟩;exact q
 have D:∀{h:List _},KV xs h->∀p∈h,∃i,p.1=.inl i:=λ{h} r p m=>by
  have:p.1∈xs.map (·.1):=by rw[r.keys];exact XH.mpr #[p,m,rfl]
  exact At (XH.mp this) λq Y e=>KE (hx q Y) λk0 n K _=>#[k0,by rw[<- e,K]]
 refine#[h,g,N,M,Lo dd<|D f,Lo j<|D c,f.length.symm.trans c.length,CA f λp m=>?_];apply KE (hx p m);intro k0 n K e;have r:=c.val p.1;rw[O0 L p m,e]at r;cases q:valueAt g p.1 with
 |none=>rw[q]at r;exact r.elim
 |some v=>
  rw[q]at r;obtain⟨t,l⟩:=(r)
  exact#[n,t,e,by rw[l]]
def Pe:R2:=λx y H Q=>∃a b xs,x=.ref a/\y=.ref b/\H a=some (.dK xs)/\H b=some (.dK xs)/\Kh xs/\Q (.bl false) H
def Iy(N:X.A.units+64<cLine):OpR X (compareOp .NotEq) Pe:=by
 intro B s O H x y v u Q I f c h;apply aM h;rintro a b xs rfl rfl C A⟨j,q⟩;cases f;cases c;refine aP (ZoS I C A j X.A.in1 X.prog X.w) λM L i g K D m w=>W.keq_ne i g K D #[] (λ_=>w) ?_;rw[m,beq_self_eq_true];exact#[.bl false,H,I,rfl,q]
end
end L2
namespace L2
def P1:List V->Hp->VK->Prop:=λxs H Q=>∃a kvs,xs=[.ref a,.ty "dict"]/\H a=some (.dK kvs)/\Q (.bl true) H
def Af:Va X (.builtin "isinstance") P1:=by
 intro B s O H xs v Q I r h;apply aF h;rintro a kvs rfl f q;apply aF (BU r);rintro u j rfl b c;cases (c);cases b;apply FB (I.hok _ _ f);rintro z y m A w es C g⟨i,_⟩;exact IsiPair.dict_dict g i.1 #[.bl true,H,I.tok _,rfl,q]
section
variable {t:TA}
theorem MadeZ.len{F:Hp}:∀{as:Qg} {ms:List Zc3},MadeZ F as ms->as.length=ms.length
 |_,_,.nil=>rfl
 |_,_,.cons _ _ t=>by simp[t.len]
theorem MadeZ.at{F:Hp}:∀{as:Qg} {ms:List Zc3},MadeZ F as ms->∀(i:Nat) (a:Addr),as[i]?=some a->∃xs k,ms[i]?=some k/\F a=some (.dK xs)/\PairK F xs k
 |_,_,.nil,i,a,e=>by simp at e
 |_,_,.cons c b t,0,a,e=>by
  simp at e;subst e;exact#[_,_,rfl,c,b]
 |_,_,.cons c b t,i+1,a,e=>t.at i a (by simpa using e)
theorem MadeD.at{F H:Hp}:∀{as:Qg} {ms:List Zc3},MadeD F H as ms->∀(i:Nat) (a:Addr),as[i]?=some a->∃xs k,ms[i]?=some k/\H a=some (.dK xs)/\PairK F xs k
 |_,_,.nil,i,a,e=>by simp at e
 |_,_,.cons _ c b t,0,a,e=>by
  simp at e;subst e;exact#[_,_,rfl,c,b]
 |_,_,.cons _ c b t,i+1,a,e=>t.at i a (by simpa using e)
end
end L2
namespace L2
section
variable {t:TA}{u:V}
def ZrD{g:CIn->TG}(c:HandC K C)(e:zg Y i<|zz<|Zj C N)(hl:N.made.length<=1000)(W:∀c,g c=ZM 0)(M:∀c,tcc c=UB)(D:∀c,tee c=tCB KA (QE (Q3 0) QJ)):
 Z5 K (tLC [none] (Di K<|Ve K (Q3 i) "made") g tcc tee) Y λr=>∃v,r=.own v (dlP N.made):=λH0 F O H Q S q=>by
 apply ah (S.hz e);rintro a L k gg d m y ks gs xs f⟨s1,o⟩;have u:=S.sub;have al:=o.made.2.len;refine#[_,s1,a,C,L,_,.ref m,rfl,u _ _ o.ins,c.cl,c.md,rfl,m,rfl,#[_,SqL.of<|u _ _ o.made.1],λn=>#[λk E ys Z=>E=f.length-k/\k<=f.length/\∃t:Qg,ys=t.map V.ref/\t.length=k/\Q1 F H F Z/\(∀b∈t,H b=none)/\t.Nodup/\MadeD F Z t (N.made.take k),#[f.length,by simp,XJ _,[],rfl,rfl,Q1.refl u,(by rintro b ⟨⟩),Gz,.nil],?_]];rintro k E ys Z ⟨rfl,hle,t,rfl,R,j,J,x,A⟩;have w:=j.fh _ _ o.made.1
 by_cases P:k<f.length
 .have I:(f.map V.ref)[k]?=some (.ref f[k]):=by simp[P]
  refine .inr #[#[_,_,SqL.of w,I],?_];rintro v1 H3 ⟨rfl,hy⟩;have G:=hy _ (SqL.of w);rw[I]at G;cases G;apply aF (o.made.2.at k f[k] (by simp[P]));intro T kv g1 g2 g3;rw[W n,M n,D n];refine#[.ref f[k],by simp[YA],f[k],T,rfl,j.fh _ _ g2,λp s=>#[by rw[Xj,R];exact Vh<|#[],f.length-(k+1),#[],rfl,P,t++[p],by rw[XL];rfl,by rw[Xn,R];rfl,j.trans<|Q1.own j.fh s,λb h=>?_,?_,?_]]
  .rcases Xz.mp h with h|h
   .exact J b h
   .rw[Xi.mp h];exact j.hh.free s
  .rw[JO];refine#[x,by simp,λc hc c' X=>?_];rw[Xi.mp X];rintro rfl;exact(A.mem c hc).2 s
  .have l:N.made.take (k+1)=N.made.take k++[kv]:=by rw[JM,g1];rfl
   rw[l];exact MadeD.snoc (ms:=[]) (j.fh.free s) Q8 g3 (A.other λz=>(A.mem p z).2 s)
 .have ee:k=f.length:=#[]
  refine .inl #[#[_,SqL.of w,by simp;lia],λp s=>?_];have U:N.made.take k=N.made:=by rw[ee,al,Jr]
  rw[U]at A;have B:=λz=>(A.mem p z).2 s;refine q F _ (.ref p) (p::t) _ #[.ref p,rfl] (j.trans (Q1.own j.fh s)) (λb h=>?_) #[rfl,p,t,rfl,rfl,Xu.mpr #[B,x],j.fh.free s,Q8,A.other B]
  rcases Xf.mp h with rfl|h
  .exact j.hh.free s
  .exact J b h
def F6{t:TT}{b:Bool}(i:Nat)(e:zg Y i<|zo v<|lsO d0 ds)(h:QO K t (Y.set i<|zf<|.list [d0,.list ds]) b):QO K t Y b:=λH0 F O H Q S q=>by
 exact At (S.freezeO lsO.frz e) λp c g=>h H0 _ O H Q g λj Z x=>q _ Z (JC (λa f=>#[(c a f).1,(c a f).2.1]) x)
def ZoU{t:TE}(i:Nat)(e:zg Y i<|zo v<|lsO d0 ds)(s:∀r,Φ r->WH r)(h:Z5 K t (Y.set i<|zf<|.list [d0,.list ds]) Φ):Z5 K t Y Φ:=λH0 F O H Q S q=>by
 refine At (S.freezeO lsO.frz e) λp m w=>h H0 _ O H Q w λy Z u f r j x c g=>q _ Z u f r j (JC (λa b=>#[(m a b).1,(m a b).2.1]) x) c (s r j K y _ Z u f (λa b=>?_) g)
 by_cases z:a∈p
 .rw[Xe z]
 .rw[Xd z];exact(g.there a b).1
end
end L2
namespace L2
def epO(o:Obj):Nat:=match o.data with|.dict _ ep=>ep|_=>0
def nO(o:Obj):Nat:=match o.data with|.dict es _=>es.size|_=>0
def Itd(a:Addr)(o:Obj):It:=
 #[λi H=>∃kvs,H a=some (.frz o<|.dK kvs)/\i<kvs.length,λi H x Z=>Z=H/\∀kvs,H a=some (.frz o<|.dK kvs)->∃p,kvs[i]?=some p/\x=kV p.1,λi H=>∃kvs,H a=some (.frz o<|.dK kvs)/\kvs.length<=i]
def NF{kvs:List (Key×V)}(x:HOk P w H h)(e:H a=some (.frz o<|.dK kvs)):
 (a==sysModules)=false/\∃vs,KV kvs vs/\vs.length=nO o/\h.DictAt (Vr P w) a vs (epO o):=by
 apply aJ ((x a _ e));rintro i z j⟨vs,b,C,es,y,g,v,c,s,f,m⟩;rw[i]at g;cases g;have B:epO o=y:=by unfold epO;rw[c]
 have A:nO o=es.size:=by unfold nO;rw[c]
 refine#[j,vs,b,?_,?_]
 .rw[A,<- f.length];exact Array.length_toList
 .rw[B];exact#[o,es,i,v,c,s,f,m]
theorem ZpH(a it:Addr)(o:Obj):Turn P w K tg (Itd a o) [it] it (λi h=>h.IsKeyIter it a i (nO o)<|epO o) where
 mem:=by simp
 obj:=λi h f b C=>by
  have e:=by simpa using C
  subst e;apply aA f;intro o e c d;simp_all
 keep:=λi h h' f k=>by
  exact aA f λo e c d=>#[o,k it (by simp) o e,c,d]
 item:=by
  intro X n Y p G i B s O H U I N f hg;subst n Y p;refine At hg λkvs hq W=>aX (NF I.hok hq) λR D g M dd=>aG (N it (by simp)) λf0 x f2 u r q=>?_;have L:=g.length;have E:i<D.length:=#[]
  rw[<- M]at f;refine wpAny_pyNext_dict_item (k:=D[i].1) (v:=D[i].2) f dd (by simp[E]) λkey h' T A J=>?_;apply aA (id A);intro o' e c d
  have S:kvs[i].1=D[i].1:=by
   have Z:(kvs.map (·.1))[i]?=(D.map (·.1))[i]? := by rw[g.keys]
   simpa [W,E] using Z
  have Q:QN (kV kvs[i].1) key:=by
   rw[S];rcases Jo (T) with ⟨j,t,F,z⟩|⟨y,t,F,z⟩
   .rw[F,z];exact#[t,rfl]
   .rw[F,z];exact#[t,rfl]
  exact#[key,rfl,GH e c d (by decide) #[kV kvs[i].1,H,I.turned (t':=s.toks) (λb o C e=>(J.2 b C).trans e) f0 x u r q,Q,#[rfl,λks m=>by
   rw[hq]at m;cases m;exact#[kvs[i],by simp[W],rfl]],(M▸A),λb C=>(N b C).1]]
 done:=by
  intro X n Y p G i B s O H U I N f hg;subst n Y p;refine At hg λkvs hq W=>aX (NF I.hok hq) λR D g M dd=>aG (N it (by simp)) λf0 x f2 u r q=>?_;have L:=g.length;rw[<- M]at f;exact wpAny_pyNext_dict_end (I.ok.hd G) f dd (by simp;lia) λh' eb=>#[rfl,I.turned (λb o C e=>eb b o C e) f0 x u r q]
 self:=λ_ _ _ _ _ f h=>wpAny_pyIter_keyiter f h
def PM(b:TE):TI:=λO H R=>b O H λx U=>∃a o kvs,x=.ref a/\U a=some (.frz o<|.dK kvs)/\R (Itd a o) U
def Zrh(A:PE X l tl):PI X tg l (PM tl):=by
 refine λB s O H R I h=>QD (A B s O H _ I h) ?_;rintro v g ⟨x,U,f,j,m⟩;apply aB m;intro a o kvs e y q;subst e;cases j;refine aX (NF f.hok y) λw D i c dd=>wpAny_pyIter_dict w dd ?_;rw[c];refine#[g.heap.objs.size,[g.heap.objs.size],_,_,U,rfl,f.kept λb o e=>Xg _ e,ZpH a _ o,#[_,XD _ rfl,rfl,rfl],λb C=>?_,q];have e:=by simpa using C
 subst e;exact f.fpOk (Xm _) f.fresh
def SN(i:Nat)(t:TS):TS:=λCH O H=>∃a kvs,O[i]?=some (some<|.ref a)/\H a=some (.dK kvs)/\∀o,t CH O (upd H a<|.frz o<|.dK kvs)
def Ab{st:Stmt}{t:TS}(i:Nat)(hs:PS X st t):PS X st (SN i t):=by
 refine λB s O H CH I h=>aF h λa kvs _ y h=>FB ((I.hok a _ y)) λz M D v o es N C g=>?_
 have j:∀{b:Addr} {u:HO},H b=some u->(∀k,u≠.dK k)->b≠a:=λ{b u} e n z=>by
  subst z;rw[y]at e;exact n kvs (Option.some.inj e).symm
 have L:∀{b:Addr},H b=none->b≠a:=λ{b} e z=>by subst z;rw[y]at e;cases e
 have K:Un X.fs [] H (upd H a<|.frz o<|.dK kvs) s.heap s.heap:=
  #[λb f q _ _ _=>q,λb f q _ _ _=>#[f.slots,q],λb _ _ n _=>by rw[Qs<|L n];exact n,λb f q _=>#[f,q],λb xs q=>by rw[Qs<|j q λk z=>nomatch z];exact q,λb P u q=>by rw[Qs<|j q λk z=>nomatch z];exact q,λb _ f _ e _=>e,λb ps q=>#[(List.toArray []),by rw[Qs (j q<|by rintro k ⟨⟩),q];simp]]
 have w:HOk X.prog X.w (upd H a<|.frz o<|.dK kvs) s.heap:=λb u e=>by
  by_cases A:b=a
  .subst A;rw[Q8]at e;cases e;exact#[C,z,M,D,v,o,es,N,C,g]
  .rw[Qs A]at e;exact (λx=>x.stay (λ_ _ _ q=>q) (λc m=>by rw[Qs<|j m λk z=>nomatch z];exact m) (λc xs m=>by rw[Qs<|j m λk z=>nomatch z];exact m)) (I.hok b u e)
 exact hs B s O _ CH (I.un K w) (h o)
def dwP(o:Obj)(kvs:Zc3):OwnP where
 ok K F H v p := ∃a xs,v=.ref a/\p=[a]/\F a=none/\H a=some (.frz o<|.dK xs)/\PairK F xs kvs
 there:=by
  rintro K F H v p ⟨a,xs,rfl,rfl,h,f,g⟩ b j;cases Xi.mp j;exact#[h,Z4 f]
 mono:=by
  rintro K F y H Z v p s w m ⟨a,xs,rfl,rfl,h,f,g⟩;exact#[a,xs,rfl,rfl,w a Xb,by rw[m a Xb];exact f,g.mono s]
 uniq:=by
  rintro K F H v p q ⟨a,xs,rfl,rfl,_⟩ ⟨b,ys,e,rfl,_⟩ c i;cases e;exact i
def DwZ(o:Obj)(kvs:Zc3):ZP where
 ok K F v := ∃a xs,v=.ref a/\F a=some (.frz o<|.dK xs)/\PairK F xs kvs
 mono:=by
  rintro K F f v s ⟨a,xs,rfl,c,b⟩;exact#[a,xs,rfl,s _ _ c,b.mono s]
def dwP.fz(h:(dwP o kvs).ok K F H v p)(s:Q6 F F')(he:∀b∈p,F' b=H b):(DwZ o kvs).ok K F' v:=by
 apply aT h;rintro a xs rfl rfl g f c;exact#[a,xs,rfl,by rw[he a Xb];exact f,c.mono s]
section
variable {ty:TE}{k:Key}{d:PyData}{o:Obj}
def Os(i:Nat)(e:zg Y i<|zo v<|dkP kvs)(h:∀o,QB K t (Y.set i<|zz<|DwZ o kvs) CH):QB K (SN i t) Y CH:=λF0 H0 F O H w x S C=>by
 apply aX (S.writeOwn e);intro s0 p m s j;apply aT m;rintro a xs rfl rfl f0 y k;have g:=s a Xb;refine#[a,xs,s0,y,λo=>?_];have A:(Y.set i<|zo (.ref a)<|dwP o kvs)[i]?=some _:=Xk ((Xc.mp e).1);have:=K5 i A (λa b c=>dwP.fz a b c) (by rw[List.set_set];exact h o);exact this F0 H0 F O _ w (x.wr g.1 g.2.1) (j _ (dwP o kvs) [a] (S.sub.upd g.2.1) (λb f _=>Qs λz=>f<|by exact z▸Xb) VN #[a,xs,rfl,rfl,f0,Q8,k] (λb f=>.inl f)) C
def Q7.dwz(S:Q7 K H0 F Y O H)(e:zg Y i<|zz<|DwZ o kvs):∃a xs,O[i]?=some (some<|.ref a)/\F a=some (.frz o<|.dK xs)/\PairK F xs kvs:=by
 apply At S.fp;intro f h _;apply af (h i _ e);rintro v d _ a xs rfl c b;exact#[a,xs,d,c,b]
def OK(e:zg Y i<|zz<|DwZ o kvs)(v:Qr K ty Y (WI k))(w:Yv kvs k=some d):Qr K (Dc (Q3 i) ty) Y d:=λH0 F O H Q S q=>by
 refine KE (S.dwz e) λa xs h _=>#[_,h,v H0 F O H _ S λC U y f s=>?_];apply aF ((S.ext f).dwz e);intro L c b B A;rw[h]at b;cases b;rw[M3 s];rcases A.val k with ⟨_,z⟩|⟨x,D,m,g,j⟩
 .grind
 .rw[w]at g;cases g;exact#[a,x,rfl,.inl #[c,k,.inr #[o,(S.ext f).sub _ _ B],rfl,m.symm],q C U x f j]
def AL(k:Key):Rep F (kV k) (WI k):=by
 cases k with
 |inl i=>exact .int i
 |inr x=>exact .str x
theorem PairK.key{F:Hp}:∀{xs:List (Key×V)} {kvs:Zc3},PairK F xs kvs->xs.map (·.1)=kvs.map (·.1)
 |_,_,.nil=>rfl
 |_,_,.cons _ t=>by simp[t.key]
def IM(e:zg Y i<|zz<|DwZ o kvs):EvI K (PM<|Q3 i) Y (kvs.map λv=>WI v.1):=λH0 F O H R S q=>by
 refine aF (S.dwz e) λa xs s k j=>#[_,s,a,o,xs,rfl,S.sub _ _ k,q F H _ (Q1.refl S.sub) λC L m g=>?_];have c:=g _ _ (m _ _ k);have B:=j.length;refine#[#[xs,c,by rw[Xj,B];exact Xm _],λi d f=>?_];have E:=by
  have:=(Xc.mp f).1;simpa using this
 refine#[#[xs,c,#[]],λy D b=>?_];obtain⟨rfl,b⟩:=b;apply At (b xs c);rintro p A rfl;refine#[C,Q1.refl g,?_];have w:p.1=(kvs[i]).1:=by
  have h:(xs.map (·.1))[i]?=(kvs.map (·.1))[i]? := by rw[j.key]
  rw[Xy,Xy,A,XW E]at h;exact Option.some.inj h
 rw[Xy,XW E]at f;cases Option.some.inj f;rw[w];exact AL _
end
end L2
namespace L2
def Bj(C:Addr)(f:Str):Sp:=λb H Q _=>∃(e:Addr) (x:V),b=[.ref e,x]/\H e=some (.ext<|phX C e none)/\
 ∀L,H L=none->L≠e->Q .non (upd (upd H e<|.ext<|phX C e<|some L) L<|.xd [(f,x)])
def Zrt(h:Bj C f vs H Q hi):
 YC (VB<|tXI C 0) (sXF C (Q3 0) (Q3 1) f) { nx:=λ_ Z=>Q .non Z,rt:=Q } (vs.map some++List.replicate n none) H:=by
 apply aF h;rintro e x rfl g i;exact#[e,none,rfl,g,x,rfl,.ref e,rfl,e,rfl,g,λL b c=>i L b c]
structure FldW(f:Str)(e:Addr)(F H H0:Hp)(w:V)(L:Addr):Prop where
 hd:H L=some (.xd [(f,w)])
 nd:L≠e
 fe:F e=none
 fd:F L=none
 d0:H0 L=none
def JQ(f:Str)(e:Addr)(F H H0:Hp)(b:Qj)(w:V):Prop := ∃L,b=some L/\FldW f e F H H0 w L
def JQ.back{w:V}(h:JQ f e F H U dct w)(s:Q6 H0 U):JQ f e F H H0 dct w:=by
 exact At h λL a b=>#[L,a,b.hd,b.nd,b.fe,b.fd,s.free b.d0]
abbrev WL(K:W.Frag)(C:Addr)(f:Str)(R:List OT->(OT->Prop)->Prop)(Rx:List OT->(V->Prop)->Prop):Sp:=V8 K C (JQ f) R Rx
abbrev SB(K:W.Frag)(C CR:Addr)(f:Str)(R:HandS->List OT->(OT->HandS->Prop)->Prop)(Rx:List OT->(V->Prop)->Prop):Sp:=UD K C CR (JQ f) R Rx
section
variable {t:TA}{CR:Addr}{hi:XK}
def FF{Φx:V->Prop}{d:PyData}{w:V}(h:Qr K ta Y d)(P:ZN d=some w)(W:Φx w)(N:∀A Z e s d,Φx d->Q1 F0 H0 A Z->H0 e=none->JQ f e A Z H0 s d->RR e s Z):EvZ K F0 H0 (sXR C (MQ C (Bj C f) hi<|QE ta QJ) RR) Y:=by
 refine λF O H CH x S=>h H0 F O H _ S λk U u B D=>#[by simp,λe t=>?_];have X:=D.flat P;subst X;refine#[e,u,rfl,Q8,λL m c=>#[rfl,e,some L,rfl,?_,?_]]
 .rw[Qs<|Ne.symm c,Q8]
 .have g:=by rw[Qs c]at m;exact m
  have v:Q6 U (upd (upd (upd U e<|.ext<|phX C e none) e<|.ext<|phX C e<|some L) L<|.xd [(f,u)]):=λb o i=>by
   have y:b≠e:=λz=>by subst z;rw[t]at i;cases i
   have M:b≠L:=λz=>by subst z;rw[g]at i;cases i
   rw[Qs M,Qs y,Qs y];exact i
  have j:=x.trans B;exact N k _ e _ u W (j.trans #[v,Q6.refl _,j.fh.trans v,λb i=>.inl i]) (j.hh.free t) #[L,rfl,Q8,c,j.fh.free t,j.fh.free g,j.hh.free g]
def Zrl{δ:Type}{FL:Addr->Hp->Hp->Hp->Qj->δ->Prop}{R:HandS->List OT->(OT->HandS->Prop)->Prop}{Rx:List OT->(δ->Prop)->Prop}{Ψ:OT->HandS->Prop}(u:NoH m)(e:zg Y i<|zo v<|QM C N)(E:Z0 K t Y ts)(z:R N ts Ψ)(st:Vx CR RR)
(hn:∀r b,Ψ r b->CH.nx ((Y.set i<|zo v<|QM C b).set j (some r))):
 QB K (Z9 (ZQ C m (UD K C CR FL R Rx) [] (XE CR RR) (Q3 i) t)<|ZM j) Y CH:=λF0 H0 F O H hi x S C'=>by
 apply aA (Y0 S x e);intro p0 s0 w _;apply ae (QM.at w);rintro D L y n k g d e'⟨rfl,G⟩;refine#[.ref D,s0,D,L,_,rfl,G,u _ _ _ _ _ _,E H0 F O H _ S λF2 H2 W c X=>.inl #[RR,rfl,st,aA (Y0 (S.ext c) (x.trans c) e) λp s1 s B=>#[F2,_,W++[],p,ts,N,Ψ,rfl,(S.ext c).kt,c.fh,by rw[Xx];exact X,s,z,λM Z a b v' r q l P A f h o=>?_]]];apply I0 (B M Z a b P A f);intro T U I;obtain⟨Q,J⟩:=I q o;exact C'.nx M _ Z _ T (U.set h Q (hn:=J)) (hn r b l)
end
def excV(C:Addr)(f:Str)(w:V)(e L:Addr):OwnP where
 ok:=λK F H v p=>p=[e,L]/\(F e=none/\F L=none)/\(∃T,H e=some (.ext<|phF C e (some L) T))/\H L=some (.xd [(f,w)])
 there:=λ{K F H v p} h a b=>by
  obtain⟨rfl,⟨y,m⟩,⟨T,g⟩,c⟩:=h;rcases Xf.mp b with rfl|b
  .exact#[y,Z4 g]
  .rcases Xf.mp b with rfl|b
   .exact#[m,Z4 c]
   .cases b
 mono:=λ{K F B H Z v p} s j i h=>by
  apply aJ h;rintro rfl⟨y,m⟩⟨T,g⟩c;exact#[rfl,#[j _ Xb,j _ (Xh _ Xb)],#[T,(i _ Xb).trans g],(i _ (Xh _ Xb)).trans c]
 uniq:=λ{K F H v p A} h h' a b=>by
  obtain⟨rfl,_⟩:=h;obtain⟨rfl,_⟩:=h';exact b
section
variable {w:V}{e:Addr}
def Q7.excV(S:Q7 K H0 F Y O H)(h:zg Y i<|zo v<|excV C f w e L):O[i]?=some (some v)/\(∃T,H e=some (.ext<|phF C e (some L) T))/\H L=some (.xd [(f,w)]):=by
 obtain⟨m,D,B,M,g,A,y⟩:=S;obtain⟨u,j,b,s,_,hT,c⟩:=g i _ h;subst b;exact#[j,hT,c]
def A9(h:zg Y i<|zo (.ref e)<|excV C f w e L)(b:∀F,Rep F w d):Qr K (tXG C (Q3 i) f) Y d:=λH0 F O H Q S k=>by
 apply I0 (S.excV h);rintro j⟨T,g⟩c;exact#[.ref e,j,e,L,T,w,rfl,g,c,k F H _ (Q1.refl S.sub)<|b F]
end
def Ed{tB:TT}{th el:TS}(h:QO K tA Y false)(g:QB K (YB tB th el) Y CH):QB K (YB (tOr tA tB) th el) Y CH:=λF0 H0 F O H f x S c=>
 h H0 F O H _ S λi Z b=>g F0 H0 i O Z f (x.trans b) (S.ext b) c
structure C1(K:W.Frag)(mg:Str->Qf)(ρ C:Addr):Prop where
 em:W.exmOne K (.ref C) (.ref ρ)=some true
 my:mg "YardError"=some (.ref ρ)
 gt:S8 K C
 na:VL K C "number"
 is:ML K C
 k1:W.kitOne K (.ref C) (.ref C)=some true
 k2:W.kitOne K (.ref C) (.type "ValueError")=some true
end L2
namespace L2
section
variable {base:Heap}{CR:Addr}
def Mf.evZ{m qual:Str}{st:Stmt}{N ps:Qh}{k:Nat}{δ:Type}{FL:Addr->Hp->Hp->Hp->Qj->δ->Prop}{R:List OT->(OT->Prop)->Prop}{j:List OT->(δ->Prop)->Prop}(CH:Mf K C m qual st ps)(S:Qo N ps (QG st))(c:∀f,ZR P w K mg base N qual st k CR R f)(g:∀f,ZX P w K mg base N qual st k CR FL j f)(i:∀ts Φ,R ts Φ->ts.length=ps.length:=by intro _ _ h;cases h<;>rfl)(b:∀ts Φ,j ts Φ->ts.length=ps.length:=by intro _ _ h;cases h<;>rfl):ZK P w K mg base C m ps (k+1) (V8 K CR FL R j):=CH.go λf _ F=>F.evZ S i b (c f) (g f)
end
structure BackF{δ:Type}(FL:Addr->Hp->Hp->Hp->Qj->δ->Prop):Prop where
 back:∀{e:Addr} {F H H0 U:Hp} {dct:Qj} {d:δ},FL e F H U dct d->Q6 H0 U->FL e F H H0 dct d
def bkV:BackF (JQ f):=#[λh s=>h.back s]
section
variable {t:TA}{CR:Addr}{R:List OT->(OT->Prop)->Prop}
def Jh(W:NoH m)(e:zg Y i<|zz<|Zj C N)(h:Z0 K t Y ts)(l:R (.zow (Zj C N)::ts) Φ)(st:Vx CR RR):
 Z5 K (ZQ C m (V8 K CR FL R Rx) [] (XE CR RR) (Q3 i) t) Y Φ:=λH0 F O H Q S q=>by
 apply ah (S.hz e);rintro a L k g d B y D n xs r⟨o,j⟩;exact#[_,o,a,L,_,rfl,S.sub _ _ j.ins,W _ _ _ _ _ _,h H0 F O H _ S λz U E c w=>#[z,_,(S.ext c).kt,c.fh,.zow ((Zj C N).mono c.ff #[a,L,k,g,d,B,y,D,n,xs,r,rfl,j])<|by rw[Xx];exact w,RR,rfl,st,.inl #[Φ,l,λx u v p A M s P f=>q x u v p A M (c.trans s) (λb X=>c.hh.free<|P b X) f]]]
def DT(b:NoH m)(e:zg Y i<|zz<|Zj C N)(h:Z0 K t Y ts)(c:R (.zow (Zj C N)::ts) (λr=>r=.fz d))(st:Vx CR RR):Qr K (ZQ C m (V8 K CR FL R Rx) [] (XE CR RR) (Q3 i) t) Y d:=EvO.e (Z5.o<|Jh b e h c st)
def Lu(p:BackF FL)(D:NoH m)(e:zg Y i<|zz<|Zj C N)(l:Z0 K t Y ts)(X:Rx (.zow (Zj C N)::ts) Φx)(st:Vx CR RR)
(B:∀f Z e b d,Φx d->Q1 F0 H0 f Z->H0 e=none->FL e f Z H0 b d->RR e b Z)(x:Q1 F0 H0 F H)(S:Q7 K H9 F Y O H):
 ZQ C m (V8 K CR FL R Rx) [] (XE CR RR) (Q3 i) t O H Q:=by
 apply ah (S.hz e);rintro a L k g d w y A n xs q⟨o,j⟩;refine#[_,o,a,L,_,rfl,x.fh _ _ j.ins,D _ _ _ _ _ _,l H9 F O H _ S λr z u c v=>?_];have h:=x.trans c;exact#[r,_,(S.ext c).kt,c.fh,.zow ((Zj C N).mono c.ff #[a,L,k,g,d,w,y,A,n,xs,q,rfl,j])<|by rw[Xx];exact v,RR,rfl,st,.inr #[Φx,X,λf Z e b d W s P M=>B f Z e b d W (h.trans s) (h.hh.free P)<|p.back M h.hh]]
def Bu(s:BackF FL)(g:NoH m)(e:zg Y i<|zz<|Zj C N)(j:Z0 K t Y ts)(h:Rx (.zow (Zj C N)::ts) Φx)(st:Vx CR RR)
(f:∀c Z e b d,Φx d->Q1 F0 H0 c Z->H0 e=none->FL e c Z H0 b d->RR e b Z):EvZ K F0 H0 (VB<|ZQ C m (V8 K CR FL R Rx) [] (XE CR RR) (Q3 i) t) Y:=λF O H v x S=>Lu s g e j h st f x S
end
end L2
namespace L2
def Q7.reslot(S:Q7 K H0 F Y O H)(e:Y[i]?=some (some t))(h:∀u p,O[i]?=some (some u)->Zh K F H u t p->Zh K F H u t' p):Q7 K H0 F (Y.set i<|some t') O H:=by
 exact aD (S.chg e) λv p f b _ k=>(k F H t' p (Q6.refl _) S.sub (λ_ _ _=>rfl) (λ_ h=>.inl h) (h v p f b) λ_ c=>.inl c).1
end L2
namespace L2
structure HN(K:W.Frag)(C:Addr):Prop where
 cls:∀h:Heap,K.In h->∃(L1 bm:Qe) (nm q:Str) (N:Addr) (bs:Qe) (SF:Bool) (sn:Qh) (sub:Qe) (ab:Bool) (col:Option Bool) (dd:Qj) (k0 k1 k2 k3 k5:Qf),
  ExcBaseFacts "ValueError" "ValueError.__new__" "ValueError.__init__" L1/\OwnTail h L1 bm/\h.get? C=some (excClassObj nm q C N bs bm SF sn sub ab col dd k0 k1 k2 k3 k5 "ValueError.__new__")/\
  ∃mN:Str->Qf,h.Ns N mN/\mN "__init__"=none
open PySem.W in
def KQ(K:Frag)(C:Addr):Bool:=match K.lookup C with
 |some #[.type "type",_,.cls cd,b]=>(match cd.mro,b.toList with
   |.ref c::bm,[_,_,_,_,some<|.builtin n,_]=>c==C&&n == "ValueError.__new__" && !cd.hasDel&&tailIn K MR bm&&nsOkIn K cd.ns&&nsIn K cd.ns "__init__" == some none
   |_,_=>false)
 |_=>false
open PySem.W in
theorem AR{K:Frag}(q:KQ K C=true):HN K C where
 cls:=λh X=>by
  unfold KQ at q;split at q
  .rename_i dd cd g v;split at q
   .rename_i A bm k0 k1 k2 k3 n k5 i y;simp only[Wo,beq_iff_eq,Bool.not_eq_true']at q;obtain⟨⟨⟨⟨⟨rfl,rfl⟩,b⟩,s⟩,hok⟩,c⟩:=q;obtain⟨nm,bs,m,ns,j,hd,sn,sub,ab,col,w⟩:=cd;dsimp only at i b hok c;subst i b;have f:g=(List.toArray [k0,k1,k2,k3,some<|.builtin "ValueError.__new__",k5]):=by
     obtain⟨l⟩:=g;simp_all
    subst f;exact#[MR,bm,nm,j,ns,bs,hd,sn,sub,ab,col,dd,k0,k1,k2,k3,k5,PySem.F.excBase_ValueError,tail_of_in X s,X _ _ v,_,.of_isNs<|isNs_of_in X hok,nsMap_none_of_in X hok c]
   .cases q
  .cases q
structure HM(K:W.Frag)(mg:Str->Qf)(x:Str)(C:Addr):Prop where
 cl:HN K C
 kp:W.keepIn K (.ref C)=true
 m:mg x=some (.ref C)
def Km(C:Addr)(t:TA):TE:=λO H Q=>t O H λb U=>b.length<=1000/\∀x,U x=none->Q (.ref x) (upd U x<|.ext<|phX C x none)
section
variable {hi:Qb}{d:Drawn}{t:Nat}{os:OsState}
variable {q:Str}{N:Addr}{bs:Qe}{sub:Qe}
def ED(F:ExcBaseFacts Xa6 newId initId L1)(T:OwnTail h L1 bm){rest:Qe}
(i:h.get? C=some (excClassObj nm q C N bs bm SF sn sub ab col dd k0 k1 k2 k3 k5 newId))(hn:h.Ns N mN)(v:mN "__init__"=none)(c:rest.length<=sizeLine)
(K:∀h':Heap,(∀b o,h.get? b=some o->h'.get? b=some o)->phX C (h.objs.size+1) none h'->Q (.done<|.ret<|.ref<|h.objs.size+1) #[h',g,d,t,os]):
 wpAny (model prog w) A (Builtin.«type.__call__» #[.ref C::rest,[]]) Q hi #[h,g,d,t,os]:=by
 have m:∀b o,h.get? b=some o->(Wp h C rest).get? b=some o:=λb o e=>Xg _ (Xg _ e)
 repeat (first
  |with_reducible refine wpAny_loadPart_at i ?_
  |with_reducible refine wpAny_madeBy_exc i ?_
  |wp_step)
 refine codeAny_call_builtin_code (Code.quiet_builtin _ F.quiet)
  (wpAny_check_new_subT F T i ?_)
 refine codeAny_exc_new_subT F T i ?_ c;show wpAny _ _ _ _ _ #[Wp h C rest,g,d,t,os];have j:(Wp h C rest).get? (h.objs.size+1)=some _:=HL (by rw[Jq]) rfl;have f:=m _ _ i;have D:=T.keeps m;have s:(Value.ref C::bm).contains (.ref C)=true:=by simp
 repeat (first
  |with_reducible refine wpAny_loadPart_at j ?_
  |(with_reducible refine wpAny_isSubtype_exc f ?_;rw[s])
  |wp_step)
 refine wpAny_typeLookup_tail f (hn.keeps m) D F.mroIs F.init.lookup ?_;rw[v];refine wpAny_holding (Xa<|wpAny_of_eq (F.init.bind _) (Xa (wpAny_call<|codeAny_call_builtin F.init.plain F.initEntry<|wpAny_check_init_subT F D f j rfl ?_)))
 wp_walk using AutoSeq1.wpAny_loadPart' j
 refine K _ (λb o B=>?_) #[(Wp h C rest).objs.size,(List.toArray []),?_]
 .rw[XT _ _<|Y3<|BF<|Xo B];exact Xg _ (m _ _ B)
 .rw[Jt _ (Xg _ j) rfl];rfl
def A8(F:ExcBaseFacts Xa6 newId initId L1)(T:OwnTail h L1 bm){rest:Qe}
(f:h.get? C=some (excClassObj nm q C N bs bm SF sn sub ab col dd k0 k1 k2 k3 k5 newId))(hn:h.Ns N mN)(i:mN "__init__"=none)(c:rest.length<=sizeLine)
(j:∀h':Heap,(∀b o,h.get? b=some o->h'.get? b=some o)->phX C (h.objs.size+1) none h'->Q (.ref<|h.objs.size+1) #[h',g,d,t,os]):
 wpAny (model prog w) A (call (.ref C) rest) Q hi #[h,g,d,t,os]:=by
 have v:=tc_lookup;have s:=tc_bind (.ref C);have m:(#[h,g,d,t,os]:Shared).TypeIs (.ref C) "type" := #[_,f,rfl];refine wpAny_call (codeAny_of_tree ?_)
 repeat (any_goals (first
  |assumption
  |with_reducible refine wpAny_loadPart_at f ?_
  |wp_step))
 exact#[rfl,codeAny_call_builtin_at (Code.quiet_builtin _<|by decide +kernel) entry_typeCall (wpAny_check_type_call_sub f (ED F T f hn i c j))]
end
section
variable {x:Str}{p:Pos}{e:Expr}{t:TA}{R:Addr->Qj->Hp->Prop}
def ZpG(c:HN X.K C)(D:W.keepIn X.K (.ref C)=true)(L:Gl X x)(K:X.mg x=some (.ref C))
(M:PA X (e::es) t)(i:(x==("__debug__" : Str))=false:=by decide)(he:zs X e es:=by rfl)(hpl:zb X pos es:=by rfl):
 PE X (.Call (.Name x p) (e::es) [] pos) (Km C t):=by
 refine λB s O H Q I h=>wpAny_Call_Name_kw (J7 I L K (W.callWith_K I.ok.mod.kin D (QD (M pos B s O H _ I h) ?_) he hpl) i);rintro v y ⟨a,U,b,r,u,q⟩;refine#[b.kIn,?_];apply ag (c.cls _ b.kIn);rintro L1 bm nm l N z SF sn w ab col dd k0 k1 k2 k3 k5⟨Y,T,R,o,P,E⟩;refine A8 Y T R P E (by show v.length<=_;rw[<- r.length,sizeLine_eq];lia) λh' f A=>?_
 exact#[.ref _,_,b.laid f (Gw _)<|Dw A,rfl,q _<|b.hok.fresh (Gw _)]
def ZqL(c:HN X.K C)(f:X.calm=true)(x:PE X e te)(hx:∀B O H s a b,Qt X B O H s->H a=some (.ext<|phX C a b)->R a b H->X.xe (.ref a) s):PS X (.Raise (some e) none pos) (sXR C te R):=by
 refine λB s O H CH I h=>Xa (wpAny_standAt<|TK (C:=C) (I.ok.hd f)<|Xa<|QD (x B s O H _ I h) ?_);rintro u L ⟨v,U,j,r,a,b,rfl,m,q⟩;refine Xa<|wpAny_standAt<|Xl ?_;obtain rfl:=r;apply I0 (j.hok a _ m);rintro⟨t,p,i⟩_ _;apply ag (c.cls _ j.kIn);rintro L1 bm nm w N D SF sn g ab col dd k0 k1 k2 k3 k5⟨K,T,y,_⟩
 exact#[a,t,b,p,bm,nm,w,N,D,SF,sn,g,ab,col,dd,k0,k1,k2,k3,k5,_,rfl,T.hasType K.hasBase,y,i,hx _ _ _ _ _ _ j m q]
end
section
variable {base:Heap}{N:Qh}
def FV{x:Str}{p:Pos}{e:Expr}{t:TA}(c:HM K mg x C)(b:Vx C RR)
(h:PA (cx1 P w K mg base N qual scope f0 cd A outer s0 H0<|XE C RR) (e::es) t)(g:Gl (cx1 P w K mg base N qual scope f0 cd A outer s0 H0<|XE C RR) x:=by rfl)
(f:(x==("__debug__" : Str))=false:=by decide)(he:starEach (e::es) (cx1 P w K mg base N qual scope f0 cd A outer s0 H0<|XE C RR).env=(false,eval e (cx1 P w K mg base N qual scope f0 cd A outer s0 H0<|XE C RR).env)::starEach es (cx1 P w K mg base N qual scope f0 cd A outer s0 H0<|XE C RR).env:=by rfl)
(hpl:(backTo pos<|starEach es (cx1 P w K mg base N qual scope f0 cd A outer s0 H0<|XE C RR).env).any (·.1)=false:=by rfl):
 PS (cx1 P w K mg base N qual scope f0 cd A outer s0 H0<|XE C RR) (.Raise (some<|.Call (.Name x p) (e::es) [] pos) none pos') (sXR C (Km C t) RR):=
 ZqL c.cl rfl (ZpG c.cl c.kp g c.m h f he hpl) (λB O H s a i I he r=>LP b I he r)
end
def Yu(e:Addr)(F H H0:Hp)(b:Qj)(_:Unit):Prop:=b=none/\F e=none
def bkN:BackF Yu:=#[λh _=>h]
def Zqc{Φx:Unit->Prop}{d:PyData}(h:Qr K ta Y d)(y:Φx ())(w:∀m Z e f d,Φx d->Q1 F0 H0 m Z->H0 e=none->Yu e m Z H0 f d->RR e f Z):EvZ K F0 H0 (sXR C (Km C<|QE ta QJ) RR) Y:=λF O H CH x S=>
 h H0 F O H _ S λA U u s B=>#[by simp,λe i=>by
  have g:=x.trans s;have j:Q6 U (upd U e<|.ext<|phX C e none):=λb o c=>by
   have v:b≠e:=λz=>by subst z;rw[i]at c;cases c
   rw[Qs v];exact c
  exact#[e,none,rfl,Q8,w A _ e none () y (g.trans #[j,Q6.refl _,g.fh.trans j,λb c=>.inl c]) (g.hh.free i) #[rfl,g.fh.free i]]]
def UF(C e:Addr):OwnP where
 ok:=λK F H v p=>p=[e]/\F e=none/\∃T,H e=some (.ext<|phF C e none T)
 there:=λ{K F H v p} h a b=>by
  apply I0 h;rintro rfl f⟨T,c⟩;cases Xi.mp b;exact#[f,Z4 c]
 mono:=λ{K F m H Z v p} s i g h=>by
  apply I0 h;rintro rfl f⟨T,c⟩;exact#[rfl,i _ Xb,T,(g _ Xb).trans c]
 uniq:=λ{K F H v p j} h h' a b=>by
  obtain⟨rfl,_⟩:=h;obtain⟨rfl,_⟩:=h';exact b
section
variable {tb:Ends->TS}{n:Nat}{e:Addr}
def ZqP(Φx:Unit->Prop)(r:j<n)(hth:∀e,QB K (th e) ((List.replicate n none).set j (zo (.ref e)<|UF C e)) { nx:=λJ=>CH.nx<|J.set j none,rt:=λ_=>False })
(hz:∀(i:Ends) (F0 H0 F:Hp) (O:St) (H:Hp),Q1 F0 H0 F H->Q7 K H0 F Y O H->(∀v Z e f u,Φx u->Q1 F H v Z->H e=none->Yu e v Z H f u->∀(b:St) d T,b.length=n->Lefts C e f Z d->d T=none->T≠e->th e (Dh i j) (b.set j<|some<|.ref e) (left C e f T d))->tb i i O H):QB K (YN tb) Y CH:=λF0 H0 F O H i x S c=>by
 refine hz i F0 H0 F O H x S λv Z e f u _ s D G b d T q L hT h=>?_;obtain⟨rfl,M⟩:=G;have A:=M5 (.step L hT h) s.fh M;have B:left C e none T d e=some (.ext<|phF C e none T):=by unfold left;rw[Qs<|Ne.symm h,Q8]
 refine hth e F0 H0 v (b.set j<|some<|.ref e) _ (Dh i j) (x.trans #[M5 (.step L hT h) s.hh D,s.ff,A,s.fr]) #[S.kt.mono s.ff,A,by simp[q],λk=>if k=j then [e] else [],λk t y=>?_,λk l a m E=>?_,λk a m=>?_] #[λU N R P W Q o=>c.nx U _ R _ W (Q.setN none) o,λ_ _ _ _ _ _ _ _ z=>False.elim z,λ_ _ _ _ _ _ z=>False.elim z,λ_ _ _ _ _ _ z=>False.elim z]
 .by_cases g:k=j
  .subst g;rw[Xk<|by simpa using r]at y;cases y;refine#[.ref e,Xk #[],?_];dsimp only;rw[Xe rfl];exact#[rfl,rfl,M,T,B]
  .rw[Xp<|Ne.symm g,Sw]at y
   grind
 .by_cases g:k=j
  .by_cases p:l=j
   .lia
   .simp[p]at E
  .simp[g]at m
 .dsimp only at m
  by_cases g:k=j
  .rw[Xe g]at m;cases Xi.mp m;exact#[x.hh.free D,Z4 B]
  .simp[g]at m
def Ma{b:Bool}(h:zg Y i<|zo (.ref e)<|UF C e)(g:G3 c=some cv)(f:W.kitOne K (.ref C) cv=some b):Qr K (tCB (G2 K C)<|QE (Q3 i)<|QE (tC c) QJ) Y (.bool b):=λH0 F O H Q S k=>by
 apply At S.fp;intro s j _;apply aO (j i _ h);rintro u n rfl _ _⟨T,m⟩;exact#[.ref e,n,.ref e,c,cv,b,rfl,g,.inr<|.inl #[e,T,rfl,m,f],k F H _ (Q1.refl S.sub)<|.bl b]
end
structure S9(K:W.Frag)(mg:Str->Qf)(ρ C:Addr):Prop where
 em:W.exmOne K (.ref C) (.ref ρ)=some true
 my:mg "YardError"=some (.ref ρ)
 is:ML K C
 k1:W.kitOne K (.ref C) (.ref C)=some true
 k2:W.kitOne K (.ref C) (.type "ValueError")=some true
end L2
namespace L2
open HT
section
variable {hi:Qb}
def Zg9{b:Array Value}{lo E:Option Int}(c:IsTup s.heap t b)(hs:s.heap.IsSliceOf sl vl vu .none)(i:IsPart vl lo)(h:IsPart vu E)
(hw:sIx b.size 0 lo=0/\sIx b.size b.size E=b.size)(q:Q (.ref t) s):wpAny (model prog w) A (getItem (.ref t)<|.ref sl) Q hi s:=by
 apply aA (id hs);intro j f g v;unfold getItem;try with_reducible refine wpAny_holding ?_
 first|refine Xa (Xl ?_)|skip
 refine Xa (wpAny_sequenceKey c.typeIs (by decide)<|Xa<|wpAny_callSpecial?_slot c.typeIs PyProof.Rows.slot_tuple_getitem<|wpAny_call_entry PyProof.Rows.slot_tuple_getitem c.typeIs entry_tuple_getitem ?_<|args_tuple_getitem _ _);show wpAny _ _ (Builtin.Tuple.tupleItemsOf (.ref t) >>= _) _ _ s;refine Xa (tupleItemsOf_ c<|Xa<|wpAny_typeOf (#[j,f,g]) (Xa (Cw hs i h ?_)))
 have m:((((sIx b.size 0 lo):Int)==0&&(1:Int)==1&&(sIx b.size b.size E-sIx b.size 0 lo)==b.size)=true):=by
  rw[hw.1,hw.2];simp
 show wpAny _ _ (if _=true then _ else _) _ _ s;rw[Xe m]
 first
  |exact Xa (Xa<|wpAny_typeOf c.typeIs<|Xl<|Xa<|wpAny_rule<|Xl #[_,rfl,Xl q])
  |exact Xa _
end
def SG(K:W.Frag):V->Option Int->Option Int->Hp->VK->Prop:=λx b E H Q=>∃a xs,x=.ref a/\SqT K H a xs/\
 ((HT.sIx xs.length 0 b=0/\HT.sIx xs.length xs.length E=xs.length)->Q (.ref a) H)/\
 (¬(HT.sIx xs.length 0 b=0/\HT.sIx xs.length xs.length E=xs.length)->∀p,H p=none->Q (.ref p) (upd H p<|.tup<|JT xs b E))
def Be:SlR X (SG X.K):=by
 intro B s O H x v D C m E K Q I g A j i h;apply aD h;rintro a xs rfl w M L
 by_cases c:HT.sIx xs.length 0 m=0/\HT.sIx xs.length xs.length E=xs.length
 .cases g;apply aA (I.tuple w);intro f r y N;have b:f.toArray.size=xs.length:=by rw[Xs];exact r.length.symm
  exact#["tuple",_,PyProof.Rows.slot_tuple_getitem.lookup,y.typeIs,Zg9 y A j i (by exact b▸c) #[.ref a,H,I,rfl,M c]]
 .exact AU B s O H _ v D C m E K Q I g A j i #[a,xs,rfl,w,c,L c]
def EE{b:Type}(xs:List b)(lo E:Option Int)(h:HT.sIx xs.length 0 lo=0/\HT.sIx xs.length xs.length E=xs.length):cut xs lo E=xs:=by
 unfold cut;simp_all
def GZ{th:TO}{lo E:Option Int}(h:Qr K te Y (.tuple ds))(y:EvP K tl Y lo)(w:EvP K th Y E):Qr K (tSl (SG K) te tl th) Y (.tuple<|cut ds lo E):=λH0 F O H Q S q=>
 h H0 F O H _ S λL U v f s=>y H0 L O U _ (S.ext f) λD B c=>w H0 D O B _ (S.ext<|f.trans c) λC A b=>by
  have m:=(f.trans c).trans b;have g:=s.mono (c.trans b).ff;apply aD (Uz (K:=K) g b.fh);rintro a xs rfl k1 k2 k3;refine#[a,xs,rfl,k1,λi=>?_,λ_ p j=>?_]
  .exact q C A _ m (by rw[EE ds lo E (k2.length▸i)];exact g)
  .exact q _ _ _ (m.trans<|Q1.new b.fh j) (.tup Q8<|(L8 k2 lo E).mono (Q6.new<|b.fh.free j))
end L2
namespace L2
def Db(C e:Addr):ZP where
 ok:=λK F v=>v=.ref e/\∃T,F e=some (.ext<|phF C e none T)
 mono:=by
  rintro K F c v s ⟨rfl,T,b⟩;exact#[rfl,T,s _ _ b]
section
variable {e:Addr}
def UF.fz(h:(UF C e).ok K F H (.ref e) p)(s:Q6 F F')(he:∀b∈p,F' b=H b):(Db C e).ok K F' (.ref e):=by
 apply I0 h;rintro rfl _⟨T,c⟩;exact#[rfl,T,by rw[he _<|by simp];exact c]
def ZqG(h:zg Y i<|zz<|Db C e)(w:Z0 K t Y [.fz<|.int k])(h1 : -(2^62)<=k)(A:k<2^62):EvI K (Ku C e t) Y (VA 0 k.toNat):=λH0 F O H R S r=>
 w H0 F O H _ S λL U M c m=>by
  cases m with
  |fz a b=>
   cases b;cases a;apply At ((S.ext c).fp);intro N g _;apply aI (g i _ h);rintro v _ _ _⟨T,B⟩;refine#[k,rfl,h1,A,r L U _ c λD W j f=>#[#[?_,_,T,f _ _<|j _ _ B],λi d y=>?_]]
   .rw[JD];exact Xm _
   .obtain⟨E,rfl⟩:=W6 y;exact#[E,λx P s=>by
     obtain⟨rfl,rfl⟩:=s;exact#[D,Q1.refl f,.int _]]
end
end L2
namespace L2
section
variable {d':PyData}
def HandOk.setYard{g m:Addr}{xs:List (Key×V)}(f:HandOk C N F H a L k g d m y xs as)(r:Rep F y' d'):
 HandOk C { N with yard:=d' } F (upd H a<|.ins C L<|hfs y' N.now k g d m) a L k g d m y' xs as:=by
 obtain⟨c,⟨A,t⟩,⟨i,h⟩,q,⟨k1,w,k2,k3⟩,⟨M,B,K,D⟩,⟨X,W,P⟩,⟨v,s,j⟩⟩:=f;have b:=c;simp only[Xu,Xf,not_or]at b;obtain⟨⟨p,o,n,l,e,Y⟩,_⟩:=b;exact#[c,#[A,Q8],#[i,by rw[Qs<|Ne.symm p];exact h],r,#[k1,w,by rw[Qs<|Ne.symm o];exact k2,k3],#[M,B,by rw[Qs<|Ne.symm n];exact K,D],#[X,by rw[Qs<|Ne.symm l];exact W,P],#[v,by rw[Qs<|Ne.symm e];exact s,j.other Y]]
def Od(c:HandC K C)(e:zg Y i<|zo v<|QM C N)(h:Qr K te Y d')(hn:CH.nx (Y.set i<|zo v<|QM C { N with yard:=d' })):QB K (SJ K (Q3 i) te "yard") Y CH:=λF0 H0 F O H l x S X=>
 h H0 F O H _ S λW U u j B=>by
  apply aa ((S.ext j).hand e);rintro a L k g d m y xs P rfl M w⟨D,A⟩;refine#[.ref a,M,a,C,L,_,rfl,w.ins.2,c.cl,c.yd,by show 6<1000;decide,?_];have f:=D a (by simp);exact X.nx W O _ _ ((x.trans j).wr f.1 f.2.1) (A _ { N with yard:=d' } u xs P ((S.ext j).sub.upd f.2.1) (λb s _=>Qs λz=>s<|by rw[z];simp) VN (w.setYard B) λb s=>.inl s) hn
end
def Yx  {e:Expr}{t:TA}{p:Pos}(c:ML K C)(b:X.mg "isinstance"=none)(g:PA X (e::es) t)(h:X.K=K:=by rfl)(f:Gl X "isinstance" := by rfl)
(he:zs X e es:=by rfl)(hpl:zb X pos es:=by rfl):PE X (.Call (.Name "isinstance" p) (e::es) [] pos) (tCB (G2 K C) t):=by
 subst h;exact Zw (E5 c) f b Um g (he:=he) (hpl:=hpl)
def YX(h:EvR K t Y Ψ):EvR K (YC t u) Y Ψ:=λF0 H0 F O H b x S k=>h F0 H0 F O H _ x S k
def ZoN(c:HandC K C)(e:zg Y i<|zo v<|QM C N):Qr K (Ve K (Q3 i) "yard") Y N.yard:=λH0 F O H Q S q=>by
 apply aa (S.hand e);rintro a L k g d m y xs s rfl j f _;obtain⟨_,⟨_,h⟩,_,b,_⟩:=f;exact#[_,j,a,C,L,_,y,rfl,h,c.cl,c.yd,rfl,q F H y (Q1.refl S.sub) b]
section
variable {e q:Addr}
def Oe(h:zg Y j<|zo (.ref e)<|WJ C f ds e L q)(hn:CH.nx ((Y.set j none).set i (some<|.ol ds))):QB K (Z9 (tXG C (Q3 j) f)<|ZM i) Y CH:=λF0 H0 F O H hi x S c=>by
 obtain⟨r,o,n,W,B,P,N⟩:=id S;apply aO (B j _ h);rintro w d rfl a⟨f1,f2,Q⟩⟨⟨T,hT⟩,G,ys,E,p⟩;have v:=(Xc.mp h).1;have D:q∈W j:=by rw[a];simp
 have R:Q7 K H0 F (Y.set j none) O H:=by
  refine#[r,o,by simp[n],W,λk t X=>?_,P,N]
  by_cases m:k=j
  .simp_all
  .rw[Xp<|Ne.symm m]at X;exact B k t X
 refine#[.ref e,d,e,L,T,.ref q,rfl,hT,G,c.nx F _ H _ x (R.set (t:=.ol ds) #[q,rfl,rfl,Q,ys,E,p] (λb A=>?_) (hn:=λb A k u l Z g M s y=>?_)) hn]
 .cases Xi.mp A;exact(N j q D).1
 .cases Xi.mp A;have m:k≠j:=λz=>by
   subst z;rw[Xk v]at g;cases g
  rw[Xp<|Ne.symm m]at g;apply At (B k l g);intro U J I;rw[J]at M;cases M;exact m (P k j q (WA I s q y) D)
end
def Nn:NoH "set_bound" := λ_ _ _ _ _ _=>rfl
end L2
namespace L2
def spY(C:Addr):Sp:=λb H Q _=>∃a L y n k g d e,b=[.ref a]/\H a=some (.ins C L<|hfs y n k g d e)/\Q y H
section
variable {hi:XK}
def Oi(f:NoH m)(e:zg Y i<|zo v<|QM C N)(h:N.yard=d):Qr K (ZQ C m (spY C) [] hi (Q3 i) QJ) Y d:=λH0 F O H Q S q=>by
 subst h;apply aa (S.hand e);rintro a L k g d c y xs s rfl j b _;exact#[_,j,a,L,_,rfl,b.ins.2,f _ _ _ _ _ _,a,L,y,_,k,g,d,c,rfl,b.ins.2,q F H y (Q1.refl S.sub) b.yd]
end
def Z1(X3:List (Qd)):OwnP where
 ok K F H v p:=Zh K F H v (.oll X3) p
 there:=λh=>Zh.there h
 mono:=λs c b h=>Zh.move s c b h
 uniq:=λh h'=>WA h h'
def Q7.unP(S:Q7 K H0 F Y O H)(e:zg Y i<|zo v<|Z1 X3):Q7 K H0 F (Y.set i<|some<|.oll X3) O H:=S.reslot e λu p c b=>b.2
def GV(i:Nat)(e:zg Y i<|zo v<|Z1 X3)(h:Qr K t (Y.set i<|some<|.oll X3) d):Qr K t Y d:=λH0 F O H Q S q=>h H0 F O H Q (S.unP e) q
def Cc{m:Int}(e:zg Y i<|zo v<|Z1 X3)(h:Qr K te Y d)(hk:Qr K ti Y (.int k))(Z:Qr K tj Y (.int m))(e1:ixN X3.length k=some k')(e2:X3[k']?=some ds)(e3:ixN ds.length m=some m')
(hn:CH.nx (Y.set i<|zo v<|Z1<|X3.set k'<|ds.set m' d)):QB K (Z9 te<|BJ (tOp (rIx K) (Q3 i) ti) tj Uf) Y CH:=λF0 H0 F O H hi x S C=>
 h H0 F O H _ S λF1 U v1 r J=>by
  have n:=S.ext r;apply aA (Y0 n (x.trans r) e);rintro p Q⟨a,M,rfl,t,j,l,s,g⟩X;refine#[_,Q,hk H0 F1 O U _ n λF2 H2 y L I=>?_];cases I;apply At ((g.ext L).get e2);intro c W R;have ea:atI (M.map V.ref) k=some (.ref c):=by
   unfold atI;rw[Xj,g.length,e1];show(M.map V.ref)[k']?=_;rw[Xy,W];rfl
  refine .inl #[a,M.map V.ref,k,.ref c,rfl,rfl,SqL.of<|L.hh _ _ s,ea,Z H0 F2 O H2 _ (n.ext L) λu H3 z q G=>?_];cases G;have f:=L.trans q;refine Do (R.ext q) λA xs N w=>#[c,xs,m,m',rfl,rfl,N,by rw[w.length];exact e3,?_];have B:=List.mem_of_getElem? W;have P:c≠a:=λz=>(Xu.mp j).1 (by exact z▸B);have cp:c∈p:=by rw[t];exact Xh _ B
  exact I0 (X u _ p _ #[λb o T D=>by rw[Qs λz=>T<|by rw[show b=c from z];exact cp];exact f.hh _ _ D,f.ff,f.fh.upd A,λb D=>(f.fr b D).imp id .inl] #[a,M,rfl,t,j,f.free l<|Z4 s,by rw[Qs P.symm];exact f.hh _ _ s,(g.ext f).set ((w.set (J.mono f.ff) m')) A (Xu.mp j).2 W] (λb D=>.inl D)) λX' S' _=>C.nx u O _ _ X' S' hn
def O1(e:zg Y i<|zo v<|Z1 X3)(h:EvO K te Y (.ol ds))(J:X3.length<1000)(hn:CH.nx (Y.set i<|zo v<|Z1<|X3++[ds])):
 QB K (VB<|tBM K "list" Ye (Q3 i)<|QE te QJ) Y CH:=λF0 H0 F O H Q x S C=>by
 apply aA (Y0 S x e);intro p s0 s L;have th:=(Z1 X3).there s;apply aP s;rintro a f rfl y N E D M;refine#[_,s0,.inl #[rfl,_,SqL.of D],h H0 F O H _ S λX U u q g r s=>?_];apply aA s;rintro b rfl rfl k;have P:=λz=>(th b<|by exact y▸z).2 (r b Xb);have m:=g.free E (Z4 D);refine#[a,f.map V.ref,.ref b,rfl,rfl,g.hh _ _ D,by rw[Xj,M.length];exact Vh<|#[],?_]
 have A:(a::(f++[b])).Nodup:=by
  rw[show a::(f++[b])=(a::f)++[b] from rfl,JO];exact#[N,by simp,λc j d t z=>P<|by rw[<- Xi.mp t,<- z];exact j]
 have w:∀c∈a::(f++[b]),c∈p\/H c=none:=λc j=>by
  rcases Xz.mp (show c∈(a::f)++[b] from j) with z|z
  .exact .inl (by exact y▸z)
  .rw[Xi.mp z];exact .inr (r b Xb)
 exact I0 (L X (upd U a<|.lst<|f.map V.ref++[.ref b]) (a::(f++[b])) (X3++[ds]) #[λc o l j=>by rw[Qs λz=>l<|by rw[y,show c=a from z];exact Xb];exact g.hh _ _ j,g.ff,g.fh.upd m,λc j=>(g.fr c j).imp id .inl] #[a,f++[b],rfl,rfl,A,m,by rw[Q8];simp,((M.ext g).other ((Xu.mp N).1)).snoc (k.other (λz=>P (by exact z▸Xb)))] w) λG I _=>C.nx X O _ _ G I hn
end L2
namespace L2
theorem Ch{c:Qn}:∀{i:Nat},(∀j k,j<k->k<i->c j≠c k)->(firstMet c i).length=i
 |0,_=>rfl
 |i+1,h=>by
  have e:(firstMet c i).any (· == c i)=false:=by
   rw[firstMet_any];simp_all
  rw[firstMet_succ];unfold step_dedup;simp[e,Ch (i:=i) λj k a b=>h j k a #[]]
def phQ(a:Addr)(n:Nat):Heap->Prop:=λh=>∃o es b t,h.get? a=some o/\o.ExactSet/\o.data=.set es b t/\t.fits es.size=true/\es.size=n
def Pv(X:Cx):List V->Hp->VK->Prop:=λxs H Q=>X.calm=true/\∃(x:V) (b:Ql),xs=[x]/\Rep H x (.list<|b.map PyData.int)/\b.length<=1000/\b.Pairwise (· ≠ ·)/\∀a,H a=none->Q (.ref a) (upd H a<|.ext<|phQ a b.length)
def Pp:List V->Hp->VK->Prop:=λxs H Q=>∃(a:Addr) (n:Nat),xs=[.ref a]/\n<=1000/\H a=some (.ext<|phQ a n)/\Q (.int (n:Int)) H
def El:Va X (.type "set") (Pv X):=by
 intro B s O H xs F Q I r h;apply ac h;rintro l x m rfl N J d q;apply At (YE r);rintro u rfl W;cases N with
 |@lst a ys _ p Y=>
  cases W;apply By (I.hok _ _ p);intro z f n P e;have A:=Bx (by exact ((Uu Y))▸P);have w:f.toArray.size=m.length:=by rw[Xs,A.length]
  refine call_set_list (I.ok.hd l) #[_,e,rfl,n,rfl] (by simpa using A) (by rw[w];unfold scanBound;lia) λh' G y c=>?_
  rw[w,Ch (λj k a b=>by
   have:=Sx.mp d j k #[] b a;simpa [List.getD,b,show j<m.length by lia] using this)]at y
  apply aR y;rintro o es g t i M L _⟨_,_,K,D⟩;refine#[.ref s.heap.objs.size,_,I.laid (o:=.ext _) (λb u v=>c b u (Xo v) v) (Xm _) #[#[o,es,g,t,i,M,L,K,D],#[o,i],by rintro S R ⟨o,es,g,t,C,z⟩ k;exact#[o,es,g,t,k _ C,z]],rfl,q _<|I.hok.fresh<|Xm _]
def EY:Va X (.builtin "len") Pp:=by
 intro B s O H xs v Q I r h;apply aD h;rintro a n rfl w m q;apply At (YE r);rintro u rfl j;cases j;apply I0 (I.hok _ _ m);rintro⟨o,es,y,t,i,g,f,c,b⟩_ _;exact call_len_set i g f c (by rw[b];lia) #[.int<|n,H,I.tok _,#[_,by rw[b]],q]
def EK{ns:Ql}(h:Qr K ta Y (.list<|ns.map PyData.int))(i:X.calm=true)(c:ns.length<=1000)(g:ns.Pairwise (· ≠ ·)):Qr K (tCB Pp<|QE (tCB (Pv X)<|QE ta QJ) QJ) Y (.int (ns.length:Int)):=λH0 F O H Q S q=>
 h H0 F O H _ S λm U v b f=>#[i,v,ns,rfl,f.mono b.fh,c,g,λa j=>#[a,_,rfl,c,Q8,q m _ _ (b.trans<|Q1.own b.fh j)<|.int _]]
end L2
namespace L2
inductive SpG(K:W.Frag)(R:List OT->(PyData->List OT->Prop)->Prop)(vs:List V)(H:Hp)(Q:VK):Prop
 |mk (F:Hp)(ts:List OT)(G:Nat->Qg)(Ψ:PyData->List OT->Prop)(hl:vs.length=ts.length)(kt:KTs K F)(sm:Q6 F H)
  (h:∀i t,ts[i]?=some t->∃v,vs[i]?=some v/\Zh K F H v t (G i))(dj:∀i j b,b∈G i->b∈G j->i=j)(hb:∀i b,b∈G i->H b≠none)(hR:R ts Ψ)
  (k:∀(F' Z:Hp) (ts':List OT) (G':Nat->Qg) (d:PyData) (w:V),Ψ d ts'->ZN d=some w->(∀b o,(∀i,b∉G i)->H b=some o->Z b=some o)->Q6 F F'->Q6 F' Z->(∀b,F' b≠none->F b≠none\/H b=none\/∃i,b∈G i)->
   (∀(i:Nat) (v:V) (Φ:OwnP),ts'[i]?=some (.own v Φ)->Φ.ok K F' Z v (G' i))->(∀i j b,b∈G' i->b∈G' j->i=j)->(∀i b,b∈G' i->(H b=none\/∃j,b∈G j)/\Z b≠none)->Q w Z):SpG K R vs H Q
def spG(K:W.Frag)(R:List OT->(PyData->List OT->Prop)->Prop):Sp:=λb H Q _=>SpG K R b H Q
def Ke(Ψ:PyData->List OT->Prop)(r:OT)(Y:Zbv):Prop := ∃d w ts,r=.fz d/\ZN d=some w/\Ψ d ts/\∀(i:Nat) (v:V) (b:OwnP),ts[i]?=some (.own v b)->Y[i]?=some (zo v b)
section
variable {base:Heap}
def Df.evG{x:Str}{st:Stmt}{W:Qh}{k:Nat}{R:List OT->(PyData->List OT->Prop)->Prop}(CH:Df K mg x st ps)(S:Qo W ps (QG st))
(g:∀f ts Ψ,R ts Ψ->∀H y,B0 P w K mg base W x st k f H y λt=>EvR K t (ini W ts)<|Ke Ψ)(D:∀ts Ψ,R ts Ψ->ts.length=ps.length:=by intro _ _ h;cases h<;>rfl):QC P w K mg base x ps (k+1) (spG K R):=by
 refine CH.go λf fd F=>F.ok S (λI H Q y h=>?_) λI H Q y h X A outer s hr=>?_
 .obtain⟨F,ts,G,Ψ,M,_,_,_,_,_,N,_⟩:=h;rw[M];exact D _ _ N
 .obtain⟨F,ts,G,Ψ,M,kt,Y,h,dj,c,N,k⟩:=h;refine At (g f ts Ψ N H y X A outer s hr) λt h1 h2=>#[t,h1,?_]
  classical
  have l:∀b,(λb=>if ∃i,b∈G i then none else H b:Hp) b=none->H b=none\/∃i,b∈G i:=λb c=>by
   by_cases z:∃i,b∈G i
   .exact .inr z
   .simp only[Xd z]at c;exact .inl c
  refine h2 F (λb=>if ∃i,b∈G i then none else H b) F _ H _ #[λb o c=>?_,Q6.refl _,Y,λ_ h=>.inl h] (NU G kt Y M h dj λi b m=>#[Xe #[i,m],c i b m]) λF' p Z J v r q j S' C _ _ ⟨d,w,B,e,a,L,ht⟩=>?_
  .by_cases z:∃i,b∈G i
   .grind
   .simp only[Xd z]at c;exact c
  .subst e;obtain rfl:=C.2.flat a;refine aA S'.fp λfp g1 g2 n=>k F' Z B fp d v L a (λb o U c=>j.hh b o<|by simp only[Xd (by rintro⟨i,z⟩;exact U i z:¬∃i,b∈G i)];exact c) j.ff j.fh (λb c=>(j.fr b c).imp id (l b)) (λi u E e=>?_) g2 λi b c=>#[l b (n i b c).1,(n i b c).2];apply aA (g1 i _ (ht i u E e));rintro u' _ rfl T;exact T
end
def AS{w:V}(h:ZN d=some w):Rep F w d:=by
 cases d<;>cases h<;>constructor
def D9{b:Type}{o:Option (Option b)}{t:b}(h:o.join=some t):o=some (some t):=by
 match o,h with
 |some _,rfl=>rfl
section
variable {R:List OT->(PyData->List OT->Prop)->Prop}
def EvN(K:W.Frag)(t:TE)(Y:Zbv)(Θ:PyData->Zbv->Prop):Prop := ∀(F0 H0 F:Hp) (O:St) (H:Hp) (Q:VK),Q1 F0 H0 F H->Q7 K H0 F Y O H->
 (∀b Z d w J,Θ d J->ZN d=some w->Q1 F0 H0 b Z->Q7 K H0 b J O Z->Q w Z)->t O H Q
variable {Θ:PyData->Zbv->Prop}
def Bk{s:TE->TS}(hw:EvN K te Y Θ)(hs:∀(H0 F:Hp) (O:St) (H:Hp) (b:Ends),Q7 K H0 F Y O H->(∀Q:VK,(∀w U,s (tC w) b O U->Q w U)->te O H Q)->s te b O H)
(hn:∀d w J,Θ d J->ZN d=some w->QB K (s<|tC w) J CH):QB K (s te) Y CH:=λF0 H0 F O H b x S c=>
 hs H0 F O H b S λQ i=>hw F0 H0 F O H Q x S λm Z d w J f h g j=>i w Z (hn d w J f h F0 H0 m O Z b g j c)
def T4(h:EvN K te Y Θ)(g:∀d w J,Θ d J->ZN d=some w->Ψ (.fz d) J):EvR K (Ys te) Y Ψ:=λF0 H0 F O H m x S k=>
 h F0 H0 F O H _ x S λj Z d w J b c f i=>k j O Z J w (.fz d) [] f i #[rfl,AS c] (by rintro _ ⟨⟩) (by rintro _ ⟨⟩) (g d w J b c)
def MU(K:W.Frag)(H0 F:Hp)(Y:Zbv)(O:St)(H:Hp)(q:Qg):Prop := ∀b∈q,H0 b=none/\∀(m:Nat) (u:V) (c:OT) (f:Qg),Y[m]?=some (some c)->O[m]?=some (some u)->Zh K F H u c f->b∉f
def YM:Qk->List OT->Zbv->Zbv
 |[],_,Y=>Y
 |i::b,.own v c::ts,Y=>YM b ts (Y.set i<|zo v c)
 |i::b,_::ts,Y=>YM b ts (Y.set i none)
 |i::b,[],Y=>YM b [] (Y.set i none)
def ZrM{m:Nat}:∀(is:Qk) (ts:List OT) (Y:Zbv),(YM is ts Y)[m]?=some (some t)->(∃(n:Nat) (v:V) (Φ:OwnP),t=.own v Φ/\is[n]?=some m/\ts[n]?=some t)\/(Y[m]?=some (some t)/\m∉is):=λis=>by
 induction is with
 |nil=>exact λts Y h=>.inr #[h,by rintro⟨⟩]
 |cons i is s=>
  have g:∀{ts:List OT} {Y:Zbv} {o:Option OT},(YM is ts<|Y.set i o)[m]?=some _->_\/(i=m/\o=some t)\/(Y[m]?=some _/\m∉i::is):=λ{ts Y o} h=>by
   rcases s _ _ h with h|⟨h,w⟩
   .exact .inl h
   .by_cases c:i=m
    .subst c;rw[Xk<|by simpa using (Xc.mp h).1]at h;exact .inr (.inl #[rfl,Option.some.inj h])
    .rw[Xp c]at h;exact .inr (.inr #[h,λz=>(Xf.mp z).elim (λz=>c z.symm) w])
  have f:∀{j:OT} {ts:List OT} {Y:Zbv} {o:Option OT},(∀v Φ,o=some (.own v Φ)->j=.own v Φ)->(∀t,o=some t->∃v Φ,t=.own v Φ)->(YM is ts<|Y.set i o)[m]?=some _->(∃(n:Nat) (v:V) (Φ:OwnP),t=.own v Φ/\(i::is)[n]?=some m/\(j::ts)[n]?=some t)\/_:=λA y h=>by
   rcases g h with ⟨n,v,Φ,a,b,c⟩|⟨rfl,e⟩|h
   .exact .inl #[n+1,v,Φ,a,b,c]
   .apply aN (y _ e);rintro v Φ rfl;exact .inl #[0,v,Φ,rfl,rfl,by rw[<- A v Φ e];rfl]
   .exact .inr h
  intro ts Y h;match ts,h with
  |.own v Φ::ts,h=>exact f (λ_ _ e=>by cases e;rfl) (λ_ e=>by cases e;exact#[_,_,rfl]) h
  |[],h=>exact(g h).imp (by rintro⟨_,_,_,_,_,c⟩;simp at c) λh=>h.resolve_left λz=>nomatch z.2
  |.fz _::ts,h=>exact f (o:=none) (by rintro _ _ ⟨⟩) (by rintro _ ⟨⟩) h
  |.ol _::ts,h=>exact f (o:=none) (by rintro _ _ ⟨⟩) (by rintro _ ⟨⟩) h
  |.oll _::ts,h=>exact f (o:=none) (by rintro _ _ ⟨⟩) (by rintro _ ⟨⟩) h
  |.scr _::ts,h=>exact f (o:=none) (by rintro _ _ ⟨⟩) (by rintro _ ⟨⟩) h
  |.zow _::ts,h=>exact f (o:=none) (by rintro _ _ ⟨⟩) (by rintro _ ⟨⟩) h
theorem Uy:∀(is:Qk) (ts:List OT) (Y:Zbv),(YM is ts Y).length=Y.length
 |[],_,_=>rfl
 |i::is,.own v b::ts,Y=>(Uy is ts _).trans X7
 |i::is,[],Y=>(Uy is [] _).trans X7
 |i::is,.fz _::ts,Y=>(Uy is ts _).trans X7
 |i::is,.ol _::ts,Y=>(Uy is ts _).trans X7
 |i::is,.oll _::ts,Y=>(Uy is ts _).trans X7
 |i::is,.scr _::ts,Y=>(Uy is ts _).trans X7
 |i::is,.zow _::ts,Y=>(Uy is ts _).trans X7
def Q7.callG{Ψ:PyData->List OT->Prop}(S:Q7 K H0 F Y O H)(x:Q1 F0 H0 F H)(nd:is.Nodup)(N:Nat->Qg)(hl:xs.length=ts.length)
(r:∀(n i:Nat),is[n]?=some i->∃t v,ts[n]?=some t/\Y[i]?=some (some t)/\xs[n]?=some v/\O[i]?=some (some v))(hr:∀(n:Nat) (t:OT),is[n]?=none->ts[n]?=some t->∃v,xs[n]?=some v/\Zh K F H v t (N n))(dj:∀m n b,b∈N m->b∈N n->m=n)(hG:∀n b,b∈N n->b∈q/\H b≠none)(pl:MU K H0 F Y O H q)(hR:R ts Ψ)
(k:∀F' Z d w s,Ψ d s->ZN d=some w->Q1 F0 H0 F' Z->Q7 K H0 F' (YM is s Y) O Z->Q w Z)(hw:∀(d:PyData) (s:List OT) (n:Nat) (v:V) (Φ:OwnP),Ψ d s->s[n]?=some (.own v Φ)->∃X,ts[n]?=some (.own v X)):SpG K R xs H Q:=by
 apply aA S.fp;intro A g1 g2 W;have l:∀{m n i:Nat},is[m]?=some i->is[n]?=some i->m=n:=λ{m n i} a b=>by
  obtain⟨l1,g⟩:=Xc.mp a;obtain⟨l2,B⟩:=Xc.mp b;rcases Nat.lt_trichotomy m n with c|c|c
  .exact Xv (g.trans B.symm) (Sx.mp nd m n l1 l2 c)
  .exact c
  .exact Xv (B.trans g.symm) (Sx.mp nd n m l2 l1 c)
 let G:Nat->Qg:=λn=>match is[n]? with|some i=>A i|none=>N n
 have J:∀n b,b∈G n->(∃i,is[n]?=some i/\b∈A i)\/(is[n]?=none/\b∈N n):=λn b f=>by
  dsimp only[G]at f;cases e:is[n]? with
  |none=>rw[e]at f;exact .inr #[rfl,f]
  |some i=>rw[e]at f;exact .inl #[i,rfl,f]
 have gs:∀{n i:Nat},is[n]?=some i->G n=A i:=λe=>by dsimp only[G];rw[e]
 have gq:∀n b m t,b∈N n->Y[m]?=some (some t)->b∈A m->False:=λn b m t f e D=>by
  exact At (g1 m t e) λu g P=>(pl b (hG n b f).1).2 m u t _ e g P D
 have T:∀n b,b∈G n->H0 b=none/\H b≠none:=λn b f=>by
  rcases J n b f with ⟨i,_,f⟩|⟨_,f⟩
  .exact W i b f
  .exact#[(pl b (hG n b f).1).1,(hG n b f).2]
 have I:∀m t,m∉is->Y[m]?=some (some t)->∀b∈A m,∀n,b∉G n:=λm t mi e b f n C=>by
  rcases J n b C with ⟨i,g,C⟩|⟨_,C⟩
  .exact mi (by rw[g2 m i b f C];exact List.mem_of_getElem? g)
  .exact gq n b m t C e f
 have sl:∀n t,ts[n]?=some t->∃v,xs[n]?=some v/\Zh K F H v t (G n):=λn t e=>by
  cases en:is[n]? with
  |none=>
   exact At (hr n t en e) λv a b=>#[v,a,by dsimp only[G];exact en▸b]
  |some i=>
   apply aD (r n i en);intro t' v a b c d;rw[e]at a;cases a;apply At (g1 i t b);intro u g P;rw[d]at g;cases g;exact#[v,c,by rw[gs en];exact P]
 refine#[F,ts,G,Ψ,hl,S.kt,S.sub,sl,λm n b D C=>?_,λn b f=>(T n b f).2,hR,λF' Z s G' d w p hf hh ff fh fr ok' dj' L=>k F' Z d w s p hf #[λb o f=>hh b o (λn z=>by rw[(T n b z).1]at f;cases f)<|x.hh b o f,x.ff.trans ff,fh,λb f=>?_] ?_]
 .rcases J m b D with ⟨i,g,a⟩|⟨g,a⟩<;>rcases J n b C with ⟨j,B,c⟩|⟨B,c⟩
  .rw[g2 i j b a c]at g;exact l g B
  .exact aF (r m i g) λt _ _ h _=>(gq n b i t c h a).elim
  .exact aF (r n j B) λt _ _ h _=>(gq m b j t a h c).elim
  .exact dj m n b a c
 .rcases fr b f with z|z|⟨n,z⟩
  .exact x.fr b z
  .exact .inr (x.hh.free z)
  .exact .inr (T n b z).1
 have no:=λm t mi e b f n C=>(L n b C).1.elim (λz=>(W m b f).2 z)<|by rintro⟨k,z⟩;exact I m t mi e b f k z
 classical
 let U:Nat->Qg:=λm=>if h:∃n,is[n]?=some m then G' h.choose else if (Y[m]?).join.isSome then A m else []
 have f1:∀{n m:Nat},is[n]?=some m->U m=G' n:=λ{n m} e=>by
  have h:∃n,is[n]?=some m:=#[n,e]
  show(if h:∃n,is[n]?=some m then G' h.choose else _)=_
  rw[dif_pos h,l h.choose_spec e]
 have f2:∀m,m∉is->U m=if (Y[m]?).join.isSome then A m else []:=λm h=>dif_neg λ⟨n,e⟩=>h (List.mem_of_getElem? e)
 have M:∀m b,b∈U m->(∃n,is[n]?=some m/\b∈G' n)\/(m∉is/\∃t,Y[m]?=some (some t)/\b∈A m):=λm b f=>by
  by_cases c:m∈is
  .obtain⟨n,e⟩:=List.mem_iff_getElem?.mp c;rw[f1 e]at f;exact .inl #[n,e,f]
  .rw[f2 m c]at f;split at f
   .rename_i a3;obtain⟨t,e⟩:=Option.isSome_iff_exists.mp a3;exact .inr #[c,t,D9 e,f]
   .cases f
 refine#[S.kt.mono ff,fh,by rw[Uy];exact S.len,U,λm t e=>?_,λm n b D C=>?_,λm b f=>?_]
 .rcases ZrM is s Y e with ⟨n,v,Φ,rfl,g,B⟩|⟨e,D⟩
  .apply aD (r n m g);intro t' v' a b c d';obtain⟨X,e'⟩:=hw d s n v Φ p B;apply aA (sl n _ e');rintro u a' rfl _;rw[a']at c;cases c;exact#[_,d',rfl,by rw[f1 g];exact ok' n _ _ B]
  .apply At (g1 m t e);intro u g P;rw[f2 m D,e];refine#[u,g,P.move ff (λb f=>Classical.byContradiction λz=>?_) λb f=>?_]
   .rcases fr b z with y|y|⟨n,y⟩
    .exact y (P.there b f).1
    .exact(W m b f).2 y
    .exact I m t D e b f n y
   .obtain⟨o,E⟩:=Mq (W m b f).2;rw[hh b o (I m t D e b f) E,E]
 .rcases M m b D with ⟨i,g,a⟩|⟨m1,t,g,a⟩<;>rcases M n b C with ⟨j,B,c⟩|⟨n1,t2,B,c⟩
  .rw[dj' i j b a c]at g;exact Option.some.inj (g.symm.trans B)
  .exact(no n t2 n1 B b c i a).elim
  .exact(no m t m1 g b a j c).elim
  .exact g2 m n b a c
 .rcases M m b f with ⟨n,e,a⟩|⟨m1,t,e,a⟩
  .exact#[(λn b f=>(L n b f).1.elim (λz=>x.hh.free z) λ⟨m,z⟩=>(T m b z).1) n b a,(L n b a).2]
  .obtain⟨o,E⟩:=Mq (W m b a).2;exact#[(W m b a).1,Z4<|hh b o (I m t m1 e b a) E]
end
end L2
namespace L2
section
variable {R:List OT->(PyData->List OT->Prop)->Prop}{Θ:PyData->Zbv->Prop}{Ψ:PyData->List OT->Prop}
theorem Q7.vals{H0 F H:Hp}{O:St}(S:Q7 K H0 F Y O H):∀(is:Qk) (ts:List OT),is.map (λi=>(Y[i]?).join)=ts.map some->∃b:List V,is.map (λi=>(O[i]?).join)=b.map some/\∀(n i:Nat),is[n]?=some i->∃t v,ts[n]?=some t/\Y[i]?=some (some t)/\b[n]?=some v/\O[i]?=some (some v)
 |[],[],_=>⟨[],rfl,λn i e=>by simp at e⟩
 |i::is,t::ts,e=>by
  obtain⟨g,w⟩:=List.cons.inj e;refine At (S.vals is ts w) λb m h=>At S.fp λy s _=>At (s i t (D9 g)) λv c _=>#[v::b,by rw[XI,m,c];rfl,λn j f=>?_];cases n with
  |zero=>cases f;exact#[t,v,rfl,D9 g,rfl,c]
  |succ n=>exact h n j f
def tVs:Qk->TA->TA
 |[],t=>t
 |i::b,t=>QE (Q3 i) (tVs b t)
theorem K9{F:Hp}{O:St}{H:Hp}{Q:List V->Hp->Prop}{t:TA}:∀{is:Qk} {b:List V},is.map (λi=>(O[i]?).join)=b.map some->t O H (λvs Z=>Q (b++vs) Z)->tVs is t O H Q
 |[],[],_,h=>h
 |i::is,x::b,e,h=>⟨x,D9 (List.cons.inj e).1,K9 (F:=F) (List.cons.inj e).2 h⟩
def D2(m:is.Nodup)(g:is.map (λi=>(Y[i]?).join)=ts.map some)(C:R ts Ψ)(hw:∀(d:PyData) (b:List OT) (n:Nat) (v:V) (Φ:OwnP),Ψ d b->b[n]?=some (.own v Φ)->∃c,ts[n]?=some (.own v c))(hs:∀d b,Ψ d b->Θ d (YM is b Y)):EvN K (ZS (spG K R) [] E'<|tVs is QJ) Y Θ:=λF0 H0 F O H Q x S q=>by
 refine At (S.vals is ts g) λP e A=>K9 (F:=F) e ?_;show SpG K R _ H Q;rw[Xx,Xx];have y:=by simpa using XS List.length g
 have s:=by simpa using XS List.length e
 exact S.callG (q:=[]) x m (λ_=>[]) (by rw[<- y,s]) A (λn t L D=>by have:=(Xc.mp D).1;rw[HI]at L;lia) (by rintro _ _ _ ⟨⟩) (by rintro _ _ ⟨⟩) (by rintro _ ⟨⟩) C (λN Z d w b f B j M=>q N Z d w _ (hs d b f) B j M) hw
def OZ(o:is.Nodup)(B:is.map (λi=>(Y[i]?).join)=ts.map some)(hq:Z5 K te Y Φ)
(hs:∀r v,Φ r->∃h Ψ,(∀F H p,Zh K F H v r p->Zh K F H v h p)/\R (ts++[h]) Ψ/\(∀(d:PyData) (f:List OT) (n:Nat) (v:V) (Φ:OwnP),Ψ d f->f[n]?=some (.own v Φ)->∃j,(ts++[h])[n]?=some (.own v j))/\∀d f,Ψ d f->Θ d (YM is f Y)):EvN K (ZS (spG K R) [] E'<|tVs is<|QE te QJ) Y Θ:=λF0 H0 F O H Q x S q=>by
 refine At (S.vals is ts B) λX e _=>K9 (F:=F) e (hq H0 F O H _ S λF1 U u p r hr s M L=>?_);show SpG K R (X++[u]++[]) U Q;rw[Xx];apply aD (hs r u hr);intro h Ψ hc hR J hs;have P:=S.ext s;apply At (P.vals is ts B);intro W e' T
 obtain rfl:=by
  have:=e'.symm.trans e;exact(List.map_inj_right λ_ _=>Option.some.inj).mp this
 have I:=by simpa using XS List.length B
 have G:=by simpa using XS List.length e
 refine P.callG (x.trans s) o (λn=>if n=is.length then p else []) (by simp;lia) (λn i en=>?_) (λn t e1 D=>?_) (λm n b hm hn=>?_) (λn b g=>?_) (λb g=>#[x.hh.free<|M b g,λm u' l q' E z y C=>?_]) hR (λF' Z d w f A hf k S'=>q F' Z d w _ (hs d f A) hf k S') J
 .exact aD (T n i en) λt v a b c d=>#[t,v,by rw[U6 (Xc.mp a).1];exact a,b,by rw[U6 (Xc.mp c).1];exact c,d]
 .rw[HI]at e1;have h2:=(Xc.mp D).1;rw[Xn,U5]at h2;obtain rfl:n=is.length:=#[]
  rw[Gu<|#[],I,BB]at D;cases D;exact#[u,by rw[Gu<|#[],G,BB];rfl,by rw[Xe rfl];exact hc _ _ _ L]
 .grind
 .split at g
  .exact#[g,(L.there b g).2]
  .cases g
 .refine aA S.fp λfp g1 g2 g3=>At (g1 m l E) λw' N f2=>?_;rw[z]at N;cases N;exact(g3 m b<|WA (f2.ext s) y b C).2 (M b g)
end
def ZJ(y:PyData)(j i m:V):OwnP where
 ok K F H v p := ∃a b,v=.ref a/\p=[a]/\F a=none/\H a=some (.lst [b,j,i,m])/\Rep F b y
 there:=by
  rintro K F H v p ⟨a,b,rfl,rfl,h,g,_⟩ c f;cases Xi.mp f;exact#[h,Z4 g]
 mono:=by
  rintro K F D H Z v p s A w ⟨a,b,rfl,rfl,h,g,B⟩;exact#[a,b,rfl,rfl,A _<|by simp,by rw[w _<|by simp];exact g,B.mono s]
 uniq:=by
  rintro K F H v p q ⟨a,b,rfl,rfl,_⟩ ⟨C,_,e,rfl,_⟩ c f;cases e;exact f
inductive DayP(y:PyData)(Φr Φw Φg:OwnP)(K:W.Frag)(F H:Hp)(v:V)(p:Qg):Prop
 |mk (vr vw vg:V)(pd pr pw pg:Qg)(e:p=pd++(pr++(pw++pg)))(hd:(ZJ y vr vw vg).ok K F H v pd)(hr:Φr.ok K F H vr pr)(hw:Φw.ok K F H vw pw)(hg:Φg.ok K F H vg pg)(d1:∀b∈pd,b∉pr++(pw++pg))(d2:∀b∈pr,b∉pw++pg)(d3:∀b∈pw,b∉pg)
def BM(y:PyData)(i g j:OwnP):OwnP where
 ok:=DayP y i g j
 there:=by
  rintro K F H v p ⟨A,w,B,D,pr,C,pg,rfl,hd,M,L,hg,_⟩ c N;simp only[Xz]at N;rcases N with h|h|h|h
  .exact(ZJ y A w B).there hd c h
  .exact i.there M c h
  .exact g.there L c h
  .exact j.there hg c h
 mono:=by
  rintro K F S H Z v p s I G ⟨A,w,B,D,pr,C,pg,rfl,hd,M,L,hg,R,Q,O⟩;have m:∀{q:Qg},(∀b∈q,b∈D++(pr++(C++pg)))->(∀b∈q,S b=none)/\∀b∈q,Z b=H b:=λh=>#[λb f=>I b<|h b f,λb f=>G b<|h b f];have m1:=m (q:=D) λb f=>by simp[f]
  have m2:=m (q:=pr) λb f=>by simp[f]
  have l:=m (q:=C) λb f=>by simp[f]
  have k:=m (q:=pg) λb f=>by simp[f]
  exact#[A,w,B,D,pr,C,pg,rfl,(ZJ y A w B).mono s m1.1 m1.2 hd,i.mono s m2.1 m2.2 M,g.mono s l.1 l.2 L,j.mono s k.1 k.2 hg,R,Q,O]
 uniq:=by
  rintro K F H v p q ⟨A,w,B,D,pr,C,pg,rfl,hd,M,L,hg,_⟩ ⟨r,o,t,E,x,u,z,rfl,d,X,W,Y,_⟩ c N;apply aT hd;rintro a T rfl rfl _ J _;apply aT d;rintro U n e rfl _ P _;cases e;rw[J]at P;cases P;simp only[Xz]at N ⊢;rcases N with h|h|h|h
  .exact .inl h
  .exact .inr (.inl<|i.uniq M X c h)
  .exact .inr (.inr<|.inl<|g.uniq L W c h)
  .exact .inr (.inr<|.inr<|j.uniq hg Y c h)
section
variable {k a b c d:Nat}{vr vw vg:V}{Φr Φw Φg:OwnP}{y y':PyData}{F H:Hp}{O:St}
def Q7.put(S:Q7 K H0 F Y O H)(g:Zh K F H v t p)(P:MU K H0 F Y O H (p++r))(A:∀b∈p,b∉r)(i:Nat):Q7 K H0 F (Y.set i<|some t) (O.set i<|some v) H/\MU K H0 F (Y.set i<|some t) (O.set i<|some v) H r:=
 #[S.set g (λb a=>(P b<|X9 _ a).1) λb a=>(P b<|X9 _ a).2,λb a=>#[(P b<|XM _ a).1,λm u k s f d c h=>by
  by_cases j:m=i
  .subst j;have y:=(Xc.mp f).1;have w:=(Xc.mp d).1;rw[Xk<|by simpa using y]at f;rw[Xk<|by simpa using w]at d;cases f;cases d;exact A b (WA g c b h) a
  .rw[Xp<|Ne.symm j]at f d;exact(P b<|XM _ a).2 m u k s f d c h]]
def Mp(e:zg Y i<|zo v<|BM y Φr Φw Φg)(hn:∀vr vw vg,CH.nx<|((((Y.set i<|zo v<|ZJ y vr vw vg).set a (zf y)).set b (zo vr Φr)).set c (zo vw Φw)).set d (zo vg Φg)):
 QB K (Z9 (Q3 i)<|MT K 4<|UJ (ZM a)<|UJ (ZM b)<|UJ (ZM c)<|UJ (ZM d) MN) Y CH:=λF0 H0 F O H hi x S C=>by
 apply aD (S.chg e);rintro M p N⟨rfl,vr,vw,vg,E,n,l,z,rfl,D,I,G,Q,d1,Z,U⟩J k;obtain⟨S1,T⟩:=k F H (.own M<|ZJ y vr vw vg) E (Q6.refl _) S.sub (λ_ _ _=>rfl) (λb L=>.inl L) #[rfl,D] λb L=>.inl (by simp[L])
 have P0:MU K H0 F (Y.set i<|zo M<|ZJ y vr vw vg) O H ([]++(n++(l++z))):=λq w=>#[(J q<|XM _ w).1,λm u P X j s f g=>by
  by_cases A:m=i
  .subst A;rw[Xk (Xc.mp e).1]at j;cases j;rw[N]at s;cases s;exact d1 q ((ZJ y vr vw vg).uniq D f.2 q g) w
  .rw[Xp<|Ne.symm A]at j;exact(T m u P X A j s f q g).1 (XM _ w)]
 apply aT D;rintro o vy rfl _ _ R W;obtain⟨S2,P2⟩:=S1.put (t:=.fz y) #[rfl,W] P0 (by rintro _ ⟨⟩) a;obtain⟨S3,P3⟩:=S2.put (t:=.own vr Φr) #[rfl,I] P2 Z b;obtain⟨S4,P4⟩:=S3.put (t:=.own vw Φw) #[rfl,G] P3 U c;obtain⟨S5,_⟩:=S4.put (t:=.own vg Φg) (r:=[]) #[rfl,Q] (by rw[Xx];exact P4) (by rintro _ _ ⟨⟩) d;exact#[_,N,o,_,rfl,SqL.of R,rfl,_,_,rfl,_,_,rfl,_,_,rfl,_,_,rfl,rfl,C.nx F _ H _ x S5<|hn vr vw vg]
def Q7.close(S:Q7 K H0 F Y O H)(ei:zg Y i<|zo v<|ZJ y vr vw vg)(eb:zg Y b<|zo vr Φr)(ec:zg Y c<|zo vw Φw)(ed:zg Y d<|zo vg Φg)(hn:[i,b,c,d].Nodup):
 Q7 K H0 F ((((Y.set b none).set c none).set d none).set i (zo v<|BM y Φr Φw Φg)) O H:=by
 apply aA S.fp;intro g s j Z;apply aA (s i _ ei);rintro _ D rfl U;apply aA (s b _ eb);rintro _ sb rfl J;apply aA (s c _ ec);rintro _ sc rfl I;apply aA (s d _ ed);rintro _ sd rfl T;simp only[Xu,Xf,MF,or_false,not_or]at hn;obtain⟨⟨G,E,x⟩,⟨bc,bd⟩,cd,_⟩:=hn;have k:∀m q,q∈(if m=i then g i++(g b++(g c++g d)) else if m=b\/m=c\/m=d then [] else g m)->(m=i/\(q∈g i\/q∈g b\/q∈g c\/q∈g d))\/(m≠i/\m≠b/\m≠c/\m≠d/\q∈g m):=λm q h=>by
  split at h
  .exact .inl #[‹_›,by simpa using h]
  .split at h
   .cases h
   .rename_i C w;simp only[not_or]at w;exact .inr #[C,w.1,w.2.1,w.2.2,h]
 refine#[S.kt,S.sub,by simp[S.len],λm=>if m=i then g i++(g b++(g c++g d)) else if m=b\/m=c\/m=d then [] else g m,λm t e=>?_,λm n q R hn=>?_,λm q Q=>?_]
 .dsimp only
  by_cases B:m=i
  .subst B;rw[Xk<|by simpa using (Xc.mp ei).1]at e;cases e;rw[Xe rfl];refine#[_,D,rfl,_,_,_,g m,g b,g c,g d,rfl,U,J,I,T,λq h z=>?_,λq h z=>?_,λq h z=>cd<|j _ _ q h z]
   .simp only[Xz]at z;rcases z with z|z|z
    .exact G (j _ _ q h z)
    .exact E (j _ _ q h z)
    .exact x (j _ _ q h z)
   .simp only[Xz]at z;rcases z with z|z
    .exact bc (j _ _ q h z)
    .exact bd (j _ _ q h z)
  .rw[Xp<|Ne.symm B]at e;have A:∀{Y:Zbv} {n:Nat},(Y.set n none)[m]?=some (some t)->m≠n/\Y[m]?=some (some t):=λ{Y n} e=>by
    by_cases z:n=m
    .subst z;have:=(Xc.mp e).1;rw[Xk<|by simpa using this]at e;cases e
    .rw[Xp z]at e;exact#[Ne.symm z,e]
   obtain⟨W,e⟩:=A e;obtain⟨X,e⟩:=A e;obtain⟨l,e⟩:=A e;rw[Xd B,Xd<|by simp[l,X,W]];exact s m t e
 .rcases k m q R with ⟨rfl,a⟩|⟨u,r,p,o,a⟩<;>rcases k n q hn with ⟨rfl,f⟩|⟨P,N,M,L,f⟩
  .rfl
  .rcases a with a|a|a|a
   .exact(P<|j _ _ q f a).elim
   .exact(N<|j _ _ q f a).elim
   .exact(M<|j _ _ q f a).elim
   .exact(L<|j _ _ q f a).elim
  .rcases f with f|f|f|f
   .exact(u<|j _ _ q a f).elim
   .exact(r<|j _ _ q a f).elim
   .exact(p<|j _ _ q a f).elim
   .exact(o<|j _ _ q a f).elim
  .exact j m n q a f
 .rcases k m q Q with ⟨_,a|a|a|a⟩|⟨_,_,_,_,a⟩<;>exact Z _ q a
def EvR.post(h:EvR K t Y Ψ')(m:∀r J,Ψ' r J->∃a,Ψ r a/\a[0]?=J[0]?/\∀H0 F O H,Q7 K H0 F J O H->Q7 K H0 F a O H):EvR K t Y Ψ:=λF0 H0 F O H i x S k=>
 h F0 H0 F O H i x S λB b Z J v r q d A f g j c=>by
  exact aA (m r J c) λa y w s=>k B b Z a v r q d (s _ _ _ _ A) f g (by exact w▸j) y
def Er(e:zg Y i<|zo v<|ZJ y vr vw vg)(h:Qr K te Y y')(hn:CH.nx (Y.set i<|zo v<|ZJ y' vr vw vg)):QB K (Z9 te<|BJ (Q3 i) (tC<|.int 0) Uf) Y CH:=λF0 H0 F O H M x S C=>
 h H0 F O H _ S λA U u d j=>by
  apply aX ((S.ext d).writeOwn e);rintro s p⟨a,B,rfl,rfl,L,k,D⟩m w;exact I0 (m a Xb) λg b _=>#[_,s,a,_,0,0,rfl,rfl,k,rfl,C.nx A O _ _ ((x.trans d).wr g b) (w _ (ZJ y' vr vw vg) [a] ((S.ext d).sub.upd b) (λc f _=>Qs λz=>f<|by exact z▸Xb) VN #[a,u,rfl,rfl,b,Q8,j] λc f=>.inl f) hn]
def TY{d:PyData}(e:zg Y i<|zo v<|olP ds)(h:Qr K te Y d)(X:ds.length<1000)(hn:CH.nx (Y.set i<|zo v<|olP<|ds++[d])):
 QB K (VB<|tBM K "list" Ye (Q3 i)<|QE te QJ) Y CH:=λF0 H0 F O H l x S C=>by
 apply Do (S.writeOwn e);rintro D p⟨a,rfl,rfl,W,xs,A,P⟩_;refine#[_,D,.inl #[rfl,_,SqL.of A],h H0 F O H _ S λL U v f s=>?_];apply aX ((S.ext f).writeOwn e);rintro _ N⟨n,B,rfl,M,ys,y,k⟩g w;cases B;exact I0 (g a Xb) λm b _=>#[a,ys,v,rfl,rfl,y,by rw[k.length];exact Vh<|#[],C.nx L O _ _ ((x.trans f).wr m b) (w _ (olP _) [a] ((S.ext f).sub.upd b) (λc j _=>Qs λz=>j<|by exact z▸Xb) VN #[a,rfl,rfl,b,_,Q8,k.snoc s] λc j=>.inl j) hn]
end
end L2
namespace L2
def MV(t:St->TE):TE:=λO H Q=>t O O H Q
def RHq(C:Addr)(th:Addr->TS)(CH:Ends)(j:Nat)(O:St)(e:Addr)(b:Qj)(H:Hp):Prop := ∀Z T,Lefts C e b H Z->Z T=none->T≠e->th e (Dh CH j) (O.set j<|some<|.ref e) (left C e b T Z)
def EHq(C:Addr)(th:Addr->TS)(CH:Ends)(j:Nat):St->XK:=λO=>XE C (RHq C th CH j O)
def Fj{CH:Ends} : Vx C (RHq C th CH j O):=λ_ _ _ _ r hT b Z f c=>r Z f (.head hT b c)
section
variable {o e:Expr}{t:TA}{k:Nat}{Eσ:St->XK}{pl:Sem Bool}
def T3{O:St}{H:Hp}{Q:VK}{us:Qe}{vs:List V}{f:Addr}(F:FnOk X.prog X.w X.K X.mg X.base (CX1 X.prog X.w) j f fd ps sp)(i:Room j X.A)(k:Vp X.K fd ps [])(hx:Bq (CX1 X.prog X.w) X Eσ)
(I:Qt X B O H s)(r:QU vs us)(h:sp (vs++[]) H Q (Eσ O)):wpAny (model X.prog X.w) X.A (call (.ref f) us) (EP X B O Q) X.xe s:=by
 have c:=r.append .nil;refine wpAny_call (codeAny_mono (F.run X.A X.stack s H _ _ _ Q _ i I.env0 (k s us I.kIn<|by exact c.length▸(F.len _ _ _ _ h)) c h) λr g b=>?_)
 match r with
 |.error e=>exact hx B O H s e g I b
 |.ok (.ret u)=>exact I.after b
 |.ok .next=>exact False.elim b
 |.ok .brk=>exact False.elim b
 |.ok .cont=>exact False.elim b
def N3(M:ZK X.prog X.w X.K X.mg X.base C m ps j sp)(c:HandC X.K C)(K:Room k X.A)(hx:Bq (CX1 X.prog X.w) X Eσ)(he:PE X o ta)(Y:PA X (e::es) t)(N:j<=k:=by walk_at"j")
(b:zs X e es:=by rfl)(hpl:zb X pos es:=by rfl)
(D:eval (.Call (.Attribute o m T1) (e::es) [] pos) X.env=(do
  let ov <- eval o X.env
  standAt T1.atName
  let (f,first) <- holding [ov] (getMethod ov m pl)
  callWith pos f first (backTo pos<|starEach (e::es) X.env)<|backToKw pos<|keywordEach [] X.env):=by rfl):
 PE X (.Call (.Attribute o m T1) (e::es) [] pos) (MV λO=>ZQ C m sp [] (Eσ O) ta t):=by
 apply aF M;refine λf fd g P F=>λB s O H Q I h=>W.methodCall_KW (QD (he B s O H _ I h) ?_) D;rintro u w ⟨x,U,v,y,a,L,E,d,n,l,q⟩;subst d;obtain rfl:=y;refine He v n c.cl g l (W.callWith_K I.ok.mod.kin g.kp (QD (Y pos B w O U _ v q) ?_) b hpl);rintro p z ⟨vs,G,i,r,A⟩;exact#[i.kIn,T3 (vs:=.ref a::vs) F (K.mono N) P hx i (.cons rfl r) A]
def Zq0(M:ZK X.prog X.w X.K X.mg X.base C m ps j sp)(c:HandC X.K C)(t:Room k X.A)(hx:Bq (CX1 X.prog X.w) X Eσ)(he:PE X o ta)(v:j<=k:=by walk_at"j")
(i:eval (.Call (.Attribute o m T1) [] [] pos) X.env=(do
  let ov <- eval o X.env
  standAt T1.atName
  let (f,first) <- holding [ov] (getMethod ov m pl)
  callWith pos f first (backTo pos<|starEach [] X.env)<|backToKw pos<|keywordEach [] X.env):=by rfl):
 PE X (.Call (.Attribute o m T1) [] [] pos) (MV λO=>ZQ C m sp [] (Eσ O) ta QJ):=by
 apply aF M;refine λf fd e w F=>λB s O H Q I h=>W.methodCall_KW (QD (he B s O H _ I h) ?_) i;rintro u D ⟨x,U,b,g,a,L,K,y,A,l,q⟩;subst y;obtain rfl:=g;exact He b A c.cl e l (W.callWith_K0 b.kIn e.kp<|T3 (vs:=[.ref a]) F (t.mono v) w hx b (.cons rfl .nil) q)
end
section
variable {Xa6:Addr}{tb:Ends->TS}{x n:Str}
def Oo(r:W.exmOne X.K (.ref C) (.ref Xa6)=some true)(i:X.stack=X.env::X.outer)(m:X.env.frame=some X.env.locals)(Y:Gl X x)(L:X.mg x=some (.ref Xa6))
(o:X.N.Nodup)(N:X.N[j]?=some n)(M:X.env.scope.names.lookup n=some .local)
(l:∀CH g,PSs (GT X (EHq C th CH j) g) body<|tb CH)(P:∀e g,PSs (YH X e g) (b0::suite)<|th e)(k:(x==("__debug__" : Str))=false:=by decide):
 PS X (.Try body (.ExceptHandler (some<|.Name x np) (some n) (b0::suite) hpos::rest) [] [] pos) (YN tb):=by
 refine λB s O H CH I h=>wpAny_Try_except (wpAny_mono (l CH (X.pn++B) [] s O H CH (I.toPn.wish _) h) (λy D q=>?_) λv D q=>?_)
 .have c:=SP.ofPn q;cases y with
  |next=>exact wpAny_execs_nil c
  |ret u=>exact c
  |brk=>exact c
  |cont=>exact c
 .apply L0 q;rintro A U p f⟨e,rfl,⟨E,w,d,hT⟩,K⟩;exact Hf r I.ok i m Y L o N (.inl M) P f w d hT k (λT a b=>K _ T .nil a b) λy t z=>z
def Zr6(cm:W.exmOne X.K (.ref C) (.ref Xa6)=some true)(b:X.stack=X.env::X.outer)(N:X.env.frame=some X.env.locals)(S:Gl X x)(J:X.mg x=some (.ref Xa6))(Q:X.N.length=j)
(hb:∀CH K,PSs (GT X (EHq C th CH j) K) body<|tb CH)(R:∀e K,PSs (YH X e K) (b0::suite)<|th e)(U:(x==("__debug__" : Str))=false:=by decide):
 PS X (.Try body (.ExceptHandler (some<|.Name x np) none (b0::suite) hpos::rest) [] [] pos) (YN tb):=by
 refine λB s0 A H0 CH t h=>wpAny_Try_except (wpAny_mono (hb CH (X.pn++B) [] s0 A H0 CH (t.toPn.wish _) h) (λa s1 q=>?_) λv s q=>?_)
 .have m:=SP.ofPn q;cases a with
  |next=>exact wpAny_execs_nil m
  |ret u=>exact m
  |brk=>exact m
  |cont=>exact m
 .apply L0 q;rintro O H c I⟨e,rfl,⟨T0,P,k,hT⟩,G⟩;have g:=t.ok;apply I0 (I.hok e _ k);rintro⟨vs,sl,M,o,Y⟩_ _;apply I0 (I.hok T0 _ hT);rintro⟨oT,ts,L,l,h3⟩_ _;have ff:s.heap.FunFrames X.base (X.env::X.outer):=by rw[<- b];exact I.stack
  refine RQ (by rw[g.frames,b]) ff N M rfl o P L l h3 λh' T y=>?_;have f:=DV I (by rw[k];trivial) M (Array.getElem?_eq_some_iff.mp o).1 Y (by exact b▸y);have i:=Y3 (XG (Xo M) y.new);have n:Qt (YH X e _) [] O _ { s with heap:=h' }:=f.toHandler;refine wpAny_handleBy_cons (codeAny_handlers_test<|J7 n S J ((W.exm_one f.kIn ((W.Looks.ld y.exc).andThen .now) cm).here (codeAny_handlers_suite ?_)) U) (by intro q;cases q);have F:left C e c T H e=some (.ext<|phF C e c T):=by unfold left;rw[Qs<|Ne.symm i,Q8]
  have E:left C e c T H T=some (.ext<|phT T):=by unfold left;rw[Q8]
  refine FP (n.hok e _ F).1 (n.hok T _ E).1 λl k2=>?_;have p:=n.kept (t':=s.toks) k2;refine wpAny_mono (R e _ [] _ O _ (Dh CH j) p (((λI=>List.set_eq_of_length_le (by rw[I.len];exact Nat.le_of_eq Q)) p)▸(G _ T .nil (I.hok.fresh y.new) i))) (λa s4 z=>?_) λ_ _ z=>False.elim z
  cases a with
  |next=>
   exact KE z λD Z r q=>#[D,Z,(r.ofHandler g).ofPn,by have q:CH.nx _ Z:=q;rwa[(λI=>List.set_eq_of_length_le (by rw[I.len];exact Nat.le_of_eq Q)) r]at q]
  |ret u=>exact aB z λ_ _ _ _ _ z=>False.elim z
  |brk=>exact KE z λ_ _ _ z=>False.elim z
  |cont=>exact KE z λ_ _ _ z=>False.elim z
end
structure HC(K:W.Frag)(C:Addr){δ:Type}(FL:Addr->Hp->Hp->Hp->Qj->δ->Prop)(ok:δ->Prop)(XO:δ->Addr->OT->Prop):Prop where
 go:∀{F F' H Z H'':Hp} {e T:Addr} {dct:Qj} {d:δ},ok d->Q6 F F'->H e=none->FL e F' Z H dct d->Lefts C e dct Z H''->H'' T=none->T≠e->∃o p,XO d e o/\Zh K F (left C e dct T H'') (.ref e) o p/\∀a∈p,H a=none
def xoP(C:Addr)(f:Str)(ds:Qd)(e:Addr)(o:OT):Prop := ∃L q,o=.own (.ref e) (WJ C f ds e L q)
def xoV(C:Addr)(f:Str)(w:V)(e:Addr)(o:OT):Prop := ∃L,o=.own (.ref e) (excV C f w e L)
def xoN(C:Addr)(_:Unit)(e:Addr)(o:OT):Prop:=o=.own (.ref e) (UF C e)
def No{b:Addr}(f:Lefts C e dct Z H'')(hT:H'' T=none)(c:b≠e)(h:Z b=some o):left C e dct T H'' b=some o:=by
 have a:=ND f c h;unfold left;rw[Qs (λz=>by subst z;rw[hT]at a;cases a),Qs c];exact a
def K3(h:T≠e):left C e dct T H e=some (.ext<|phF C e dct T):=by unfold left;rw[Qs<|Ne.symm h,Q8]
theorem xfP:HC K C (Fld f) W0 (xoP C f) where
 go:=by
  rintro F m H Z j e T _ ds h s i ⟨L,q,xs,rfl,fl⟩ g hT b;refine#[_,[e,L,q],#[L,q,rfl],#[rfl,rfl,#[s.free fl.fe,s.free fl.fd,s.free fl.fq],#[T,K3 b],No g hT fl.nd fl.hd,xs,No g hT fl.nq fl.hq,fl.rp.flats h],λa c=>?_];simp only[Xf,MF,or_false]at c;rcases c with rfl|rfl|rfl
  .exact i
  .exact fl.d0
  .exact fl.q0
theorem xfV:HC K C (JQ f) (λ_=>True) (xoV C f) where
 go:=by
  rintro F j H Z i e T _ w _ s g ⟨L,rfl,fl⟩ h hT b;refine#[_,[e,L],#[L,rfl],#[rfl,rfl,#[s.free fl.fe,s.free fl.fd],#[T,K3 b],No h hT fl.nd fl.hd],λa c=>?_];simp only[Xf,MF,or_false]at c;rcases c with rfl|rfl
  .exact g
  .exact fl.d0
theorem xfN:HC K C Yu (λ_=>True) (xoN C) where
 go:=by
  rintro F i H Z g e T _ w _ s c ⟨rfl,fe⟩ h hT b;exact#[_,[e],rfl,#[rfl,rfl,s.free fe,T,K3 b],λa f=>by rw[Xi.mp f];exact c]
section
variable {t:TA}{k:Nat}{CR:Addr}
def Q7.setFr{t:OT}(S:Q7 K H0 F Y O H)(x:Q1 F H F1 U)(k:∀a∈p,H a=none)(h0:∀a∈p,H0 a=none)(g:Zh K F1 U v t p):Q7 K H0 F1 (Y.set i<|some t) (O.set i<|some v) U:=
 (S.ext x).set g h0 (hn:=λa m j w f q C B b h=>by
  refine aA S.fp λM y L s=>At (y j f C) λD c A=>?_;rw[B]at c;cases c;exact(s j a<|WA (A.ext x) b a h).2 (k a m))
def NN{Ψ:OT->HandS->Prop}(g:NoH m)(e:zg Y i<|zo v<|QM D N)(s:Z0 K t Y ts)(h:R N ts Ψ)
(hn:∀r f,Ψ r f->CH.nx ((Y.set i<|zo v<|QM D f).set k (some r))):
 QB K (YN λb=>Z9 (MV λO=>ZQ D m (UD K D CR FL R Rx) [] (EHq CR th b j O) (Q3 i) t)<|ZM k) Y CH:=λF0 H0 F O H b x S c=>
 Zrl g e s h (Fj) hn F0 H0 F O H b x S c
def D4(X:∀vs H Q A,V8 K CR FL (λ_ _=>False) Rx vs H Q A->sp vs H Q A)(xf:HC K CR FL ok XO)(hm:NoH m)(e:zg Y i<|zo v<|QM D N)(hA:Z0 K t Y ts)(hR:Rx (.zow (Zj D N)::ts) Φx)
(hth:∀d e o,Φx d->XO d e o->QB K (th e) (Y.set j<|some o) { nx:=λJ=>CH.nx<|J.set j none,rt:=λ_=>False })(l:∀d,Φx d->ok d):
 QB K (YN λA=>Z9 (MV λO=>ZQ D m sp [] (EHq CR th A j O) (Q3 i) t)<|ZM k) Y CH:=λF0 H0 F O H A x S c=>by
 apply aA (Y0 S x e);intro p0 s0 W _;apply ae (QM.at W);rintro a0 L y n k' g d e'⟨rfl,h1⟩;refine#[.ref a0,s0,a0,L,_,rfl,h1,hm _ _ _ _ _ _,hA H0 F O H _ S λf U vs M r1=>X _ _ _ _ ?_];have C:=S.ext M;apply aA (Y0 C (x.trans M) e);intro p _ s _;have P:Q6 f (frF f U p):=Jl λa r=>((QM D N).there s a r).1;refine#[frF f U p,_,C.kt.mono P,Nm C.sub,.zow (QM.fz s P λb hb=>Wy hb)<|by rw[Xx];exact r1.mono P,_,rfl,Fj,.inr #[Φx,hR,λF' Z e dct d R E I fl H'' T hL hT B=>?_]];apply aF (xf.go (l d R) (P.trans E.ff) I fl hL hT B);intro o q u so w;have G:=M5 (.step hL hT B) E.hh I;have X0:Q1 f U f _:=#[G,Q6.refl _,C.sub.trans G,λ_ h=>.inl h];exact hth d e o R u F0 H0 f _ _ _ ((x.trans M).trans X0) (C.setFr X0 w (λa r=>(x.trans M).hh.free (w a r)) so) #[λF4 σ4 H4 ρ4 x4 S4 q4=>c.nx F4 _ H4 _ x4 (S4.setN none) q4,λ_ _ _ _ _ _ _ _ z=>False.elim z,λ_ _ _ _ _ _ z=>False.elim z,λ_ _ _ _ _ _ z=>False.elim z]
end
end L2
namespace L2
section
variable {r:R2}
def AJ{th:TS}(j:QO K tA Y true)(hw:EvW K te Y i Θ)(hn:∀n o,Θ n o->QB K (YB (Ub<|tOp r (tC<|.int n)<|tC c) th el) (Y.set i<|some o) CH):QB K (YB (HU tA<|Ub<|tOp r te<|tC c) th el) Y CH:=λF0 H0 F O H h x S C=>
 j H0 F O H _ S λs U f=>(Xe rfl).mpr <| hw F0 H0 s O U _ (x.trans f) (S.ext f) λv Z n o b g _ m=>hn n o b F0 H0 v O Z h g m C
end
structure MK(K:W.Frag)(CR cg ct CQ:Addr):Prop where
 tt:W.exmOne K (.ref ct) (.ref ct)=some true
 qq:W.exmOne K (.ref CQ) (.ref CQ)=some true
 tg:W.kitOne K (.ref ct) (.ref cg)=some false
 tr:W.kitOne K (.ref ct) (.ref CR)=some false
section
variable {e:Addr}
def IL{b:Bool}(h:zg Y i<|zz<|Db C e)(j:G3 c=some cv)(f:W.kitOne K (.ref C) cv=some b):Qr K (tCB (G2 K C)<|QE (Q3 i)<|QE (tC c) QJ) Y (.bool b):=λH0 F O H Q S k=>by
 apply At S.fp;intro v g _;apply aI (g i _ h);rintro u s _ rfl⟨T,m⟩;exact#[.ref e,s,.ref e,c,cv,b,rfl,j,.inr<|.inl #[e,T,rfl,S.sub _ _ m,f],k F H _ (Q1.refl S.sub)<|.bl b]
def Zpn(i:Nat)(h:zg Y i<|zo (.ref e)<|UF C e)(v:W0 fs)(k:EvO K t (Y.set i<|zz<|Db C e) (.ol fs)):EvO K t Y (.ol fs):=λH0 F O H Q S r=>by
 refine At (S.freezeZX h (λa b c=>UF.fz a b c)) λp s w=>k H0 _ O H Q w λy Z u j x g m=>r _ Z u j (JC (λa f=>#[(s a f).1,(s a f).2.1]) x) g (D1 v K y _ Z u j (λa f=>?_) m)
 by_cases z:a∈p
 .rw[Xe z]
 .rw[Xd z];exact(m.there a f).1
def Ez{g:TG}(hx:Qr K tx Y d0)(x:Q1 F0 H0 F H)(S:Q7 K H9 F Y O H)(k:∀b U,Q1 F0 H0 b U->Q7 K H9 b Y O U->∀Q,te O U Q):Z9 (Wc<|QE tx<|QE te QJ) g hi O H:=
 hx H9 F O H _ S λb U u c _=>k b U (x.trans c) (S.ext c) _
end
end L2
namespace L2
section
variable {J:Zbv}
def Of(e:zg Y i<|zo v<|Z1 X3)(P:Qr K ti Y (.int k))(e1:ixN X3.length k=some k')(l:X3[k']?=some ds)(N:ds.length=n)(W:G5 K gs ds Y J)(hn:CH.nx J):
 QB K (Z9 (tOp (rIx K) (Q3 i) ti)<|MT K n gs) Y CH:=λF0 H0 F O H r x S C=>by
 obtain⟨p,D,⟨a,s,rfl,q,M,X,m,f⟩,_⟩:=Y0 S x e;refine#[_,D,P H0 F O H _ S λA w y g B=>?_];cases B;apply At ((f.ext g).get l);intro c t L;have d:atI (s.map V.ref) k=some (.ref c):=by
  unfold atI;rw[Xj,f.length,e1];simp_all
 exact Do L λ_ xs j b=>.inl #[a,s.map V.ref,k,.ref c,rfl,rfl,SqL.of<|g.hh _ _ m,d,c,xs,rfl,SqL.of j,by rw[b.length,N],W H0 A O w xs _ (S.ext g) b λh o=>C.nx A h w J (x.trans g) o hn]
end
def O2(e:zg Y i<|zo v Φ)(N:Qr K ta Y (.list ds))(hw:EvW K te Y i Θ)(hn:∀n o,Θ n o->∃m,atI ds n=some (.int m)/\QB K (Z9 (ZS sp [] E'<|QE (Q3 i)<|QE (tC<|.int m) QJ)<|ZM j) (Y.set i<|some o) CH):QB K (Z9 (ZS sp [] E'<|QE (Q3 i)<|QE (tOp (rIx K) ta te) QJ)<|ZM j) Y CH:=λF0 H0 F O H M x S C=>by
 obtain⟨s0,_⟩:=S.writeOwn e;refine#[_,s0,N H0 F O H _ S λX U u c A=>hw F0 H0 X O U _ (x.trans c) (S.ext c) λd Z n o b s w g=>?_];apply At (hn n o b);intro m L D;apply aD (Jj (K:=K) (A.mono w) g.sub);rintro a xs rfl W P _;apply At (Gj P L);intro z B y;cases y;apply At (D F0 H0 d O Z M s g C);intro k f h;rw[s0]at f;cases f;exact .inl #[a,xs,n,_,rfl,rfl,W,B,h]
section
variable {u:V}{kss:List Zc3}{ti:TE}
def Iq(e:zg Y i<|zo u<|dkP kvs):Qr K (tCB P1<|QE (Q3 i)<|QE (tC<|.ty "dict") QJ) Y (.bool true):=λH0 F O H Q S q=>by
 apply At S.fp;intro g c _;apply af (c i _ e);rintro _ f rfl a xs rfl _⟨_,b,_⟩;exact#[_,f,a,xs,rfl,b,q F H _ (Q1.refl S.sub)<|.bl _]
def IY(i:JZ kvs)(h:Z5 K te Y λr=>∃v,r=.own v (dlP kss))(E:Qr K ti Y (.int t))(e1:ixN kss.length t=some k)(A:kss[k]?=some kvs)(e:zg Y j<|zo u<|dkP kvs):Qr K (tOp Pe (tOp (rIx K) te ti)<|Q3 j) Y (.bool false):=λH0 F O H Q S q=>
 h H0 F O H _ S λz U v p r D g G C=>E H0 z O U _ (S.ext g) λx o y f B=>by
  obtain⟨_,rfl⟩:=D;apply ac C;rintro rfl a n rfl _ _ _⟨N,s⟩;cases B;have l:=s.len;obtain⟨b,L⟩:∃b,n[k]?=some b:=⟨_,XW<|by rw[l];exact(Xc.mp A).1⟩;apply aF (s.at k b L);intro xs k2 w M m;rw[A]at w;cases w;apply At ((S.ext<|g.trans f).fp);intro I P _;apply af (P j _ e);rintro _ d rfl c ys rfl _⟨_,X,W⟩;refine .inl #[a,_,t,.ref b,rfl,rfl,SqL.of<|f.hh _ _ N,?_,_,d,b,c,xs,rfl,rfl,f.hh _ _ M,?_,m.ints i,q x o _ (g.trans f)<|.bl _]
  .unfold atI;simp_all
  .rw[X,PairK.one i W<|m.thin i]
def OM(h:Z5 K te Y λr=>∃v,r=.own v (dlP kss)):Qr K (tCB (Jv K)<|QE te QJ) Y (.int (kss.length:Int)):=λH0 F O H Q S q=>
 h H0 F O H _ S λm U v p r f b s c=>by
  obtain⟨_,rfl⟩:=f;apply ac c;rintro rfl a j rfl _ _ _⟨i,g⟩;refine#[a,j.map V.ref,rfl,.inl<|SqL.of i,?_];rw[Xj,g.len];exact q m U _ b (.int _)
end
end L2
namespace L2
def tU(t u:TE):TE:=λO H Q=>t O H Q\/u O H Q
def EHu(C f:Addr)(th c:Addr->TS)(CH:Ends)(j:Nat):St->XK:=λO v b H=>EHq C th CH j O v b H\/EHq f c CH j O v b H
section
variable {C' Xa6:Addr}{th':Addr->TS}{tb:Ends->TS}{x n:Str}{e:Expr}{t u:TE}{CH:Ends}{pn:Qc}
def CM(h:PE X e t)(k:PE X e u):PE X e (tU t u):=λB s O H Q I z=>z.elim (h B s O H Q I) (k B s O H Q I)
def ID:Bq (CX1 X.prog X.w) (GT X (EHu C C' th th' CH j) pn) (EHq C th CH j):=by rintro B O H s v f I ⟨e,Z,a,b,c,d,z⟩;exact Hh B O H s v f I #[e,Z,a,b,c,d,.inl z]
def Es:Bq (CX1 X.prog X.w) (GT X (EHu C C' th th' CH j) pn) (EHq C' th' CH j):=by rintro B O H s v f I ⟨e,Z,a,b,c,d,z⟩;exact Hh B O H s v f I #[e,Z,a,b,c,d,.inr z]
def OG(E:W.exmOne X.K (.ref C) (.ref Xa6)=some true)(D:W.exmOne X.K (.ref C') (.ref Xa6)=some true)(g:X.stack=X.env::X.outer)(i:X.env.frame=some X.env.locals)(N:Gl X x)(K:X.mg x=some (.ref Xa6))
(Y:X.N.Nodup)(M:X.N[j]?=some n)(L:X.env.scope.names.lookup n=some .local)
(p:∀CH pn,PSs (GT X (EHu C C' th th' CH j) pn) body<|tb CH)(o:∀e pn,PSs (YH X e pn) (b0::suite)<|th e)(w:∀e pn,PSs (YH X e pn) (b0::suite)<|th' e)(P:(x==("__debug__" : Str))=false:=by decide):
 PS X (.Try body (.ExceptHandler (some<|.Name x np) (some n) (b0::suite) hpos::rest) [] [] pos) (YN tb):=by
 refine λB s O H CH I h=>wpAny_Try_except (wpAny_mono (p CH (X.pn++B) [] s O H CH (I.toPn.wish _) h) (λA k q=>?_) λv k q=>?_)
 .have m:=SP.ofPn q;cases A with
  |next=>exact wpAny_execs_nil m
  |ret u=>exact m
  |brk=>exact m
  |cont=>exact m
 .obtain⟨d,U,r,f,⟨e,rfl,⟨F,c,y,hT⟩,t⟩|⟨e,rfl,⟨F,c,y,hT⟩,t⟩⟩:=q
  .exact Hf E I.ok g i N K Y M (.inl L) o f c y hT P (λT a b=>t _ T .nil a b) λA l z=>z
  .exact Hf D I.ok g i N K Y M (.inl L) w f c y hT P (λT a b=>t _ T .nil a b) λA l z=>z
end
section
variable {t u:Ends->TE}{g:TG}
def Pt(h:QB K (YN λb=>Z9 (t b) g) Y CH):QB K (YN λb=>Z9 (tU (t b)<|u b) g) Y CH:=λF0 H0 F O H b x S c=>.inl (h F0 H0 F O H b x S c)
def CD(h:QB K (YN λb=>Z9 (u b) g) Y CH):QB K (YN λb=>Z9 (tU (t b)<|u b) g) Y CH:=λF0 H0 F O H b x S c=>.inr (h F0 H0 F O H b x S c)
end
section
variable {t:TA}
def Zr5{b:Type}{Φ:b->OwnP}{N:b}{R:b->List OT->(OT->b->Prop)->Prop}{Ψ:OT->b->Prop}(e:zg Y i<|zo v<|Φ N)(W:Z0 K t Y ts)(P:R N ts Ψ)
(hn:∀r c,Ψ r c->CH.nx ((Y.set i<|zo v<|Φ c).set j (some r))):QB K (Z9 (ZS (spP K Φ R) [] E'<|QE (Q3 i) t)<|ZM j) Y CH:=λF0 H0 F O H G x S o=>by
 refine At (Y0 S x e) λE s0 _=>#[_,s0,W H0 F O H _ S λn U B f C=>aA (Y0 (S.ext f) (x.trans f) e) λp z m w=>#[n,_,B++[],p,ts,N,Ψ,rfl,(S.ext f).kt,f.fh,by rw[Xx];exact C,m,P,λy Z D c u r q L A s g h M=>?_]];apply I0 (w y Z D c A s g);intro k l X;obtain⟨d,a⟩:=X q M;exact o.nx y _ Z _ k (l.set h d (hn:=a)) (hn r c L)
end
end L2
namespace L2
section
variable {y:PyData}
theorem Ll{F:Hp}:∀ns:Ql,Qz F (ns.map V.int) (ns.map PyData.int)
 |[]=>.nil
 |n::ns=>.cons (.int n) (Ll ns)
def Ag{th:TO}{ns:Ql}{lo E:Option Int}(e:Y[i]?=some (some<|.scr ns))(y:EvP K tl Y lo)(w:EvP K th Y E):EvO K (tSl (HV K) (Q3 i) tl th) Y (.ol<|cut (ns.map PyData.int) lo E):=λH0 F O H Q S q=>by
 apply At S.fp;intro D h _;apply aQ (h i _ e);rintro v A _ a⟨rfl,m⟩;exact#[_,A,y H0 F O H _ S λC B b=>w H0 C O B _ (S.ext b) λM L c=>#[a,ns.map V.int,rfl,(S.sub.trans (b.trans c).hh).seq m.sq,λp s=>I0 (Ga (b.trans c) s (L8 (Ll ns) lo E)) λj g f=>q _ _ _ _ j g f]]
def E4(h:Qr K te Y y):EvX K (Wc<|QE te<|QE (Wc QJ)<|QE (Wc QJ)<|QE (Wc QJ) QJ) Y (BM y (Z1 []) (olP [])<|olP []):=λH0 F O H Q S q=>
 h H0 F O H _ S λM U d j t=>#[by decide,λg X=>#[by decide,λs L=>#[by decide,λm A=>#[by show(4)<=sizeLine;decide,λa i=>by
  have W:Q1 M U M (upd U g<|.lst []):=Q1.own j.fh X;have P:=W.trans (Q1.own (o:=.lst []) W.fh L);have N:=P.trans (Q1.own (o:=.lst []) P.fh A);have u:=N.trans (Q1.own (o:=.lst [d,.ref g,.ref s,.ref m]) N.fh i);have l:=W.hh.free L;have k:=P.hh.free A;have e:=N.hh.free i;have c:s≠g:=λz=>by rw[z,Q8]at L;cases L
  have v:m≠s:=λz=>by rw[z,Q8]at A;cases A
  have w:m≠g:=λz=>by rw[z,Qs<|Ne.symm c,Q8]at A;cases A
  have B:a≠m:=λz=>by rw[z,Q8]at i;cases i
  have C:a≠s:=λz=>by rw[z,Qs<|Ne.symm v,Q8]at i;cases i
  have D:a≠g:=λz=>by rw[z,Qs<|Ne.symm w,Qs<|Ne.symm c,Q8]at i;cases i
  have f:∀{p:Addr},U p=none->M p=none:=λn=>j.fh.free n;refine q M _ _ _ (j.trans u) (λb r=>?_) #[.ref g,.ref s,.ref m,[a],[g],[s],[m],rfl,#[a,d,rfl,rfl,f e,Q8,t],#[g,[],rfl,rfl,by simp,f X,by rw[Qs<|Ne.symm D,Qs<|Ne.symm w,Qs<|Ne.symm c,Q8];rfl,trivial],#[s,rfl,rfl,f l,[],by rw[Qs<|Ne.symm C,Qs<|Ne.symm v,Q8],.nil],#[m,rfl,rfl,f k,[],by rw[Qs<|Ne.symm B,Q8],.nil],by simp[D,C,B],by simp[Ne.symm c,Ne.symm w],by simp[Ne.symm v]];simp only[BD,ME,Xf,MF,or_false]at r;rcases r with rfl|rfl|rfl|rfl
  .exact j.hh.free e
  .exact j.hh.free X
  .exact j.hh.free l
  .exact j.hh.free k]]]]
def KD{Ψ:PyData->List OT->Prop}(m:is.Nodup)(s:is.map (λi=>(Y[i]?).join)=(OT.own v Φ0::.own u Φ1::rs).map some)(A:R (.own v Φ0::.own u Φ1::rs) Ψ)
(c:∀d ts,Ψ d ts->Ψ0 d ts/\∃Φ b,ts=[.own v Φ,.own u b])(j:∀Φ b,(YM is [.own v Φ,.own u b] Y)[0]?=some (zo v Φ)/\(YM is [.own v Φ,.own u b] Y)[1]?=some (zo u b)):EvR K (Ys<|ZS (spG K R) [] E'<|tVs is QJ) Y (Ke Ψ0):=by
 refine T4 (Θ:=λd J=>∃ts,Ψ d ts/\J=YM is ts Y) (D2 m s A (λd ts n w Φ h e=>?_) λd ts h=>#[ts,h,rfl]) λd w J ⟨ts,h,e⟩ y=>?_
 .apply aj (c d ts h);rintro _ g f rfl
  match n,e with
  |0,e=>cases e;exact#[_,rfl]
  |1,e=>cases e;exact#[_,rfl]
 .apply aj (c d ts h);rintro B g f rfl;subst e;refine#[d,w,_,rfl,y,B,λi C Φ e=>?_]
  match i,e with
  |0,e=>cases e;exact(j _ _).1
  |1,e=>cases e;exact(j _ _).2
end
end L2
section
namespace My
open PySem L2 Mir
def zc(s:String):Lean.MacroM (Lean.TSyntax `tactic):=match s with
 |"d"=>`(tactic| dsimp only [List.set])
 |"e"=>`(tactic| dsimp only [List.set,JY,List.map,WV])
 |"x"=>`(tactic| try dsimp only [VE,Zr3])
 |"p"=>`(tactic| exact ⟨rfl,rfl,rfl,by decide +kernel,rfl,by decide +kernel,by decide +kernel⟩)
 |"j"=>`(tactic| first | decide | omega)
 |_=>Lean.Macro.throwUnsupported
local macro_rules|`(tactic| walk_at $s:str)=>zc s.getString
seal PA PE PI PS PSs PT PG
def top(i:Nat):Stmt:=PySem.Challenge.pw_chargeyard_k93_whole_days.main.body.getD i (.Pass #[0,0,0,0])
abbrev R7:Stmt:=top 7
abbrev Ss:Stmt:=top 8
abbrev RF:Stmt:=top 9
abbrev RW:Stmt:=top 10
abbrev R6:Stmt:=top 11
abbrev RA:Stmt:=top 12
abbrev RZ:Stmt:=top 13
abbrev R9:Stmt:=top 14
abbrev Rw:Stmt:=top 15
abbrev NY:Stmt:=top 16
abbrev Rv:Stmt:=top 17
abbrev Rq:Stmt:=top 18
abbrev Rl:Stmt:=top 19
abbrev RH:Stmt:=top 20
abbrev Sn:Stmt:=top 21
abbrev Sb:Stmt:=top 22
abbrev Sf:Stmt:=top 27
abbrev RO:Stmt:=top 28
abbrev RG:Stmt:=top 29
abbrev RB:Stmt:=top 30
abbrev Sg:Stmt:=top 31
abbrev Hd:Stmt:=top 32
abbrev HA:Stmt:=top 33
abbrev Hx:Stmt:=top 34
abbrev Hn:Stmt:=top 36
abbrev Ry:Stmt:=top 37
abbrev Ht:Stmt:=top 38
abbrev Hb:Stmt:=top 39
abbrev Sm:Stmt:=top 41
abbrev Si:Stmt:=top 42
abbrev RU:Stmt:=top 43
abbrev Sl:Stmt:=top 47
abbrev RJ:Stmt:=top 48
abbrev Sc:Stmt:=top 49
abbrev RL:Stmt:=top 50
abbrev Hu:Stmt:=top 51
abbrev RT:Stmt:=top 52
abbrev Hq:Stmt:=top 53
abbrev Sh:Stmt:=top 54
abbrev B3:Stmt:=top 55
abbrev Hw:Stmt:=top 56
abbrev RD:Stmt:=top 57
abbrev Sa:Stmt:=top 58
abbrev RY:Stmt:=top 59
abbrev RS:Stmt:=top 60
abbrev Sd:Stmt:=top 61
abbrev Hl:Stmt:=top 62
abbrev RP:Stmt:=top 63
abbrev Jx:Stmt:=top 64
abbrev B4:Stmt:=Vs (top 3) 0
abbrev B5:Stmt:=Vs (top 5) 0
abbrev B7:Stmt:=Vs (top 26) 0
abbrev Rp:Stmt:=Vs (top 26) 1
abbrev Sk:Stmt:=Vs (top 26) 2
abbrev Rt:Stmt:=Vs (top 26) 3
abbrev Sj:Stmt:=Vs (top 26) 4
abbrev Ha:Stmt:=Vs (top 26) 5
abbrev Rs:Stmt:=Vs (top 26) 6
abbrev Se:Stmt:=Vs (top 26) 7
abbrev B8:Stmt:=Vs (top 45) 0
abbrev R0:Stmt:=Vs (top 45) 1
abbrev Hj:Stmt:=Vs (top 45) 2
abbrev RM:Stmt:=Vs (top 45) 3
abbrev RX:Stmt:=Vs (top 45) 4
abbrev R4:Stmt:=Vs (top 45) 5
abbrev RC:Stmt:=Vs (top 45) 6
abbrev Hy:Stmt:=Vs (top 45) 7
abbrev Hz:Stmt:=Vs (top 45) 8
abbrev Hv:Stmt:=Vs (top 45) 9
abbrev Sq:Stmt:=Vs (top 45) 10
abbrev Su:Stmt:=Vs (top 45) 11
abbrev Sv:Stmt:=Vs (top 45) 12
abbrev Sr:Stmt:=Vs (top 45) 13
structure Bl(mg:Str->Qf):Prop where
 abs:mg "abs"=none
 len:mg "len"=none
 max:mg "max"=none
 min:mg "min"=none
 sum:mg "sum"=none
 any:mg "any"=none
 all:mg "all"=none
 isi:mg "isinstance"=none
 int:mg "int"=none
 bool:mg "bool"=none
 list:mg "list"=none
 tuple:mg "tuple"=none
 range:mg "range"=none
 zip:mg "zip"=none
 enumerate:mg "enumerate"=none
 dict:mg "dict"=none
 ValueError:mg "ValueError"=none
 sorted:mg "sorted"=none
 set:mg "set"=none
structure Tx(K:W.Frag)(mg:Str->Qf)(C gS gE:Addr):Prop where
 net:NetC K C
 mSTART:mg "START"=some (.ref gS)
 mEND:mg "END"=some (.ref gE)
 aS:W.nsIn K mainGlobals "START"=some (some<|.ref gS)
 aE:W.nsIn K mainGlobals "END"=some (some<|.ref gE)
def upD:Option Nat->PyData
 |none=>.none
 |some a=>.int (a:Int)
def ZU(l:Ln):PyData:=.tuple [upD l.up,.tuple<|l.bs.map PyData.int]
def QH(y:Yd):PyData:=.tuple [.int (y.T:Int),.tuple<|y.ls.map ZU]
def QR(l:Qk):Qd:=l.map λ(j:Nat)=>PyData.int (j:Int)
def cdl{i j:Int}(c:0<j)(b:j<=10^60):GJ i j:=#[c,Int.lt_of_le_of_lt b<|by decide +kernel]
def BP{j:Int}(h0:0<=j)(b:j<=1000000):SI 10 j:=#[h0,b,by decide]
def z60:(10:Int)^60=1000000000000000000000000000000000000000000000000000000000000:=by decide +kernel
def HP{i j:Int}(c:0<j)(b:j<=1000000000000000000000000000000000000000000000000000000000000):GJ i j:=cdl c (by exact z60▸b)
def Az{b:Type}[Inhabited b]{f:b->PyData}{xs:List b}{k:Int}(h0:0<=k)(g:k<(xs.length:Int)):atI (xs.map f) k=some (f<|xs.getD k.toNat default):=by
 have h:k.toNat<xs.length:=#[]
 have e:(xs.map f)[k.toNat]?=some (f<|xs.getD k.toNat default):=by simp[h]
 have c:=VM e;rwa [XV h0]at c
def KW{xs:Ql}{k:Int}(h0:0<=k)(c:k<(xs.length:Int)):atI (xs.map PyData.int) k=some (.int<|xs.getD k.toNat 0):=by
 have h:k.toNat<xs.length:=#[]
 have e:(xs.map PyData.int)[k.toNat]?=some (.int<|xs.getD k.toNat 0):=by simp[h]
 have b:=VM e;rwa [XV h0]at b
def C5{xs:Ql}(h0:0<=k)(c:k<(xs.length:Int)):atI xs k=some (xs.getD k.toNat 0):=by
 have h:k.toNat<xs.length:=#[]
 have e:xs[k.toNat]?=some (xs.getD k.toNat 0):=by simp[h]
 have b:=VM e;rwa [XV h0]at b
def W4{f:Nat->PyData}{n:Nat}{k:Int}(h0:0<=k)(c:k<(n:Int)):atI ((List.range n).map f) k=some (f k.toNat):=by
 have h:k.toNat<n:=#[]
 have e:((List.range n).map f)[k.toNat]?=some (f k.toNat):=by simp[h]
 have b:=VM e;rwa [XV h0]at b
def Wi{n:Nat}{k:Int}(h0:0<=k)(b:k<(n:Int)):ixN n k=some k.toNat:=by
 unfold ixN;rw[Xe h0,Xe b]
instance:Inhabited Ln:=#[#[none,[]]]
def QZ(g:Gs):PyData:=.tuple [.int (g.line:Int),.int (g.first:Int),.int (g.last:Int),.int g.want,.int g.most]
instance:Inhabited Gs:=#[#[0,0,0,1,1]]
def Cf{m:Nat}(h:∀d∈ds,d.canLay0=true/\d.depth<=m):PyData.canLayAll0 ds=true/\PyData.depthAll ds<=m:=by
 induction ds with
 |nil=>exact#[rfl,XJ _]
 |cons d ds f=>
  obtain⟨a,b⟩:=h d Xb;obtain⟨c,e⟩:=f λx g=>h x (Xh _ g);refine#[by rw[PyData.canLayAll0,a,c];rfl,?_];rw[PyData.depthAll];lia
def Ym(m:Nat)(d:PyData):Prop:=d.canLay0=true/\d.depth<=m
def Ym.fine{m:Nat}(h:Ym m d)(b:m<=60):V9 d:=#[h.1,X4 h.2 b]
def DN{m:Nat}(h:∀d∈ds,Ym m d):Ym (m+1) (.tuple ds):=by
 obtain⟨a,b⟩:=Cf h;refine#[by rw[PyData.canLay0];exact a,?_];rw[PyData.depth];lia
def Gc{m:Nat}(h:∀d∈ds,Ym m d):Ym (m+1) (.list ds):=by
 obtain⟨a,b⟩:=Cf h;refine#[by rw[PyData.canLay0];exact a,?_];rw[PyData.depth];lia
def KJ(i:Int)(m:Nat):Ym m (.int i):=#[rfl,XJ _]
def KH{b:Type}{f:b->PyData}{xs:List b}{m:Nat}(h:∀x,Ym m<|f x):∀d∈xs.map f,Ym m d:=λd c=>by
 apply At (XH.mp c);rintro x _ rfl;exact h x
def Uj{m:Nat}:∀d∈([]:Qd),Ym m d:=λd b=>(nomatch b)
def Wj{m:Nat}(h:Ym m d)(c:∀d∈ds,Ym m d):∀x∈d::ds,Ym m x:=λx b=>by
 rcases Xf.mp b with rfl|b
 .exact h
 .exact c x b
def Ar(o:Option Nat)(m:Nat):Ym m (upD o):=by cases o<;>exact#[rfl,XJ _]
def C7(l:Ln):Ym 2 (ZU l):=DN (Wj (Ar _ _)<|Wj (DN (m:=0)<|KH λi=>KJ i 0) Uj)
def CC(y:Yd):Ym 4 (QH y):=DN (Wj (KJ _ _)<|Wj (DN<|KH C7) Uj)
def T2(l:Qk):Ym 1 (.list<|QR l):=Gc (KH λj=>KJ _ 0)
def P8(y:Yd):V9 (QH y):=(CC y).fine (by decide)
def DO(l:Qk):V9 (.list<|QR l):=(T2 l).fine (by decide)
def Ba{b:Type}(xs:List b)(k:Nat)(c:k<=xs.length):cut xs (some (k:Int)) none=xs.drop k:=by
 unfold cut;rw[HT.sIx_nat,Nat.min_eq_left c];show(xs.drop k).take (xs.length-k)=_;rw[<- BE,Jr]
def J1{b:Type}(xs:List b)(k:Nat)(c:k<=xs.length):cut xs none (some (k:Int))=xs.take k:=by
 unfold cut;rw[HT.sIx_nat,Nat.min_eq_left c];rfl
def Ki(w:String):Lean.MacroM (Lean.TSyntax `tactic):=do
 let n:=Lean.mkIdent (w.drop 1).toString.toName
 match w.front with
 |'@' => `(tactic| with_reducible apply $n)
 |'!' => `(tactic| with_reducible exact $n)
 |'~' => `(tactic| apply $n)
 |_ => `(tactic| walk_at $(Lean.Syntax.mkStrLit w))
def VO(s:String):Lean.MacroM (Lean.TSyntax `tactic):=do
 let l ← (s.splitOn "|").mapM λa=>do
  match a.splitOn "<" with
  |[x,z] => `(tactic| ($(← Ki x):tactic <;> $(← Ki z):tactic))
  |_=>
   let ts ← (a.splitOn " ").mapM Ki
   `(tactic| ($[$ts.toArray:tactic];*))
 `(tactic| first $[| $l.toArray:tactic]*)
def zd(s:String):Lean.MacroM (Lean.TSyntax `tactic):=match s with
 |"rfl"=>`(tactic| rfl)
 |"hc"=>`(tactic| intro hc)
 |"ls"=>zc "d"
 |"om"=>`(tactic| lia)
 |"asm"=>`(tactic| with_reducible assumption)
 |"ble"=>`(tactic| first | with_reducible rfl | decide | exact Nat.le_of_ble_eq_true rfl)
 |"smo"=>`(tactic| (focus (simp; (first | done | walk_at "om"))))
 |"dso"=>`(tactic| (focus (dsimp only; walk_at "om")))
 |"r4"=>`(tactic| (refine ⟨?_,?_,?_,?_⟩ <;> walk_at "r62"))
 |"r62"=>`(tactic| (rw [z62]; walk_at "side"))
 |"call"=>`(tactic| (constructor <;> walk_at "side"))
 |"rg"=>`(tactic| first | with_reducible rfl | (apply JG <;> walk_at "rs") | (apply NZ <;> walk_at "rs"))
 |"rs"=>VO "om|smo"
 |"side"=>VO "om|asm|ble|smo"
 |"arith"=>VO "om|asm|ble|smo"
 |"ev"=>VO "@Qp rfl|!Q2|!Wu|!WY|!V2|@ZD ev ev|@ZI ev ev|@VC ev ev cond|@CJ ev|@Wh ev ev|@UM ev ev|@Dj ev|@P9 ev|@Uo ev ev ev|@GN ev hc ev|@Pu ev|@Ww rfl ev item|@CW rfl ev item|@Vc evd ev item|@Vt evd ev item|@Yn eas side|@Zk ea call|@A2 ea call|@P5 ev ev|@KP ev ev|@PB ev|@UP ev rfl|@CB rfl|@Ay rfl|@GP evd|@W3 evd|@K0 rfl|@P6 evd|@UX evd evd side|@J4 ev ev fine fine|@Kv ev ev fine fine|@Dk ev rfl|@EvO.fz eo"
 |"evd"=>VO "~Qp rfl|ev|@EvO.fz eo"
 |"ea"=>VO "!Q5|@Pw rfl ea|@Qv ev ea"
 |"eas"=>VO "~Z2|~QS ev eas"
 |"eo"=>VO "@ZW eas side|@Dt ea call|@KU evd|@Kx evd evd side"
 |"et"=>VO "!Pl|@Zc ev|@ZH ev|@UN et hc et|@YO et hc et|@VD et"
 |"g"=>VO "!Zr|!Wx|@Vb g g|@WN g rfl|~WN g rfl"
 |"ei"=>VO "@W5 ea r62 r62|@Np ea r4|@AF ea r4|@Mn ea|@Ja evd|@Ph evd"
 |"s1"=>VO "@QL s1|@Yo eo ls|@ZF ev ls|@BV ev g ls|@Bw rfl ev side ls|@UY rfl ev ev item ls"
 |"ret"=>VO "@Dx rfl|@Vq evd|@Uh eo"
 |"if"=>VO "@QL if|@Zf et"
 |"eir"=>VO "~EvI.cast ei rg"
 |"item"=>VO "rfl|asm|@KW<arith|@C5<arith|@W4<arith|@Wi<arith|~Az<arith"
 |"cond"=>VO "asm|@HP<om|@BP<om|om|dso"
 |"fine"=>VO "~P8|~DO"
 |_=>Lean.Macro.throwUnsupported
local macro_rules|`(tactic| walk_at $s:str)=>zd s.getString
section
variable {base:Heap}{gS gE YR CR fR cg ct CQ fQ q1 q2 q3:Addr}
inductive R_cell:List OT->OT->Prop
 |mk {ns:Ql}{k:Int}(h:0<=k):R_cell [.scr ns,.fz<|.int k] (.fz<|.int<|Ug ns k)
def ZhD:Qo ZaG ZaG (QG Sl):=by walk_at"p"
def IJ(T:Bl mg)(CH:Df K mg "_law_cell_at" Sl ZaG):QC P w K mg base "_law_cell_at" ZaG 1 (QQ (K:=K) R_cell):=by
 refine CH.ev ZhD (λf ts r h H j g A outer s i=>?_);cases h with
 |@mk b k m=>
  refine#[_,(Qw (Zb (Zx Yw (pv 1) (Zw ZY (by rfl) T.len ZV<|av 0 Qq)<|Zi _) (Qy<|QK<|Q9 QA (pv 0)<|pv 1) Za)
 (Qy<|QK Qx)),?_]
  try dsimp only[VE]
  walk_at"if"
  .
   intro c;walk_at"ret";rfl
  .
   refine λc=>Zl ?_;walk_at"ret";have e:Ug b k=0:=by
    have:b.length<=k.toNat:=#[]
    simp[Ug,List.getD,this]
   rw[e]
def Zu(y:Yd)(k:Nat):Ln:=y.ls.getD k default
def upN(y:Yd)(k:Nat):Nat:=(Zn y k).getD 0
def DU{y:Yd}(h:k<y.ls.length):Zn y k=(Zu y k).up:=by simp[Zn,Zu,h]
def DY{y:Yd}(h:k<y.ls.length):ZG y k t=(Zu y k).bs.getD t 0:=by simp[ZG,Zu,h]
def Bm{y:Yd}(b:y.Ok)(h:k<y.ls.length):(Zu y k).bs.length=y.T:=b.bl _ (by simp[Zu,h])
inductive R_turns:List OT->OT->Prop
 |mk {y:Yd}:R_turns [.fz<|QH y] (.fz<|.int (y.T:Int))
def Zmm:Qo ZaI ZaI (QG RA):=by walk_at"p"
def Ow(T:Bl mg)(CH:Df K mg "turns_of" RA ZaI):QC P w K mg base "turns_of" ZaI 1 (QQ (K:=K) R_turns):=by
 refine CH.ev Zmm (λf ts r h H g b A outer s c=>?_);cases h with
 |@mk y=>
  refine#[_,(Qy<|QK<|Q9 QA (pv 0) Qx),?_]
  try dsimp only[VE]
  walk_at"ret";rfl
inductive R_count:List OT->OT->Prop
 |mk {y:Yd}:R_count [.fz<|QH y] (.fz<|.int (y.ls.length:Int))
def ZjB:Qo ZaI ZaI (QG RZ):=by walk_at"p"
def Zr4(T:Bl mg)(CH:Df K mg "line_count" RZ ZaI):QC P w K mg base "line_count" ZaI 1 (QQ (K:=K) R_count):=by
 refine CH.ev ZjB (λf ts r h H g b A outer s c=>?_);cases h with
 |@mk y=>
  refine#[_,(Qy<|QK<|Zw ZY (by rfl) T.len ZV<|Qu (Q9 QA (pv 0) Qx) Qq),?_]
  try dsimp only[VE]
  walk_at"ret";rw[Xj]
inductive R_above:List OT->OT->Prop
 |mk {y:Yd}{k:Int}(ok:y.Ok)(h0:0<k)(h1:k<(y.ls.length:Int)):R_above [.fz<|QH y,.fz<|.int k] (.fz<|.int (upN y k.toNat:Int))
 |zero {y:Yd}(ok:y.Ok):R_above [.fz<|QH y,.fz<|.int 0] (.fz .none)
def Zmx:Qo ZaJ ZaJ (QG R9):=by walk_at"p"
def IU(T:Bl mg)(CH:Df K mg "above_of" R9 ZaJ):QC P w K mg base "above_of" ZaJ 1 (QQ (K:=K) R_above):=by
 refine CH.ev Zmx (λf ts r h H m g A outer s j=>?_);cases h with
 |@mk y k b B v=>
  refine#[_,(Qy<|QK<|Q9 QA (Q9 QA (Q9 QA (pv 0) Qx)<|pv 1) Qx),?_]
  try dsimp only[VE]
  walk_at"ret";apply At (b.ups k.toNat #[] #[]);intro a e l;have c:(Zu y k.toNat).up=some a:=by rw[<- DU #[]];exact e
  show OT.fz (upD (Zu y k.toNat).up)=_;rw[c];simp[upN,e,upD]
 |@zero y b=>
  refine#[_,(Qy<|QK<|Q9 QA (Q9 QA (Q9 QA (pv 0) Qx)<|pv 1) Qx),?_]
  try dsimp only[VE]
  have i:=b.l1;walk_at"ret";have c:(Zu y 0).up=none:=by rw[<- DU #[]];exact b.up0
  show OT.fz (upD (Zu y 0).up)=_;rw[c];rfl
inductive R_bound:List OT->OT->Prop
 |mk {y:Yd}{k t:Int}(ok:y.Ok)(h0:0<=k)(h1:k<(y.ls.length:Int))(h2:0<=t)(h3:t<(y.T:Int)):R_bound [.fz<|QH y,.fz<|.int k,.fz<|.int t] (.fz<|.int<|ZG y k.toNat t.toNat)
def Zm0:Qo ZaB ZaB (QG Rw):=by walk_at"p"
def ZrA(T:Bl mg)(CH:Df K mg "bound_at" Rw ZaB):QC P w K mg base "bound_at" ZaB 1 (QQ (K:=K) R_bound):=by
 refine CH.ev Zm0 (λf ts r h H j c A outer s g=>?_);cases h with
 |@mk y k t b C B v m=>
  refine#[_,(Qy<|QK<|Q9 QA (Q9 QA (Q9 QA (Q9 QA (pv 0) Qx)<|pv 1) Qx)<|pv 2),?_]
  try dsimp only[VE]
  have i:(y.ls.getD k.toNat default).bs.length=y.T:=Bm b #[];walk_at"ret";show _=_;rw[DY<|#[]];rfl
inductive R_lineof:List OT->OT->Prop
 |mk {g:Gs}:R_lineof [.fz<|QZ g] (.fz<|.int (g.line:Int))
def Zoj:Qo ZaD ZaD (QG NY):=by walk_at"p"
def Zp3(T:Bl mg)(CH:Df K mg "line_of" NY ZaD):QC P w K mg base "line_of" ZaD 1 (QQ (K:=K) R_lineof):=by
 refine CH.ev Zoj (λf ts r h H i b A outer s c=>?_);cases h with
 |@mk g=>
  refine#[_,(Qy<|QK<|Q9 QA (pv 0) Qx),?_]
  try dsimp only[VE]
  walk_at"ret";rfl
inductive R_there:List OT->OT->Prop
 |mk {g:Gs}{t:Int}:R_there [.fz<|QZ g,.fz<|.int t] (.fz<|.bool<|Vk g t)
def Zma:Qo Zay Zay (QG Rv):=by walk_at"p"
def O7(T:Bl mg)(CH:Df K mg "is_there" Rv Zay):QC P w K mg base "is_there" Zay 1 (QQ (K:=K) R_there):=by
 refine CH.ev Zma (λf ts r h H i b A outer s c=>?_);cases h with
 |@mk g t=>
  refine#[_,(Qy<|QK<|Lh WO WO (Q9 QA (pv 0) Qx) (pv 1)<|Q9 QA (pv 0) Qx),?_]
  try dsimp only[VE]
  walk_at"ret";rfl
inductive R_most:List OT->OT->Prop
 |mk {g:Gs}:R_most [.fz<|QZ g] (.fz<|.int g.most)
def ZnM:Qo ZaD ZaD (QG Rl):=by walk_at"p"
def Il(T:Bl mg)(CH:Df K mg "most_of" Rl ZaD):QC P w K mg base "most_of" ZaD 1 (QQ (K:=K) R_most):=by
 refine CH.ev ZnM (λf ts r h H i b A outer s c=>?_);cases h with
 |@mk g=>
  refine#[_,(Qy<|QK<|Q9 QA (pv 0) Qx),?_]
  try dsimp only[VE]
  walk_at"ret";rfl
inductive R_want:List OT->OT->Prop
 |mk {g:Gs}:R_want [.fz<|QZ g] (.fz<|.int g.want)
def ZnK:Qo ZaD ZaD (QG Rq):=by walk_at"p"
def EL(T:Bl mg)(CH:Df K mg "want_of" Rq ZaD):QC P w K mg base "want_of" ZaD 1 (QQ (K:=K) R_want):=by
 refine CH.ev ZnK (λf ts r h H i b A outer s c=>?_);cases h with
 |@mk g=>
  refine#[_,(Qy<|QK<|Q9 QA (pv 0) Qx),?_]
  try dsimp only[VE]
  walk_at"ret";rfl
structure SetOk(gs:List Gs)(some:Qk):Prop where
 mem:∀k∈some,k<gs.length
 len:some.length<=8
def WX(gs:List Gs)(t:Nat)(b:Qk):Qn:=λl=>ZA gs (t:Int) l b
def GY(y:Yd)(gs:List Gs)(b:Qk)(t:Nat):Ql:=(List.range y.ls.length).map λl=>VS y (λk=>ZG y k t) (WX gs t b) l
inductive R_reaching:List OT->OT->Prop
 |mk {y:Yd}{gs:List Gs}{sm:Qk}{t:Int}(ok:y.Ok)(hg:∀g∈gs,g.line<y.ls.length)(hs:SetOk gs sm)(h0:0<=t)(h1:t<(y.T:Int)):
  R_reaching [.fz<|QH y,.fz<|.list<|gs.map QZ,.fz<|.list<|QR sm,.fz<|.int t] (.ol<|(GY y gs sm t.toNat).map PyData.int)
def Gb{f g:Qn}(b:j<n)(e1:∀l,l<n->l≠j->g l=f l){v:Int}(c:g j=v):
 (((List.range n).map λl=>PyData.int<|f l).set j (.int v))=(List.range n).map λl=>PyData.int (g l):=by
 apply List.ext_getElem?;intro i;by_cases E:i=j
 .simp_all
 .rw[Xp<|Ne.symm E]
  by_cases h:i<n
  .simp[h,e1 i h E]
  .simp[h]
def MA:Qo ZaC Zah (QG Hn):=by walk_at"p"
def Zms(T:Bl mg)(CH:Df K mg "reaching_at" Hn Zah)(B:QC P w K mg base "line_count" ZaI 1 (QQ (K:=K) R_count))(o:QC P w K mg base "is_there" Zay 1 (QQ (K:=K) R_there))
(q:QC P w K mg base "line_of" ZaD 1 (QQ (K:=K) R_lineof))(e:QC P w K mg base "most_of" ZaD 1 (QQ (K:=K) R_most))(p:QC P w K mg base "above_of" ZaJ 1 (QQ (K:=K) R_above))
(u:QC P w K mg base "bound_at" ZaB 1 (QQ (K:=K) R_bound)):QC P w K mg base "reaching_at" Zah 2 (QQ (K:=K) R_reaching):=by
 refine CH.ev MA (λf ts r h H hi cdv A outer s j=>?_);cases h with
 |@mk y g b t L R G S h1=>
  refine#[_,(Qw (Zr2 (i:=4) MA.nd rfl rfl (NX:=ZaC) (sc:=QG Hn) (N:=["line"]) (f:=[none]) rfl (by decide +kernel) rfl rfl (Wm rfl T.range<|Qu (QI B j<|av 0 Qq) Qq) (λ_=>(QT 0 (show(["line"]:Qh).Nodup by decide +kernel))) (λ_=>Yf) (λ_=>J8) (λ_=>Qx) rfl)
 (Qw (Vu zN rfl (by exact(YZ<|pv 2)) (QT 5 MA.nd) (by exact(Qw (QP 6 MA.nd<|Q9 QA (pv 1)<|pv 5)
 (Qy<|Zb (ZO<|QI o j<|av 6<|av 3 Qq) (Qy<|Bg (pv 4) (QI q j<|av 6 Qq) Br (QI e j<|av 6 Qq) Mg VU) Za))))
 (Qw (Vu zN rfl (by exact(Rr rfl T.range<|Qu (QW Yb (QI B j<|av 0 Qq) Qx)<|Qu Qx<|Qu (BS Mc Qx) Qq)) (QT 7 MA.nd)<|by exact(Qy<|Bg (pv 4) (QI p j<|av 0<|av 7 Qq) Br (Zw (Ds rfl) (by rfl) T.min Me<|Qu (Q9 QA (pv 4)<|pv 7)<|Qu (QI u j<|av 0<|av 7<|av 3 Qq) Qq) Mg VU))
 (Qy<|QK<|pv 4)))),?_]
  show QB K _ [_,_,_,_,_,_,_,_] _
  walk_at"x";have l1:=L.l1;have l5:=L.l5;have n8:=G.len;refine QL (Yo (Kz (lo:=0) (n:=y.ls.length) (h:=λ_=>.int 0) ?ei #[] ?el) ?_)
  case ei=>walk_at"eir"
  case el=>
   exact λx hx c=>#[_,by walk_at"g",by walk_at"ev"]
  walk_at"d";refine QL (Mt (λi=>[zf<|QH y,zf<|.list<|g.map QZ,zf<|.list<|QR b,zi t,some<|.ol<|(List.range y.ls.length).map λl=>PyData.int<|ZA g t l<|b.take i,none,none,none]) (by walk_at"ei") #[rfl,rfl,rfl,rfl,rfl,trivial] ?st ?fin)
  case st=>
   intro i d C;have E:i<b.length:=by
    have:=(Xc.mp C).1;simpa [QR] using this
   obtain rfl:d=.int ((b[i]:Nat):Int):=by simpa [QR,E] using C.symm
   have v:b[i]<g.length:=G.mem _ (Wb E);refine#[_,by walk_at"g",?_];walk_at"d";walk_at"s1";have U:g.getD ((b[i]:Nat):Int).toNat default=g[b[i]]:=by simp[v]
   rw[U];have X:=R g[b[i]] (Wb v);have D:b.take (i+1)=b.take i++[b[i]]:=by rw[JM];simp[E]
   refine Zf (by walk_at"et") (λc=>?_) (λc=>?_)
   .refine TU (m:=ZA g t g[b[i]].line (b.take i)) rfl (by walk_at"ev") #[] ?_ (by walk_at"ev") ?_
    .simp[X]
    .walk_at"d";refine#[rfl,rfl,rfl,rfl,?_,trivial];rw[Xr];congr 2;refine Gb X (λl O M=>?_) ?_
     .rw[D,Gn];simp[ZA,v,Ne.symm M]
     .rw[D,Gn];simp[ZA,v,c]
   .refine Zl #[rfl,rfl,rfl,rfl,XS (λz=>some<|OT.ol z) (X6 λl _=>?_),trivial];rw[D,Gn];simp[ZA,v,c]
  case fin=>
   refine λJ W=>BY W ?_;have el:(QR b).length=b.length:=by simp[QR]
   rw[el,Jr];refine QL (Mt (λi=>[zf<|QH y,zf<|.list<|g.map QZ,zf<|.list<|QR b,zi t,some<|.ol<|(List.range y.ls.length).map λl=>PyData.int<|Vg y (λk=>ZG y k t.toNat) (λl=>ZA g t l b) i l,none,none,none]) (by walk_at"ei") #[rfl,rfl,rfl,rfl,rfl,trivial] ?st2 ?fin2)
   case st2=>
    intro i d C;obtain⟨E,rfl⟩:=DI C;have Q:i<y.ls.length-1:=#[]
    refine#[_,by walk_at"g",?_];walk_at"d";have I:((y.ls.length:Int)-1-(i:Int)).toNat=y.ls.length-1-i:=#[]
    apply At (L.ups (y.ls.length-1-i) #[] #[]);intro a Y la;have F:upN y ((y.ls.length:Int)-1-(i:Int)).toNat=a:=by rw[I];simp[upN,Y]
    refine TU (m:=Vg y (λk=>ZG y k t.toNat) (λl=>ZA g t l b) i a) rfl (by walk_at"ev") #[] ?_ (by walk_at"ev") ?_
    .rw[F,Xr];have:a<y.ls.length:=#[]
     simp[this]
    .walk_at"d";refine#[rfl,rfl,rfl,rfl,?_,trivial];rw[F,Xr];refine XS (λz=>some<|OT.ol z) (Gb #[] (λl O M=>?_) ?_)
     .simp only[Vg,WP];rw[Y,Xd<|by simpa using λz=>M z.symm];lia
     .simp only[Vg,WP];rw[Y,Xe rfl,I]
   case fin2=>
    refine λJ W=>BY W ?_;walk_at"ret";show _=_;have Z:(WM ((y.ls.length:Int)-1) ((y.ls.length:Int)-1-0).toNat).length=y.ls.length-1:=by rw[Ny];lia
    rw[Z];unfold GY VS WX;rw[XV S,Yg];rfl
def ZnE(y:Yd)(gs:List Gs)(b:Qk)(t:Nat):(GY y gs b t).length=y.ls.length:=by simp[GY]
def ZqS{y:Yd}(h:l<y.ls.length):(GY y gs sm t).getD l 0=VS y (λk=>ZG y k t) (WX gs t sm) l:=by simp[GY,List.getD,h]
def V4(y:Yd)(gs:List Gs)(b:Qk)(t:Nat):Int:=passes y (λk=>ZG y k t) (WX gs t b) 0
def M8(y:Yd)(gs:List Gs)(b:Qk):Int:=((List.range y.T).map λt=>V4 y gs b t).sum
def Vy(f:Qn)(i:Nat):Int:=((List.range i).map f).sum
def B2(f:Qn)(i:Nat):Vy f (i+1)=Vy f i+f i:=by simp[Vy,YK]
def Dp{y:Yd}(c:y.Ok)(k t:Nat):0<=ZG y k t:=by
 unfold ZG;cases e:y.ls[k]? with
 |none=>simp
 |some b=>
  have:=c.bb b (List.mem_of_getElem? e);simp only[Wn,Option.getD_some];by_cases h:t<b.bs.length
  .simp_all
  .simp[ h]
inductive R_given:List OT->OT->Prop
 |mk {y:Yd}{gs:List Gs}{sm:Qk}{t:Int}(ok:y.Ok)(hg:∀g∈gs,g.line<y.ls.length)(hs:SetOk gs sm)(h0:0<=t)(h1:t<(y.T:Int)):
  R_given [.fz<|QH y,.fz<|.list<|gs.map QZ,.fz<|.list<|QR sm,.fz<|.int t] (.fz<|.int<|V4 y gs sm t.toNat)
def ZlT:Qo Zah Zah (QG Ry):=by walk_at"p"
def Oj(T:Bl mg)(CH:Df K mg "given_at" Ry Zah)(c:QC P w K mg base "reaching_at" Zah 2 (QQ (K:=K) R_reaching))(b:QC P w K mg base "bound_at" ZaB 1 (QQ (K:=K) R_bound)):
 QC P w K mg base "given_at" Zah 3 (QQ (K:=K) R_given):=by
 refine CH.ev ZlT (λf ts r h H L v A outer s g=>?_);cases h with
 |@mk y m i t j M D W N=>
  refine#[_,(Qy<|QK<|Zw (Ds rfl) (by rfl) T.min Me<|Qu (Q9 QA (QI c g<|av 0<|av 1<|av 2<|av 3 Qq) Qx)<|Qu (QI b g<|av 0<|Qu Qx<|av 3 Qq) Qq),?_]
  try dsimp only[VE]
  have C:=j.l1;have B:=ZnE y m i t.toNat
  walk_at"ret";show _=_;rw[ ZqS #[]];rfl
inductive R_givenm:List OT->OT->Prop
 |mk {y:Yd}{gs:List Gs}{sm:Qk}(ok:y.Ok)(hg:∀g∈gs,g.line<y.ls.length)(hs:SetOk gs sm):
  R_givenm [.fz<|QH y,.fz<|.list<|gs.map QZ,.fz<|.list<|QR sm] (.fz<|.int<|M8 y gs sm)
def ZjW:Qo Zag Zag (QG Ht):=by walk_at"p"
def ZpF(T:Bl mg)(CH:Df K mg "given_most" Ht Zag)(g:QC P w K mg base "turns_of" ZaI 1 (QQ (K:=K) R_turns))(b:QC P w K mg base "given_at" Zah 3 (QQ (K:=K) R_given)):
 QC P w K mg base "given_most" Zag 4 (QQ (K:=K) R_givenm):=by
 refine CH.ev ZjW (λf ts r h H M B A outer s j=>?_);cases h with
 |@mk y W D i v m=>
  refine#[_,(Qy<|QK<|Zw KI (by rfl) T.sum KR<|Qu (Wg (NX:=Zag) (sc:=QG Ht) (N:=["turn","yard","guests","some"]) (f:=[none,some 0,some 1,some 2]) rfl (by decide +kernel) rfl rfl (Wm rfl T.range<|Qu (QI g j<|av 0 Qq) Qq) (λ_=>(QT 0 (show(["turn","yard","guests","some"]:Qh).Nodup by decide +kernel))) (λ_=>Yf) (λ_=>J8) λ_=>(QI b j<|av 1<|av 2<|av 3<|av 0 Qq)) Qq),?_];show QB K _ [_,_,_] _
  walk_at"x";have C:=i.t8;refine Vq (Dk (EvO.fz ?_) rfl) rfl;rw[Yg];refine Kz (lo:=0) (n:=y.T) ?_ #[] ?_
  .walk_at"eir"
  .refine λx L c=>#[_,by walk_at"g",?_];rw[JP];exact Zk (by walk_at"ea") (R_given.mk (t:=(x:Int)) i v m #[] #[])
def D3:NoF "lay" := λ_ _ _ _=>rfl
def LQ:NoF "lay_one" := λ_ _ _ _=>rfl
def ZrR:NoF "flow" := λ_ _ _ _=>rfl
def FS:NoF "reached" := λ_ _ _ _=>rfl
def O6:NoF "push" := λ_ _ _ _=>rfl
def Oh:NoF "fill" := λ_ _ _ _=>rfl
def Ek:NoF "way_to" := λ_ _ _ _=>rfl
def Zig:Qo Zak Zak (QG B7):=by walk_at"p"
def Al{f:Addr}(T:Bl mg)(i:Tx K mg C gS gE)(F:Fun K "__init__" "Net.__init__" B7 f fd):FnOk P w K mg base CX0 1 f fd Zak (spI P w C):=by
 refine F.ok Zig (by rintro p H Q u ⟨x,L,e,_⟩;rw[e];rfl) ?_;rintro p H Q u ⟨x,L,rfl,X,q⟩ z A outer s O;refine#[_,(Qw (YT (pv 0) (Zz Qq) rfl)
 (Qw (YT (pv 0) (Zz Qq) rfl)
 (Qw (YT (pv 0) Zro rfl)
 (Qy<|YT (pv 0) OP rfl)))),?_]
 refine#[XJ _,λe Y=>#[_,rfl,x,C,L,[],rfl,?_,i.net.cl,i.net.ends,by decide,?_]]
 .rw[Qs<|ZB X Y];exact X
 have y:=ZB X Y;refine#[XJ _,λr g=>#[_,rfl,x,C,L,[("ends",.ref e)],rfl,?_,i.net.cl,i.net.rooms,(by show(1)<1000;decide),?_]]
 .have j:=ZB Q8 g;rw[Qs j,Q8];rfl
 have j:=ZB Q8 g;have D:=by rw[Qs<|Ne.symm j]at g;exact g
 have a:=ZB Q8 D;have t:=by rw[Qs<|Ne.symm a]at D;exact D
 refine λl h=>#[_,rfl,x,C,L,[("ends",.ref e),("rooms",.ref r)],rfl,?_,i.net.cl,i.net.leav,(by show(2)<1000;decide),?_]
 .have m:=ZB Q8 h;rw[Qs m,Q8];rfl
 have m:=ZB Q8 h;rw[Qs<|Ne.symm m]at h;have M:=ZB Q8 h;rw[Qs<|Ne.symm M,Qs<|Ne.symm m]at h;have k:=ZB Q8 h;rw[Qs<|Ne.symm k]at h;refine λd c=>#[_,rfl,x,C,L,[("ends",.ref e),("rooms",.ref r),("leaving",.ref l)],rfl,?_,i.net.cl,i.net.laid,(by show(3)<1000;decide),?_]
 .have v:=ZB Q8 c;rw[Qs v,Q8];rfl
 have v:=ZB Q8 c;rw[Qs<|Ne.symm v]at c;have W:=ZB Q8 c;rw[Qs<|Ne.symm W,Qs<|Ne.symm v]at c;have N:=ZB Q8 c;rw[Qs<|Ne.symm N,Qs<|Ne.symm v]at c;have n:=ZB Q8 c;rw[Qs<|Ne.symm n]at c;refine q e r l d _ Y t h c ?_ ?_ ?_ ?_ ?_ ?_ (λb o=>?_)
 .simp only[Xu,Xf,X5,or_false,not_or,not_false_eq_true,Gz,and_true];exact#[#[y,j,m,v],#[a,k,n],#[M,N],W]
 .rw[Q8];rfl
 .rw[Qs<|Ne.symm y,Qs n,Qs<|Ne.symm y,Qs k,Qs<|Ne.symm y,Qs a,Qs<|Ne.symm y,Q8]
 .rw[Qs<|Ne.symm j,Qs N,Qs<|Ne.symm j,Qs M,Qs<|Ne.symm j,Q8]
 .rw[Qs<|Ne.symm m,Qs W,Qs<|Ne.symm m,Q8]
 .rw[Qs<|Ne.symm v,Q8];rfl
 .simp only[Xf,X5,or_false,not_or]at o;apply Hs o;intro B J I G E;rw[Qs B,Qs E,Qs B,Qs G,Qs B,Qs I,Qs B,Qs J]
inductive R_lay1:QF->List OT->(QF->Prop)->Prop
 |mk {N:QF}{s e:List Key}{r:Int}(h1:N.ends.length<900)(h2:N.rooms.length<900)(h3:N.leav.length<900)(h4:∀k ns,QX N.leav k=some ns->ns.length<900):R_lay1 N [.fz<|Ze s,.fz<|Ze e,.fz<|.int r] (λN'=>N'=G4 N s e r)
def Zi5:Qo Zae Zae (QG Sk):=by walk_at"p"
def EO(T:Bl mg)(c:Tx K mg C gS gE)(CH:Mf K C "lay_one" "Net.lay_one" Sk Zae):Z8 P w K mg base C "lay_one" Zae 1 (spN K P w C R_lay1):=by
 refine CH.evN Zi5 (λf v M ts Ψ h H D y A outer s j=>?_);cases h with
 |@mk g e r X W L m=>
  refine#[_,(Qw (Zp<|V1 zP zS zT V7 (IP (Vo j) (QV<|pv 0) (pv 1) (Zz Qq) #[rfl,rfl,rfl,rfl])<|Qu (Zw ZY (by rfl) T.len ZV<|Qu (QV<|pv 0) Qq) Qq)
 (Qw (Zp<|V1 zP zS zT V7 (QV<|pv 0)<|av 2 Qq)
 (Qy<|Zp<|V1 zP zS zT V7 (QV<|pv 0)<|av 3 Qq))),?_]
  refine QL (ZnT c.net rfl Qp #[] (λB b=>?_) (Fw (N:={ M with leav:=Yt M.leav g }) c.net rfl) ?_)
  .rw[N6,Xe rfl]at b;cases b;cases z:QX M.leav g with
   |none=>decide
   |some i=>have:=m g i z;show i.length<1000;lia
  exact QL (ZnR c.net rfl Qp (show M.ends.length<1000 by lia) (Zop c.net rfl Qp (show M.rooms.length<1000 by lia) (#[_,rfl,rfl])))
abbrev WR:Zs Nd:=λ_ _=>0
inductive R_lay:QF->List OT->(QF->Prop)->Prop
 |mk {N:QF}{dx:Lay Nd}{s e:Nd}{r:Int}(h:NetR N dx WR)(new:(s,e)∉dx.map (λx=>(x.1,x.2.1)))(l:dx.length<400):R_lay N [.fz<|Ze<|nk s,.fz<|Ze<|nk e,.fz<|.int r] (λN'=>NetR N' (dx++[(s,e,r)]) WR)
def ZnS:Qo Zae Zae (QG Rp):=by walk_at"p"
def CZ(T:Bl mg)(m:Tx K mg C gS gE)(CH:Mf K C "lay" "Net.lay" Rp Zae)(i:Z8 P w K mg base C "lay_one" Zae 1 (spN K P w C R_lay1)):Z8 P w K mg base C "lay" Zae 2 (spN K P w C R_lay):=by
 refine CH.evN ZnS (λf v M ts Ψ h H p a A outer s L=>?_);cases h with
 |@mk j b e r h B l=>
  refine#[_,(Qw (Iu (KO L) (QV<|pv 0) (Yq<|av 1<|av 2 Qq) (Zw ZY (by rfl) T.len ZV<|Qu (QV<|pv 0) Qq) rfl)
 (Qw (Zp<|YW i m.net L (pv 0)<|av 1<|av 2<|av 3 Qq)
 (Qy<|Zp<|YW i m.net L (pv 0)<|av 2<|av 1<|Qu Qx Qq))),?_]
  try dsimp only[VE]
  have Y:=h.elen;have X:M.rooms.length=2*j.length:=by rw[h.rooms,Ru]
  have o:=h.l1;have n:=h.l2;refine QL (ZpV m.net rfl (Fw m.net rfl) (Yn (QS Qp<|QS Qp Z2)<|by show(2)<=1000;decide) #[] (QL (Uw LQ rfl (Jz (Qv Qp<|Qv Qp<|Qv Qp Q5) rfl) λts c=>?_)));subst c;refine#[_,R_lay1.mk (show M.ends.length<900 by lia) (show M.rooms.length<900 by lia) (show M.leav.length<900 by lia) (λk y g=>by have:=h.l3 k y g;lia),λd N=>?_];subst N;walk_at"d";refine Uw LQ rfl (Jz (Qv Qp<|Qv Qp<|Qv Q2 Q5) rfl) (λts c=>?_);subst c;refine#[_,R_lay1.mk ?a1 ?a2 ?a3 ?a4,λd N=>?_]
  case a1=>show(M.ends++[nk e]).length<900;rw[Xn,Y];show 2*j.length+1<900;lia
  case a2=>show(M.rooms++[r]).length<900;rw[Xn,X];show 2*j.length+1<900;lia
  case a3=>
   show(Yl (Yt M.leav<|nk b) (nk b) _).length<900
   rw[DC];have:=Na M.leav (nk b);lia
  case a4=>
   intro k y g;rw[Bt]at g;by_cases z:k=nk b
   .rw[Xe z]at g;cases g;have:((QX M.leav<|nk b).getD []).length<=2*j.length:=by
     cases q:QX M.leav (nk b) with
     |none=>exact XJ _
     |some W=>exact h.l3 _ W q
    show((QX M.leav<|nk b).getD []++[_]).length<900
    rw[Xn];show _+1<900
    lia
   .rw[Xd z]at g;have:=h.l3 k y g;lia
  subst N;exact#[_,OI h rfl B,rfl]
def BW(b:Lay Nd)(φ:Zs Nd)(p q:Nd):Int:=if (p,q)∈b.map (λx=>(x.1,x.2.1)) then φ p q else 0
inductive R_flow(P:Program)(w:World)(C:Addr):List OT->(OT->Prop)->Prop
 |mk {N:QF}{dx:Lay Nd}{φ:Zs Nd}{p q:Nd}(h:NetR N dx φ):R_flow P w C [.zow<|Vm P w C N,.fz<|Ze<|nk p,.fz<|Ze<|nk q] (λr=>r=.fz (.int<|BW dx φ p q))
def Zm9:Qo Zau Zau (QG Rt):=by walk_at"p"
def EI(T:Bl mg)(D:Tx K mg C gS gE)(CH:Mf K C "flow" "Net.flow" Rt Zau):Z8 P w K mg base C "flow" Zau 1 (Zm K<|R_flow P w C):=by
 refine CH.evD Zm9 (λf ts l h H o k A outer s M=>?_);cases h with
 |@mk N r L p q h=>
  refine#[_,(Qw (Zb (Wz<|ZoA (KO M) (Yq<|av 1<|av 2 Qq)<|QV<|pv 0) (Qy<|QK Qx) Za)
 (Qy<|QK<|Q9 QA (QV<|pv 0)<|QW K6 (IC (KO M) (QV<|pv 0) (Yq<|av 1<|av 2 Qq) λ_ _=>rfl) Qx)),?_]
  try dsimp only[VE]
  refine QL (Zf (ZH<|Zo6 D.net ((λv m=>Yn (QS (Qp v)<|QS (Qp m) Z2) (by show(2)<=1000;decide)) rfl rfl) rfl) (λc=>Vq Q2 ?_) λc=>Zl ?_)
  .have c:Vi N.laid (nk p,nk q)=none:=by
    cases z:Vi N.laid (nk p,nk q) with
    |none=>rfl
    |some n=>rw[z]at c;cases c
   show OT.fz (.int 0)=_;unfold BW;rw[Xd λj=>?_];apply At (XH.mp j);intro x y X;obtain⟨i,E⟩:=List.mem_iff_getElem?.mp y
   have:=h.laid i x E
   grind
  .have j:=by
    apply Classical.byContradiction;intro d;rw[h.laid0 p q d]at c;cases c
   apply At (XH.mp j);intro x y X;obtain⟨i,E⟩:=List.mem_iff_getElem?.mp y;have W:=h.laid i x E;injection X with v m;rw[v,m]at W;have B:N.rooms[2*i+1]?=some (L p q):=by
    rw[h.rooms,Bn];unfold rmE;have a:(2*i+1)/2=i:=#[]
    have b:¬(2*i+1)%2=0:=#[]
    rw[a,E];simp only[Wn,Xd b,v,m]
   have e:atI (N.rooms.map PyData.int) (Builtin.bitXor ((2*i:Nat)) 1)=some (.int<|L p q):=by
    rw[RN];have a:Zhq (2*i)=2*i+1:=by unfold Zhq;rw[Xe<|#[]]
    rw[a];exact VM (by rw[Xy,B];rfl)
   refine Vq (NB D.net rfl (ZD (OL D.net rfl ((λv m=>Yn (QS (Qp v)<|QS (Qp m) Z2) (by show(2)<=1000;decide)) rfl rfl) W) Q2) e) ?_;unfold BW;rw[Xe j]
def Eu(h:Qr K ta Y (.list ds)):QO K (λO H Q=>ta O H λx Z=>∃k,Kc K x Z k/\Q k Z) Y (!ds.isEmpty):=λH0 F O H Q S q=>h H0 F O H _ S λi U v b c=>by
 apply aD (Jj (K:=K) c b.fh);rintro a xs rfl g f _;refine#[_,.inl #[xs,g,rfl],?_];have e:xs.isEmpty=ds.isEmpty:=by
  have:=f.length;cases xs<;>cases ds<;>simp at this ⊢
 rw[e];exact q i U b
def UC(n:Nd):PyData:=Ze (nk n)
inductive R_reached(P:Program)(w:World)(C:Addr):List OT->(OT->Prop)->Prop
 |mk {N:QF}{dx:Lay Nd}{φ:Zs Nd}{s:Nd}(h:NetR N dx φ)(l:dx.length<400):R_reached P w C [.zow<|Vm P w C N,.fz<|Ze<|nk s] (λr=>∃v es,r=.own v (VV<|kvG es)/\Tree dx φ s es/\Y6 dx φ es)
structure ReachI(dx:Lay Nd)(φ:Zs Nd)(s:Nd)(es0 es:Got Nd)(H1 fu:List Nd):Prop where
 tree:Tree dx φ s es
 fin:∀n∈fu,n∈Zd es
 sub:∀n∈Zd es0,n∈Zd es
 done:U8 dx φ es (H1++fu)
 len:es.length=es0.length+fu.length
def Gp:Qo ["self","start","edges","latest","further","node","edge"] ZaU (QG Sj):=by walk_at"p"
def Zn8(T:Bl mg)(H1:Tx K mg C gS gE)(CH:Mf K C "reached" "Net.reached" Sj ZaU):Z8 P w K mg base C "reached" ZaU 1 (Zm K<|R_reached P w C):=by
 refine CH.evD Gp (λf ts Φ h H hi cdv A outer s hr=>?_);cases h with
 |@mk N L G q h l=>
  refine#[_,(Qw (QP 2 Gp.nd<|ZrJ (Vo hr) (pv 1) Ui)
 (Qw (QP 3 Gp.nd<|Zz<|av 1 Qq)
 (Qw (DF zN (Zr7 (pv 3) λ_=>rfl) (Qw (QP 4 Gp.nd<|Zz Qq)
 (Qw (Vu zN rfl (by exact(YZ<|pv 3)) (QT 5 Gp.nd) (by exact(Qy (Vu zN rfl (by exact(YZ<|Zrn (Vo hr) (QV<|pv 0) (pv 5) (Zz Qq) #[rfl,rfl,rfl,rfl])) (QT 6 Gp.nd) (by exact(Qy (Zb (PW.pt<|UQ (Zx VY (Q9 QA (QV<|pv 0)<|pv 6) Qx<|Zi _)<|Ge<|Wz<|Zp4 (Vo hr) (Q9 QA (QV<|pv 0)<|pv 6)<|pv 2) (Qw (Bh (Vo hr) (pv 2) (Q9 QA (QV<|pv 0)<|pv 6) (pv 6) rfl)
 (Qy<|Zp<|V1 zP zS zT V7 (pv 4)<|Qu (Q9 QA (QV<|pv 0)<|pv 6) Qq)) Za)))))))
 (Qy<|QP 3 Gp.nd<|pv 4))))
 (Qy<|QK<|pv 2)))),?_]
  show QB K _ [_,_,_,_,_,_,_] _
  walk_at"x";refine QL (Mw (Oq (d:=.none) Qp WY) λv=>QL (Yo (ZW (QS Qp Z2) G6) (GK 3 rfl ?_)));walk_at"d";have bnd:∀es,Tree L G q es->es.length<=2*L.length+1:=λes t=>by have:=t.len;rwa[FA]at this
  refine QL (DB (λm J=>∃(es:Got Nd) (B:List Nd) (u4 u5 Z:Option OT),Tree L G q es/\(∀n∈B,n∈Zd es)/\U8 L G es B/\m=2*(2*L.length+2-es.length)+(if B=[] then 0 else 1)/\
   J=[zz<|Vm P w C N,zf<|Ze<|nk q,zo v<|VV<|kvG es,zf<|.list<|B.map UC,u4,u5,Z]) _ #[[(q,none)],[q],none,none,none,.root,(λn u=>by simpa [Zd] using u),?d0,rfl,rfl] ?ws)
  case d0=>
   intro e m n r h1 h2 h3 h4 h5 h6;have:m=q:=by simpa [Zd] using h5
   exact Xv (by exact this▸Xb) h6
  case ws=>
   rintro m _ ⟨es,B,u4,u5,Z,tr,sb,dn,rfl,rfl⟩;refine#[_,Eu Qp,λc=>?_,λc=>?_]
   .have R:B≠[]:=λz=>by rw[z]at c;cases c
    rw[Xd R];refine QL (Yo (ZW (ds:=[]) Z2<|by decide) ?_);walk_at"d";refine QL (Ya (λi J=>∃(W:Got Nd) (U:List Nd) (u5 Z:Option OT),ReachI L G q es W (B.drop i) U/\
     J=[zz<|Vm P w C N,zf<|Ze<|nk q,zo v<|VV<|kvG W,zf<|.list<|B.map UC,some<|.ol<|U.map UC,u5,Z]) (Ja Qp) #[es,[],_,_,#[tr,(by rintro n ⟨⟩),λn u=>u,by rw[List.drop_zero,Xx];exact dn,by simp],rfl] ?st ?fin)
    case fin=>
     rintro _ ⟨W,U,w5,w6,I,rfl⟩;rw[Xj]at I;have dn':=I.done;rw[List.drop_length,ME]at dn';refine GK 4 rfl<|ZF Qp ?_;walk_at"d";refine#[2*(2*L.length+2-W.length)+(if U=[] then 0 else 1),?_,W,U,_,_,_,I.tree,I.fin,dn',rfl,rfl];have b1:=bnd W I.tree;have b2:=I.len
     by_cases z:U=[]
     .rw[Xe z];rw[z]at b2;simp at b2;lia
     .rw[Xd z];have:0<U.length:=HE.mpr z;lia
    case st=>
     rintro i d _ hd ⟨es1,fu1,w5,w6,I1,rfl⟩;have E:i<B.length:=by
      have:=(Xc.mp hd).1;simpa using this
     obtain rfl:d=UC B[i]:=by simpa [E] using hd.symm
     have S:=Sy E;generalize B[i]=x at S;refine#[_,Zr,?_];walk_at"d";refine Ya (λj J=>∃(g:Got Nd) (D:List Nd) (Z:Option OT),ReachI L G q es g (B.drop i) D/\
      (∀(k:Nat) (n:Nd) (r:Int),(k:Int)∈((QX N.leav<|nk x).getD []).take j->hdE L k=some n->rmE L G k=some r->0<r->n∈Zd g)/\
      J=[zz<|Vm P w C N,zf<|Ze<|nk q,zo v<|VV<|kvG g,zf<|.list<|B.map UC,some<|.ol<|D.map UC,zf<|UC x,Z]) (Ja<|OO H1.net rfl Qp) #[es1,fu1,_,I1,(λk n r hk=>by simp at hk),rfl] ?st2 ?fin2
     case fin2=>
      rintro _ ⟨g,D,w6,M,p,rfl⟩;refine#[g,D,_,_,#[M.tree,M.fin,M.sub,?_,M.len],rfl];rw[Xj,Jr]at p;intro e m n r h1 h2 h3 h4 h5 h6;by_cases z:m=x
      .subst z;exact p e n r ((h.leav m (e:Int)).mpr #[e,rfl,h1]) h2 h3 h4
      .refine M.done e m n r h1 h2 h3 h4 h5 ?_;rw[S,BD,Xf,not_or];exact#[z,h6]
     case st2=>
      rintro j d2 _ F ⟨g,D,w6,M,p,rfl⟩;have hj:=by
       have:=(Xc.mp F).1;simpa using this
      apply At ((h.leav x _).mp (Wb hj));intro k ek tk;obtain rfl:=by
       rw[Xy,XW hj]at F;rw[ek]at F;simpa using F.symm
      obtain⟨y,hy⟩:∃y,L[k/2]?=some y:=by
       unfold tlE at tk;cases z:L[k/2]? with
       |none=>rw[z]at tk;cases tk
       |some y=>exact#[y,rfl]
      obtain⟨n,u⟩:∃n,hdE L k=some n:=⟨_,by unfold hdE;rw[hy];rfl⟩;obtain⟨r,Q⟩:∃r,rmE L G k=some r:=⟨_,by unfold rmE;rw[hy];rfl⟩;have ea:atI (N.ends.map Ze) (k:Int)=some (Ze<|nk n):=VM (by rw[h.ends,Yg,Xy,Nk,u];rfl);have tks:((QX N.leav<|nk x).getD []).take (j+1)=((QX N.leav<|nk x).getD []).take j++[(k:Int)]:=by rw[JM,XW hj,ek];rfl
      have bes:=bnd g M.tree;have ben:=M.len;refine#[_,Zr,?_];walk_at"d";refine Zf (UN (Zc<|ZI (NB H1.net rfl Qp (VM (by rw[Xy,h.rooms,Bn,Q];rfl))) Q2) λ_=>ZH<|ZnY ((λe0 e6=>TW H1.net e0 (Qp e6) ea) rfl rfl) rfl) (λc=>?_) (λc=>Zl ?_)
      .rw[Md]at c;have c2:=by simpa using (Bool.and_eq_true_iff.mp c).2
       refine QL (ZrG rfl Qp ((λe0 e6=>TW H1.net e0 (Qp e6) ea) rfl rfl) (by rw[show(kvG g).length=g.length from Xj _];exact Vh<|#[]) ?_);walk_at"d";rw[ZrT c2];refine Bw rfl ((λe0 e6=>TW H1.net e0 (Qp e6) ea) rfl rfl) (by rw[Xj];lia)<|#[g++[(n,some k)],D++[n],_,#[M.tree.add c2 u tk (M.sub x (sb x<|List.mem_of_mem_drop<|by rw[S];exact Xb)) Q (XX (Bool.and_eq_true_iff.mp c).1),λz O=>?_,λz O=>U1.mpr<|.inl<|M.sub z O,?_,by simp;lia],λk' n' r' X q1 q2 q3=>?_,by rw[XL];rfl]
       .rcases Xz.mp O with O|O
        .exact U1.mpr (.inl<|M.fin z O)
        .exact U1.mpr (.inr<|by simpa using O)
       .exact M.done.add n (some k)
       .rw[tks]at X;rcases Xz.mp X with z|z
        .exact U1.mpr (.inl<|p k' n' r' z q1 q2 q3)
        .have:k'=k:=by have:=Xi.mp z;lia
         subst this;rw[u]at q1;cases q1;exact U1.mpr (.inr rfl)
      .rw[Md]at c;refine#[g,D,_,M,λk' n' r' X q1 q2 q3=>?_,rfl];rw[tks]at X;rcases Xz.mp X with z|z
       .exact p k' n' r' z q1 q2 q3
       .have:k'=k:=by have:=Xi.mp z;lia
        subst this;rw[u]at q1;rw[Q]at q2;cases q1;cases q2;apply Classical.byContradiction;intro hq;simp[q3,hq]at c
   .have R:B=[]:=by
     cases B with
     |nil=>rfl
     |cons a b=>cases c
    subst R;exact Nh rfl #[v,es,rfl,tr,dn.closed]
def Jw(w:Qk):Qd:=w.map λ(e:Nat)=>PyData.int (e:Int)
def Fy{es:Got Nd}{w:Qk}(b:Back dx es n w):Y4 (kvG es) (nk n)=some (GC w.head?):=by
 rw[NT];cases b with
 |nil h=>rw[h];rfl
 |cons h t b=>rw[h];rfl
def Pj{b:Lay Nd}{e:Nat}{r:Int}(h:rmE b φ e=some r):e<2*b.length:=by
 unfold rmE at h;cases z:b[e/2]? with
 |none=>rw[z]at h;cases h
 |some x=>have:=(Xc.mp z).1;lia
def T7{s:Nd}{es:Got Nd}{w:Qk}(q:WayOk dx φ s es n w):w.length<=2*dx.length:=by
 have:=Rc q.nodup λe c=>by
  exact At (q.room e c) λr b _=>XN.mpr (Pj b)
 simpa using this
inductive R_way(P:Program)(w:World)(C:Addr):List OT->(OT->Prop)->Prop
 |mk {N:QF}{dx:Lay Nd}{φ:Zs Nd}{s n:Nd}{es:Got Nd}{wy:Qk}(h:NetR N dx φ)(l:dx.length<400)(q:WayOk dx φ s es n wy):R_way P w C [.zow<|Vm P w C N,.zow<|G1<|kvG es,.fz<|Ze<|nk n] (λr=>r=.ol (Jw wy))
def Hm:Qo ["self","edges","end","way","edge"] ZaN (QG Se):=by walk_at"p"
def AX(T:Bl mg)(o:Tx K mg C gS gE)(CH:Mf K C "way_to" "Net.way_to" Se ZaN):Z8 P w K mg base C "way_to" ZaN 1 (Zm K<|R_way P w C):=by
 refine CH.evD Hm (λf ts r h H x k A outer s L=>?_);cases h with
 |@mk N Y p u n es v h l q=>
  refine#[_,(Qw (QP 3 Hm.nd<|Zz Qq)
 (Qw (QP 4 Hm.nd<|Gg (Vo L) (pv 1) (pv 2) λ_ _=>rfl)
 (Qw (DF zN (Wz<|Ib<|pv 4) (Qw (Zp<|V1 zP zS zT V7 (pv 3)<|av 4 Qq)
 (Qy<|QP 4 Hm.nd<|Gg (Vo L) (pv 1) (Q9 QA (QV<|pv 0)<|QW K6 (pv 4) Qx) λ_ _=>rfl)))
 (Qy<|QK<|pv 3)))),?_]
  try dsimp only[VE]
  have t:=T7 q;refine QL (Yo (ZW Z2<|by decide) (QL (ZF (TC rfl Qp<|Fy q.back) (QL (DB (λm J=>∃(j g:Qk) (B:Nd),m=g.length/\j++g=v/\Back Y es B g/\J=[zz<|Vm P w C N,some _,zf<|Ze<|nk n,some<|.ol<|Jw j,zf<|GC g.head?]) v.length #[[],v,n,rfl,rfl,q.back,rfl] ?ws)))))
  case ws=>
   rintro m _ ⟨j,g,B,rfl,y,b,rfl⟩;refine#[_,ZH<|P9 Qp,λc=>?_,λc=>?_]
   .cases b with
    |nil W=>cases c
    |@cons _ D e i W M b0=>
     have d:j.length<1000:=by
      grind
     refine QL (Bw rfl Qp (by unfold Jw;rw[Xj];exact d) ?_);have X:atI (N.ends.map Ze) (Builtin.bitXor (e) 1)=some (Ze<|nk D):=by
      rw[RN];exact VM (by rw[h.ends,Yg,Xy,ZoW,M];rfl)
     refine ZF (TC rfl (TW o.net rfl (ZD Qp Q2) X)<|Fy b0) ?_;walk_at"d";refine#[i.length,JN _,j++[e],i,D,rfl,by rw[<- y,BG];rfl,b0,?_];unfold Jw;rw[XL];rfl
   .have:g=[]:=by
     cases g with
     |nil=>rfl
     |cons a b=>cases c
    subst this;rw[Xx]at y;subst y;exact Dx rfl rfl
def amt(b:Lay Nd)(φ:Zs Nd)(w:Qk):Int:=Wf (w.map λe=>(rmE b φ e).getD 0)
inductive R_push:QF->List OT->(QF->Prop)->Prop
 |mk {N:QF}{dx:Lay Nd}{φ:Zs Nd}{wy:Qk}(h:NetR N dx φ)(hd:Dis dx)(ne:wy≠[])(hin:∀e∈wy,∃r,rmE dx φ e=some r)(hl:wy.length<900):R_push N [.fz<|.list<|Jw wy] (λN'=>NetR N' dx<|Wv dx (amt dx φ wy) φ wy)
def NetR.rm{N:QF}(h:NetR N dx φ)(he:e<2*dx.length):∃r,N.rooms[e]?=some r/\(Yp dx φ)[e]?=some r:=by
 have:e<(Yp dx φ).length:=by rw[Ru];exact he
 exact#[_[e],by rw[h.rooms,XW this],XW this]
def NetR.push{N:QF}(h:NetR N dx φ)(b:Dis dx)(f:(Yp dx φ)[e]?=some r)(c:(Yp dx φ)[Zhq e]?=some r'):NetR { N with rooms:=(N.rooms.set e<|r-a).set (Zhq e) (r'+a) } dx (YD dx a φ e):=
 #[h.ends,by show(N.rooms.set e _).set _ _=_;rw[h.rooms,Zoo b f c],h.leav,h.laid,h.laid0,h.l1,h.l2,h.l3]
def Zoh{c:Lay Nd}{a:Int}{φ:Zs Nd}{b:Qk}{e:Nat}(h:b[i]?=some e):Wv c a φ (b.take<|i+1)=YD c a (Wv c a φ<|b.take i) e:=by
 have t:b.take (i+1)=b.take i++[e]:=by rw[JM,h];rfl
 rw[t];unfold Wv;rw[List.foldl_append];rfl
def RE:Qo ["self","way","amount","edge"] ["self","way"] (QG Ha):=by walk_at"p"
def IF(T:Bl mg)(k:Tx K mg C gS gE)(CH:Mf K C "push" "Net.push" Ha ["self","way"]):Z8 P w K mg base C "push" ["self","way"] 1 (spN K P w C R_push):=by
 refine CH.evN RE (λf v M ts Ψ h H S G A outer s Q=>?_);cases h with
 |@mk y W b h p l L R=>
  refine#[_,(Qw (QP 2 RE.nd<|Zw EN (by rfl) T.min Me<|Qu (Wg (NX:=["self","way","amount","edge"]) (sc:=QG Ha) (N:=["edge","self"]) (f:=[none,some 0]) rfl (by decide +kernel) rfl rfl (YZ<|pv 1) (λ_=>(QT 0 (show(["edge","self"]:Qh).Nodup by decide +kernel))) (λ_=>Yf) (λ_=>J8) λ_=>(Q9 QA (QV<|pv 1)<|pv 0)) Qq)
 (Qy (Vu zN rfl (by exact(YZ<|pv 1)) (QT 3 RE.nd) (by exact(Qw (Bg (QV<|pv 0) (pv 3) Br (pv 2) AV VU)
 (Qy<|Bg (QV<|pv 0) (QW K6 (pv 3) Qx) Br (pv 2) Mg VU)))))),?_]
  show QB K _ [_,_,_,_] _
  walk_at"x";refine QL (ZF (d:=.int (amt y W b)) (Zor 0 rfl rfl (Eg (Qr.cast (EvO.fz<|BQ (xs:=b) (enc:=λ(e:Nat)=>PyData.int<|e) (h:=λe=>.int<|(rmE y W e).getD 0) ?ei #[] ?el)<|by rw[Yg];rfl) rfl (λz=>l<|List.map_eq_nil_iff.mp z))) ?_)
  case ei=>exact Ja Qp
  case el=>
   refine λe o c=>#[_,Zr,?_];obtain⟨r,D⟩:=L e o;exact Qr.cast (NB (m:=r) k.net rfl Qp (VM (by rw[Xy,h.rooms,Bn,D];rfl))) (by rw[D];rfl)
  generalize amt y W b=a;refine Ya (λi J=>∃(B:QF) (X:Option OT),NetR B y (Wv y a W<|b.take i)/\J=[zo v<|Zt P w C B,zf<|.list<|Jw b,zi a,X]) (Ja Qp) #[M,_,h,rfl] ?st ?fin
  case fin=>
   rintro _ ⟨B,X,j,rfl⟩;unfold Jw at j;rw[Xj,Jr]at j;exact#[B,j,rfl]
  case st=>
   rintro i d _ g ⟨B,X,j,rfl⟩;have E:=by
    have:=(Xc.mp g).1;unfold Jw at this;simpa using this
   obtain rfl:d=.int (b[i]):=by
    unfold Jw at g;simpa [E] using g.symm
   obtain⟨I,Y⟩:=L b[i] (Wb E);have el:=Pj Y;rw[Zoh<|XW E];generalize b[i]=e at el;have F:Zhq e<2*y.length:=by unfold Zhq;split<;>lia
   have n:Zhq e≠e:=by unfold Zhq;split<;>lia
   exact At (My.NetR.rm j el) λr x u=>At (My.NetR.rm j F) λO t q=>#[_,Zr,QL (Fc k.net rfl (Qp rfl) #[] (x) (Qp rfl) (Fc k.net rfl (Qr.cast (ZD (Qp rfl) Q2)<|by rw[RN]) #[] (by show(B.rooms.set e<|r-a)[Zhq e]?=_;rw[Xp<|Ne.symm n];exact t) (Qp rfl)<|#[_,_,My.NetR.push j p u q,rfl]))]
inductive R_fill:QF->List OT->(QF->Prop)->Prop
 |mk {N:QF}{y:Yd}{G:Gv}{φ:Zs Nd}(h:NetR N (Zv y G) φ)(F:Flow y G φ)(l:(Zv y G).length<400):R_fill N [.fz<|Ze<|nk .start,.fz<|Ze<|nk .fin] (λN'=>∃φ' es,NetR N' (Zv y G) φ'/\Flow y G φ'/\Nd.start∈Zd es/\Y6 (Zv y G) φ' es/\Nd.fin∉Zd es)
def RK:Qo ["self","start","end","edges"] Zau (QG Rs):=by walk_at"p"
def Eh(T:Bl mg)(k:Tx K mg C gS gE)(CH:Mf K C "fill" "Net.fill" Rs Zau)(W:Z8 P w K mg base C "reached" ZaU 1 (Zm K<|R_reached P w C))(E:Z8 P w K mg base C "push" ["self","way"] 1 (spN K P w C R_push))(x:Z8 P w K mg base C "way_to" ZaN 1 (Zm K<|R_way P w C)):
 Z8 P w K mg base C "fill" Zau 2 (spN K P w C R_fill):=by
 refine CH.evN RK (λf v M ts Ψ h H hi cdv A outer s N=>?_);cases h with
 |@mk y G b h F l=>
  refine#[_,(Qw (QP 3 RK.nd<|YW W k.net N (pv 0)<|av 1 Qq)
 (Qy (DF zN (Wz<|UT (Vo N) (pv 2)<|pv 3) (Qw (Zp<|YW E k.net N (pv 0)<|Qu (YW x k.net N (pv 0)<|av 3<|av 2 Qq) Qq)
 (Qy<|QP 3 RK.nd<|YW W k.net N (pv 0)<|av 1 Qq))))),?_]
  try dsimp only[VE]
  have VS:∀{M:QF} {b:Zs Nd} {u:Option OT} {E':XK},NetR M (Zv y G) b->Z5 K (ZQ C "reached" (Zm K<|R_reached P w C) [] E' (Q3 0)<|QE (Q3 1) QJ) [zo v<|Zt P w C M,zf<|Ze<|nk .start,zf<|Ze<|nk .fin,u] _:=λh'=>
   R3 0 rfl (by rintro r ⟨v',es,rfl,_⟩;exact Zrp<|Zr9 es) (N4 FS rfl (Qv (Qp rfl) Q5)<|R_reached.mk h' l)
  refine QL (Jb (VS h) λr i=>?_);obtain⟨D,es,rfl,L,Y⟩:=i;refine DB (λm J=>∃(M:QF) (b:Zs Nd) (es:Got Nd) (D:V),NetR M (Zv y G) b/\Flow y G b/\Tree (Zv y G) b .start es/\Y6 (Zv y G) b es/\m=(Q4 G.wa G.m-VW (Zv y G) b .start).toNat/\
   J=[zo v<|Zt P w C M,zf<|Ze<|nk .start,zf<|Ze<|nk .fin,zo D<|VV<|kvG es]) _ #[M,b,es,D,h,F,L,Y,rfl,rfl] ?ws
  clear L Y es D h F;rintro m _ ⟨M,b,es,D,h,F,L,Y,rfl,rfl⟩;refine#[_,ZH<|Ia Qp rfl,λc=>?_,λc=>?_]
  .rw[Md]at c;obtain⟨X,q⟩:=L.way .fin (XX c);have wl:=T7 q;have B:X≠[]:=λz=>by
    have:=q.chain;rw[z]at this;cases this
   refine Ly 3 rfl ?_;walk_at"d";refine QL (Uw O6 rfl (Ae (R3 0 rfl (λr e=>by subst e;exact D1 (λd Z=>by
    apply At (XH.mp Z);rintro e _ rfl;exact#[_,rfl]))<|N4 Ek rfl (Dl rfl (Qv Qp Q5))<|R_way.mk h l q) λr e=>#[_,e,rfl]) λts o=>?_)
   subst o;refine#[_,R_push.mk h (DM y G) B (λe j=>let ⟨r,a,_⟩:=q.room e j;#[r,a])<|#[],λN' I=>?_];walk_at"d";obtain⟨S,R⟩:=Rb (ns:=X.map λe=>(rmE (Zv y G) b e).getD 0) (λz=>B<|List.map_eq_nil_iff.mp z);have a0:0<amt (Zv y G) b X:=by
    refine At (XH.mp S) λe j ee=>At (q.room e j) λr g U=>?_;rw[g]at ee;show 0<Wf _
    simp_all
   obtain⟨O,nd⟩:=F.push (a:=amt (Zv y G) b X) #[] q.chain q.nodup (λe j=>by
    refine At (q.room e j) λr g _=>#[r,g,?_];have:=R _ (XH.mpr #[e,j,rfl]);rwa[g]at this)
   refine Jb (VS I) (λr i=>?_);obtain⟨Q,p,rfl,n,t⟩:=i;refine#[_,?_,N',_,p,Q,I,O,n,t,rfl,rfl];have:=O.most;lia
  .rw[Md]at c;exact#[M,#[b,es,h,F,L.start,Y,BH c],rfl]
structure GOk(y:Yd)(g:Gs):Prop where
 ln:g.line<y.ls.length
 w0:0<=g.want
 m0:0<=g.most
def AE{y:Yd}{g:Gs}(h:g.Ok y):GOk y g:=#[h.ln,by have:=h.w1;lia,by have:=h.m1;lia]
def Q0(gs:List Gs):Gv:={ m:=gs.length,ln:=λk=>(gs.getD k default).line,wa:=λk=>(gs.getD k default).want,mo:=λk=>(gs.getD k default).most,th:=λk t=>Vk (gs.getD k default) (t:Int) }
def UZ{gs:List Gs}(h:k<gs.length):gs.getD k default=gs[k]:=by simp[List.getD,h]
def Op(y:Yd)(G:Gv)(k:Nat):(Vw y G k).length<=1+y.T:=by
 unfold Vw;rw[WG];have:∀n,((List.range n).flatMap λt=>if G.th k t=true then [((.guest k,.line (G.ln k) t,G.mo k):Nd×Nd×Int)] else []).length<=n:=by
  intro n;induction n with
  |zero=>simp
  |succ n b=>
   rw[YK,MG,Xn];have:([n].flatMap λt=>if G.th k t=true then [((.guest k,.line (G.ln k) t,G.mo k):Nd×Nd×Int)] else []).length<=1:=by
    simp only[List.flatMap_cons,List.flatMap_nil,Xx];split<;>simp
   lia
 have:=this y.T;lia
def Oz{y:Yd}(h:1<=y.ls.length)(t:Nat):(Yh y t).length=y.ls.length:=by
 unfold Yh;rw[WG];have:∀n,((List.range n).flatMap λi=>[((.line (i+1) t,.line (Mir.upN y<|i+1) t,ZG y (i+1) t):Nd×Nd×Int)]).length=n:=by
  intro n;induction n with
  |zero=>simp
  |succ n b=>rw[YK,MG,Xn,b];simp
 rw[this];lia
theorem M0{f:Nat->Lay Nd}{c:Nat}(h:∀k,(f k).length<=c):∀n,((List.range n).flatMap f).length<=n*c
 |0=>by simp
 |n+1=>by
  rw[YK,MG,Xn];have a:=M0 h n;have b:([n].flatMap f).length<=c:=by simpa using h n
  lia
def M7(f:Nat->Lay Nd)(n:Nat):(List.range<|n+1).flatMap f=(List.range n).flatMap f++f n:=by rw[YK];simp
def N5{f:Nat->Lay Nd} : x∈(List.range n).flatMap f ↔ ∃k,k<n/\x∈f k:=by
 simp_all
def Hc{y:Yd}(b:y.Ok)(G:Gv)(h:n<=8):((List.range n).flatMap (Vw y G)).length<=72:=by
 have a:=M0 (f:=Vw y G) (c:=9) (λk=>by have:=Op y G k;have:=b.t8;lia) n;lia
def Rj{y:Yd}(b:y.Ok)(h:n<=8):((List.range n).flatMap (Yh y)).length<=40:=by
 have a:=M0 (λk=>by rw[Oz b.l1 k];exact b.l5) n;lia
inductive R_gnode:List OT->OT->Prop
 |mk {k:Nat}:R_gnode [.fz<|.int (k:Int)] (.fz<|Ze<|nk<|.guest k)
def ZjK:Qo ZaX ZaX (QG Sf):=by walk_at"p"
def Zrz(T:Bl mg)(CH:Df K mg "guest_node" Sf ZaX):QC P w K mg base "guest_node" ZaX 1 (QQ (K:=K) R_gnode):=by
 refine CH.ev ZjK (λf ts r h H g b A outer s c=>?_);cases h with
 |@mk k=>
  exact#[_,(Qy<|QK<|Yq<|Qu Vd<|av 0 Qq),Vq (Yn (QS V2<|QS Qp Z2)<|by show(2)<=1000;decide) rfl]
inductive R_lnode:List OT->OT->Prop
 |mk {l t:Nat}:R_lnode [.fz<|.int (l:Int),.fz<|.int (t:Int)] (.fz<|Ze<|nk<|.line l t)
def ZkC:Qo ZaK ZaK (QG RO):=by walk_at"p"
def Zrr(T:Bl mg)(CH:Df K mg "line_node" RO ZaK):QC P w K mg base "line_node" ZaK 1 (QQ (K:=K) R_lnode):=by
 refine CH.ev ZkC (λf ts r h H g b A outer s c=>?_);cases h with
 |@mk l t=>
  exact#[_,(Qy<|QK<|Yq<|Qu Vd<|av 0<|av 1 Qq),Vq (Yn (QS V2<|QS Qp<|QS Qp Z2)<|by show(3)<=1000;decide) rfl]
inductive R_lguest:QF->List OT->(QF->Prop)->Prop
 |mk {N:QF}{y:Yd}{gs:List Gs}{k:Nat}(ok:y.Ok)(g8:gs.length<=8)(hk:k<gs.length)(h:NetR N ((List.range k).flatMap (Vw y<|Q0 gs)) WR):
  R_lguest N [.fz<|QH y,.fz<|.int (k:Int),.fz<|QZ gs[k]] (λN'=>NetR N' ((List.range<|k+1).flatMap (Vw y<|Q0 gs)) WR)
def Cs:Qo ["net","yard","number","guest","turn"] Zaf (QG RG):=by walk_at"p"
def ZqF(T:Bl mg)(o:Tx K mg C gS gE)(CH:Df K mg "lay_guest" RG Zaf)(a:Z8 P w K mg base C "lay" Zae 2 (spN K P w C R_lay))(I:QC P w K mg base "want_of" ZaD 1 (QQ (K:=K) R_want))(e:QC P w K mg base "guest_node" ZaX 1 (QQ (K:=K) R_gnode))
(Q:QC P w K mg base "turns_of" ZaI 1 (QQ (K:=K) R_turns))(F:QC P w K mg base "is_there" Zay 1 (QQ (K:=K) R_there))(E:QC P w K mg base "most_of" ZaD 1 (QQ (K:=K) R_most))(O:QC P w K mg base "line_node" ZaK 1 (QQ (K:=K) R_lnode))(G:QC P w K mg base "line_of" ZaD 1 (QQ (K:=K) R_lineof)):
 QC P w K mg base "lay_guest" Zaf 3 (spN K P w C R_lguest):=by
 refine CH.evN Cs (λf v M ts Ψ h H hi cdv A outer s m=>?_);cases h with
 |@mk y b k R g8 U h=>
  refine#[_,(Qw (Zp<|YW a o.net m (pv 0)<|Qu (Yc (v:=.ref _) rfl o.mSTART rfl)<|Qu (QI e m<|av 2 Qq)<|Qu (QI I m<|av 3 Qq) Qq)
 (Qy<|Vu zN rfl (by exact(Wm rfl T.range<|Qu (QI Q m<|av 1 Qq) Qq)) (QT 4 Cs.nd)<|by exact(Qy<|Zb (ZO<|QI F m<|av 3<|av 4 Qq) (Qy<|Zp<|YW a o.net m (pv 0)<|Qu (QI e m<|av 2 Qq)<|Qu (QI O m<|Qu (QI G m<|av 3 Qq)<|av 4 Qq)<|Qu (QI E m<|av 3 Qq) Qq) Za))),?_]
  show QB K _ [_,_,_,_,_] _;have t8:=R.t8;have gl:=Hc R (Q0 b) (n:=k) #[];have l:=UZ U;have ew:(Q0 b).wa k=b[k].want:=by show(b.getD k default).want=_;rw[l]
  refine QL (Uw (ΦA:=λts=>ts=[.fz<|Ze<|nk .start,.fz<|Ze<|nk<|.guest k,.fz<|.int b[k].want]) D3 rfl (Jz (Qv (NH o.aS)<|Qv (Zk (Qv Qp Q5) R_gnode.mk)<|Qv (Zk (Qv Qp Q5) R_want.mk) Q5) rfl) λts L=>?_);subst L;refine#[_,R_lay.mk h ?n0<|#[],λN1 u=>?_]
  case n0=>
   refine λr=>At (XH.mp r) λx g z=>At ((λx g=>N5.mp g) x g) λj Z g=>?_;injection z with D B;rcases W7.mp g with rfl|⟨t,_,_,rfl⟩
   .injection B with B;lia
   .cases D
  refine Ya (ds:=VA 0 y.T) (λi J=>∃(N:QF) (p:Option OT),NetR N ((List.range k).flatMap (Vw y<|Q0 b)++((.start,.guest k,(Q0 b).wa k)::(List.range i).flatMap λt=>if (Q0 b).th k t=true then [(.guest k,.line ((Q0 b).ln k) t,(Q0 b).mo k)] else [])) WR/\
   J=[zo v<|Zt P w C N,zf<|QH y,zf<|.int<|k,zf<|QZ b[k],p]) ?ei #[N1,none,by rw[ew];exact u,rfl] ?st ?fin
  case ei=>exact EvI.cast (W5 (Qv (Zk (Qv Qp Q5) R_turns.mk) Q5) (by rw[z62];lia)<|by rw[z62];lia) (JG rfl #[])
  case fin=>
   rintro _ ⟨N,p,X,rfl⟩;rw[JD]at X;refine#[N,?_,rfl];rw[M7];exact X
  case st=>
   rintro t d _ hd ⟨N,p,X,rfl⟩;obtain⟨ht,rfl⟩:=W6 hd;rw[JP];refine#[_,Zr,?_];walk_at"d";have et:Vk b[k] (t)=(Q0 b).th k t:=by show _=Vk (b.getD k default) (t);rw[l]
   refine Zf (QO.cast (ZH<|Zk (Qv Qp<|Qv Qp Q5) R_there.mk) et) (λc=>?_) (λc=>Zl ?_)
   .refine Uw D3 rfl (Jz (Qv (Zk (Qv Qp Q5) R_gnode.mk)<|Qv (Zk (Qv (Zk (Qv Qp Q5) R_lineof.mk)<|Qv Qp Q5) R_lnode.mk)<|Qv (Zk (Qv Qp Q5) R_most.mk) Q5) rfl) (λts L=>?_);subst L;refine#[_,R_lay.mk X ?n1 ?l1,λN2 W=>?_]
    case n1=>
     intro r;apply At (XH.mp r);intro x g z;injection z with D B;rcases Xz.mp g with g|g
     .apply At ((λx g=>N5.mp g) x g);intro j Z g;rcases W7.mp g with rfl|⟨S,_,_,rfl⟩
      .cases D
      .injection D with D;lia
     .rcases Xf.mp g with rfl|g
      .cases D
      .apply At (HJ.mp g);intro S q g;split at g
       .rw[Xi.mp g]at B;injection B with _ B;have:=XN.mp q;lia
       .cases g
    case l1=>
     rw[Xn];have:(((.start,.guest k,(Q0 b).wa k):Nd×Nd×Int)::(List.range t).flatMap λt=>if (Q0 b).th k t=true then [((.guest k,.line ((Q0 b).ln k) t,(Q0 b).mo k))] else []).length<=1+t*1:=by
      rw[WG];have:=M0 (f:=λt=>if (Q0 b).th k t=true then [((.guest k,.line ((Q0 b).ln k) t,(Q0 b).mo k))] else []) (c:=1) (λt=>by split<;>simp) t;lia
     lia
    refine#[N2,_,?_,rfl];rw[M7,Xe c];have D:(Q0 b).ln k=b[k].line:=by show(b.getD k default).line=_;rw[l]
    have B:(Q0 b).mo k=b[k].most:=by show(b.getD k default).most=_;rw[l]
    rwa[<- D,<- B,BG]at W
   .refine#[N,_,?_,rfl];rw[M7,Xd<|by rw[c];decide,Xx];exact X
inductive R_lturn:QF->List OT->(QF->Prop)->Prop
 |mk {N:QF}{y:Yd}{G:Gv}{t:Nat}(ok:y.Ok)(g8:G.m<=8)(ht:t<y.T)(h:NetR N ((List.range G.m).flatMap (Vw y G)++(List.range t).flatMap (Yh y)) WR):
  R_lturn N [.fz<|QH y,.fz<|.int (t:Int)] (λN'=>NetR N' ((List.range G.m).flatMap (Vw y G)++(List.range<|t+1).flatMap (Yh y)) WR)
def Co:Qo ["net","yard","turn","line"] ZaQ (QG RB):=by walk_at"p"
def Zrs(T:Bl mg)(a:Tx K mg C gS gE)(CH:Df K mg "lay_turn" RB ZaQ)(W:Z8 P w K mg base C "lay" Zae 2 (spN K P w C R_lay))(X:QC P w K mg base "bound_at" ZaB 1 (QQ (K:=K) R_bound))(D:QC P w K mg base "line_node" ZaK 1 (QQ (K:=K) R_lnode))
(Q:QC P w K mg base "line_count" ZaI 1 (QQ (K:=K) R_count))(O:QC P w K mg base "above_of" ZaJ 1 (QQ (K:=K) R_above)):QC P w K mg base "lay_turn" ZaQ 3 (spN K P w C R_lturn):=by
 refine CH.evN Co (λf v M ts Ψ h H hi cdv A outer s g=>?_);cases h with
 |@mk y G t m Z ht h=>
  refine#[_,(Qw (Zp<|YW W a.net g (pv 0)<|Qu (QI D g<|Qu Qx<|av 2 Qq)<|Qu (Yc (v:=.ref _) rfl a.mEND rfl)<|Qu (QI X g<|av 1<|Qu Qx<|av 2 Qq) Qq)
 (Qy<|Vu zN rfl (by exact(Fb rfl T.range<|Qu Qx<|Qu (QI Q g<|av 1 Qq) Qq)) (QT 3 Co.nd)<|by exact(Qy<|Zp<|YW W a.net g (pv 0)<|Qu (QI D g<|av 3<|av 2 Qq)<|Qu (QI D g<|Qu (QI O g<|av 1<|av 3 Qq)<|av 2 Qq)<|Qu (QI X g<|av 1<|av 3<|av 2 Qq) Qq))),?_]
  show QB K _ [_,_,_,_] _
  walk_at"x";have t8:=m.t8;have l1:=m.l1;have l5:=m.l5;have gl:=Hc m G Z;have tl:=Rj m (n:=t) #[];have N:∀x∈(List.range G.m).flatMap (Vw y G)++(List.range t).flatMap (Yh y),(∃j,x∈Vw y G j)\/∃e,e<t/\x∈Yh y e:=λx b=>by
   rcases Xz.mp b with b|b
   .exact At (N5.mp b) λj _ b=>.inl #[j,b]
   .exact At (N5.mp b) λj S b=>.inr #[j,S,b]
  refine QL (Uw (ΦA:=λts=>ts=[.fz<|Ze<|nk<|.line 0 t,.fz<|Ze<|nk .fin,.fz<|.int<|ZG y 0 t]) D3 rfl (Jz (Qv (Zk (Qv Q2<|Qv Qp Q5)<|R_lnode.mk (l:=0))<|Qv (PD a.aS a.aE)<|Qv (Zk (Qv Qp<|Qv Q2<|Qv Qp Q5)<|R_bound.mk m (by decide) #[] #[]<|#[]) Q5) ?e0) λts B=>?_)
  case e0=>rw[Xr];rfl
  subst B;refine#[_,R_lay.mk h ?n0<|by rw[Xn];lia,λN1 F=>?_]
  case n0=>
   intro r;apply At (XH.mp r);intro x b I;injection I with e1 o;rcases N x b with ⟨j,b⟩|⟨e,q,b⟩
   .rcases W7.mp b with rfl|⟨u,_,_,rfl⟩<;>cases e1
   .rcases JE.mp b with rfl|⟨i,_,rfl⟩
    .injection e1 with _ e1;lia
    .cases o
  refine Ya (ds:=VA 1 (y.ls.length-1)) (λi J=>∃(Y:QF) (p:Option OT),NetR Y (((List.range G.m).flatMap (Vw y G)++(List.range t).flatMap (Yh y))++((.line 0 t,.fin,ZG y 0 t)::(List.range i).flatMap λi=>[(.line (i+1) t,.line (Mir.upN y<|i+1) t,ZG y (i+1) t)])) WR/\
   J=[zo v<|Zt P w C Y,zf<|QH y,zf<|.int<|t,p]) ?ei #[N1,none,by simpa using F,rfl] ?st ?fin
  case ei=>exact EvI.cast (Np (Qv Q2<|Qv (Zk (Qv Qp Q5) R_count.mk) Q5)<|by rw[z62];lia) (JG rfl #[])
  case fin=>
   rintro _ ⟨Y,p,k,rfl⟩;rw[JD]at k;refine#[Y,?_,rfl];rw[M7,<- BG];exact k
  case st=>
   rintro i d _ U ⟨Y,p,k,rfl⟩;obtain⟨E,rfl⟩:=W6 U;have ei:(1:Int)+(i)=((i+1)):=#[]
   rw[ei];refine#[_,Zr,?_];walk_at"d";refine Uw (ΦA:=λts=>ts=[.fz<|Ze<|nk<|.line (i+1) t,.fz<|Ze<|nk<|.line (Mir.upN y<|i+1) t,.fz<|.int<|ZG y (i+1) t]) D3 rfl (Jz (Qv (Zk (Qv Qp<|Qv Qp Q5)<|R_lnode.mk)<|Qv (Zk (Qv (Zk (Qv Qp<|Qv Qp Q5)<|R_above.mk m #[]<|#[])<|Qv Qp Q5)<|R_lnode.mk)<|Qv (Zk (Qv Qp<|Qv Qp<|Qv Qp Q5)<|R_bound.mk m #[] #[] #[]<|#[]) Q5) ?e1) (λts B=>?_)
   case e1=>rw[Xr];rfl
   subst B;refine#[_,R_lay.mk k ?n1 ?l1,λN2 L=>?_]
   case n1=>
    intro r;apply At (XH.mp r);intro x b I;injection I with e1 o;rcases Xz.mp b with b|b
    .rcases N x b with ⟨j,b⟩|⟨e,q,b⟩
     .rcases W7.mp b with rfl|⟨u,_,_,rfl⟩<;>cases e1
     .rcases JE.mp b with rfl|⟨R,_,rfl⟩
      .cases o
      .lia
    .rcases Xf.mp b with rfl|b
     .cases o
     .apply At (HJ.mp b);intro R z b;rw[Xi.mp b]at e1;have:=XN.mp z;lia
   case l1=>
    rw[Xn,Xn,WG];have:=M0 (f:=λi=>[((.line (i+1) t,.line (Mir.upN y<|i+1) t,ZG y (i+1) t))]) (c:=1) (λi=>by simp) i;lia
   refine#[N2,_,?_,rfl];rw[M7];rwa[BG]at L
def Wr(y:Yd)(G:Gv)(φ:Zs Nd):Prop:=Flow y G φ/\∃es:Got Nd,Nd.start∈Zd es/\Y6 (Zv y G) φ es/\Nd.fin∉Zd es
inductive R_filled(P:Program)(w:World)(C:Addr):List OT->(OT->Prop)->Prop
 |mk {y:Yd}{gs:List Gs}(ok:y.Ok)(hg:∀g∈gs,GOk y g)(g8:gs.length<=8):R_filled P w C [.fz<|QH y,.fz<|.list<|gs.map QZ] (λr=>∃v N φ,r=.own v (Zt P w C N)/\NetR N (Zv y<|Q0 gs) φ/\Wr y (Q0 gs) φ)
def Pf{y:Yd}(c:y.Ok)(b:l<y.ls.length)(g:t<y.T):0<=ZG y l t:=by
 rw[DY b];have h:=Bm c b
 have:(Zu y l).bs.getD t 0=(Zu y l).bs[t]'#[]:=by simp[List.getD,show t<(Zu y l).bs.length by lia]
 rw[this];exact(c.bb _ (by simp[Zu,b]) _<|Wb _).1
def IN{y:Yd}(c:y.Ok)(m:∀g∈gs,GOk y g):∀x∈Zv y (Q0 gs),0<=x.2.2:=λx b=>by
 have s:=c.l1;rcases Bo.mp b with ⟨k,j,b⟩|⟨t,f,b⟩
 .have h:GOk y (gs.getD k default):=by rw[UZ j];exact m _ (Wb _)
  rcases W7.mp b with rfl|⟨t,_,_,rfl⟩
  .exact h.w0
  .exact h.m0
 .rcases JE.mp b with rfl|⟨i,E,rfl⟩
  .exact Pf c #[] f
  .exact Pf c #[] f
def MC:Qo ["yard","guests","net","number","guest","turn"] Zac (QG Sg):=by walk_at"p"
def ZoX(T:Bl mg)(L:Tx K mg C gS gE)(CH:Df K mg "filled_net" Sg Zac)(u:HR P w K mg base "Net" C 1)(r:QC P w K mg base "lay_guest" Zaf 3 (spN K P w C R_lguest))(x:QC P w K mg base "turns_of" ZaI 1 (QQ (K:=K) R_turns))
(q:QC P w K mg base "lay_turn" ZaQ 3 (spN K P w C R_lturn))(p:Z8 P w K mg base C "fill" Zau 2 (spN K P w C R_fill)):QC P w K mg base "filled_net" Zac 4 (Zm K<|R_filled P w C):=by
 refine CH.evD MC (λf ts Φ h H hi cdv A outer s M=>?_);cases h with
 |@mk y j B O o=>
  refine#[_,(Qw (QP 2 MC.nd<|Oa u M)
 (Qw (Vu zN rfl (by exact(MB rfl T.enumerate<|av 1 Qq)) (J5 (n:=2) rfl (Zy (QT 3 MC.nd)<|Zy (QT 4 MC.nd) Yz))<|by exact(Qy<|Zp<|QI r M<|av 2<|av 0<|av 3<|av 4 Qq))
 (Qw (Vu zN rfl (by exact(Wm rfl T.range<|Qu (QI x M<|av 0 Qq) Qq)) (QT 5 MC.nd)<|by exact(Qy<|Zp<|QI q M<|av 2<|av 0<|av 5 Qq))
 (Qw (Zp<|YW p L.net M (pv 2)<|Qu (Yc (v:=.ref _) rfl L.mSTART rfl)<|Qu (Yc (v:=.ref _) rfl L.mEND rfl) Qq)
 (Qy<|QK<|pv 2))))),?_]
  walk_at"x";have F:=B.t8;refine QL (Mw Io λv=>QL (Ya (λi J=>∃(m:QF) (Y X:Option OT),NetR m ((List.range i).flatMap (Vw y<|Q0 j)) WR/\J=[zf<|QH y,zf<|.list<|j.map QZ,zo v<|Zt P w C m,Y,X,none]) (Mn<|Qv Qp Q5) #[_,none,none,C2 _,rfl] ?st ?fin))
  case st=>
   rintro i d _ l ⟨m,Y,X,D,rfl⟩;apply At (DX l);rintro a z rfl;have E:=by
    have:=(Xc.mp z).1;simpa using this
   obtain rfl:a=QZ j[i]:=by simpa [E] using z.symm
   refine#[_,WN (Vb Zr<|Vb Zr Wx) rfl,?_];walk_at"d";refine Lr rfl (Jz (Qv Qp<|Qv Qp<|Qv Qp Q5) rfl) (λts c=>?_);subst c;exact#[_,R_lguest.mk B o E D,λW g=>#[W,_,_,g,rfl]]
  case fin=>
   rintro _ ⟨N1,Y,X,N,rfl⟩;rw[DW,Xj]at N;refine QL (Ya (ds:=VA 0 y.T) (λi J=>∃(m:QF) (k:Option OT),NetR m ((List.range (Q0 j).m).flatMap (Vw y<|Q0 j)++(List.range i).flatMap (Yh y)) WR/\J=[zf<|QH y,zf<|.list<|j.map QZ,zo v<|Zt P w C m,Y,X,k]) ?ei2 #[N1,none,by rw[show(List.range 0).flatMap (Yh y)=[] from rfl,Xx];exact N,rfl] ?st2 ?fin2)
   case ei2=>exact EvI.cast (W5 (Qv (Zk (Qv Qp Q5) R_turns.mk) Q5) (by rw[z62];lia)<|by rw[z62];lia) (JG rfl #[])
   case st2=>
    rintro t d _ l ⟨m,k,D,rfl⟩;obtain⟨I,rfl⟩:=W6 l;rw[JP];refine#[_,Zr,Lr rfl (Jz (Qv Qp<|Qv Qp Q5) rfl) (λts c=>?_)];subst c;exact#[_,R_lturn.mk B o I D,λW g=>#[W,_,g,rfl]]
   case fin2=>
    rintro _ ⟨m,k,D,rfl⟩;rw[JD]at D;have G:(Zv y<|Q0 j).length<400:=by
     unfold Zv;rw[Xn];have a:=Hc B (Q0 j) (n:=(Q0 j).m) o;have b:=Rj B F;lia
    refine QL (Uw Oh rfl (Jz (Qv (NH L.aS)<|Qv (PD L.aS L.aE) Q5) rfl) λts c=>?_);subst c;exact#[_,R_fill.mk D (C8<|IN B O) G,λW g=>aT g λe es Z U S R Q=>Nh rfl #[v,W,e,rfl,Z,U,es,S,R,Q]]
def WT(y:Yd)(G:Gv)(φ:Zs Nd):List (Ql):=(List.range G.m).map λk=>(List.range y.T).map λt=>QY G φ t k
def ZoO{y:Yd}(s:k<G.m)(h:t<y.T):BW (Zv y G) φ (.guest k) (.line (G.ln k) t)=QY G φ t k:=by
 unfold BW QY;by_cases c:G.th k t=true
 .rw[Xe c,Xe<|XH.mpr #[_,D7 s h c,rfl]]
 .rw[Xd c,Xd λm=>?_];apply At (XH.mp m);intro x b v;injection v with f w;rcases Bo.mp b with ⟨j,_,b⟩|⟨g,_,b⟩
  .rcases W7.mp b with rfl|⟨g,_,A,rfl⟩
   .cases f
   .lia
  .rcases JE.mp b with rfl|⟨i,_,rfl⟩<;>cases f
inductive R_takes(P:Program)(w:World)(C:Addr):List OT->OT->Prop
 |mk {N:QF}{y:Yd}{gs:List Gs}{φ:Zs Nd}{k:Nat}(ok:y.Ok)(h:NetR N (Zv y<|Q0 gs) φ)(hk:k<gs.length):R_takes P w C [.zow<|Vm P w C N,.fz<|QH y,.fz<|.int (k:Int),.fz<|QZ gs[k]] (.ol<|(List.range y.T).map λt=>PyData.int<|QY (Q0 gs) φ t k)
def ZlC:Qo Zaf Zaf (QG Hd):=by walk_at"p"
def ZrS(T:Bl mg)(a:Tx K mg C gS gE)(CH:Df K mg "takes_by" Hd Zaf)(B:QC P w K mg base "turns_of" ZaI 1 (QQ (K:=K) R_turns))(v:Z8 P w K mg base C "flow" Zau 1 (Zm K<|R_flow P w C))(m:QC P w K mg base "line_node" ZaK 1 (QQ (K:=K) R_lnode))(i:QC P w K mg base "line_of" ZaD 1 (QQ (K:=K) R_lineof))(j:QC P w K mg base "guest_node" ZaX 1 (QQ (K:=K) R_gnode)):
 QC P w K mg base "takes_by" Zaf 2 (QQ (K:=K)<|R_takes P w C):=by
 refine CH.ev ZlC (λf ts r h H e Y A outer s b=>?_);cases h with
 |@mk N y g φ k M h D=>
  refine#[_,(Qy<|QK<|Wg (NX:=Zaf) (sc:=QG Hd) (N:=["turn","net","number","guest"]) (f:=[none,some 0,some 2,some 3]) rfl (by decide +kernel) rfl rfl (Wm rfl T.range<|Qu (QI B b<|av 1 Qq) Qq) (λ_=>(QT 0 (show(["turn","net","number","guest"]:Qh).Nodup by decide +kernel))) (λ_=>Yf) (λ_=>J8) λ_=>(YW v a.net b (pv 1)<|Qu (QI j b<|av 2 Qq)<|Qu (QI m b<|Qu (QI i b<|av 3 Qq)<|av 0 Qq) Qq)),?_];have d:=M.t8;refine Uh (Kz (lo:=0) ?ei #[] ?el) rfl
  case ei=>exact EvI.cast (W5 (Qv (Zk (Qv Qp Q5) R_turns.mk) Q5) #[]<|#[]) (JG rfl #[])
  case el=>
   refine λt W c=>#[_,Zr,?_];rw[JP];have X:(Q0 g).ln k=g[k].line:=by show(g.getD k default).line=_;rw[UZ D]
   have L:=ZoO (G:=Q0 g) (φ:=φ) D W;rw[X]at L;exact Qr.cast (EvO.e<|Z5.o<|N4 ZrR rfl (Qv (Zk (Qv Qp Q5) R_gnode.mk)<|Qv (Zk (Qv (Zk (Qv Qp Q5) R_lineof.mk)<|Qv Qp Q5) R_lnode.mk) Q5)<|R_flow.mk h) (by rw[L])
inductive R_great:List OT->(OT->Prop)->Prop
 |mk {y:Yd}{gs:List Gs}(ok:y.Ok)(hg:∀g∈gs,GOk y g)(g8:gs.length<=8):R_great [.fz<|QH y,.fz<|.list<|gs.map QZ] (λr=>∃φ,Wr y (Q0 gs) φ/\r=.oll ((WT y (Q0 gs) φ).map λrow=>row.map PyData.int))
def C0:Qo ["yard","guests","net"] Zac (QG HA):=by walk_at"p"
def On(T:Bl mg)(z:Tx K mg C gS gE)(CH:Df K mg "greatest_filling" HA Zac)(L:QC P w K mg base "filled_net" Zac 4 (Zm K<|R_filled P w C))(M:QC P w K mg base "takes_by" Zaf 2 (QQ (K:=K)<|R_takes P w C)):QC P w K mg base "greatest_filling" Zac 5 (Zm K R_great):=by
 refine CH.evD C0 (λf ts u h H x q A outer s X=>?_);cases h with
 |@mk y b W e o=>
  refine#[_,(Qw (QP 2 C0.nd<|QI L X<|av 0<|av 1 Qq)
 (Qy<|QK<|Wg (NX:=["yard","guests","net"]) (sc:=QG HA) (N:=ZaL) (f:=[none,none,some 2,some 0]) rfl (by decide +kernel) rfl rfl (MB rfl T.enumerate<|av 1 Qq) (λ_=>(J5 (n:=2) rfl (Zy (QT 0 (show(ZaL:Qh).Nodup by decide +kernel))<|Zy (QT 1 (show(ZaL:Qh).Nodup by decide +kernel)) Yz))) (λ_=>(PZ (n:=2)<|DE Yf<|DE Yf TJ)) (λ_=>J8) λ_=>(QI M X<|av 2<|av 3<|av 0<|av 1 Qq))),?_]
  show QB K _ [_,_,_] _
  walk_at"x";refine QL (Jb (JA (Qv Qp<|Qv Qp Q5)<|R_filled.mk W e o) λr D=>?_);apply aB D;rintro v N m rfl l j;walk_at"d";refine ZrY 2 rfl ?_;walk_at"d";refine Uh (r:=.oll ((WT y (Q0 b) m).map λB=>B.map PyData.int)) (EvO.cast (Ac (xs:=b.zipIdx) (enc:=λp=>PyData.tuple [.int (p.2:Int),QZ p.1]) (h:=λp=>(List.range y.T).map λt=>PyData.int<|QY (Q0 b) m t p.2) ?ei (by simp;lia) ?el) ?eq) #[m,j,rfl]
  case ei=>
   refine EvI.cast (Mn<|Qv Qp Q5) ?_;unfold GG;rw[List.zipIdx_map,Yg];rfl
  case eq=>
   congr 1
   unfold WT;rw[Yg];have:(Q0 b).m=b.length:=rfl;rw[this];apply List.ext_getElem?;intro i;by_cases E:i<b.length
   .simp[E,Yg,Function.comp_def]
   .simp[E]
  case el=>
   intro p d c;obtain⟨Y,a⟩:∃h:p.2<b.length,p.1=b[p.2]:=by
    have:=List.mem_zipIdx d;simp at this;exact#[this.1,this.2]
   obtain⟨g,k⟩:=p;simp only at Y a;subst a;refine#[_,WN (ds:=[.int (k:Int),QZ b[k]]) (Vb Zr<|Vb Zr Wx) rfl,?_];walk_at"e";exact Dt (Dl rfl (Qv Qp<|Qv Qp<|Qv Qp Q5)) (R_takes.mk W l Y)
def Zif:Qo Zac Zac (QG Sm):=by walk_at"p"
def Em(T:Bl mg)(CH:Df K mg "best_filling" Sm Zac)(c:QC P w K mg base "greatest_filling" Zac 5 (Zm K R_great)):QC P w K mg base "best_filling" Zac 6 (Zm K R_great):=by
 refine CH.evD Zif (λf ts m h H B j A outer s g=>?_);have i:=h;cases h with
 |@mk y D v C L=>
  exact#[_,(Qy<|QK<|QI c g<|av 0<|av 1 Qq),Nr (JA (Qv Qp<|Qv Qp Q5) i) (λr b=>b)]
def Z3(y:Yd)(G:Gv)(S:Qm):Int:=Q4 (Zg S G.wa) G.m-Q4 (λt=>passes y (λl=>ZG y l t) (VR G S t) 0) y.T
def BR(y:Yd)(G:Gv)(φ:Zs Nd):Int:=Q4 (λk=>G.wa k-Q4 (λt=>QY G φ t k) y.T) G.m
def ZoQ{y:Yd}(F:Flow y G φ)(f:y.Ok)(c:∀k,k<G.m->G.ln k<y.ls.length)(S:Qm):Z3 y G S<=BR y G φ:=by
 have g:∀k,k<G.m->0<=G.wa k-Q4 _ y.T:=λk b=>by
  rw[F.total b];have:=F.want b;lia
 have s:Q4 (Zg S λk=>G.wa k-Q4 _ y.T) G.m<=BR y G φ:=Wk λk b=>Nx (g k b)
 have m:Q4 (Zg S λk=>G.wa k-Q4 (λt=>QY G φ t k) y.T) G.m=Q4 (Zg S G.wa) G.m-Q4 (Zg S λk=>Q4 (λt=>QY G φ t k) y.T) G.m:=by
  rw[<- NQ];refine Zq λk _=>?_;unfold Zg;split<;>lia
 have j:Q4 (λt=>Q4 (Zg S<|QY G φ t) G.m) y.T=Q4 (Zg S λk=>Q4 (λt=>QY G φ t k) y.T) G.m:=by
  rw[M9 _ y.T G.m];refine Zq λk _=>?_;unfold Zg;cases S k with
  |true=>rfl
  |false=>simp only[ if_false];exact Vv _
 have i:=Wk λt h=>F.no_more f c S h;unfold Z3;lia
def BZ{y:Yd}(c:∀g∈gs,GOk y g):∀k,k<(Q0 gs).m->(Q0 gs).ln k<y.ls.length:=λk b=>by
 show(gs.getD k default).line<_
 rw[UZ b];exact(c _<|Wb _).ln
def ZE(gs:List Gs)(S:Qm):Qk:=(List.range gs.length).filter S
def N8(c:gs.length<=8)(S:Qm):SetOk gs (ZE gs S):=
 #[λk b=>XN.mp (WF.mp b).1,X4 (List.length_filter_le _ _)<|by simpa using c]
theorem LW(f:Qn):∀n,((List.range n).map f).sum=Q4 f n
 |0=>rfl
 |n+1=>by rw[YK,XL,List.sum_append,LW f n];simp[Q4]
theorem FZ(f:Qn)(p:Qm):∀n,(((List.range n).filter p).map f).sum=Q4 (Zg p f) n
 |0=>rfl
 |n+1=>by
  rw[YK,B9,XL,List.sum_append,FZ f p n];show _=Q4 _ n+Zg p f n;unfold Zg;cases e:p n with
  |true=>simp[ e]
  |false=>simp[ e]
def EH(gs:List Gs)(S:Qm)(t l:Nat):VR (Q0 gs) S t l=WX gs t (ZE gs S) l:=by
 show _=ZA gs (t) l ((List.range gs.length).filter S);rw[Zoc];refine Zq λk b=>?_;unfold Zg moT wgt ind;rw[XW b];have h:(Q0 gs).th k t=Vk gs[k] (t):=by show Vk _ _=_;rw[UZ b]
 have g:(Q0 gs).mo k=gs[k].most:=by show(gs.getD k default).most=_;rw[UZ b]
 have f:(Q0 gs).ln k=gs[k].line:=by show(gs.getD k default).line=_;rw[UZ b]
 rw[ f];cases S k with
 |false=>simp
 |true=>
  by_cases c:gs[k].line=l
  .simp_all
  .simp[c]
def YY(gs:List Gs)(b:Qk):Int:=(b.map λk=>(gs.getD k default).want).sum
def Ra(y:Yd)(gs:List Gs)(S:Qm):Z3 y (Q0 gs) S=YY gs (ZE gs S)-M8 y gs (ZE gs S):=by
 unfold Z3;congr 1
 .exact(FZ _ S gs.length).symm
 .unfold M8;rw[LW];refine Zq λt _=>?_;unfold V4;rw[show VR _ S t=WX gs t _ from funext λl=>EH gs S t l]
def K2(y:Yd)(G:Gv)(φ:Zs Nd)(es:Got Nd):Prop:=Flow y G φ/\Nd.start∈Zd es/\Y6 (Zv y G) φ es/\Nd.fin∉Zd es
inductive R_lset:List OT->(OT->Prop)->Prop
 |mk {y:Yd}{gs:List Gs}(ok:y.Ok)(hg:∀g∈gs,GOk y g)(g8:gs.length<=8):R_lset [.fz<|QH y,.fz<|.list<|gs.map QZ] (λr=>∃φ es,K2 y (Q0 gs) φ es/\r=.ol (QR<|ZE gs<|VX es))
def Cv:Qo ["yard","guests","edges"] Zac (QG Hx):=by walk_at"p"
def Zmd(T:Bl mg)(Y:Tx K mg C gS gE)(CH:Df K mg "guests_reached" Hx Zac)(M:QC P w K mg base "filled_net" Zac 4 (Zm K<|R_filled P w C))(W:Z8 P w K mg base C "reached" ZaU 1 (Zm K<|R_reached P w C))(X:QC P w K mg base "guest_node" ZaX 1 (QQ (K:=K) R_gnode)):
 QC P w K mg base "guests_reached" Zac 5 (Zm K R_lset):=by
 refine CH.evD Cv (λf ts Φ h H S Q A outer s L=>?_);cases h with
 |@mk y g D t l=>
  refine#[_,(Qw (QP 2 Cv.nd<|YW W Y.net L (QI M L<|av 0<|av 1 Qq)<|Qu (Yc (v:=.ref _) rfl Y.mSTART rfl) Qq)
 (Qy<|QK<|Wg (NX:=["yard","guests","edges"]) (sc:=QG Hx) (N:=["number","edges"]) (f:=[none,some 2]) rfl (by decide +kernel) rfl rfl (Wm rfl T.range<|Qu (Zw ZY (by rfl) T.len ZV<|av 1 Qq) Qq) (λ_=>(QT 0 (show(["number","edges"]:Qh).Nodup by decide +kernel))) (λ_=>Yf) (λ_=>(Gf<|Wz<|UT (Vo L) (QI X L<|av 0 Qq)<|pv 1)) λ_=>(pv 0))),?_]
  show QB K _ [_,_,_] _
  walk_at"x";have q:(Zv y<|Q0 g).length<400:=by
   unfold Zv;rw[Xn];have a:=Hc D (Q0 g) (n:=(Q0 g).m) l;have b:=Rj D D.t8;lia
  refine QL (Jb (Φ:=λr=>∃v B es,r=.own v (VV<|kvG es)/\K2 y (Q0 g) B es) (OY (P:=P) (w:=w) FS (JA (Qv Qp<|Qv Qp Q5)<|R_filled.mk D t l) (λr m=>?_)<|Qv (NH Y.aS) Q5) λr m=>?_)
  .apply aB m;rintro v N B rfl u⟨F,J,G,E,x⟩;refine#[v,N,rfl,_,R_reached.mk (s:=.start) u q,by rintro r ⟨o,es,e,d,O⟩;exact#[o,B,es,e,F,d.start,O,λz=>x<|d.inClosed E G _ z]]
  .apply L0 m;rintro v B es rfl I;walk_at"d";refine Ly 2 rfl ?_;walk_at"d";refine Uh (r:=.ol (QR<|ZE g<|VX es)) (UU (xs:=List.range g.length) (enc:=λ(j:Nat)=>PyData.int (j:Int)) (h:=λ(j:Nat)=>PyData.int (j:Int)) (p:=VX es) ?ei (by simp;lia) ?el) #[B,es,I,rfl]
   case ei=>
    have e:(g.map QZ).length=g.length:=by simp
    refine EvI.cast (W5 (Qv (W3 Qp) Q5) (by rw[z62,e];lia)<|by rw[z62,e];lia) ?_;rw[e,Xr];unfold VA;refine X6 λi _=>?_;rw[JP]
   case el=>
    refine λk R c=>#[_,Zr,?_,λ_=>?_]
    .walk_at"e";exact QO.cast (ZH<|AH (k:=nk (.guest k)) (Zk (Qv Qp Q5) R_gnode.mk) rfl) (Md _ _)
    .walk_at"e";exact Qp rfl
def Zi6:Qo Zac Zac (QG Si):=by walk_at"p"
def Ih(T:Bl mg)(CH:Df K mg "lacking_set" Si Zac)(c:QC P w K mg base "guests_reached" Zac 5 (Zm K R_lset)):QC P w K mg base "lacking_set" Zac 6 (Zm K R_lset):=by
 refine CH.evD Zi6 (λf ts m h H B j A outer s g=>?_);have i:=h;cases h with
 |@mk y D v C L=>
  exact#[_,(Qy<|QK<|QI c g<|av 0<|av 1 Qq),Nr (JA (Qv Qp<|Qv Qp Q5) i) (λr b=>b)]
def Nw(y:Yd)(gs:List Gs)(b:Qk):Int:=YY gs b-M8 y gs b
inductive R_short:List OT->OT->Prop
 |mk {y:Yd}{gs:List Gs}{sm:Qk}(ok:y.Ok)(hg:∀g∈gs,g.line<y.ls.length)(hs:SetOk gs sm):
  R_short [.fz<|QH y,.fz<|.list<|gs.map QZ,.fz<|.list<|QR sm] (.fz<|.int<|Nw y gs sm)
def Zmh:Qo Zag Zag (QG Hb):=by walk_at"p"
def Zrv(T:Bl mg)(CH:Df K mg "short_of" Hb Zag)(g:QC P w K mg base "want_of" ZaD 1 (QQ (K:=K) R_want))(i:QC P w K mg base "given_most" Zag 4 (QQ (K:=K) R_givenm)):
 QC P w K mg base "short_of" Zag 5 (QQ (K:=K) R_short):=by
 refine CH.ev Zmh (λf ts r h H X L A outer s m=>?_);cases h with
 |@mk y Y v B D b=>
  refine#[_,(Qy<|QK<|QW Yb (Zw KI (by rfl) T.sum KR<|Qu (Wg (NX:=Zag) (sc:=QG Hb) (N:=["number","guests"]) (f:=[none,some 1]) rfl (by decide +kernel) rfl rfl (YZ<|pv 2) (λ_=>(QT 0 (show(["number","guests"]:Qh).Nodup by decide +kernel))) (λ_=>Yf) (λ_=>J8) λ_=>(QI g m<|Qu (Q9 QA (pv 1)<|pv 0) Qq)) Qq)<|QI i m<|av 0<|av 1<|av 2 Qq),?_];show QB K _ [_,_,_] _
  walk_at"x";have M:=b.len;refine Vq (ZD (Dk (EvO.fz ?_) rfl)<|Zk (by walk_at"ea")<|R_givenm.mk B D b) rfl;rw[Yg];refine BQ (xs:=v) (enc:=λ(j:Nat)=>PyData.int (j:Int)) ?_ #[] ?_
  .walk_at"ei"
  .intro x C c;have W:=b.mem x C;refine#[_,by walk_at"g",Zk (Qv (Qr.cast (by walk_at"ev")<|by rw[Xr]) Q5) R_want.mk]
def Zgl:Qo ZaR ZaR (QG B4):=by walk_at"p"
def Zq7{f:Addr}(T:Bl mg)(F:Fun K "__init__" "NoRoom.__init__" B4 f fd)(cl:U7 K YR CR f)(xs:S7 K CR)(c:W.takerIn K CR "some"=some none)(g:mg "YardError"=some (.ref YR)):FnOk P w K mg base CX0 1 f fd ZaR (Mu K CR "some"):=by
 refine F.ok Zgl ?_ (λb H Q i h j A outer s m=>#[_,Qw (Zp<|LC cl rfl g rfl Qa)<|Qy<|Lc xs c (pv 0) (Wl D8 (by rfl) T.list Mo<|Qu (pv 1) Qq) rfl,Ou h]);rintro b H Q i ⟨e,p,xs,h,_⟩;rw[h];rfl
inductive R_refuse:List OT->(OT->Prop)->Prop
 |mk {y:Yd}{gs:List Gs}(ok:y.Ok)(hg:∀g∈gs,GOk y g)(g8:gs.length<=8)(h:∀S,Z3 y (Q0 gs) S<=0):R_refuse [.fz<|QH y,.fz<|.list<|gs.map QZ] (λr=>r=.fz .none)
inductive X_refuse:List OT->(Qd->Prop)->Prop
 |mk {y:Yd}{gs:List Gs}(ok:y.Ok)(hg:∀g∈gs,GOk y g)(g8:gs.length<=8){S:Qm}(h:0<Z3 y (Q0 gs) S):X_refuse [.fz<|QH y,.fz<|.list<|gs.map QZ] (λd=>∃S,0<Z3 y (Q0 gs) S/\d=QR (ZE gs S))
def So:Qo Zag Zac (QG RU):=by walk_at"p"
def Zp8(T:Bl mg)(k:XC K mg "NoRoom" YR CR fR)(CH:Df K mg "refuse_lack" RU Zac)(X:QC P w K mg base "lacking_set" Zac 6 (Zm K R_lset))(W:QC P w K mg base "short_of" Zag 5 (QQ (K:=K) R_short))(N:GL P w K mg base fR ZaR 1 (Mu K CR "some")):
 U9 P w K mg base "refuse_lack" Zac 7 (spX K CR "some" R_refuse X_refuse):=by
 refine CH.evZ So (λf H RR ts l j h d A outer s v=>?_) (λf F H RR ts l j n h d A outer s v=>?_)
 .cases h with
  |@mk y B i L M h=>
   refine#[_,(Qw (QP 2 So.nd<|QI X v<|av 0<|av 1 Qq)
 (Qy<|Zb (Zx VY (QI W v<|av 0<|av 1<|av 2 Qq) Qx<|Zi _) (Qy<|Gk k N j v<|av 2 Qq) Za)),?_]
   show QB K _ [_,_,_] _
   walk_at"x";refine QL (Jb (JA (Qv Qp<|Qv Qp Q5)<|R_lset.mk i L M) λr m=>?_);apply KE m;rintro C es c rfl;walk_at"d";refine GK 2 rfl ?_;walk_at"d";have Y:=h (VX es);rw[Ra]at Y;exact Zf (b:=false) (QO.cast (Zc<|ZI (Zk (Qv Qp<|Qv Qp<|Qv Qp Q5)<|R_short.mk i (λg h=>(L g h).ln)<|N8 M _) Q2)<|Xt<|by unfold Nw;lia) nf (λ_=>Zl rfl)
 .cases h with
  |@mk y B i L M S h=>
   refine#[_,(Qw (QP 2 So.nd<|QI X v<|av 0<|av 1 Qq)
 (Qy<|Zb (Zx VY (QI W v<|av 0<|av 1<|av 2 Qq) Qx<|Zi _) (Qy<|Gk k N j v<|av 2 Qq) Za)),?_]
   show EvZ K F H _ [some _,some _,none]
   walk_at"x";have D:=L;refine E3 (λJ=>∃C es,K2 y (Q0 B) C es/\J=[zf<|QH y,zf<|.list<|B.map QZ,some<|.ol<|QR<|ZE B<|VX es]) (Jb (JA (Qv Qp<|Qv Qp Q5)<|R_lset.mk i L M) λr m=>?_) ?_
   .apply KE m;rintro C es c rfl;exact#[C,es,c,rfl]
   .rintro _ ⟨C,es,c,rfl⟩;refine As 2 rfl ?_;walk_at"d";have Y:0<Z3 y (Q0 B) (VX es):=by
     have a:=ZoQ c.1 i (BZ L) S;have e:=c.1.lack i (BZ L) c.2.2.1 c.2.1 c.2.2.2;have e:BR y (Q0 B) C=Z3 y (Q0 B) (VX es):=e;lia
    have o:=Y;rw[Ra]at o;exact De (b:=true) (QO.cast (Zc<|ZI (Zk (Qv Qp<|Qv Qp<|Qv Qp Q5)<|R_short.mk i (λg h=>(L g h).ln)<|N8 M _) Q2)<|Xq<|by unfold Nw;lia) (λ_=>O4 Qp #[VX es,Y,rfl] n) nt
inductive R_feed:List OT->(OT->Prop)->Prop
 |mk {n:Int}:R_feed [.fz<|.int n] (λr=>∃a b:Int,r=.ol [.int a,.int b])
def U2:Qo ["_law_cell","_law_big","_law_one","_law_other","_law_k"] ["_law_cell"] (QG RJ):=by walk_at"p"
def IH(T:Bl mg)(CH:Df K mg "_law_feed" RJ ["_law_cell"]):QC P w K mg base "_law_feed" ["_law_cell"] 1 (Zm K R_feed):=by
 refine CH.evD U2 (λf ts r h H q l A outer s p=>?_);cases h with
 |@mk n=>
  refine#[_,(Qw (QP 1 U2.nd Qx)
 (Qw (QP 2 U2.nd<|QW VH (QW GO (QW DK (pv 0) Qx) Qx) Qx)
 (Qw (QP 3 U2.nd<|QW VH (QW GO (QW DK (pv 0) Qx) Qx) Qx)
 (Qw (Vu zN rfl (by exact(Wm rfl T.range<|Qu Qx Qq)) (QT 4 U2.nd) (by exact(Qw (QP 2 U2.nd<|QW GO (QW VH (QW VH (QW GX (pv 2)<|pv 2)<|QW GX Qx<|pv 3)<|pv 4) Qx)
 (Qw (QP 3 U2.nd<|QW GO (QW VH (QW VH (QW GX (pv 3)<|pv 3)<|QW GX Qx<|pv 2) Qx) Qx)
 (Qy<|QP 1 U2.nd<|QW VH (QW GX (pv 1) Qx)<|pv 3)))))
 (Qw (Zb (Zx Jy (QW GO (pv 0) Qx) Qx<|Zi _) (Qy<|QK<|Zz<|Qu (QW DK (pv 0) Qx)<|av 1 Qq) Za)
 (Qy<|QK<|Zz<|av 1<|Qu Qx Qq)))))),?_]
  show QB K _ [_,_,_,_,_] _;refine QL (ZF Q2 ?_);have v:∀{i:Int},GJ i 2:=HP (by decide) (by decide);refine QL (ZF (ZD (VC (VC Qp Q2 v) Q2<|by decide) Q2) (QL (ZF (ZD (VC (VC Qp Q2 (HP (by decide) (by decide))) Q2<|by decide) Q2) ?_)));have C:0<=n/2%2147483647+11/\n/2%2147483647+11<4294967296:=#[]
  have B:0<=n/3%2147483629+7/\n/3%2147483629+7<4294967296:=#[]
  generalize n/2%2147483647+11=x at C;generalize n/3%2147483629+7=y at B;refine QL (Ya (ds:=VA 0 40) (λ_ J=>∃(a b c:Int) (u:Option OT),(0<=a/\a<4294967296)/\(0<=b/\b<4294967296)/\J=[zi n,zi c,zi a,zi b,u]) ?ei #[x,y,0,none,C,B,rfl] ?st ?fin)
  case ei=>exact EvI.cast (W5 (Qv Q2 Q5) (by decide)<|by decide) (JG rfl (by decide))
  case st=>
   rintro i d _ X ⟨a,b,c,u,e,Y,rfl⟩;obtain⟨E,rfl⟩:=W6 X;refine#[_,Zr,?_];walk_at"d";refine QL (ZF (VC (ZD (ZD (VC Qp Qp (.inl #[#[],#[]]))<|VC Q2 Qp (.inl #[by decide,by decide])) Qp) Q2<|by decide) ?_);have m:0<=(a*a+48271*b+(0+(i)))%2147483647/\(a*a+48271*b+(0+(i)))%2147483647<4294967296:=#[Int.emod_nonneg _<|by decide,Int.lt_trans (Int.emod_lt_of_pos _<|by decide)<|by decide];generalize (a*a+48271*b+(0+(i)))%2147483647=g at m;refine QL (ZF (VC (ZD (ZD (VC Qp Qp (.inl #[#[],#[]]))<|VC Q2 Qp (.inl #[by decide,by decide])) Q2) Q2<|by decide) ?_);have j:0<=(b*b+69621*g+1)%2147483629/\(b*b+69621*g+1)%2147483629<4294967296:=#[Int.emod_nonneg _<|by decide,Int.lt_trans (Int.emod_lt_of_pos _<|by decide)<|by decide];generalize (b*b+69621*g+1)%2147483629=o at j;exact ZF (ZD (VC Qp Q2 (.inr #[by decide,by decide])) Qp)<|#[g,o,_,_,m,j,rfl]
  case fin=>
   rintro _ ⟨a,b,c,u,e,Y,rfl⟩;refine QL (Zf (QO.cast (Zc<|Wh (VC Qp Q2<|by decide) Q2) rfl) (λ_=>?_) λ_=>Zl ?_)
   .exact Uh (ZW (QS (VC Qp Q2 v)<|QS Qp Z2)<|by show(2)<=1000;decide) #[_,_,rfl]
   .exact Uh (ZW (QS Qp<|QS Q2 Z2)<|by show(2)<=1000;decide) #[_,_,rfl]
inductive R_digit:Qd->List OT->(OT->Qd->Prop)->Prop
 |mk {a b m:Int}(h0:0<m)(h1:m<=10^60):R_digit [.int a,.int b] [.fz<|.int m] (λr ds'=>∃n a' b':Int,0<=n/\n<m/\r=.fz (.int n)/\ds'=[.int a',.int b'])
def Cq:Qo ["_law_feed_here","_law_many","_law_digit_here"] Zal (QG Sc):=by walk_at"p"
def O9(T:Bl mg)(CH:Df K mg "_law_digit" Sc Zal):QC P w K mg base "_law_digit" Zal 1 (spP K olP R_digit):=by
 refine CH.evP Cq (λf v M ts Ψ h H D B A outer s C=>?_);cases h with
 |@mk a b m g j=>
  refine#[_,(Qw (Zb (Zx Jy (Q9 QA (pv 0) Qx) Qx<|Zi _) (Qw (Vz (Q9 QA (pv 0) Qx)<|YU (pv 0) Qx VU)
 (Qy<|Vz Qx<|YU (pv 0) Qx VU)) Za)
 (Qw (QP 2 Cq.nd<|QW GO (Q9 QA (pv 0) Qx)<|pv 1)
 (Qw (Vz (QW DK (Q9 QA (pv 0) Qx)<|pv 1)<|YU (pv 0) Qx VU)
 (Qy<|QK<|pv 2)))),?_]
  try dsimp only[VE]
  have c:∀{Y:Zbv} {x y:Int},Y[0]?=some (zo v<|olP [.int x,.int y])->Qr K (tOp (rIx K) (Q3 0)<|tC<|.int 0) Y _/\Qr K (tOp (rIx K) _<|tC<|.int 1) Y _:=λ{Y x y} e=>by
   have i:=(Xc.mp e).1;exact#[M4 0 e rfl (Vt (Qp<|Xk i) Q2 rfl),M4 0 e rfl (Vt (Qp<|Xk i) Q2 rfl)]
  refine Z7 (λJ=>∃x y:Int,J=[zo v<|olP [.int x,.int y],some _,none]) (Zf (QO.cast (Zc<|Wh (c rfl).1 Q2) rfl) (λ_=>?_) λ_=>Zl #[a,b,rfl]) ?_
  .exact QL (Hi rfl (c rfl).2 Q2 rfl (Hi rfl Q2 Q2 rfl (#[b,0,rfl])))
  .rintro _ ⟨x,y,rfl⟩;exact Z6 (ZF (VC (c rfl).1 Qp g) rfl)<|Z6 (Hi rfl (VC (c rfl).1 Qp (cdl g j)) Q2 rfl rfl)<|VZ Qp #[_,#[x%m,x/m,y,Int.emod_nonneg _<|Int.ne_of_gt g,Int.emod_lt_of_pos _ g,rfl,rfl],rfl]
def Dg(K:W.Frag)(t:TE)(Y:Zbv)(v:V)(m:Int):Prop:=EvW K t Y 0 λn o=>0<=n/\n<m/\∃a b:Int,o=.own v (olP [.int a,.int b])
def YF{b m:Int}(e:zg Y 0<|zo v<|olP [.int a,.int b])(h:Qr K t Y (.int m))(h0:0<m)(g:m<=10^60):Dg K (ZS (spP K olP R_digit) [] hi<|QE (Q3 0)<|QE t QJ) Y v m:=
 Ty e (Qv h Q5) (R_digit.mk h0 g) (by
  rintro r s ⟨n,j,i,f,c,rfl,rfl⟩;exact#[n,rfl,f,c,j,i,rfl])
def HQ(k T:Nat)(l:Ln):Prop:=(l.up=none↔k=0)/\(∀a,l.up=some a->a<k)/\l.bs.length=T/\∀b∈l.bs,0<=b/\b<10^30
theorem Ax{ls:List Ln}(t1:1<=T)(t8:T<=8)(l1:1<=ls.length)(l5:ls.length<=5)(h:∀k (c:k<ls.length),HQ k T ls[k]):(#[T,ls]:Yd).Ok where
 t1:=t1
 t8:=t8
 l1:=l1
 l5:=l5
 up0:=by
  simp[Zn,show 0<ls.length by lia,(h 0<|#[]).1.mpr rfl]
 ups:=λk k0 c=>by
  apply I0 (h k c);intro j i _;cases e:ls[k].up with
  |none=>have:=j.mp e;lia
  |some a=>exact#[a,by simp[Zn,c,e],i a e]
 bl:=λl f=>by
  obtain⟨k,c,rfl⟩:=BA.mp f;exact(h k c).2.2.1
 bb:=λl f b g=>by
  obtain⟨k,c,rfl⟩:=BA.mp f;have:=(h k c).2.2.2 b g;exact#[this.1,Ng this.2]
def CK(y:Yd):Prop := ∀l∈y.ls,∀b∈l.bs,0<=b/\b<10^30
inductive R_dyard:Qd->List OT->(OT->Qd->Prop)->Prop
 |mk {a b:Int}:R_dyard [.int a,.int b] [] (λr ds'=>∃y:Yd,y.Ok/\CK y/\r=.fz (QH y))
def Aw{b:Int}{c:Bool}(h0:0<=b)(f:b<10^30):0<=b*(if c then 1 else 0)/\b*(if c then 1 else 0)<10^30:=by
 cases c
 .simp
 .simp_all
def p60{m:Int}(h:m<=10^30):m<=10^60:=Gx h (by decide +kernel)
def Jn:Qo ["_law_feed_here","_law_turns_here","_law_scale","_law_lines","_law_k","_law_above","_law_bounds","_law_turn","_law_bound"] ZaW (QG RL):=by walk_at"p"
def OH(T:Bl mg)(CH:Df K mg "_law_yard" RL ZaW)(C:QC P w K mg base "_law_digit" Zal 1 (spP K olP R_digit)):QC P w K mg base "_law_yard" ZaW 2 (spP K olP R_dyard):=by
 refine CH.evP Jn (λf v M ts Ψ h H hi cdv A outer s o=>?_);cases h with
 |@mk a b=>
  refine#[_,(Qw (QP 1 Jn.nd<|QW VH Qx<|QI C o<|av 0<|Qu Qx Qq)
 (Qw (QP 2 Jn.nd<|Q9 QA (Zz<|Qu Qx<|Qu Qx<|Qu Qx<|Qu (QW Dn Qx Qx) Qq)<|QI C o<|av 0<|Qu Qx Qq)
 (Qw (QP 3 Jn.nd<|Zz Qq)
 (Qw (Vu zN rfl (by exact(Wm rfl T.range<|Qu (QW VH Qx<|QI C o<|av 0<|Qu Qx Qq) Qq)) (QT 4 Jn.nd) (by exact(Qw (QP 5 Jn.nd Ui)
 (Qw (Zb (Zx VY (pv 4) Qx<|Zi _) (Qy<|QP 5 Jn.nd<|QI C o<|av 0<|av 4 Qq) Za)
 (Qw (QP 6 Jn.nd<|Zz Qq)
 (Qw (Vu zN rfl (by exact(Wm rfl T.range<|av 1 Qq)) (QT 7 Jn.nd) (by exact(Qw (QP 8 Jn.nd<|QI C o<|av 0<|av 2 Qq)
 (Qy<|Zp<|V1 zP zS zT V7 (pv 6)<|Qu (QW GX (pv 8)<|Wl Ak (by rfl) T.int KS<|Qu (Jf VY (QI C o<|av 0<|Qu Qx Qq) Qx<|Zi _) Qq) Qq))))
 (Qy<|Zp<|V1 zP zS zT V7 (pv 3)<|Qu (Yq<|av 5<|Qu (Wl N9 (by rfl) T.tuple DL<|av 6 Qq) Qq) Qq)))))))
 (Qy<|QK<|Yq<|av 1<|Qu (Wl N9 (by rfl) T.tuple DL<|av 3 Qq) Qq))))),?_]
  walk_at"x";have p:(0:Int)<10^(30:Int).toNat/\(10:Int)^(30:Int).toNat<=10^30:=by decide +kernel
  refine Z7 (λJ=>∃(T:Nat) (a b:Int),1<=T/\T<=8/\J=[zo v<|olP [.int a,.int b],zf<|.int<|T,none,none,none,none,none,none,none]) (L7 (YF rfl Q2 (by decide)<|by decide +kernel) ?_) ?_
  .rintro n _ ⟨R,Q,a,b,rfl⟩;refine ZF (ZD Q2 Q2) #[(1+n).toNat,a,b,#[],#[],?_];rw[XV<|#[]];rfl
  rintro _ ⟨T,a,b,Z,U,rfl⟩;refine Z7 (λJ=>∃N a b:Int,0<N/\N<=10^30/\J=[zo v<|olP [.int a,.int b],zf<|.int<|T,zi N,none,none,none,none,none,none]) (Fg (EvO.fz<|ZW (QS Q2<|QS Q2<|QS Q2<|QS (VC Q2 Q2<|BP (by decide)<|by decide) Z2)<|by decide) (YF rfl Q2 (by decide)<|by decide +kernel) ?_) ?_
  .rintro n _ ⟨R,Q,a,b,rfl⟩;obtain rfl|rfl|rfl|rfl:n=0\/n=1\/n=2\/n=3:=#[]
   .exact#[_,rfl,5,a,b,by decide,#[],rfl]
   .exact#[_,rfl,9,a,b,by decide,#[],rfl]
   .exact#[_,rfl,16,a,b,by decide,#[],rfl]
   .exact#[_,rfl,_,a,b,p.1,p.2,rfl]
  rintro _ ⟨N,a,b,s0,O,rfl⟩;refine Z6 (Yo (ZW Z2<|by decide) rfl)<|Z7 (λJ=>∃(g:List Ln) (a b:Int) (X W L B y:Option OT),(1<=g.length/\g.length<=5)/\(∀k (Y),HQ k T g[k])/\J=[zo v<|olP [.int a,.int b],zf<|.int<|T,zi N,some<|.ol<|g.map ZU,X,W,L,B,y]) (Ob (YF rfl Q2 (by decide)<|by decide +kernel) ?_) ?_
  .rintro n _ ⟨R,Q,a,b,rfl⟩;walk_at"d";refine Ya (ds:=VA 0 (1+n).toNat) (λi J=>∃(g:List Ln) (a b:Int) (X W L B y:Option OT),g.length=i/\(∀k (Y),HQ k T g[k])/\J=[zo v<|olP [.int a,.int b],zf<|.int<|T,zi N,some<|.ol<|g.map ZU,X,W,L,B,y]) ?ei #[[],a,b,_,_,_,_,_,rfl,(λk Y=>Xv Y<|Nat.not_lt_zero k),rfl] ?st ?fin
   case ei=>exact W5 (Qv (ZD Q2 Q2) Q5) (by rw[z62];lia) (by rw[z62];lia)
   case fin=>
    rintro _ ⟨g,a,b,X,W,L,B,y,e,h,rfl⟩;rw[JD]at e;exact#[g,a,b,X,W,L,B,y,#[],h,rfl]
   case st=>
    rintro i d _ u ⟨g,a,b,X,W,L,B,y,e,h,rfl⟩;obtain⟨E,rfl⟩:=W6 u;refine#[_,Zr,?_];rw[JP];refine QL (ZF WY ?_);walk_at"d";refine QL (C4 (λJ=>∃(ab:Option Nat) (a b:Int),(ab=none↔i=0)/\(∀x,ab=some x->x<i)/\J=[zo v<|olP [.int a,.int b],zf<|.int<|T,zi N,some<|.ol<|g.map ZU,zf<|.int<|i,zf<|upD ab,L,B,y]) (Zf (QO.cast (Zc<|ZI Qp Q2) rfl) (λc=>?_) λc=>Zl #[none,a,b,#[λ_=>by have:=BH c;lia,λ_=>rfl],(by rintro x ⟨⟩),rfl]) ?_)
    .refine JB (YF rfl Qp #[]<|Gx (show(i:Int)<=5 by lia)<|by decide +kernel) ?_;rintro m _ ⟨t,S,a,b,rfl⟩;refine#[some m.toNat,a,b,#[λz=>(nomatch z),λz=>Xv z<|#[]],(λx z=>#[]),?_];show _=([_,_,_,_,_,some<|OT.fz<|.int<|(m.toNat),_,_,_]);rw[XV t];rfl
    rintro _ ⟨ab,a,b,I,G,rfl⟩;refine QL (Yo (ZW Z2<|by decide) (QL (Ya (ds:=VA 0 T) (λj J=>∃(D:Ql) (a b:Int) (B y:Option OT),D.length=j/\(∀x∈D,0<=x/\x<10^30)/\J=[zo v<|olP [.int a,.int b],zf<|.int<|T,zi N,some<|.ol<|g.map ZU,zf<|.int<|i,zf<|upD ab,some<|.ol<|D.map PyData.int,B,y]) ?ei2 #[[],a,b,_,_,rfl,(by rintro x ⟨⟩),rfl] ?st2 ?fin2)))
    case ei2=>exact EvI.cast (W5 (Qv Qp Q5) (by rw[z62];lia)<|by rw[z62];lia) (JG rfl #[])
    case st2=>
     rintro j d _ u ⟨D,a,b,B,y,r,F,rfl⟩;obtain⟨hj,rfl⟩:=W6 u;refine#[_,Zr,?_];walk_at"d";refine QL (JB (YF rfl Qp s0<|p60 O) ?_);rintro m _ ⟨t,S,a,b,rfl⟩;walk_at"d";refine IE rfl rfl (YF rfl Q2 (by decide)<|by decide +kernel) ?_;rintro z _ ⟨z0,z1,a,b,rfl⟩;have mm:=Aw (c:=decide (z > 0)) t (Int.lt_of_lt_of_le S O);refine Bw rfl (VC Qp (PB<|ZI Q2 Q2)<|.inr #[by split<;>decide,by split<;>decide]) (by rw[Xj];lia) #[D++[m*(if decide (z > 0) then 1 else 0)],a,b,zf<|.int<|0+(j),zi m,by rw[Xn,r];rfl,λx q=>?_,?_]
     .rcases Xz.mp q with q|q
      .exact F x q
      .rw[Xi.mp q];exact mm
     .rw[XL];rfl
    case fin2=>
     rintro _ ⟨D,a,b,B,y,r,F,rfl⟩;rw[JD]at r;refine Bw rfl (Yn (QS Qp<|QS (K0 rfl) Z2)<|by show(2)<=1000;decide) (by rw[Xj];lia) #[g++[#[ab,D]],a,b,zf<|.int<|i,zf<|upD ab,some<|.ol<|D.map PyData.int,B,y,by rw[Xn,e];rfl,λk Y=>?_,?_]
     .by_cases z:k<g.length
      .rw[List.getElem_append_left z];exact h k z
      .have:k=g.length:=by rw[Xn]at Y;have:[(#[ab,D]:Ln)].length=1:=rfl;lia
       subst this;rw[List.getElem_append_right<|Xm _];simp only[BB,List.getElem_cons_zero];exact e▸#[I,G,r,F]
     .rw[XL];rfl
  rintro _ ⟨g,a,b,X,W,L,B,y,⟨l1,l5⟩,h,rfl⟩;refine VZ (Yn (QS Qp<|QS (K0 rfl) Z2)<|by show(2)<=1000;decide) #[_,#[#[T,g],Ax Z U l1 l5 h,λl hl=>?_,rfl],rfl];obtain⟨k,Y,rfl⟩:=BA.mp hl;exact(h k Y).2.2.2
theorem K4:∀{c:Ql},c≠[]->∃M∈c,∀a∈c,a<=M
 |[],h=>Xv rfl h
 |[x],_=>⟨x,Xb,λa b=>by rw[Xi.mp b];exact YI _⟩
 |x::y::c,_=>by
  apply At (K4 (List.cons_ne_nil _ _));intro M g f
  by_cases h:x<=M
  .refine#[M,Xh _ g,λa b=>?_];rcases Xf.mp b with rfl|b
   .exact h
   .exact f a b
  .refine#[x,Xb,λa b=>?_];rcases Xf.mp b with rfl|b
   .exact YI _
   .have:=f a b;lia
noncomputable def mxB(bs:Ql):Int:=open Classical in if h:bs≠[] then Classical.choose (K4 h) else 0
def Tk(h:bs≠[]):mxB bs∈bs/\∀a∈bs,a<=mxB bs:=by
 unfold mxB;rw[dif_pos h];exact Classical.choose_spec (K4 h)
structure G30(y:Yd)(g:Gs):Prop where
 ok:g.Ok y
 w:g.want<10^30
 m:g.most<10^30
inductive R_dguest:Qd->List OT->(OT->Qd->Prop)->Prop
 |mk {a b:Int}{y:Yd}{nw:Nat}(ok:y.Ok):R_dguest [.int a,.int b] [.fz<|QH y,.fz<|.int (nw:Int)] (λr ds'=>∃g:Gs,G30 y g/\r=.fz (QZ g))
def GB{n:Nat}(h:n<=8):(n:Int)<=10^60:=Gx (show(n:Int)<=8 by lia) (by decide +kernel)
def U3:Qo Zan Zat (QG Hu):=by walk_at"p"
def Zoz(T:Bl mg)(CH:Df K mg "_law_guest" Hu Zat)(i:QC P w K mg base "_law_digit" Zal 1 (spP K olP R_digit)):QC P w K mg base "_law_guest" Zat 2 (spP K olP R_dguest):=by
 refine CH.evP U3 (λf v M ts Ψ h H hi S A outer s D=>?_);cases h with
 |@mk a b y j d=>
  refine#[_,(Qw (QP 3 U3.nd<|QI i D<|av 0<|Qu (Q9 QA (pv 1) Qx) Qq)
 (Qw (Zb (PW.pt<|UQ (Mz Yw Yw (pv 3) (pv 2)<|Q9 QA (pv 1) Qx)<|Ge<|Zx VY (QI i D<|av 0<|Qu Qx Qq) Qx<|Zi _) (Qy<|QP 3 U3.nd<|QW VH (pv 2)<|QI i D<|av 0<|Qu (QW Yb (Q9 QA (pv 1) Qx)<|pv 2) Qq) Za)
 (Qw (QP 4 U3.nd<|QW VH (pv 3)<|QI i D<|av 0<|Qu (QW Yb (Q9 QA (pv 1) Qx)<|pv 3) Qq)
 (Qw (QP 5 U3.nd<|QI i D<|av 0<|Qu (Zw ZY (by rfl) T.len ZV<|Qu (Q9 QA (pv 1) Qx) Qq) Qq)
 (Qw (QP 6 U3.nd<|Q9 QA (Zz<|Qu Qx<|Qu Qx<|Qu Qx<|Qu (QW Yb (QW Dn Qx Qx) Qx) Qq)<|QI i D<|av 0<|Qu Qx Qq)
 (Qw (Zb (Zx Yw (Zw EA (by rfl) T.max KG<|Qu (Wg (NX:=Zan) (sc:=QG Hu) (N:=ZaO) (f:=[none,none]) rfl (by decide +kernel) rfl rfl (Ad<|Q9 QA (pv 1) Qx) (λ_=>(J5 (n:=2) rfl (Zy (QT 0 (show(ZaO:Qh).Nodup by decide +kernel))<|Zy (QT 1 (show(ZaO:Qh).Nodup by decide +kernel)) Yz))) (λ_=>(PZ (n:=2)<|DE Yf<|DE Yf TJ)) (λ_=>J8) λ_=>(Zw E9 (by rfl) T.max KG<|av 1 Qq)) Qq) Qx<|Zi _) (Qy<|QP 6 U3.nd<|Zw (Ds rfl) (by rfl) T.min Me<|av 6<|Qu Qx Qq) Za)
 (Qw (QP 7 U3.nd<|QW VH Qx<|QI i D<|av 0<|av 6 Qq)
 (Qy<|QK<|Yq<|av 5<|av 3<|av 4<|av 7<|Qu (QW VH Qx<|QI i D<|av 0<|av 6 Qq) Qq)))))))),?_]
  show EvR K _ [zo v<|olP [.int a,.int b],zf<|QH y,zi (j:Int),none,none,none,none,none] _
  walk_at"x";have U:=d.t1;have l1:=d.l1;have Z:=d.l5;have X:(0:Int)<10^(30:Int).toNat-1/\(10:Int)^(30:Int).toNat-1<10^30:=by decide +kernel
  have Q:(20:Int)<10^30:=by decide +kernel
  have p:∀{Y:Zbv},Y[1]?=some (zf<|QH y)->Qr K (tOp (rIx K) (Q3 1)<|tC<|.int 0) Y (.int (y.T:Int)):=λe=>Vc (ds:=[PyData.int (y.T:Int),.tuple<|y.ls.map ZU]) (Qp e) Q2 rfl;have I:∀{Y:Zbv},Y[1]?=some (zf<|QH y)->Qr K (tOp (rIx K) (Q3 1)<|tC<|.int 1) Y (.tuple<|y.ls.map ZU):=λe=>Vc (ds:=[PyData.int (y.T:Int),.tuple<|y.ls.map ZU]) (Qp e) Q2 rfl;refine Z7 (λJ=>∃(g:Nat) (a b:Int),g<y.T/\J=[zo v<|olP [.int a,.int b],zf<|QH y,zi (j:Int),zi (g:Int),none,none,none,none]) (JB (YF rfl (p rfl) #[]<|GB d.t8) ?_) ?_
  .rintro n _ ⟨B,L,a,b,rfl⟩;refine#[n.toNat,a,b,#[],?_];rw[XV B];rfl
  rintro _ ⟨g,a,b,hfs,rfl⟩;refine Z7 (λJ=>∃(g:Nat) (a b:Int),g<y.T/\J=[zo v<|olP [.int a,.int b],zf<|QH y,zi (j:Int),zi (g:Int),none,none,none,none]) ?_ ?_
  .by_cases c:g<j/\j<y.T
   .refine AJ (QO.cast (Zc<|Uo Qp Qp<|p rfl) ?_) (YF rfl Q2 (by decide)<|by decide +kernel) ?_
    .rw[Xq (show(g:Int)<j by lia),Xq (show(j:Int)<y.T by lia)];rfl
    rintro n _ ⟨B,L,a,b,rfl⟩;refine Zf (Zc<|ZI Q2 Q2) (λ_=>Lq rfl (YF rfl (ZD (p rfl) Qp) #[]<|Gx (show(y.T:Int)-(j:Int)<=(y.T:Int) by lia)<|GB d.t8) ?_) (λ_=>Zl #[g,a,b,hfs,rfl]);rintro n _ ⟨B,L,a,b,rfl⟩;refine ZF (ZD Qp Q2) #[((j:Int)+n).toNat,a,b,#[],?_];rw[XV<|#[]];rfl
   .refine Zf (b:=false) (UN (b:=false) (c:=false) (QO.cast (Zc<|Uo Qp Qp<|p rfl) ?_) nf) nf (λ_=>Zl #[g,a,b,hfs,rfl]);rw[<- Bool.decide_and];exact Xt #[]
  rintro _ ⟨g,a,b,hfs,rfl⟩;refine Z7 (λJ=>∃(m:Nat) (a b:Int),g<=m/\m<y.T/\J=[zo v<|olP [.int a,.int b],zf<|QH y,zi (j:Int),zi (g:Int),zi (m:Int),none,none,none]) (Lq rfl (YF rfl (ZD (p rfl) Qp) #[]<|Gx (show(y.T:Int)-(g:Int)<=(y.T:Int) by lia)<|GB d.t8) ?_) ?_
  .rintro n _ ⟨B,L,a,b,rfl⟩;refine ZF (ZD Qp Q2) #[((g:Int)+n).toNat,a,b,#[],#[],?_];rw[XV<|#[]];rfl
  rintro _ ⟨m,a,b,o,k,rfl⟩;refine Z7 (λJ=>∃(C:Nat) (a b:Int),C<y.ls.length/\J=[zo v<|olP [.int a,.int b],zf<|QH y,zi (j:Int),zi (g:Int),zi (m:Int),zi (C:Int),none,none]) (JB (YF rfl (Qr.cast (GP<|I rfl) (show _=PyData.int (y.ls.length:Int) by rw[Xj])) #[]<|GB<|#[]) ?_) ?_
  .rintro n _ ⟨B,L,a,b,rfl⟩;refine#[n.toNat,a,b,#[],?_];rw[XV B];rfl
  rintro _ ⟨C,a,b,E,rfl⟩;refine Z7 (λJ=>∃sc a b:Int,0<sc/\sc<10^30/\J=[zo v<|olP [.int a,.int b],zf<|QH y,zi (j:Int),zi (g:Int),zi (m:Int),zi (C:Int),zi sc,none]) (Fg (ds:=[.int 4,.int 9,.int 20,.int<|10^(30:Int).toNat-1]) (EvO.fz<|ZW (QS Q2<|QS Q2<|QS Q2<|QS (ZD (VC Q2 Q2<|BP (by decide)<|by decide) Q2) Z2)<|by show(4:Nat)<=1000;decide) (YF rfl Q2 (by decide)<|by decide +kernel) ?_) ?_
  .rintro n _ ⟨B,L,a,b,rfl⟩;obtain rfl|rfl|rfl|rfl:n=0\/n=1\/n=2\/n=3:=#[]
   .exact#[_,rfl,4,a,b,by decide,#[],rfl]
   .exact#[_,rfl,9,a,b,by decide,#[],rfl]
   .exact#[_,rfl,20,a,b,by decide,#[],rfl]
   .exact#[_,rfl,_,a,b,X.1,X.2,rfl]
  rintro _ ⟨sc,a,b,s0,q,rfl⟩;have R:∀l∈y.ls,l.bs≠[]:=λl F z=>by
   have:=d.bl l F;rw[z]at this;have:(0:Nat)=y.T:=this;lia
  have t:(y.ls.map λl=>mxB l.bs)≠[]:=λz=>by
   have:=XS List.length z;rw[Xj]at this;have:y.ls.length=0:=this;lia
  obtain⟨x,u⟩:=Tk t;refine Z7 (λJ=>∃sc:Int,0<sc/\sc<10^30/\J=[zo v<|olP [.int a,.int b],zf<|QH y,zi (j:Int),zi (g:Int),zi (m:Int),zi (C:Int),zi sc,none]) (Zf (b:=decide (mxB (y.ls.map λl=>mxB l.bs)<20)) (QO.cast (Zc<|ZI (ER (ns:=y.ls.map λl=>mxB l.bs) (Qr.cast (EvO.fz<|BQ (xs:=y.ls) (enc:=ZU) (h:=λl=>.int<|mxB l.bs) ?ei #[] ?el)<|by rw[Yg];rfl) rfl x u) Q2) rfl) (λ_=>?_) λ_=>Zl #[sc,s0,q,rfl]) ?_
  case ei=>exact Ph (I rfl)
  case el=>
   intro l F c;obtain⟨k1,k2⟩:=Tk (R l F);refine#[_,WN (ds:=[upD l.up,.tuple<|l.bs.map PyData.int]) (Vb Zr<|Vb Zr Wx) rfl,?_];walk_at"e";exact Iv (ns:=l.bs) Qp rfl k1 k2
  .refine ZF (KP Qp Q2) #[min sc 20,#[],#[],rfl]
  rintro _ ⟨sc,s0,q,rfl⟩;refine Z7 (λJ=>∃W a b:Int,1<=W/\W<10^30/\J=[zo v<|olP [.int a,.int b],zf<|QH y,zi (j:Int),zi (g:Int),zi (m:Int),zi (C:Int),zi sc,zi W]) (L7 (YF rfl Qp s0<|p60<|Int.le_of_lt q) ?_) ?_
  .rintro n _ ⟨B,L,a,b,rfl⟩;refine ZF (ZD Q2 Q2) #[1+n,a,b,#[],#[],rfl]
  rintro _ ⟨W,a,b,O,G,rfl⟩;refine EQ rfl rfl rfl rfl (YF rfl Qp s0<|p60<|Int.le_of_lt q) ?_;rintro n _ ⟨B,L,a,b,rfl⟩;refine VZ (Yn (ds:=[.int (C:Int),.int (g:Int),.int (m:Int),.int W,.int<|1+n]) (QS Qp<|QS Qp<|QS Qp<|QS Qp<|QS (ZD Q2 Q2) Z2)<|by show(5:Nat)<=1000;decide) #[_,#[#[C,g,m,W,1+n],#[#[E,o,k,O,Ng G,by show 1<=1+n;lia,Ng<|by show 1+n<_;lia],G,by show 1+n<_;lia],rfl],rfl]
inductive R_iswhole:List OT->OT->Prop
 |mk {i:Int}:R_iswhole [.fz<|.int i] (.fz<|.bool true)
def ZlO:Qo ["thing"] ["thing"] (QG R7):=by walk_at"p"
def Zot(T:Bl mg)(CH:Df K mg "is_whole" R7 ["thing"]):QC P w K mg base "is_whole" ["thing"] 1 (QQ (K:=K) R_iswhole):=by
 refine CH.ev ZlO (λf ts r h H g b A outer s c=>?_);cases h with
 |@mk i=>
  exact#[_,(Qy<|QK<|Mi (Zw GQ (by rfl) T.isi Um<|av 0<|Qu (Jc (v:=.ty "int") rfl T.int KS rfl) Qq)<|Mm<|AC<|Zw GQ (by rfl) T.isi Um<|av 0<|Qu (Jc (v:=.ty "bool") rfl T.bool TZ rfl) Qq),Vq (GN (UP Qp rfl) λ_=>Pu<|UP Qp rfl) rfl]
inductive R_within:List OT->OT->Prop
 |mk {i lo E:Int}:R_within [.fz<|.int i,.fz<|.int lo,.fz<|.int E] (.fz<|.bool<|decide (lo<=i)&&decide (i<E))
def Zge:Qo Zaz Zaz (QG Ss):=by walk_at"p"
def Zp2(T:Bl mg)(CH:Df K mg "is_whole_within" Ss Zaz)(b:QC P w K mg base "is_whole" ["thing"] 1 (QQ (K:=K) R_iswhole)):QC P w K mg base "is_whole_within" Zaz 2 (QQ (K:=K) R_within):=by
 refine CH.ev Zge (λf ts r h H m g A outer s c=>?_);cases h with
 |@mk i j E=>
  exact#[_,(Qy<|QK<|Mi (QI b c<|av 0 Qq)<|Mm<|Lh WO Yw (pv 1) (pv 0)<|pv 2),Vq (GN (Zk (Qv Qp Q5) R_iswhole.mk) λ_=>Uo Qp Qp Qp) rfl]
inductive R_isamount:List OT->OT->Prop
 |mk {i:Int}(h0:1<=i)(h1:i<10^30):R_isamount [.fz<|.int i,.fz<|.int 1] (.fz<|.bool true)
def Zlx:Qo ZaT ZaT (QG RF):=by walk_at"p"
def ZlX(T:Bl mg)(CH:Df K mg "is_amount" RF ZaT)(b:QC P w K mg base "is_whole_within" Zaz 2 (QQ (K:=K) R_within)):QC P w K mg base "is_amount" ZaT 3 (QQ (K:=K) R_isamount):=by
 refine CH.ev Zlx (λf ts r h H v m A outer s g=>?_);cases h with
 |@mk i j c=>
  refine#[_,(Qy<|QK<|QI b g<|av 0<|av 1<|Qu (QW Dn Qx Qx) Qq),?_];have e:(10:Int)^30=10^(30:Int).toNat:=by decide +kernel
  rw[e]at c;refine Vq (Qr.cast (Zk (Qv Qp<|Qv Qp<|Qv (VC Q2 Q2<|BP (by decide)<|by decide) Q5) R_within.mk) ?_) rfl;rw[Xq j,Xq c];rfl
inductive R_tupof:List OT->OT->Prop
 |mk {g:Gs}:R_tupof [.fz<|QZ g,.fz<|.int 5] (.fz<|.bool true)
def ZiA:Qo ZaP ZaP (QG RW):=by walk_at"p"
def ZrU(T:Bl mg)(CH:Df K mg "is_tuple_of" RW ZaP):QC P w K mg base "is_tuple_of" ZaP 1 (QQ (K:=K) R_tupof):=by
 refine CH.ev ZiA (λf ts r h H i b A outer s c=>?_);cases h with
 |@mk g=>
  exact#[_,(Qy<|QK<|Mi (Zw GQ (by rfl) T.isi Um<|av 0<|Qu (Jc (v:=.ty "tuple") rfl T.tuple DL rfl) Qq)<|Mm<|Jf Jy (Zw ZY (by rfl) T.len ZV<|av 0 Qq) (pv 1)<|Zi _),Vq (GN (UP Qp rfl) λ_=>Wh (GP Qp) Qp) rfl]
inductive R_isguest:List OT->OT->Prop
 |mk {y:Yd}{g:Gs}(h:G30 y g):R_isguest [.fz<|QH y,.fz<|QZ g] (.fz<|.bool true)
def ZlQ:Qo ZaM ZaM (QG R6):=by walk_at"p"
def Zoq(T:Bl mg)(CH:Df K mg "is_guest" R6 ZaM)(C:QC P w K mg base "is_tuple_of" ZaP 1 (QQ (K:=K) R_tupof))(i:QC P w K mg base "is_whole_within" Zaz 2 (QQ (K:=K) R_within))(B:QC P w K mg base "line_count" ZaI 1 (QQ (K:=K) R_count))(v:QC P w K mg base "turns_of" ZaI 1 (QQ (K:=K) R_turns))(m:QC P w K mg base "is_amount" ZaT 3 (QQ (K:=K) R_isamount)):QC P w K mg base "is_guest" ZaM 4 (QQ (K:=K) R_isguest):=by
 refine CH.ev ZlQ (λf ts r h H W N A outer s c=>?_);cases h with
 |@mk y g h=>
  refine#[_,(Qw (Zb (VG<|ZO<|QI C c<|av 1<|Qu Qx Qq) (Qy<|QK Vj) Za)
 (Qw (Zb (VG<|ZO<|QI i c<|Qu (Q9 QA (pv 1) Qx)<|Qu Qx<|Qu (QI B c<|av 0 Qq) Qq) (Qy<|QK Vj) Za)
 (Qw (Zb (VG<|ZO<|QI i c<|Qu (Q9 QA (pv 1) Qx)<|Qu Qx<|Qu (QI v c<|av 0 Qq) Qq) (Qy<|QK Vj) Za)
 (Qw (Zb (VG<|ZO<|QI i c<|Qu (Q9 QA (pv 1) Qx)<|Qu (Q9 QA (pv 1) Qx)<|Qu (QI v c<|av 0 Qq) Qq) (Qy<|QK Vj) Za)
 (Qy<|QK<|Mi (QI m c<|Qu (Q9 QA (pv 1) Qx)<|Qu Qx Qq)<|Mm<|QI m c<|Qu (Q9 QA (pv 1) Qx)<|Qu Qx Qq))))),?_]
  try dsimp only[VE]
  obtain⟨⟨k1,k2,k3,M,_,L,_⟩,k5,D⟩:=h;have j:∀{Y:Zbv} {n:Int} {d:PyData},Y[1]?=some _->atI [.int<|g.line,.int<|g.first,.int<|g.last,.int g.want,.int g.most] n=some d->Qr K _ Y d:=λe h=>Vc (Qp e) Q2 h;refine QL (Zf (b:=false) (VD<|ZH<|Zk (Qv Qp<|Qv Q2 Q5) R_tupof.mk) nf λ_=>Zl (QL (Zf (b:=false) (VD (b:=true)<|ZH<|Qr.cast (Zk (Qv (j rfl rfl)<|Qv Q2<|Qv (Zk (Qv Qp Q5) R_count.mk) Q5) R_within.mk) ?_) nf λ_=>Zl ?_)))
  .simp_all
  refine QL (Zf (b:=false) (VD (b:=true)<|ZH<|Qr.cast (Zk (Qv (j rfl rfl)<|Qv Q2<|Qv (Zk (Qv Qp Q5) R_turns.mk) Q5) R_within.mk) ?_) nf λ_=>Zl ?_)
  .rw[ Xq (show(g.first:Int)<(y.T) by lia)];rfl
  refine QL (Zf (b:=false) (VD (b:=true)<|ZH<|Qr.cast (Zk (Qv (j rfl rfl)<|Qv (j rfl rfl)<|Qv (Zk (Qv Qp Q5) R_turns.mk) Q5) R_within.mk) ?_) nf λ_=>Zl ?_)
  .simp_all
  exact Vq (GN (Zk (Qv (j rfl rfl)<|Qv Q2 Q5)<|R_isamount.mk M k5) λ_=>Zk (Qv (j rfl rfl)<|Qv Q2 Q5)<|R_isamount.mk L D) rfl
def UV:NoH "now" := λ_ _ _ _ _ _=>rfl
def Lv:NoH "leave" := λ_ _ _ _ _ _=>rfl
def Nj:NoH "come" := λ_ _ _ _ _ _=>rfl
def E7:NoH "got" := λ_ _ _ _ _ _=>rfl
def Nb:NoH "rest" := λ_ _ _ _ _ _=>rfl
def Ix:NoH "open_ones" := λ_ _ _ _ _ _=>rfl
def Li:NoH "gifts" := λ_ _ _ _ _ _=>rfl
def Ik:NoH "yard_now" := λ_ _ _ _ _ _=>rfl
def NK:NoH "still_there" := λ_ _ _ _ _ _=>rfl
def Ur:NoH "refuse_past" := λ_ _ _ _ _ _=>rfl
def TB:NoH "turn" := λ_ _ _ _ _ _=>rfl
def US:NoH "refuse_number" := λ_ _ _ _ _ _=>rfl
def Zhi:Qo ZaS ZaS (QG B8):=by walk_at"p"
def En{f:Addr}(T:Bl mg)(c:HandC K D)(F:Fun K "__init__" "Hand.__init__" B8 f fd):FnOk P w K mg base CX0 1 f fd ZaS (MM D):=by
 refine F.ok Zhi (by rintro r H Q u ⟨x,L,y,e,_⟩;rw[e];rfl) ?_;rintro r H Q u ⟨x,L,y,rfl,t,q⟩ z A outer s O;refine#[_,(Qw (YT (pv 0) (pv 1) rfl)
 (Qw (YT (pv 0) Qx rfl)
 (Qw (YT (pv 0) (Zz Qq) rfl)
 (Qw (YT (pv 0) (Zz Qq) rfl)
 (Qw (YT (pv 0) N0 rfl)
 (Qy<|YT (pv 0) (Zz Qq) rfl)))))),?_]
 refine#[y,rfl,_,rfl,x,D,L,[],rfl,t,c.cl,c.yd,by decide,#[_,rfl,x,D,L,[("yard",y)],rfl,by rw[Q8];rfl,c.cl,c.pr,(by show(1)<1000;decide),#[XJ _,λk W=>#[_,rfl,x,D,L,[("yard",y),("present",.int 0)],rfl,?_,c.cl,c.kn,(by show(2)<1000;decide),?_]]]]
 .have j:=ZB Q8 W;rw[Qs j,Q8];rfl
 have j:=ZB Q8 W;rw[Qs<|Ne.symm j,Qs<|Ne.symm j]at W;refine#[XJ _,λg M=>#[_,rfl,x,D,L,[("yard",y),("present",.int 0),("known",.ref k)],rfl,?_,c.cl,c.gv,(by show(3)<1000;decide),?_]]
 .have v:=ZB Q8 M;rw[Qs v,Q8];rfl
 have v:=ZB Q8 M;rw[Qs<|Ne.symm v]at M;have Y:=ZB Q8 M;rw[Qs<|Ne.symm Y,Qs<|Ne.symm v,Qs<|Ne.symm v]at M;refine λd C=>#[_,rfl,x,D,L,[("yard",y),("present",.int 0),("known",.ref k),("given",.ref g)],rfl,?_,c.cl,c.go,(by show(4)<1000;decide),?_]
 .have B:=ZB Q8 C;rw[Qs B,Q8];rfl
 have B:=ZB Q8 C;rw[Qs<|Ne.symm B]at C;have n:=ZB Q8 C;rw[Qs<|Ne.symm n,Qs<|Ne.symm B]at C;have a:=ZB Q8 C;rw[Qs<|Ne.symm a,Qs<|Ne.symm B,Qs<|Ne.symm B]at C;refine#[XJ _,λm h=>#[_,rfl,x,D,L,[("yard",y),("present",.int 0),("known",.ref k),("given",.ref g),("gone",.ref d)],rfl,?_,c.cl,c.md,(by show(5)<1000;decide),?_]]
 .have i:=ZB Q8 h;rw[Qs i,Q8];rfl
 have i:=ZB Q8 h;rw[Qs<|Ne.symm i]at h;have o:=ZB Q8 h;rw[Qs<|Ne.symm o,Qs<|Ne.symm i]at h;have l:=ZB Q8 h;rw[Qs<|Ne.symm l,Qs<|Ne.symm i]at h;have X:=ZB Q8 h;rw[Qs<|Ne.symm X,Qs<|Ne.symm i,Qs<|Ne.symm i]at h;refine q k g d m _ W M C h ?_ ?_ ?_ ?_ ?_ ?_ (λb p=>?_)
 .simp only[Xu,Xf,X5,or_false,not_or,not_false_eq_true,Gz,and_true];exact#[#[j,v,B,i],#[Y,a,X],#[n,l],o]
 .rw[Q8];rfl
 .rw[Qs<|Ne.symm j,Qs X,Qs<|Ne.symm j,Qs a,Qs<|Ne.symm j,Qs Y,Qs<|Ne.symm j,Q8]
 .rw[Qs<|Ne.symm v,Qs l,Qs<|Ne.symm v,Qs n,Qs<|Ne.symm v,Q8]
 .rw[Qs<|Ne.symm B,Qs o,Qs<|Ne.symm B,Q8]
 .rw[Qs<|Ne.symm i,Q8]
 .simp only[Xf,X5,or_false,not_or]at p;apply Hs p;intro N J I G E;rw[Qs N,Qs E,Qs N,Qs G,Qs N,Qs I,Qs N,Qs J,Qs N,Qs N]
inductive R_hpast(D:Addr):List OT->(OT->Prop)->Prop
 |mk {N:HandS}{t:Int}(h:N.now<=t):R_hpast D [.zow<|Zj D N,.fz<|.int t] (λr=>r=.fz .none)
inductive X_hpast(D:Addr):List OT->(Unit->Prop)->Prop
 |mk {N:HandS}{t:Int}(h:t<N.now):X_hpast D [.zow<|Zj D N,.fz<|.int t] (λ_=>True)
def ZfC:Qo ZaF ZaF (QG Sv):=by walk_at"p"
def OA(T:Bl mg)(i:HandC K D)(g:HM K mg "NoTime" ct)(CH:Mf K D "refuse_past" "Hand.refuse_past" Sv ZaF):ZK P w K mg base D "refuse_past" ZaF 1 (V8 K ct Yu (R_hpast D)<|X_hpast D):=by
 refine CH.evZ ZfC (λf H RR ts j b h c A outer s m=>?_) (λf F H RR ts j b v h c A outer s m=>?_)
 .cases h with
  |@mk N t h=>
   exact#[_,(Qy<|Zb (Zx Yw (pv 1) (QV<|pv 0)<|Zi _) (Qy<|FV g b<|Qu Vd Qq) Za),Zf (QO.cast (Zc<|ZI Qp<|Mx i rfl)<|Xt<|#[]) nf (λ_=>Zl rfl)]
 .cases h with
  |@mk N t h=>
   exact#[_,(Qy<|Zb (Zx Yw (pv 1) (QV<|pv 0)<|Zi _) (Qy<|FV g b<|Qu Vd Qq) Za),De (QO.cast (Zc<|ZI Qp<|Mx i rfl)<|Xq h) (λ_=>Zqc V2 trivial v) nt]
def Zfs:Qo Zab Zab (QG B5):=by walk_at"p"
def ZpJ{f:Addr}(T:Bl mg)(F:Fun K "__init__" "NoNumber.__init__" B5 f fd)(cl:U7 K YR CQ f)(xs:S7 K CQ)(c:W.takerIn K CQ "number"=some none)(g:mg "YardError"=some (.ref YR)):FnOk P w K mg base CX0 1 f fd Zab (Bj CQ "number"):=by
 refine F.ok Zfs ?_ (λb H Q i h j A outer s m=>#[_,Qw (Zp<|LC cl rfl g rfl Qa)<|Qy<|Lc xs c (pv 0) (pv 1) rfl,Zrt h]);rintro b H Q i ⟨e,x,h,_⟩;rw[h];rfl
inductive R_withw:List OT->OT->Prop
 |mk {g:Gs}{z:Int}:R_withw [.fz<|QZ g,.fz<|.int z] (.fz<|QZ { g with want:=z })
def Zk4:Qo ZaV ZaV (QG RH):=by walk_at"p"
def IV(T:Bl mg)(CH:Df K mg "with_want" RH ZaV):QC P w K mg base "with_want" ZaV 1 (QQ (K:=K) R_withw):=by
 refine CH.ev Zk4 (λf ts r h H j c A outer s i=>?_);cases h with
 |@mk g z=>
  refine#[_,(Qy<|QK<|Yq<|Qu (Q9 QA (pv 0) Qx)<|Qu (Q9 QA (pv 0) Qx)<|Qu (Q9 QA (pv 0) Qx)<|av 1<|Qu (Q9 QA (pv 0) Qx) Qq),?_];have b:∀{Y:Zbv} {n:Int} {d:PyData},Y[0]?=some (zf<|QZ g)->atI [.int _,.int _,.int _,.int g.want,.int g.most] n=some d->Qr K _ Y d:=λe h=>Vc (Qp e) Q2 h;exact Vq (Yn (QS (b rfl rfl)<|QS (b rfl rfl)<|QS (b rfl rfl)<|QS Qp<|QS (b rfl rfl) Z2)<|by show(5)<=1000;decide) rfl
inductive R_stay:List OT->OT->Prop
 |mk {g:Gs}{n:Nat}:R_stay [.fz<|QZ g,.fz<|.int (n:Int)] (.fz<|QZ { g with first:=max g.first n })
def Ziq:Qo Zay Zay (QG Sn):=by walk_at"p"
def EZ(T:Bl mg)(CH:Df K mg "staying_from" Sn Zay):QC P w K mg base "staying_from" Zay 1 (QQ (K:=K) R_stay):=by
 refine CH.ev Ziq (λf ts r h H j c A outer s i=>?_);cases h with
 |@mk g n=>
  refine#[_,(Qy<|QK<|Yq<|Qu (Q9 QA (pv 0) Qx)<|Qu (Zw (Ea rfl) (by rfl) T.max KG<|Qu (Q9 QA (pv 0) Qx)<|av 1 Qq)<|Qu (Q9 QA (pv 0) Qx)<|Qu (Q9 QA (pv 0) Qx)<|Qu (Q9 QA (pv 0) Qx) Qq),?_];have b:∀{Y:Zbv} {n:Int} {d:PyData},Y[0]?=some _->atI [.int<|g.line,.int<|g.first,.int<|g.last,.int g.want,.int g.most] n=some d->Qr K _ Y d:=λe h=>Vc (Qp e) Q2 h;refine Vq (Qr.cast (Yn (QS (b rfl rfl)<|QS (P5 (b rfl rfl) Qp)<|QS (b rfl rfl)<|QS (b rfl rfl)<|QS (b rfl rfl) Z2)<|by show(5)<=1000;decide) ?_) rfl;have e:max (g.first:Int) (n)=((max g.first n)):=#[]
  rw[e];rfl
def MX(N:HandS)(k:Nat)(z:Int):Prop := ∃(g:Gs) (x:Int),N.known[k]?=some (QZ g)/\N.given[k]?=some x/\z=if (Yv N.gone<|.inl (k:Int)).isSome then 0 else g.want-x
inductive R_hnum(D:Addr):List OT->(OT->Prop)->Prop
 |mk {N:HandS}{k:Nat}(h:k<N.known.length):R_hnum D [.zow<|Zj D N,.fz<|.int (k:Int)] (λr=>r=.fz .none)
inductive X_hnum(D:Addr):List OT->(V->Prop)->Prop
 |mk {N:HandS}{z:Int}(h:z<0\/(N.known.length:Int)<=z):X_hnum D [.zow<|Zj D N,.fz<|.int z] (λw=>w=.int z)
def ZeV:Qo Zab Zab (QG Sr):=by walk_at"p"
def EC(T:Bl mg)(y:HandC K D)(v:XC K mg "NoNumber" YR CQ fQ)(CH:Mf K D "refuse_number" "Hand.refuse_number" Sr Zab)(j:QC P w K mg base "is_whole_within" Zaz 2 (QQ (K:=K) R_within))(i:GL P w K mg base fQ Zab 1 (Bj CQ "number")):ZK P w K mg base D "refuse_number" Zab 3 (WL K CQ "number" (R_hnum D)<|X_hnum D):=by
 refine CH.evZ ZeV (λf H RR ts B c h m A outer s g=>?_) (λf F H RR ts B c C h m A outer s g=>?_)
 .cases h with
  |@mk N k h=>
   refine#[_,(Qy<|Zb (VG<|ZO<|QI j g<|av 1<|Qu Qx<|Qu (Zw ZY (by rfl) T.len ZV<|Qu (QV<|pv 0) Qq) Qq) (Qy<|Gk v i c g<|av 1 Qq) Za),?_];show QB K _ [_,_] _
   walk_at"x";refine Zf (b:=false) (VD (b:=true)<|ZH<|Qr.cast (Zk (Qv Qp<|Qv Q2<|Qv (W3<|Bz y rfl) Q5) R_within.mk) ?_) nf (λ_=>Zl rfl);rw[Xq (show(0:Int)<=(k:Int) by lia),Xq (show(k:Int)<(N.known.length:Int) by lia)];rfl
 .cases h with
  |@mk N z h=>
   refine#[_,(Qy<|Zb (VG<|ZO<|QI j g<|av 1<|Qu Qx<|Qu (Zw ZY (by rfl) T.len ZV<|Qu (QV<|pv 0) Qq) Qq) (Qy<|Gk v i c g<|av 1 Qq) Za),?_];show EvZ K F H _ [zz<|Zj D N,zi z]
   walk_at"x";refine De (b:=true) (VD (b:=false)<|ZH<|Qr.cast (Zk (Qv Qp<|Qv Q2<|Qv (W3<|Bz y rfl) Q5) R_within.mk) ?_) (λ_=>FF (Φx:=λw=>w=.int z) Qp rfl rfl C) nt;rcases h with h|h
   .rw[Xt (show ¬(0:Int)<=z by lia)];rfl
   .rw[Xt (show ¬z<(N.known.length:Int) by lia),Bool.and_false]
inductive R_hgot(D:Addr):List OT->(OT->Prop)->Prop
 |mk {N:HandS}{k:Nat}{x:Int}(h:k<N.known.length)(hx:N.given[k]?=some x):R_hgot D [.zow<|Zj D N,.fz<|.int (k:Int)] (λr=>r=.fz (.int x))
def NG{k:Nat}{x:Int}(hx:N.given[k]?=some x):atI (N.given.map PyData.int) (k:Int)=some (.int x):=VM (by rw[Xy,hx];rfl)
def Zmc:Qo Zab Zab (QG R4):=by walk_at"p"
def Ic(T:Bl mg)(j:HandC K D)(CH:Mf K D "got" "Hand.got" R4 Zab)(c:ZK P w K mg base D "refuse_number" Zab 3 (WL K CQ "number" (R_hnum D)<|X_hnum D)):ZK P w K mg base D "got" Zab 4 (WL K CQ "number" (R_hgot D)<|X_hnum D):=by
 refine CH.evZ Zmc (λf H RR ts m b h i A outer s g=>?_) (λf F H RR ts m b y h i A outer s g=>?_)
 .cases h with
  |@mk N k x h v=>
   refine#[_,(Qw (Zp<|V5 c j g (Y5 b) (pv 0)<|av 1 Qq)
 (PSs.nox<|Qy<|QK<|Q9 QA (QV<|pv 0)<|pv 1)),?_]
   exact QL (W9 (Jh US rfl (Qv Qp Q5) (R_hnum.mk h) b) (Vq (Vt (R1 j rfl) Qp<|NG v) rfl))
 .cases h with
  |@mk N z h=>
   refine#[_,(Qw (Zp<|V5 c j g (Y5 b) (pv 0)<|av 1 Qq)
 (PSs.nox<|Qy<|QK<|Q9 QA (QV<|pv 0)<|pv 1)),?_]
   exact J6 (Bu bkV US rfl (Qv Qp Q5) (X_hnum.mk h) b y)
inductive R_hrest(D:Addr):List OT->(OT->Prop)->Prop
 |mk {N:HandS}{k:Nat}{z:Int}(h:MX N k z):R_hrest D [.zow<|Zj D N,.fz<|.int (k:Int)] (λr=>r=.fz (.int z))
def Zla:Qo Zab Zab (QG RC):=by walk_at"p"
def Zrq(T:Bl mg)(y:HandC K D)(CH:Mf K D "rest" "Hand.rest" RC Zab)(v:ZK P w K mg base D "refuse_number" Zab 3 (WL K CQ "number" (R_hnum D)<|X_hnum D))(m:QC P w K mg base "want_of" ZaD 1 (QQ (K:=K) R_want)):ZK P w K mg base D "rest" Zab 4 (WL K CQ "number" (R_hrest D)<|X_hnum D):=by
 refine CH.evZ Zla (λf H RR ts L i h B A outer s j=>?_) (λf F H RR ts L i W h B A outer s j=>?_)
 .cases h with
  |@mk N k z h=>
   refine#[_,(Qw (Zp<|V5 v y j (Y5 i) (pv 0)<|av 1 Qq)
 (PSs.nox (Qw (Zb (Wz<|UT (Vo j) (pv 1)<|QV<|pv 0) (Qy<|QK Qx) Za)
 (Qy<|QK<|QW Yb (QI m j<|Qu (Q9 QA (QV<|pv 0)<|pv 1) Qq)<|Q9 QA (QV<|pv 0)<|pv 1)))),?_]
   show QB K _ [_,_] _
   walk_at"x";apply aF h;rintro g x C M rfl;have X:=(Xc.mp C).1;refine QL (W9 (Jh US rfl (Qv Qp Q5) (R_hnum.mk X) i) (QL (Zf (b:=(Yv N.gone<|.inl (k:Int)).isSome) (Zc<|Rg (k:=.inl (k:Int)) y Qp rfl) (λc=>?_) λc=>Zl ?_)))
   .rw[c];exact Vq Q2 rfl
   .rw[c];exact Vq (ZD (Zk (Qv (Vt (Bz y rfl) Qp<|VM C) Q5) R_want.mk)<|Vt (R1 y rfl) Qp<|NG M) rfl
 .cases h with
  |@mk N z h=>
   refine#[_,(Qw (Zp<|V5 v y j (Y5 i) (pv 0)<|av 1 Qq)
 (PSs.nox (Qw (Zb (Wz<|UT (Vo j) (pv 1)<|QV<|pv 0) (Qy<|QK Qx) Za)
 (Qy<|QK<|QW Yb (QI m j<|Qu (Q9 QA (QV<|pv 0)<|pv 1) Qq)<|Q9 QA (QV<|pv 0)<|pv 1)))),?_]
   show EvZ K F H _ [zz<|Zj D N,zi z]
   walk_at"x";exact J6 (Bu bkV US rfl (Qv Qp Q5) (X_hnum.mk h) i W)
inductive R_hopen(D:Addr):List OT->(OT->Prop)->Prop
 |mk {N:HandS}(rs:Qn)(h:∀k,k<N.known.length->MX N k (rs k))(l:N.known.length<=1000):R_hopen D [.zow<|Zj D N] (λr=>r=.ol (QR<|(List.range N.known.length).filter λk => !decide (rs k=0)))
def Zgw:Qo Zak Zak (QG Hz):=by walk_at"p"
def Ot(T:Bl mg)(j:HandC K D)(CH:Mf K D "open_ones" "Hand.open_ones" Hz Zak)(g:ZK P w K mg base D "rest" Zab 4 (WL K CQ "number" (R_hrest D)<|X_hnum D)):Z8 P w K mg base D "open_ones" Zak 5 (Zm K<|R_hopen D):=by
 refine CH.evD Zgw (λf ts y h H L v A outer s m=>?_);cases h with
 |@mk N B h l=>
  refine#[_,(Qy<|QK<|Wg (NX:=Zak) (sc:=QG Hz) (N:=["number","self"]) (f:=[none,some 0]) rfl (by decide +kernel) rfl rfl (Wm rfl T.range<|Qu (Zw ZY (by rfl) T.len ZV<|Qu (QV<|pv 0) Qq) Qq) (λ_=>(QT 0 (show(["number","self"]:Qh).Nodup by decide +kernel))) (λ_=>Yf) (λ_=>(Gf<|Zx UI (V5 g j m (WQ (C:=CQ)) (pv 1)<|av 0 Qq) Qx<|Zi _)) λ_=>(pv 0)),Uh (UU (enc:=λ(k:Nat)=>PyData.int<|k) ?ei (by exact Gq▸l) ?el) rfl]
  case ei=>
   exact EvI.cast (W5 (Qv (W3<|Bz j rfl) Q5) #[]<|#[])<|X6 λi _=>by rw[JP]
  case el=>
   exact λk b c=>#[_,Zr,#[Zc<|UM (DT Nb rfl (Qv Qp Q5) (R_hrest.mk<|h k (XN.mp b)) Us) Q2,λ_=>Qp rfl]]
def stl(gs:List Gs)(n:Nat)(b:Qn)(k:Nat):Gs:={ gs.getD k default with first:=max (gs.getD k default).first n,want:=b k }
inductive R_hstill(D:Addr):List OT->(OT->Prop)->Prop
 |mk {N:HandS}{gs:List Gs}{n:Nat}(rs:Qn)(hk:N.known=gs.map QZ)(hn:N.now=(n:Int))(h:∀k,k<gs.length->MX N k (rs k))(l:gs.length<=900):R_hstill D [.zow<|Zj D N] (λr=>r=.ol ((List.range gs.length).map λk=>QZ<|stl gs n rs k))
def HB:Qo ["self","guests","number","guest"] Zak (QG Su):=by walk_at"p"
def Zq1(T:Bl mg)(v:HandC K D)(CH:Mf K D "still_there" "Hand.still_there" Su Zak)(m:QC P w K mg base "with_want" ZaV 1 (QQ (K:=K) R_withw))(j:QC P w K mg base "staying_from" Zay 1 (QQ (K:=K) R_stay))(g:ZK P w K mg base D "rest" Zab 4 (WL K CQ "number" (R_hrest D)<|X_hnum D)):Z8 P w K mg base D "still_there" Zak 5 (Zm K<|R_hstill D):=by
 refine CH.evD HB (λf ts e h H o a A outer s c=>?_);cases h with
 |@mk N b n B M L h l=>
  refine#[_,(Qw (QP 1 HB.nd<|Zz Qq)
 (Qw (Vu zN rfl (by exact(MB rfl T.enumerate<|Qu (QV<|pv 0) Qq)) (J5 (n:=2) rfl (Zy (QT 2 HB.nd)<|Zy (QT 3 HB.nd) Yz))<|by exact(Qy<|Zp<|V1 zP zS zT V7 (pv 1)<|Qu (QI m c<|Qu (QI j c<|av 3<|Qu (QV<|pv 0) Qq)<|Qu (V5 g v c (WQ (C:=CQ)) (pv 0)<|av 2 Qq) Qq) Qq))
 (Qy<|QK<|pv 1))),?_]
  show QB K _ [_,_,_,_] _
  walk_at"x";refine QL (Yo (ZW (ds:=[]) Z2<|by decide) ?_);walk_at"d";refine QL (Mt (λi=>[zz<|Zj D N,some<|.ol<|(List.range i).map λk=>QZ<|stl b n B k,none,none]) (Mn<|Qv (Qr.cast (Bz v rfl) (show _=PyData.list (b.map QZ) by rw[M])) Q5) #[rfl,rfl,trivial] ?st ?fin)
  case st=>
   intro i d X;apply At (DX X);rintro Y y rfl;have E:i<b.length:=by
    have:=(Xc.mp y).1;simpa using this
   obtain rfl:Y=QZ (b.getD i default):=by simpa [E] using y.symm
   refine#[_,WN (ds:=[.int (i:Int),QZ<|b.getD i default]) (Vb Zr<|Vb Zr Wx) rfl,?_];walk_at"d";refine Bw rfl (Zk (Qv (Zk (Qv Qp<|Qv (Qr.cast (Mx v rfl)<|by rw[L]) Q5) R_stay.mk)<|Qv (DT Nb rfl (Qv Qp Q5) (R_hrest.mk<|h i E) Us) Q5) R_withw.mk) (by rw[Xj,Gq];lia) #[rfl,?_,trivial];rw[YK,XL];rfl
  case fin=>
   refine λJ W=>BY W ?_;rw[DW,Xj];exact Dx rfl rfl
def hT(y:Yd)(n:Nat)(gs:List Gs)(gv:Ql)(go:Qk)(ms:List Zc3):HandS:=#[QH y,(n:Int),gs.map QZ,gv,go.map λ(k:Nat)=>(.inl (k:Int),.bool true),ms]
def rsT(gs:List Gs)(gv:Ql)(go:Qk)(k:Nat):Int:=if k∈go then 0 else (gs.getD k default).want-gv.getD k 0
theorem Dy(k:Nat):∀go:Qk,(Yv (go.map λ(k:Nat)=>((.inl (k:Int):Key),PyData.bool true))<|.inl (k:Int)).isSome=decide (k∈go)
 |[]=>rfl
 |x::go=>by
  have b:=Dy k go;unfold Yv at b ⊢;rw[XI,List.find?_cons];by_cases z:x=k
  .subst z;simp
  .have c:¬((.inl (x):Key)=.inl (k)):=λq=>z #[]
   simp only[c,decide_false];rw[b];simp[Ne.symm z]
def Mv{y:Yd}(gl:gv.length=gs.length)(h:k<gs.length):MX (hT y n gs gv go ms) k (rsT gs gv go k):=by
 refine#[gs.getD k default,gv.getD k 0,by simp[hT,h],by simp[hT,h,gl],?_];show _=if (Yv (go.map λk=>_) _).isSome=true then _ else _;rw[Dy];unfold rsT;simp only[decide_eq_true_eq]
def mT(n:Nat)(gs:List Gs)(gv:Ql)(go:Qk):List Gs:=(List.range gs.length).map (stl gs n<|rsT gs gv go)
def VF(n:Nat)(gs:List Gs)(gv:Ql)(go:Qk):(mT n gs gv go).length=gs.length:=by simp[mT]
def K1(n:Nat)(gs:List Gs)(gv:Ql)(go:Qk):((List.range gs.length).map λk=>QZ<|stl gs n (rsT gs gv go) k)=(mT n gs gv go).map QZ:=by
 unfold mT;rw[Yg];rfl
def VJ(h:k<gs.length):(mT n gs gv go).getD k default=stl gs n (rsT gs gv go) k:=by simp[mT,h]
def GI{y:Yd}(f:∀x∈gs,G30 y x)(h0:∀k,k<gs.length->0<=rsT gs gv go k):∀x∈mT n gs gv go,GOk y x:=λx c=>by
 apply At (XH.mp c);rintro k b rfl;have b:=XN.mp b;have g:=(f (gs.getD k default)<|by simp[b]).ok;have h:=g.m1;exact#[g.ln,h0 k b,by show 0<=(gs.getD k default).most;lia]
inductive R_hcome:HandS->List OT->(OT->HandS->Prop)->Prop
 |mk {y:Yd}{n:Nat}{gs:List Gs}{gv:Ql}{go:Qk}{ms:List Zc3}{g:Gs}(ok:y.Ok)(hg:∀x∈gs,G30 y x)(gk:G30 y g)(gl:gv.length=gs.length)(gn:n<=g.first)(h0:∀k,k<gs.length->0<=rsT gs gv go k)(l:gs.length<=7)(h:∀S,Z3 y (Q0<|mT n gs gv go++[g]) S<=0):R_hcome (hT y n gs gv go ms) [.fz<|QZ g] (λr N'=>r=.fz (.int (gs.length:Int))/\N'=hT y n (gs++[g]) (gv++[0]) go ms)
inductive X_hcome(D:Addr):List OT->(Qd->Prop)->Prop
 |mk {y:Yd}{n:Nat}{gs:List Gs}{gv:Ql}{go:Qk}{ms:List Zc3}{g:Gs}(ok:y.Ok)(hg:∀x∈gs,G30 y x)(gk:G30 y g)(gl:gv.length=gs.length)(gn:n<=g.first)(h0:∀k,k<gs.length->0<=rsT gs gv go k)(l:gs.length<=7){S:Qm}(h:0<Z3 y (Q0<|mT n gs gv go++[g]) S):X_hcome D [.zow<|Zj D<|hT y n gs gv go ms,.fz<|QZ g] (λd=>∃S,0<Z3 y (Q0<|mT n gs gv go++[g]) S/\d=QR (ZE (mT n gs gv go++[g]) S))
def Cr:Qo ZaH ZaH (QG Hj):=by walk_at"p"
def Zr1(T:Bl mg)(L:HandC K D)(XR:XC K mg "NoRoom" YR CR fR)(CH:Mf K D "come" "Hand.come" Hj ZaH)(u:QC P w K mg base "is_guest" ZaM 4 (QQ (K:=K) R_isguest))(G:ZK P w K mg base D "refuse_past" ZaF 1 (V8 K ct Yu (R_hpast D)<|X_hpast D))(z:U9 P w K mg base "refuse_lack" Zac 7 (spX K CR "some" R_refuse X_refuse))(E:Z8 P w K mg base D "still_there" Zak 5 (Zm K<|R_hstill D)):
 ZK P w K mg base D "come" ZaH 8 (G8 K D CR "some" R_hcome<|X_hcome D):=by
 have q:∀{Y:Zbv} {y:Yd} {n:Nat} {c:List Gs} {j:Ql} {B:Qk} {W:List Zc3} {g:Gs} {Q:XK},j.length=c.length->Y[0]?=some (zz<|Zj D<|hT y n c j B W)->Y[1]?=some (zf<|QZ g)->c.length<=7->Qr K (tOp Ka (ZQ D "still_there" (Zm K<|R_hstill D) [] Q (Q3 0) QJ)<|Wc<|QE (Q3 1) QJ) Y (.list<|(mT n c j B++[g]).map QZ):=λ{Y y n c j B W g Q} gl e0 e1 l=>
  Qr.cast (EvO.fz<|Kx (Qr.cast (EvO.fz<|Z5.o<|Gi NK e0 Q5<|R_hstill.mk (rsT c j B) rfl rfl (λk U=>Mv gl U)<|#[])<|by rw[K1]) (EvO.fz<|ZW (QS (Qp e1) Z2)<|by show(1)<=1000;decide)<|by rw[Xj,VF];show c.length+1<=1000;lia) (by rw[XL];rfl)
 have t:∀{y:Yd} {n:Nat} {c:List Gs} {j:Ql} {B:Qk} {g:Gs},(∀x∈c,G30 y x)->G30 y g->(∀k,k<c.length->0<=rsT c j B k)->∀x∈mT n c j B++[g],GOk y x:=λo N p x a=>by
  rcases Xz.mp a with a|a
  .exact GI o p x a
  .rw[Xi.mp a];exact AE N.ok
 refine CH.evHXn Cr (λf H RR v M ts Ψ m h O A outer s i=>?_) (λf F H RR ts Φ m R h O A outer s i=>?_)
 .cases h with
  |@mk y n c j B W g I o N gl Z p l h=>
   refine#[_,(Qw (Zb (VG<|ZO<|QI u i<|Qu (QV<|pv 0)<|av 1 Qq) (PSs.nox<|Qy NA) Za)
 (Qw (Zp<|V5 G L i (WQ (C:=ct)) (pv 0)<|Qu (Q9 QA (pv 1) Qx) Qq)
 (Qw (Zp<|Bi z i (Y5 m)<|Qu (QV<|pv 0)<|Qu (QW Dq (V6 E L i<|pv 0)<|Zz<|av 1 Qq) Qq)
 (PSs.nox (Qw (Zp<|V1 zP zS zT V7 (QV<|pv 0)<|av 1 Qq)
 (Qw (Zp<|V1 zP zS zT V7 (QV<|pv 0)<|Qu Qx Qq)
 (Qy<|QK<|QW Yb (Zw ZY (by rfl) T.len ZV<|Qu (QV<|pv 0) Qq) Qx))))))),YX ?_]
   show EvR K _ [zo v<|QM D<|hT y n c j B W,zf<|QZ g] _;refine Z6 (Zf (b:=false) (Bp 0 rfl (VD (b:=true)<|ZH<|Zk (Qv (Qr.cast (JI L rfl) rfl)<|Qv Qp Q5)<|R_isguest.mk N)) nf λ_=>Zl rfl)<|Z6 (W9 (W8 0 rfl (λr i=>by rw[i];exact JJ rfl)<|Jh Ur rfl (Qv ((λ{Y g} e=>Vc (Qp e) Q2 rfl) rfl) Q5) (R_hpast.mk<|by show(n:Int)<=(g.first);lia) Us) rfl) ?_
   try walk_at"d"
   refine Z6 (W9 (W8 0 rfl (λr i=>by rw[i];exact JJ rfl)<|Lz (Qv (Qr.cast (JI L rfl) rfl)<|Qv (q gl rfl rfl l) Q5) (R_refuse.mk I (t o N p) (by rw[Xn,VF];show c.length+1<=8;lia) h) m) rfl)<|Z6 (ZoL L rfl Qp (by show(c.map QZ).length<1000;rw[Xj];lia) rfl)<|Z7 (λJ=>J=[zo v<|QM D<|hT y n (c++[g]) (j++[0]) B W,zf<|QZ g]) (Zq2 L rfl Q2 (by show j.length<1000;lia) ?_) ?_
   .simp[hT]
   rintro _ rfl;refine VZ (Qr.cast (Jk (d:=.int ((c.length)+1-1)) 0 rfl rfl (ZD (Qr.cast (W3<|Bz L rfl) ?_) Q2)) ?_) #[_,#[rfl,rfl],rfl]
   .show PyData.int (((c++[g]).map QZ).length)=_
    rw[Xj,Xn];rfl
   .rw[Int.add_sub_cancel]
 .cases h with
  |@mk y n c j B W g I o N gl Z p l S h=>
   refine#[_,(Qw (Zb (VG<|ZO<|QI u i<|Qu (QV<|pv 0)<|av 1 Qq) (PSs.nox<|Qy NA) Za)
 (Qw (Zp<|V5 G L i (WQ (C:=ct)) (pv 0)<|Qu (Q9 QA (pv 1) Qx) Qq)
 (Qw (Zp<|Bi z i (Y5 m)<|Qu (QV<|pv 0)<|Qu (QW Dq (V6 E L i<|pv 0)<|Zz<|av 1 Qq) Qq)
 (PSs.nox (Qw (Zp<|V1 zP zS zT V7 (QV<|pv 0)<|av 1 Qq)
 (Qw (Zp<|V1 zP zS zT V7 (QV<|pv 0)<|Qu Qx Qq)
 (Qy<|QK<|QW Yb (Zw ZY (by rfl) T.len ZV<|Qu (QV<|pv 0) Qq) Qx))))))),?_]
   exact GR (Zf (b:=false) (VD (b:=true)<|ZH<|Zk (Qv (Qr.cast (JI L rfl) rfl)<|Qv Qp Q5)<|R_isguest.mk N) nf λ_=>Zl rfl)<|GR (W9 (Jh Ur rfl (Qv ((λ{Y g} e=>Vc (Qp e) Q2 rfl) rfl) Q5) (R_hpast.mk<|by show(n:Int)<=(g.first);lia) Us) rfl)<|J6 (Ld (Qv (Qr.cast (JI L rfl) rfl)<|Qv (q gl rfl rfl l) Q5) (X_refuse.mk I (t o N p) (by rw[Xn,VF];show c.length+1<=8;lia) h) m R)
inductive X_hcomeT(D:Addr):List OT->(Unit->Prop)->Prop
 |mk {y:Yd}{n:Nat}{gs:List Gs}{gv:Ql}{go:Qk}{ms:List Zc3}{g:Gs}(h:G30 y g)(hp:g.first<n):X_hcomeT D [.zow<|Zj D<|hT y n gs gv go ms,.fz<|QZ g] (λ_=>True)
def Zoi(T:Bl mg)(L:HandC K D)(CH:Mf K D "come" "Hand.come" Hj ZaH)(j:QC P w K mg base "is_guest" ZaM 4 (QQ (K:=K) R_isguest))(B:ZK P w K mg base D "refuse_past" ZaF 1 (V8 K ct Yu (R_hpast D)<|X_hpast D))(m:U9 P w K mg base "refuse_lack" Zac 7 (spX K CR "some" R_refuse X_refuse))(v:Z8 P w K mg base D "still_there" Zak 5 (Zm K<|R_hstill D)):
 ZK P w K mg base D "come" ZaH 8 (V8 K ct Yu (λ_ _=>False)<|X_hcomeT D):=by
 refine CH.evZ Cr (λf H RR ts M b h i A outer s c=>h.elim) (λf F H RR ts M b N h i A outer s c=>?_);cases h with
 |@mk y n a Y d W g h X=>
  refine#[_,(Qw (Zb (VG<|ZO<|QI j c<|Qu (QV<|pv 0)<|av 1 Qq) (PSs.nox<|Qy NA) Za)
 (Qw (Zp<|V5 B L c (Y5 b) (pv 0)<|Qu (Q9 QA (pv 1) Qx) Qq)
 (Qw (Zp<|Bi m c (WQ (C:=CR))<|Qu (QV<|pv 0)<|Qu (QW Dq (V6 v L c<|pv 0)<|Zz<|av 1 Qq) Qq)
 (PSs.nox (Qw (Zp<|V1 zP zS zT V7 (QV<|pv 0)<|av 1 Qq)
 (Qw (Zp<|V1 zP zS zT V7 (QV<|pv 0)<|Qu Qx Qq)
 (Qy<|QK<|QW Yb (Zw ZY (by rfl) T.len ZV<|Qu (QV<|pv 0) Qq) Qx))))))),?_]
  exact GR (Zf (VD<|ZH<|Zk (Qv (Qr.cast (JI L rfl) rfl)<|Qv Qp Q5)<|R_isguest.mk h) nf λ_=>Zl rfl)<|J6 (Bu bkN Ur rfl (Qv (Vc Qp Q2 rfl) Q5) (X_hpast.mk<|by show(g.first:Int)<(n);lia) b N)
inductive R_lcome:HandS->List OT->(OT->HandS->Prop)->Prop
 | mk {y:Yd}{n:Nat}{gs:List Gs}{gv:Ql}{go:Qk}{ms:List Zc3}{g:Gs}(ok:y.Ok)(hg:∀x∈gs,G30 y x)(gk:G30 y g)(gl:gv.length=gs.length)(gn:n<=g.first)(h0:∀k,k<gs.length->0<=rsT gs gv go k)(l:gs.length<=7)(h:∀S,Z3 y (Q0<|mT n gs gv go++[g]) S<=0):R_lcome (hT y n gs gv go ms) [.fz<|QZ g] (λr N'=>r=.ol [.str "in",.int (gs.length:Int)]/\N'=hT y n (gs++[g]) (gv++[0]) go ms)
inductive X_lcome(D:Addr):List OT->(OT->Prop)->Prop
 | mk {y:Yd}{n:Nat}{gs:List Gs}{gv:Ql}{go:Qk}{ms:List Zc3}{g:Gs}(ok:y.Ok)(hg:∀x∈gs,G30 y x)(gk:G30 y g)(gl:gv.length=gs.length)(gn:n<=g.first)(h0:∀k,k<gs.length->0<=rsT gs gv go k)(l:gs.length<=7){S:Qm}(h:0<Z3 y (Q0<|mT n gs gv go++[g]) S):X_lcome D [.zow<|Zj D<|hT y n gs gv go ms,.fz<|QZ g] (λr=>∃v S,0<Z3 y (Q0<|mT n gs gv go++[g]) S/\r=.own v (lsO (.str "room")<|QR<|ZE (mT n gs gv go++[g]) S))
 | tm {y:Yd}{n:Nat}{gs:List Gs}{gv:Ql}{go:Qk}{ms:List Zc3}{g:Gs}(h:G30 y g)(hp:g.first<n):X_lcome D [.zow<|Zj D<|hT y n gs gv go ms,.fz<|QZ g] (λr=>r=.ol [.str "time"])
def Y1:Qo Zaj ZaE (QG B3):=by walk_at"p"
def ZrH(T:Bl mg)(UH:HandC K D)(XR:XC K mg "NoRoom" YR CR fR)(B:SA K mg YR CR cg ct)(o:S9 K mg YR ct)(XP:MK K CR cg ct CQ)(CH:Df K mg "_law_come" B3 ZaE)(XbG:ZK P w K mg base D "come" ZaH 8 (G8 K D CR "some" R_hcome<|X_hcome D))(Xb0:ZK P w K mg base D "come" ZaH 8 (V8 K ct Yu (λ_ _=>False)<|X_hcomeT D)):
 QC P w K mg base "_law_come" ZaE 9 (BN K D R_lcome<|X_lcome D):=by
 refine CH.evH2 Y1 (λf v M ts Ψ h H hi cdv A outer s R=>?_) (λf ts Φ h H hi cdv A outer s R=>?_)
 .cases h with
  |@mk y n W X Y I g ok hg gk gl gn h0 l h=>
   refine#[_,(Qw (QP 2 Y1.nd Ui)
 (Qw (Rk (j:=3) B.em rfl rfl rfl B.my Y1.nd rfl (.inr #[rfl,rfl]) (λCH pn=>(Qy<|QP 2 Y1.nd<|Zz<|Qu Vd<|Qu (V5 XbG UH R Rf (pv 0)<|av 1 Qq) Qq)) (λe pn=>(Qw (QP 4 Y1.nd<|Zz<|Qu (Yx B.is T.isi<|av 3<|Qu (Yc (v:=.ref _) rfl B.m1 rfl) Qq)<|Qu (Yx B.is T.isi<|av 3<|Qu (Yc (v:=.ref _) rfl B.m2 rfl) Qq)<|Qu (Yx B.is T.isi<|av 3<|Qu (Yc (v:=.ref _) rfl XR.m rfl) Qq) Qq)
 (Qw (Hg (i:=2) Y1.nd rfl rfl (NX:=Zaj) (sc:=QG B3) (N:=Zax) (f:=[none,some 4,some 3]) (by decide +kernel) rfl rfl (Ro (C:=CR) (e:=e) rfl rfl T.range<|Qu Qx Qq) (λ_=>(QT 0 (show(Zax:Qh).Nodup by decide +kernel))) (λ_=>Yf) (λ_=>(Gf<|PW.pt<|UQ (ZO<|Q9 (show IxR _ (rIx K) from QA) (pv 1)<|pv 0)<|Ge<|ZO<|Yx B.is T.isi<|av 2<|Qu (Jc (v:=.ty "ValueError") rfl T.ValueError RV rfl) Qq)) (λ_=>(Q9 (show IxR _ (rIx K) from QA) (Zz<|Qu Vd<|Qu Vd<|Qu Vd Qq)<|pv 0)) rfl)
 (Qy<|Zb (Zx (Ul R.units) (pv 2) (Zz<|Qu Vd Qq)<|Zi _) (Qy<|Zp (show PE _ _ (tBM K "list" Ye _ _) from V1 zP zS zT V7 (pv 2)<|Qu (D6 B.gt B.na<|pv 3) Qq)) Za)))))
 (Qy<|QK<|pv 2))),?_]
   show EvR K _ [zo v<|QM D<|hT y n W X Y I,zf<|QZ g,none,none,none] _
   walk_at"x";refine Z6 (ZF WY rfl) ?_
   try walk_at"d"
   refine Z7 (λJ=>J=[zo v<|QM D<|hT y n (W++[g]) (X++[0]) Y I,zf<|QZ g,some<|.ol [.str "in",.int (W.length:Int)],none,none]) (Iz λE'=>OS Nj rfl V2 rfl (Qv Qp Q5) (R_hcome.mk ok hg gk gl gn h0 l h) Ri ?_) ?_
   .rintro r N' ⟨rfl,rfl⟩;exact#[_,_,rfl,rfl,rfl]
   rintro _ rfl;exact EM (j:=2) (by decide) rfl #[_,#[rfl,rfl],rfl]
 .have hu:=R.units;cases h with
  |@mk y n W X Y I g ok hg gk gl gn h0 l S h=>
   refine#[_,(Qw (QP 2 Y1.nd Ui)
 (Qw (Rk (j:=3) B.em rfl rfl rfl B.my Y1.nd rfl (.inr #[rfl,rfl]) (λCH pn=>(Qy<|QP 2 Y1.nd<|Zz<|Qu Vd<|Qu (V5 XbG UH R Rf (pv 0)<|av 1 Qq) Qq)) (λe pn=>(Qw (QP 4 Y1.nd<|Zz<|Qu (Yx B.is T.isi<|av 3<|Qu (Yc (v:=.ref _) rfl B.m1 rfl) Qq)<|Qu (Yx B.is T.isi<|av 3<|Qu (Yc (v:=.ref _) rfl B.m2 rfl) Qq)<|Qu (Yx B.is T.isi<|av 3<|Qu (Yc (v:=.ref _) rfl XR.m rfl) Qq) Qq)
 (Qw (Hg (i:=2) Y1.nd rfl rfl (NX:=Zaj) (sc:=QG B3) (N:=Zax) (f:=[none,some 4,some 3]) (by decide +kernel) rfl rfl (Ro (C:=CR) (e:=e) rfl rfl T.range<|Qu Qx Qq) (λ_=>(QT 0 (show(Zax:Qh).Nodup by decide +kernel))) (λ_=>Yf) (λ_=>(Gf<|PW.pt<|UQ (ZO<|Q9 (show IxR _ (rIx K) from QA) (pv 1)<|pv 0)<|Ge<|ZO<|Yx B.is T.isi<|av 2<|Qu (Jc (v:=.ty "ValueError") rfl T.ValueError RV rfl) Qq)) (λ_=>(Q9 (show IxR _ (rIx K) from QA) (Zz<|Qu Vd<|Qu Vd<|Qu Vd Qq)<|pv 0)) rfl)
 (Qy<|Zb (Zx (Ul R.units) (pv 2) (Zz<|Qu Vd Qq)<|Zi _) (Qy<|Zp (show PE _ _ (tBM K "list" Ye _ _) from V1 zP zS zT V7 (pv 2)<|Qu (D6 B.gt B.na<|pv 3) Qq)) Za)))))
 (Qy<|QK<|pv 2))),?_]
   show QB K _ [zz<|Zj D<|hT y n W X Y I,zf<|QZ g,none,none,none] _
   walk_at"x";refine QL (ZF (d:=.none) WY ?_);walk_at"d";apply QL;apply ZoY (C:=CR) (f := "some") (n:=5) (j:=3) (λd=>∃S,0<Z3 y (Q0<|mT n W X Y++[g]) S/\d=QR (ZE (mT n W X Y++[g]) S)) (by decide)
   case hz=>
    exact λE' F0 H0 F O Z x St k=>OU (F0:=F) (H0:=Z) Nj rfl V2 (Qv Qp Q5) (X_hcome.mk ok hg gk gl gn h0 l h) Ri (λF' G e E d t x' he z=>k F' G e E d t x' he z) (Q1.refl St.sub) St
   case hth=>
    rintro _ e L q ⟨S',hS',rfl⟩;dsimp only[List.set,List.replicate];refine QL (Yo (ZW (ds:=[.bool false,.bool false,.bool true]) (QS (Mb rfl rfl B.kg)<|QS (Mb rfl rfl B.kt)<|QS (Mb rfl rfl B.k1) Z2)<|by show(3:Nat)<=1000;decide) ?_);walk_at"d";refine GK 4 rfl ?_;walk_at"d";have z:W0 [PyData.str "room"]:=λd t=>by rw[Xi.mp t];exact#[_,rfl]
    refine QL (Yo (r:=.ol [.str "room"]) (ZrK 3 rfl z<|EvO.cast (UU (xs:=List.range 3) (enc:=λ(k:Nat)=>PyData.int (k:Int)) (h:=λ(k:Nat)=>([.str "guest",.str "time",.str "room"]:Qd).getD k .none) (p:=λk=>decide (k=2)) ?ei (by decide) ?el) rfl) ?_)
    case ei=>exact EvI.cast (Zpv (i:=3) rfl (Qv Q2 Q5) (by rw[z62];decide)<|by rw[z62];decide) rfl
    case el=>
     intro k hk c;have hk:=XN.mp hk;refine#[_,Zr,?_];walk_at"e";have im:atI [PyData.bool false,.bool false,.bool true] (k:Int)=some (PyData.bool<|decide (k=2)):=by
      obtain rfl|rfl|rfl:k=0\/k=1\/k=2:=#[]
      all_goals rfl
     refine#[QO.cast (UN (b:=decide (k=2)) (c:=true) (ZH<|Vt Qp Qp im) λ_=>ZH<|AD rfl rfl B.k2)<|by rw[Bool.and_true],λu=>?_];have u:=XX u;subst u;exact Vt (EvO.fz<|ZW (ds:=[.str "guest",.str "time",.str "room"]) (QS V2<|QS V2<|QS V2 Z2)<|by show(3:Nat)<=1000;decide) Qp rfl
    walk_at"d";have fr:V9 (.list [.str "room"]):=(Gc (m:=0)<|Wj #[by decide +kernel,XJ _] Uj).fine (by decide);refine Zf (b:=true) (DP 2 rfl rfl (QO.cast (Zc<|J4 (a:=.list [.str "room"]) (b:=.list [.str "room"]) Qp (EvO.fz<|ZW (QS V2 Z2) G6) fr fr)<|by rw[Uv fr])) (λ_=>Zrj (by decide) rfl rfl λv=>?_) nt
    walk_at"d";exact Nh rfl #[v,S',hS',rfl]
  |@tm y n W X Y I g h hp=>
   refine#[_,(Qw (QP 2 Y1.nd Ui)
 (Qw (Rk (j:=3) o.em rfl rfl rfl o.my Y1.nd rfl (.inr #[rfl,rfl]) (λCH pn=>(Qy<|QP 2 Y1.nd<|Zz<|Qu Vd<|Qu (V5 Xb0 UH R Rf (pv 0)<|av 1 Qq) Qq)) (λe pn=>(Qw (QP 4 Y1.nd<|Zz<|Qu (Yx o.is T.isi<|av 3<|Qu (Yc (v:=.ref _) rfl B.m1 rfl) Qq)<|Qu (Yx o.is T.isi<|av 3<|Qu (Yc (v:=.ref _) rfl B.m2 rfl) Qq)<|Qu (Yx o.is T.isi<|av 3<|Qu (Yc (v:=.ref _) rfl XR.m rfl) Qq) Qq)
 (Qw (Hg (i:=2) Y1.nd rfl rfl (NX:=Zaj) (sc:=QG B3) (N:=Zax) (f:=[none,some 4,some 3]) (by decide +kernel) rfl rfl (Ro (C:=ct) (e:=e) (by rfl) (by rfl) T.range<|Qu Qx Qq) (λ_=>(QT 0 (show(Zax:Qh).Nodup by decide +kernel))) (λ_=>Yf) (λ_=>(Gf<|PW.pt<|UQ (ZO<|Q9 (show IxR _ (rIx K) from QA) (pv 1)<|pv 0)<|Ge<|ZO<|Yx o.is T.isi<|av 2<|Qu (Jc (v:=.ty "ValueError") rfl T.ValueError RV rfl) Qq)) (λ_=>(Q9 (show IxR _ (rIx K) from QA) (Zz<|Qu Vd<|Qu Vd<|Qu Vd Qq)<|pv 0)) rfl)
 (Qy<|Zb (Zx (Ul R.units) (pv 2) (Zz<|Qu Vd Qq)<|Zi _) (Qy<|Zp (show PE _ _ (tBM K "list" Ye _ _) from V1 zP zS zT V7 (pv 2)<|Qu Tc Qq)) Za)))))
 (Qy<|QK<|pv 2))),?_]
   show QB K _ [zz<|Zj D<|hT y n W X Y I,zf<|QZ g,none,none,none] _
   walk_at"x";refine QL (ZF (d:=.none) WY ?_);walk_at"d";apply QL;apply ZqP (C:=ct) (n:=5) (j:=3) (λ_=>True) (by decide)
   case hz=>
    exact λE' F0 H0 F O Z x St kk=>Ez V2 (Q1.refl St.sub) St λF1 U x1 S1 Q=>Lu bkN (i:=0) (F0:=F) (H0:=Z) Nj rfl (Qv Qp Q5) (X_hcomeT.mk h hp) Ri (λF' G e E d t x' he z=>kk F' G e E d t x' he z) x1 S1
   case hth=>
    intro e;dsimp only[List.set,List.replicate];refine QL (Yo (ZW (ds:=[.bool false,.bool true,.bool false]) (QS (Ma (c:=.ref cg) rfl rfl XP.tg)<|QS (Ma (c:=.ref ct) rfl rfl o.k1)<|QS (Ma (c:=.ref CR) rfl rfl XP.tr) Z2)<|by show(3:Nat)<=1000;decide) ?_);walk_at"d";refine GK 4 rfl ?_;walk_at"d";have z:W0 [PyData.str "time"]:=λd t=>by rw[Xi.mp t];exact#[_,rfl]
    refine QL (Yo (r:=.ol [.str "time"]) (Zpn 3 rfl z<|EvO.cast (UU (xs:=List.range 3) (enc:=λ(k:Nat)=>PyData.int (k:Int)) (h:=λ(k:Nat)=>([.str "guest",.str "time",.str "room"]:Qd).getD k .none) (p:=λk=>decide (k=1)) ?ei (by decide) ?el) rfl) ?_)
    case ei=>exact EvI.cast (ZqG (i:=3) rfl (Qv Q2 Q5) (by rw[z62];decide)<|by rw[z62];decide) rfl
    case el=>
     intro k hk c;have hk:=XN.mp hk;refine#[_,Zr,?_];walk_at"e";have im:atI [PyData.bool false,.bool true,.bool false] (k:Int)=some (PyData.bool<|decide (k=1)):=by
      obtain rfl|rfl|rfl:k=0\/k=1\/k=2:=#[]
      all_goals rfl
     refine#[QO.cast (UN (b:=decide (k=1)) (c:=true) (ZH<|Vt Qp Qp im) λ_=>ZH<|IL rfl rfl o.k2)<|by rw[Bool.and_true],λu=>?_];have u:=XX u;subst u;exact Vt (EvO.fz<|ZW (ds:=[.str "guest",.str "time",.str "room"]) (QS V2<|QS V2<|QS V2 Z2)<|by show(3:Nat)<=1000;decide) Qp rfl
    walk_at"d";exact Zf (b:=false) (DP 2 rfl rfl (QO.cast (Zc<|J4 (a:=.list [.str "time"]) (b:=.list [.str "room"]) Qp (EvO.fz<|ZW (QS V2 Z2) G6) ((Gc (m:=0)<|Wj #[by decide +kernel,XJ _] Uj).fine (by decide)) ((Gc (m:=0)<|Wj #[by decide +kernel,XJ _] Uj).fine (by decide)))<|by decide +kernel)) nf (λ_=>Zl (Dx rfl rfl))
def gfD(f:Qn)(m:Nat):Zc3:=((List.range m).filter λk=>decide (f k > 0)).map λ(k:Nat)=>(.inl (k:Int),.int<|f k)
def gvT(gv:Ql)(f:Qn)(m i:Nat):Ql:=(List.range m).map λk=>gv.getD k 0+if k<i then f k else 0
def Av{m:Nat}(h:gv.length=m)(f:Qn):gvT gv f m 0=gv:=by
 subst h;apply List.ext_getElem?;intro i;by_cases E:i<gv.length
 .simp[gvT,E]
 .simp[gvT,E]
def Oy{f:Qn}{m:Nat}(h:m<=i):((gfD f m).any λc=>decide (c.1=(.inl (i:Int):Key)))=false:=by
 rw[List.any_eq_false];intro x g;apply At (XH.mp g);rintro k b rfl;have b:=XN.mp (WF.mp b).1;lia
def EG{f:Qn}(h:f i > 0):Uc (gfD f i) (.inl (i:Int)) (.int<|f i)=gfD f (i+1):=by
 unfold Uc;rw[Oy<|Xm _];unfold gfD;rw[YK];simp[h]
def Ep{f:Qn}(h:¬f i > 0):gfD f (i+1)=gfD f i:=by
 unfold gfD;rw[YK];simp[h]
def Et(f:Qn)(m:Nat):(gfD f m).length<=m:=by
 unfold gfD;rw[Xj];exact X4 (List.length_filter_le _ _) (by simp)
def EU{f:Qn}{m:Nat}(E:i<m):(gvT gv f m i).set i (gv.getD i 0+f i)=gvT gv f m (i+1):=by
 apply List.ext_getElem?;intro j;by_cases b:j<m
 .by_cases e:j=i
  .subst e;simp[gvT,b]
  .rw[Xp<|Ne.symm e];simp only[gvT,Xy,List.getElem?_range b,Wn];congr 2;lia
 .rw[MI<|by simp[gvT];lia,MI<|by simp[gvT];lia]
def Ex{f:Qn}{m:Nat}(h:f i=0):gvT gv f m (i+1)=gvT gv f m i:=by
 refine X6 λk _=>?_
 congr 1
 grind
def PR{f:Qn}{m:Nat}(b:k<m):(gvT gv f m i)[k]?=some (gv.getD k 0+if k<i then f k else 0):=by simp[gvT,b]
def Zr8{y:Yd}(E:i<G.m):((WT y G φ).map λb=>PyData.list<|b.map PyData.int)[i]?=some (.list<|(List.range y.T).map λt=>PyData.int<|QY G φ t i):=by
 unfold WT;simp[E]
inductive R_hturn:HandS->List OT->(OT->HandS->Prop)->Prop
 |mk {y:Yd}{n:Nat}{gs:List Gs}{gv:Ql}{go:Qk}{ms:List Zc3}(ok:y.Ok)(hg:∀x∈gs,G30 y x)(gl:gv.length=gs.length)(hn:n<y.T)(h0:∀k,k<gs.length->0<=rsT gs gv go k)(l:gs.length<=8)(ml:ms.length<=8):
  R_hturn (hT y n gs gv go ms) [] (λr N'=>∃φ v,Wr y (Q0<|mT n gs gv go) φ/\r=.own v (dkP<|gfD (QY (Q0<|mT n gs gv go) φ n) gs.length)/\N'=hT y (n+1) gs (gvT gv (QY (Q0<|mT n gs gv go) φ n) gs.length gs.length) go (ms++[gfD (QY (Q0<|mT n gs gv go) φ n) gs.length]))
inductive X_hturn(D:Addr):List OT->(Unit->Prop)->Prop
 |mk {y:Yd}{gs:List Gs}{gv:Ql}{go:Qk}{ms:List Zc3}:X_hturn D [.zow<|Zj D<|hT y y.T gs gv go ms] (λ_=>True)
def JK:Qo ["self","filling","gifts","number","takes"] Zak (QG RM):=by walk_at"p"
def ZrL(T:Bl mg)(a:HandC K D)(CH:Mf K D "turn" "Hand.turn" RM Zak)(I:ZK P w K mg base D "refuse_past" ZaF 1 (V8 K ct Yu (R_hpast D)<|X_hpast D))(Q:QC P w K mg base "turns_of" ZaI 1 (QQ (K:=K) R_turns))(O:QC P w K mg base "best_filling" Zac 6 (Zm K R_great))(G:Z8 P w K mg base D "still_there" Zak 5 (Zm K<|R_hstill D)):
 ZK P w K mg base D "turn" Zak 7 (UD K D ct Yu R_hturn<|X_hturn D):=by
 refine CH.evHXn JK (λf H RR v M ts Ψ X h cdv A outer s W=>?_) (λf F H RR ts Φ X hq h cdv A outer s W=>?_)
 .cases h with
  |@mk y n b j m q ok hg gl S h0 l ml=>
   refine#[_,(Qw (Zp<|V5 I a W (Y5 X) (pv 0)<|Qu (QW Yb (QI Q W<|Qu (QV<|pv 0) Qq) Qx) Qq)
 (PSs.nox (Qw (QP 1 JK.nd<|QI O W<|Qu (QV<|pv 0)<|Qu (V6 G a W<|pv 0) Qq)
 (Qw (QP 2 JK.nd N0)
 (Qw (Vu zN rfl (by exact(MB rfl T.enumerate<|av 1 Qq)) (J5 (n:=2) rfl (Zy (QT 3 JK.nd)<|Zy (QT 4 JK.nd) Yz)) (by exact(Qy (Zb (Zx VY (Q9 QA (pv 4)<|QV<|pv 0) Qx<|Zi _) (Qw (Bh (Vo W) (pv 2) (pv 3) (Q9 QA (pv 4)<|QV<|pv 0) rfl)
 (Qy<|Bg (QV<|pv 0) (pv 3) Br (Q9 QA (pv 4)<|QV<|pv 0) Mg VU)) Za))))
 (Qw (Zp<|V1 zP zS zT V7 (QV<|pv 0)<|av 2 Qq)
 (Qw (F7 (pv 0) Qx Tg)
 (Qy<|QK<|Wl NI (by rfl) T.dict Dz<|av 2 Qq)))))))),YX ?_]
   walk_at"x";refine Z6 (W9 (W8 0 rfl (λr W=>by rw[W];exact JJ rfl)<|Jh Ur rfl (Qv (ZD (Zk (Qv (Qr.cast (JI a rfl) rfl) Q5) R_turns.mk) Q2) Q5) (R_hpast.mk<|by show(n:Int)<=(y.T)-1;lia) X) rfl)<|Z7 (λJ=>∃L,Wr y (Q0<|mT n b j m) L/\J=[zo v<|QM D<|hT y n b j m q,some<|.oll<|(WT y (Q0<|mT n b j m) L).map λg=>g.map PyData.int,none,none,none]) (Jb (W8 0 rfl ?th<|JA (Qv (Qr.cast (JI a rfl) rfl)<|Qv (Qr.cast (EvO.fz<|Z5.o<|Gi NK rfl Q5<|R_hstill.mk (rsT b j m) rfl rfl (λk U=>Mv gl U)<|#[])<|by rw[K1]) Q5)<|R_great.mk ok (GI hg h0)<|by rw[VF];exact l) ?_) ?_
   case th=>
    rintro r ⟨L,_,rfl⟩;refine Ol λds hd=>?_;apply At (XH.mp hd);rintro g _ rfl;intro d hd';apply At (XH.mp hd');rintro x _ rfl
    exact#[_,rfl]
   .rintro r ⟨L,C,rfl⟩;exact#[L,C,rfl]
   rintro _ ⟨L,C,rfl⟩;refine Am 1 rfl rfl ?_;rw[Yg];have Gm:(Q0<|mT n b j m).m=b.length:=VF n b j m;have fn:∀k,k<b.length->0<=QY (Q0<|mT n b j m) L n k:=λk U=>(C.1.tak (by rw[Gm];exact U) S).1;have e:∀i,i<b.length->((WT y (Q0<|mT n b j m) L).map (PyData.list ∘ λg=>g.map PyData.int))[i]?=some (.list<|(List.range y.T).map λt=>PyData.int<|QY (Q0<|mT n b j m) L t i):=λi E=>Zr8 (by rw[Gm];exact E)
   have o:((WT y (Q0<|mT n b j m) L).map (PyData.list ∘ λg=>g.map PyData.int)).length=b.length:=by
    rw[Xj];unfold WT;rw[Xj,Gq,Gm]
   generalize ((WT y (Q0<|mT n b j m) L).map (PyData.list ∘ λg=>g.map PyData.int))=B at e o;refine Z7 (λJ=>∃w,J=[zo v<|QM D<|hT y n b j m q,zf<|.list B,zo w<|dkP [],none,none]) (Mw OB λw=>#[w,rfl]) ?_;rintro _ ⟨w,rfl⟩;generalize Z:QY (Q0<|mT n b j m) L n=f at fn;have p:∀i,i<b.length->∃ts,B[i]?=some (.list ts)/\atI ts (n)=some (.int<|f i):=λi E=>#[_,e i E,by rw[W4 #[]<|#[],Xr,<- Z]];refine Z7 (λJ=>∃z u:Option OT,J=[zo v<|QM D<|hT y n b (gvT j f b.length b.length) m q,zf<|.list B,zo w<|dkP<|gfD f b.length,z,u]) (Ya (λi J=>∃z u:Option OT,J=[zo v<|QM D<|hT y n b (gvT j f b.length i) m q,zf<|.list B,zo w<|dkP<|gfD f i,z,u]) (Mn<|Qv Qp Q5) #[_,_,by rw[Av gl];rfl] ?st ?fin) ?_
   case fin=>
    intro J h;rwa[DW,o]at h
   case st=>
    rintro i d _ hd ⟨z,u,rfl⟩;apply At (DX hd);rintro d1 e1 rfl;have E:i<b.length:=by
     have:=(Xc.mp e1).1;lia
    apply At (p i E);intro ts t1 t2;obtain rfl:=by rw[e1]at t1;exact Option.some.inj t1
    refine#[_,WN (Vb Zr<|Vb Zr Wx) rfl,?_];walk_at"d";have R:∀{Y:Zbv} {N:HandS},N.now=(n)->Y[0]?=some (zz<|Zj D N)->Y[4]?=some (zf<|.list ts)->Qr K (tOp (rIx K) (Q3 4)<|Ve K (Q3 0) "present") Y (.int<|f i):=λ{Y N} S e0 e4=>Vt (Qp e4) (Qr.cast (Mx a e0)<|by rw[S]) t2;refine Zf (QO.cast (Bp 0 rfl (Zc<|ZI (R rfl rfl rfl) Q2)) rfl) (λc=>?_) (λc=>Zl ?_)
    .have c:=XX c;refine QL (IW (k:=.inl (i)) rfl (Jk 0 rfl rfl (R rfl rfl rfl)) Qp (HD (Et f i)<|Vh<|#[]) ?_);walk_at"d";rw[EG c];refine EF a rfl Qp #[] (by show(gvT j f b.length i)[(i:Int).toNat]?=_;rw[Xr,PR E,Xd<|X8 i]) (Jk 0 rfl rfl (R rfl rfl rfl)) ?_;dsimp only[List.set,hT];rw[Xr,Jp,EU E];exact#[_,_,rfl]
    .have fi:=fn i E;rw[Ep (BH c),Ex (show f i=0 by lia)];exact#[_,_,rfl]
   rintro _ ⟨z,u,rfl⟩;refine O3 (by decide) a rfl rfl (by show q.length<1000;lia) λw'=>#[_,#[L,w',C,?_,?_],rfl]
   .rw[Z]
   .rw[Z];rfl
 .cases h with
  |@mk y b j m q=>
   refine#[_,(Qw (Zp<|V5 I a W (Y5 X) (pv 0)<|Qu (QW Yb (QI Q W<|Qu (QV<|pv 0) Qq) Qx) Qq)
 (PSs.nox (Qw (QP 1 JK.nd<|QI O W<|Qu (QV<|pv 0)<|Qu (V6 G a W<|pv 0) Qq)
 (Qw (QP 2 JK.nd N0)
 (Qw (Vu zN rfl (by exact(MB rfl T.enumerate<|av 1 Qq)) (J5 (n:=2) rfl (Zy (QT 3 JK.nd)<|Zy (QT 4 JK.nd) Yz)) (by exact(Qy (Zb (Zx VY (Q9 QA (pv 4)<|QV<|pv 0) Qx<|Zi _) (Qw (Bh (Vo W) (pv 2) (pv 3) (Q9 QA (pv 4)<|QV<|pv 0) rfl)
 (Qy<|Bg (QV<|pv 0) (pv 3) Br (Q9 QA (pv 4)<|QV<|pv 0) Mg VU)) Za))))
 (Qw (Zp<|V1 zP zS zT V7 (QV<|pv 0)<|av 2 Qq)
 (Qw (F7 (pv 0) Qx Tg)
 (Qy<|QK<|Wl NI (by rfl) T.dict Dz<|av 2 Qq)))))))),?_]
   exact J6 (Bu bkN Ur rfl (Qv (ZD (Zk (Qv (Qr.cast (JI a rfl) rfl) Q5) R_turns.mk) Q2) Q5) (X_hpast.mk<|by show(y.T:Int)-1<(y.T);lia) X hq)
theorem Rm{f:Qn}{t:Nat}:∀{n:Nat},(∀k,k<n->0<=f k)->t<n->f t<=Q4 f n
 |0,_,h=>#[]
 |n+1,b,h=>by
  rw[Q4];have g:=D0 (n:=n) λk c=>b k #[];have i:=b n #[]
  by_cases e:t=n
  . lia
  .have:=Rm (λk c=>b k<|#[]) (show t<n by lia);lia
def Og(f:Qn)(m:Nat):JZ (gfD f m):=λx b=>by
 apply At (XH.mp b);rintro k _ rfl;exact#[_,_,rfl,rfl]
def Iw(gv:Ql)(f:Qn)(m i:Nat):(gvT gv f m i).length=m:=by simp[gvT]
def D5{f:Qn}{m:Nat}(b:k<m):(gvT gv f m m).getD k 0=gv.getD k 0+f k:=by
 rw[List.getD,PR b,Xe b];rfl
def Ni{y:Yd}(g:Wr y (Q0<|mT n gs gv go) φ)(hn:n<y.T)(h:k<gs.length):QY (Q0<|mT n gs gv go) φ n k<=rsT gs gv go k:=by
 have f:=by show k<(mT n gs gv go).length;rw[VF];exact h
 have a:=Rm (λt i=>(g.1.tak f i).1) hn;have b:=g.1.total f;have c:=(g.1.want f).2;have e:(Q0<|mT n gs gv go).wa k=rsT gs gv go k:=by
  show((mT n gs gv go).getD k default).want=_
  rw[VJ h];rfl
 lia
def Zqz{y:Yd}(b:Wr y (Q0<|mT n gs gv go) φ)(hn:n<y.T):∀k,k<gs.length->0<=rsT gs (gvT gv (QY (Q0<|mT n gs gv go) φ n) gs.length gs.length) go k:=λk f=>by
 have a:=Ni b hn f;unfold rsT at a ⊢;by_cases c:k∈go
 .rw[Xe c];exact YI _
 .rw[Xd c]at a ⊢;rw[D5 f];lia
theorem Fx{y:Yd}{b own:Qn}(f:∀l,0<=b l)(c:∀l,0<=own l):∀i l,0<=Vg y b own i l
 |0,l=>c l
 |i+1,l=>by
  have a:=Fx (y:=y) f c i;show 0<=Vg y b own i l+_
  grind
def LZ{y:Yd}(h:y.Ok){b:Qn}(f:∀l,0<=b l)(g:∀l,0<=own l):0<=passes y b own 0:=by
 have a:=Fx (y:=y) f g (y.ls.length-1) 0;have c:=f 0;unfold passes VS;lia
theorem Cl{y:Yd}{b:Qn}(c:∀l,0<=b l):∀i l,Vg y b (λ_=>0) i l=0
 |0,l=>rfl
 |i+1,l=>by
  have a:=Cl (y:=y) c i;show Vg y b _ i l+_=0;rw[a l,a _];grind
def Cm{y:Yd}(g:y.Ok){b:Qn}(f:∀l,0<=b l):passes y b (λ_=>0) 0=0:=by
 have a:=Cl (y:=y) f (y.ls.length-1) 0;have c:=f 0;unfold passes VS;lia
def ZqX{y:Yd}(m:y.Ok)(v:∀g∈gs,GOk y g)(i:Wr y (Q0 gs) φ)(h:∀S,Z3 y (Q0 gs) S<=0)(f:k<gs.length):Q4 (λt=>QY (Q0 gs) φ t k) y.T=(gs.getD k default).want:=by
 apply aX i;intro F es s A w;have a:BR y _ φ=Z3 y _ _:=F.lack m (BZ v) A s w;have b:=h (VX es);have j:∀k,k<(Q0 gs).m->0<=(Q0 gs).wa k-Q4 _ y.T:=λk f=>by
  rw[F.total f];have:=F.want f;lia
 have c:=Rm j (f);have d:=j k f;have e:(Q0 gs).wa k=(gs.getD k default).want:=rfl;unfold BR at a;lia
def ZqD{y:Yd}(A:y.Ok)(L:∀x∈gs,G30 y x)(h0:∀k,k<gs.length->0<=rsT gs gv go k)(i:Wr y (Q0<|mT n gs gv go) φ)(hn:n<y.T)
(h:∀S,Z3 y (Q0<|mT n gs gv go) S<=0):∀S,Z3 y (Q0<|mT (n+1) gs (gvT gv (QY (Q0<|mT n gs gv go) φ n) gs.length gs.length) go) S<=0:=λS=>by
 have K:=GI (n:=n) L h0;generalize M:QY (Q0<|mT n gs gv go) φ n=f;have B:(Q0<|mT n gs gv go).m=gs.length:=VF n gs gv go;have w:(Q0<|mT (n+1) gs (gvT gv f gs.length gs.length) go).m=gs.length:=VF _ _ _ _;have C:∀k,k<gs.length->Q4 (λt=>QY (Q0<|mT n gs gv go) φ t k) y.T=rsT gs gv go k:=λk g=>by
  rw[ZqX A K i h (show k<(mT n gs gv go).length by rw[VF];exact g),VJ g];rfl
 have j:∀t k,t<n->k<gs.length->QY (Q0<|mT n gs gv go) φ t k=0:=λt k s g=>by
  have a:=i.1.tak (show k<(Q0<|mT n gs gv go).m by exact B▸g) (show t<y.T by lia);have b:moT (Q0<|mT n gs gv go) t k=0:=by
   unfold moT;rw[Xd];show ¬Vk ((mT n gs gv go).getD k default) (t:Int)=true;rw[VJ g];unfold Vk stl;simp only[Wo,decide_eq_true_eq,not_and];intro z;have:n<=max (gs.getD k default).first n:=Nat.le_max_right _ _
   lia
  lia
 have m:∀k,k<gs.length->rsT gs (gvT gv f gs.length gs.length) go k=Q4 (λt=>if n<t then QY (Q0<|mT n gs gv go) φ t k else 0) y.T:=λk g=>by
  have sp:∀T,n<T->Q4 (λt=>QY (Q0<|mT n gs gv go) φ t k) T=f k+Q4 (λt=>if n<t then QY (Q0<|mT n gs gv go) φ t k else 0) T:=λT=>by
   induction T with
   |zero=>intro z;lia
   |succ T W=>
    intro z;rw[Q4,Q4];by_cases c:n<T
    .rw[W c,Xe c];lia
    .have e:T=n:=#[]
     subst e;have P:Q4 (λt=>QY (Q0<|mT T gs gv go) φ t k) T=0:=by
      rw[Zq λt s=>j t k s g,Vv]
     have N:Q4 (λt=>if T<t then QY (Q0<|mT T gs gv go) φ t k else 0) T=0:=by
      rw[Zq λt s=>Xd<|#[],Vv]
     rw[P,N,Xd<|#[],<- M];lia
  have a:=sp y.T hn;have b:=C k g;have X:k∈go->f k=0:=λD=>by
   have c:rsT gs gv go k=0:=by unfold rsT;rw[Xe D]
   have d:=Ni i hn g;have e:=(i.1.tak (show k<(Q0<|mT n gs gv go).m by exact B▸g) hn).1;rw[M]at d e;lia
  unfold rsT at b ⊢;by_cases c:k∈go
  .rw[Xe c]at b ⊢;lia
  .rw[Xd c]at b ⊢;rw[D5 g];lia
 have E:Q4 (Zg S (Q0<|mT (n+1) gs (gvT gv f gs.length gs.length) go).wa) gs.length=Q4 (λt=>if n<t then Q4 (Zg S<|QY (Q0<|mT n gs gv go) φ t) gs.length else 0) y.T:=by
  have r:Q4 (Zg S (Q0<|mT (n+1) gs (gvT gv f gs.length gs.length) go).wa) gs.length=Q4 (λk=>Q4 (λt=>if n<t then Zg S (QY (Q0<|mT n gs gv go) φ t) k else 0) y.T) gs.length:=Zq λk g=>by
   unfold Zg;by_cases c:S k=true
   .simp only[Xe c];rw[<- m k g];show((mT (n+1) gs (gvT gv f gs.length gs.length) go).getD k default).want=_;rw[VJ g];rfl
   .simp only[Xd c,ite_self];rw[Vv]
  rw[r,M9];refine Zq λt s=>?_
  by_cases c:n<t
  .rw[Xe c];exact Zq λk _=>Xe c
  .rw[Xd c,Zq λk _=>Xd c,Vv]
 have u:Q4 (λt=>if n<t then Q4 (Zg S<|QY (Q0<|mT n gs gv go) φ t) gs.length else 0) y.T<=Q4 (λt=>passes y (λl=>ZG y l t) (VR (Q0<|mT (n+1) gs (gvT gv f gs.length gs.length) go) S t) 0) y.T:=Wk λt s=>by
  have v:∀l,0<=VR (Q0<|mT (n+1) gs (gvT gv f gs.length gs.length) go) S t l:=λl=>by
   refine D0 λk g=>Int.mul_nonneg ?_ ?_
   .unfold Zg;split
    .unfold moT;split
     .show 0<=((mT (n+1) gs (gvT gv f gs.length gs.length) go).getD k default).most
      rw[w]at g;rw[VJ g];have:=(L (gs.getD k default)<|by simp[g]).ok.m1;show 0<=(gs.getD k default).most
      lia
     .exact YI _
    .exact YI _
   .unfold ind;split<;>decide
  by_cases c:n<t
  .rw[Xe c];have a:=i.1.no_more A (BZ K) S s;rw[B]at a;have q:VR (Q0<|mT (n+1) gs (gvT gv f gs.length gs.length) go) S t=VR (Q0<|mT n gs gv go) S t:=funext λl=>by
    unfold VR;rw[B,w];refine Zq λk g=>?_
    have p:moT (Q0<|mT (n+1) gs (gvT gv f gs.length gs.length) go) t k=moT (Q0<|mT n gs gv go) t k:=by
     show(if Vk ((mT (n+1) gs (gvT gv f gs.length gs.length) go).getD k default) (t:Int)=true then ((mT (n+1) gs (gvT gv f gs.length gs.length) go).getD k default).most else 0)=if Vk ((mT n gs gv go).getD k default) (t:Int)=true then ((mT n gs gv go).getD k default).most else 0
     rw[VJ g,VJ g];have o:Vk (stl gs (n+1) (rsT gs (gvT gv f gs.length gs.length) go) k) (t:Int)=Vk (stl gs n (rsT gs gv go) k) (t:Int):=by
      unfold Vk stl;congr 1;refine decide_eq_decide.mpr ?_;lia
     rw[o];rfl
    have Y:(Q0<|mT (n+1) gs (gvT gv f gs.length gs.length) go).ln k=(Q0<|mT n gs gv go).ln k:=by
     show((mT (n+1) gs (gvT gv f gs.length gs.length) go).getD k default).line=((mT n gs gv go).getD k default).line
     rw[VJ g,VJ g];rfl
    rw[Y];unfold Zg;rw[p]
   rw[q];exact a
  .rw[Xd c];exact LZ A (λl=>Dp A l t) v
 unfold Z3;lia
def Zmz(g:Gs)(t:Int):Vk g t=(decide ((g.first:Int)<=t)&&decide (t<=(g.last:Int))):=rfl
def Zpw{y:Yd}(i:y.Ok)(L:∀x∈gs,G30 y x)(h0:∀k,k<gs.length->0<=rsT gs gv go k)(h:∀S,Z3 y (Q0<|mT n gs gv go) S<=0)(b:k<gs.length)(K:(gs.getD k default).last<n):rsT gs gv go k=0:=by
 have a:=h (λj=>decide (j=k));have B:(Q0<|mT n gs gv go).m=gs.length:=VF n gs gv go;have A:Q4 (Zg (λj=>decide (j=k)) (Q0<|mT n gs gv go).wa) (Q0<|mT n gs gv go).m=rsT gs gv go k:=by
  rw[B];have f:∀m,k<m->Q4 (Zg (λj=>decide (j=k)) (Q0<|mT n gs gv go).wa) m=(Q0<|mT n gs gv go).wa k:=λm=>by
   induction m with
   |zero=>intro z;lia
   |succ m s=>
    intro z;rw[Q4];by_cases c:k<m
    .rw[s c];unfold Zg;rw[Xd<|by simp;lia];lia
    .have:m=k:=#[]
     subst this;have g:Q4 (Zg (λj=>decide (j=m)) (Q0<|mT n gs gv go).wa) m=0:=by
      rw[Zq λj v=>?_,Vv];unfold Zg;rw[Xd<|by simp;lia]
     rw[g];unfold Zg;lia
  rw[f _ b];show((mT n gs gv go).getD k default).want=_;rw[VJ b];rfl
 have w:∀t,t<y.T->passes y (λl=>ZG y l t) (VR (Q0<|mT n gs gv go) (λj=>decide (j=k)) t) 0=0:=λt D=>by
  have z:VR (Q0<|mT n gs gv go) (λj=>decide (j=k)) t=λ_=>0:=funext λl=>by
   unfold VR;rw[Zq λj v=>?_,Vv];unfold Zg;by_cases c:j=k
   .subst c;rw[Xe<|by simp];have:moT (Q0<|mT n gs gv go) t j=0:=by
     unfold moT;rw[Xd];show ¬Vk ((mT n gs gv go).getD j default) (t)=true;rw[VJ b];unfold Vk stl;simp only[Wo,decide_eq_true_eq,not_and];intro g C;have:n<=max (gs.getD j default).first n:=Nat.le_max_right _ _
     lia
    rw[this,Int.zero_mul]
   .rw[Xd<|by simp[c],Int.zero_mul]
  rw[z];exact Cm i (λl=>Dp i l t)
 unfold Z3 at a;rw[A,Zq w,Vv]at a;have:=h0 k b;lia
def Zog{y:Yd}(h:∀S,Z3 y (Q0<|mT n gs gv go) S<=0)(h0:∀k,k<gs.length->0<=rsT gs gv go k)(j:Nat):∀S,Z3 y (Q0<|mT n gs gv<|go++[j]) S<=0:=λS=>by
 have a:=h S;have m:(Q0<|mT n gs gv go).m=gs.length:=VF n gs gv go;have f:(Q0<|mT n gs gv<|go++[j]).m=gs.length:=VF _ _ _ _;have w:Q4 (Zg S (Q0<|mT n gs gv<|go++[j]).wa) gs.length<=Q4 (Zg S (Q0<|mT n gs gv go).wa) gs.length:=Wk λk b=>by
  unfold Zg;split
  .show((mT n gs gv<|go++[j]).getD k default).want<=((mT n gs gv go).getD k default).want
   rw[VJ b,VJ b];show rsT gs gv (go++[j]) k<=rsT gs gv go k
   have:=h0 k b;unfold rsT at this ⊢;by_cases c:k∈go
   .rw[Xe<|X9 _ c,Xe c];exact YI _
   .rw[Xd c]at this ⊢;split<;>lia
  .exact YI _
 have o:∀t,VR (Q0<|mT n gs gv<|go++[j]) S t=VR (Q0<|mT n gs gv go) S t:=λt=>funext λl=>by
  unfold VR;rw[m,f];refine Zq λk b=>?_
  have i:(Q0<|mT n gs gv<|go++[j]).ln k=(Q0<|mT n gs gv go).ln k:=by
   show((mT n gs gv<|go++[j]).getD k default).line=((mT n gs gv go).getD k default).line
   rw[VJ b,VJ b];rfl
  have g:moT (Q0<|mT n gs gv<|go++[j]) t k=moT (Q0<|mT n gs gv go) t k:=by
   show(if Vk _ (t)=true then ((mT n gs gv<|go++[j]).getD k default).most else 0)=if Vk ((mT n gs gv go).getD k default) (t)=true then ((mT n gs gv go).getD k default).most else 0
   rw[VJ b,VJ b];rfl
  rw[i];unfold Zg;rw[g]
 unfold Z3 at a ⊢;grind
def Zou(h0:∀k,k<gs.length->0<=rsT gs gv go k)(j:Nat):∀k,k<gs.length->0<=rsT gs gv (go++[j]) k:=λk b=>by
 have:=h0 k b;unfold rsT at this ⊢;by_cases c:k∈go
 .rw[Xe<|X9 _ c];exact YI _
 .rw[Xd c]at this;split<;>lia
def eRw(g:Gs):PyData:=.list [.int (g.line:Int),.int (g.first:Int),.int (g.last:Int),.int g.want,.int g.most]
def FG{b:Type}(a:b)(n:Nat):List.replicate n a=(List.range n).map λ_=>a:=by
 apply List.ext_getElem?;intro i;by_cases h:i<n
 .simp[h]
 .simp[h]
def VQ(y:Yd)(b own:Qn)(i l:Nat):Int:=if y.ls.length<=l+i then passes y b own l else Vg y b own i l
def fpW(gs:List Gs)(b:Qk):Qk:=b.filter λk=>decide (0<(gs.getD k default).want)
inductive R_lpass:List OT->OT->Prop
 |mk {y:Yd}{gs:List Gs}{sm:Qk}{t:Nat}(ok:y.Ok)(hs:SetOk gs sm)(hg:∀k (h:k<gs.length),k∈sm->gs[k].line<y.ls.length)(ht:t<y.T):
  R_lpass [.fz<|QH y,.fz<|.list<|gs.map eRw,.fz<|.list<|QR sm,.fz<|.int (t:Int)] (.fz<|.int<|V4 y gs (fpW gs sm) t)
def WC:Qo ["_law_yard_here","_law_rows","_law_picked","_law_turn","_law_reach","_law_number","_law_line","_law_first","_law_last","_law_lack","_law_most","_law_k","_law_above","_law_bounds"] Zam (QG RT):=by walk_at"p"
def ZrV(T:Bl mg)(CH:Df K mg "_law_passes" RT Zam):QC P w K mg base "_law_passes" Zam 1 (QQ (K:=K) R_lpass):=by
 refine CH.ev WC (λf ts r h H hi cdv A outer s hr=>?_);cases h with
 |@mk y B v t X hs hg htT=>
  refine#[_,(Qw (QP 4 WC.nd<|QW Ti (Zz<|Qu Qx Qq)<|Zw ZY (by rfl) T.len ZV<|Qu (Q9 QA (pv 0) Qx) Qq)
 (Qw (Vu zN rfl (by exact(YZ<|pv 2)) (QT 5 WC.nd) (by exact(Qw (Vz (Q9 QA (pv 1)<|pv 5)<|UO (n:=5) rfl (Zy (QT 6 WC.nd)<|Zy (QT 7 WC.nd)<|Zy (QT 8 WC.nd)<|Zy (QT 9 WC.nd)<|Zy (QT 10 WC.nd) Yz))
 (Qy<|Zb (PW.pt<|UQ (Mz WO WO (pv 7) (pv 3)<|pv 8)<|Ge<|Zx VY (pv 9) Qx<|Zi _) (Qy<|Vz (QW VH (Q9 QA (pv 4)<|pv 6)<|pv 10)<|YU (pv 4) (pv 6) VU) Za))))
 (Qw (Vu zN rfl (by exact(Rr rfl T.range<|Qu (QW Yb (Zw ZY (by rfl) T.len ZV<|av 4 Qq) Qx)<|Qu (BS Mc Qx)<|Qu (BS Mc Qx) Qq)) (QT 11 WC.nd) (by exact(Qw (Vz (Q9 QA (Q9 QA (pv 0) Qx)<|pv 11)<|J5 (n:=2) rfl (Zy (QT 12 WC.nd)<|Zy (QT 13 WC.nd) Yz))
 (Qw (Vz (Zw (Ds rfl) (by rfl) T.min Me<|Qu (Q9 QA (pv 4)<|pv 11)<|Qu (Q9 QA (pv 13)<|pv 3) Qq)<|YU (pv 4) (pv 11) VU)
 (Qy<|Zb (Zx VY (pv 11) Qx<|Zi _) (Qy<|Vz (QW VH (Q9 QA (pv 4)<|pv 12)<|Q9 QA (pv 4)<|pv 11)<|YU (pv 4) (pv 12) VU) Za)))))
 (Qy<|QK<|Q9 QA (pv 4) Qx)))),?_]
  show QB K _ [_,_,_,_,_,_,_,_,_,_,_,_,_,_] _
  walk_at"x";have l1:=X.l1;have l5:=X.l5;have t8:=X.t8;have n8:=hs.len;have eL:∀{Y:Zbv},Y[0]?=some (zf<|QH y)->Qr K (tOp (rIx K) (Q3 0)<|tC<|.int 1) Y (.tuple<|y.ls.map ZU):=λe=>Vc (Qp e) Q2 rfl;have O:(y.ls.map ZU).length=y.ls.length:=by simp
  refine QL (Yo (EvO.cast (Tl (ds:=[.int 0]) (k:=(y.ls.length:Int)) (EvO.fz<|ZW (ds:=[.int 0]) (QS Q2 Z2)<|by decide) (Qr.cast (GP<|eL rfl)<|by rw[O]) #[] (by show 1*_<=1000;lia)<|#[]) (d':=.ol ((List.range y.ls.length).map λl=>PyData.int<|ZA B (t:Int) l [])) ?e0) ?_)
  case e0=>
   rw[Nf,Xr,FG];rfl
  walk_at"d";refine QL (Ya (ds:=QR v) (λi J=>∃G F x u q D:Option OT,J=[zf<|QH y,zf<|.list<|B.map eRw,zf<|.list<|QR v,zi (t:Int),some<|.ol<|(List.range y.ls.length).map λl=>PyData.int<|ZA B (t:Int) l<|fpW B<|v.take i,G,F,x,u,q,D,none,none,none]) (Ja Qp) #[_,_,_,_,_,_,rfl] ?st3 ?fin3)
  case st3=>
   rintro i d _ I ⟨G,F,x,u,q,D,rfl⟩;have E:i<v.length:=by
    have:=(Xc.mp I).1;simpa [QR] using this
   obtain rfl:d=.int ((v[i]:Nat):Int):=by simpa [QR,E] using I.symm
   have o:v[i]<B.length:=hs.mem _ (Wb E);refine#[_,Zr,?_];walk_at"d";have tk:v.take (i+1)=v.take i++[v[i]]:=by rw[JM];simp[E]
   have eg:atI (B.map eRw) ((v[i]:Nat):Int)=some (eRw B[v[i]]):=VM (by simp[o]);have gl:=hg v[i] o (Wb E);have eD:B.getD v[i] default=B[v[i]]:=by simp[o]
   have L:fpW B (v.take<|i+1)=fpW B (v.take i)++(if 0<B[v[i]].want then [v[i]] else []):=by
    rw[tk];unfold fpW;rw[B9];congr 1
    by_cases z:0<B[v[i]].want
    .rw[Xe z];exact S6 (by rw[eD];exact Xq z)
    .rw[Xd z];exact HH (by rw[eD];simpa using z)
   refine QL (BV (Vt Qp Qp eg) (CG (Vb Zr<|Vb Zr<|Vb Zr<|Vb Zr<|Vb Zr Wx) rfl) ?_);walk_at"d";refine Zf (b:=Vk B[v[i]] (t:Int)&&decide (B[v[i]].want > 0)) (QO.cast (UN (Zc<|Uo Qp Qp Qp) λ_=>Zc<|ZI Qp Q2) rfl) (λc=>?_) (λc=>Zl ?_)
   .rw[Wo]at c;obtain⟨c,cw⟩:=c;rw[Xe (XX cw)]at L;refine UY (j:=B[v[i]].line) rfl (ZD ((λZ U=>Ww Z (Qp U) (by rw[W4 #[]<|#[],Xr])) rfl rfl) Qp) Qp (by rw[Wi #[]<|by simp;lia,Xr]) ?_
    walk_at"d";rw[Gb (g:=λl=>ZA B (t:Int) l<|fpW B<|v.take<|i+1) gl (λl Q p=>by rw[L,Gn];simp[ZA,o,Ne.symm p])<|by rw[L,Gn];simp[ZA,o,c]];exact#[_,_,_,_,_,_,rfl]
   .have e:(λl=>PyData.int<|ZA B (t:Int) l<|fpW B<|v.take<|i+1)=λl=>PyData.int (ZA B (t:Int) l<|fpW B<|v.take i):=by
     funext l
     rw[L,Gn];by_cases z:0<B[v[i]].want
     .have c:=by
       rw[Xq<|z,Bool.and_true]at c;exact c
      rw[Xe z];simp[ZA,o,c]
     .rw[Xd z];simp[ZA]
    dsimp only;exact e▸#[_,_,_,_,_,_,rfl]
  case fin3=>
   rintro _ ⟨G,F,x,u,q,D,rfl⟩;have el:(QR v).length=v.length:=by simp[QR]
   rw[el,Jr];generalize hb:(λk=>ZG y k t)=b;generalize ho:WX B t (fpW B v)=m;have e0:((List.range y.ls.length).map λl=>PyData.int<|ZA B (t:Int) l<|fpW B v)=(List.range y.ls.length).map λl=>PyData.int (VQ y b m 0 l):=X6 λl Q=>by
    have:=XN.mp Q;unfold VQ;rw[Xd<|#[],<- ho];rfl
   rw[e0];refine QL (Ya (ds:=WM ((y.ls.length:Int)-1) y.ls.length) (λi J=>∃W N M:Option OT,J=[zf<|QH y,zf<|.list<|B.map eRw,zf<|.list<|QR v,zi (t:Int),some<|.ol<|(List.range y.ls.length).map λl=>PyData.int<|VQ y b m i l,G,F,x,u,q,D,W,N,M]) ?ei4 #[_,_,_,rfl] ?st4 ?fin4)
   case ei4=>
    apply EvI.cast
    .walk_at"ei"
    .rw[Xj,Gq];exact NZ rfl #[]
   case st4=>
    rintro i d _ I ⟨W,N,M,rfl⟩;obtain⟨E,rfl⟩:=DI I;refine#[_,Zr,?_];walk_at"d";have ej:(y.ls.length:Int)-1-(i:Int)=((y.ls.length-1-i:Nat):Int):=#[]
    rw[ej];generalize hj:y.ls.length-1-i=j;have C:j<y.ls.length:=#[]
    have hbl:=Bm X C;have R:(Zu y j).bs.getD t 0=b j:=by rw[<- DY C,<- hb]
    have ln:atI (y.ls.map ZU) (j:Int)=some (ZU<|Zu y j):=VM (by simp[C,Zu]);have ar:VQ y b m i j=VS y b m j:=by
     unfold VQ;rw[Xd<|#[]];have:i=y.ls.length-1-j:=#[]
     rw[this];exact FN X b m C
    refine QL (BV (Vc (eL rfl) Qp ln) (WN (Vb Zr<|Vb Zr Wx) rfl) ?_);walk_at"d";refine QL (UY (j:=j) rfl (KP (Ww rfl Qp<|W4 #[]<|#[])<|Vc Qp Qp<|KW #[]<|#[]) Qp (by rw[Wi #[]<|by simp;lia,Xr]) ?_);walk_at"d";rw[Xr,Xr,R,ar];have ed:((List.range y.ls.length).map λl=>PyData.int<|VQ y b m i l).set j (.int<|min (VS y b m j)<|b j)=(List.range y.ls.length).map λl=>PyData.int (if l=j then passes y b m j else VQ y b m i l):=Gb C (λl _ p=>Xd p) (Xe rfl);rw[ed];refine Zf (QO.cast (Zc<|ZI Qp Q2) rfl) (λc=>?_) (λc=>Zl ?_)
    .have c:=XX c;apply At (X.ups j #[] C);intro a S la;have eu:upD (Zu y j).up=.int (a:Int):=by
      have:(Zu y j).up=some a:=by rw[<- DU C];exact S
      rw[this];rfl
     rw[eu];refine UY (j:=a) rfl (ZD (Ww rfl Qp<|W4 #[]<|#[])<|Ww rfl Qp<|W4 #[]<|#[]) Qp (by rw[Wi #[]<|by simp;lia,Xr]) ?_;walk_at"d";rw[Xr,Xr,Xe rfl,Xd (show ¬a=j by lia)];have Z:∀l,l<y.ls.length->l≠a->VQ y b m (i+1) l=if l=j then passes y b m j else VQ y b m i l:=λl Q p=>by
      unfold VQ;by_cases z:l=j
      .subst z;rw[Xe rfl,Xe<|#[]]
      .rw[Xd z]
       by_cases z2:y.ls.length<=l+i
       .rw[Xe z2,Xe<|#[]]
       .rw[Xd z2,Xd<|#[]];simp only[Vg,WP,hj];rw[S,Xd<|by simpa using λz=>p z.symm];lia
     have U:VQ y b m (i+1) a=VQ y b m i a+passes y b m j:=by
      have r:Vg y b m i j=VS y b m j:=by
       rw[<- ar];unfold VQ;rw[Xd<|#[]]
      unfold VQ;rw[Xd<|#[],Xd<|#[]];simp only[Vg,WP,hj];rw[S,Xe rfl,r];rfl
     rw[Gb #[] Z U];exact#[_,_,_,rfl]
    .have c:=BH c;have e:(λl=>PyData.int (if l=j then passes y b m j else VQ y b m i l))=λl=>PyData.int (VQ y b m (i+1) l):=by
      funext l
      have:j=0:=#[]
      subst this;by_cases z:l=0
      .subst z;rw[Xe rfl];unfold VQ;rw[Xe<|#[]]
      .rw[Xd z];unfold VQ;rw[Xe<|#[],Xe<|#[]]
     dsimp only;rw[e];exact#[_,_,_,rfl]
   case fin4=>
    rintro _ ⟨W,N,M,rfl⟩;rw[Ny];refine Vq (Qr.cast (Ww rfl Q2<|W4 (by decide)<|#[]) ?_) rfl;unfold VQ V4;rw[Xe<|#[],hb,ho];rfl
def lnB(l:Ln)(t:Nat)(b:Int):Ln:=#[l.up,l.bs.set t b]
def ydB(y:Yd)(l t:Nat)(b:Int):Yd:=#[y.T,y.ls.set l<|lnB (Zu y l) t b]
def NV{b:Type}{xs:List b}{v:b}(h:k<xs.length):xs.take k++[v]++xs.drop (k+1)=xs.set k v:=by
 rw[List.set_eq_take_append_cons_drop,Xe h];simp
def Tb{y:Yd}{b:Int}(c:l<y.ls.length)(j:Nat):Zn (ydB y l t b) j=Zn y j:=by
 simp only[Zn,ydB];by_cases h:j=l
 .subst h;rw[Xk c];simp[lnB,Zu,c]
 .rw[Xp<|Ne.symm h]
def KC{y:Yd}(f:y.Ok){b:Int}(j:l<y.ls.length)(b0:0<=b)(b1:b<10^300):(ydB y l t b).Ok:=by
 have m:∀x∈(ydB y l t b).ls,x∈y.ls\/x=lnB _ t b:=λx g=>by
  rcases List.mem_or_eq_of_mem_set g with h|h
  .exact .inl h
  .exact .inr h
 have i:Zu y l∈y.ls:=by
  have e:Zu y l=y.ls[l]:=by simp[Zu,j]
  simp_all
 refine#[f.t1,f.t8,?_,?_,?_,?_,?_,?_]
 .show 1<=(y.ls.set l _).length
  rw[X7];exact f.l1
 .show(y.ls.set l _).length<=5
  rw[X7];exact f.l5
 .rw[Tb j];exact f.up0
 .intro k w v;rw[Tb j];refine f.ups k w ?_;have v:k<(y.ls.set l _).length:=v;simp_all
 .intro x g;rcases m x g with h|rfl
  .exact f.bl x h
  .show((Zu y l).bs.set t b).length=y.T
   rw[X7];exact f.bl _ i
 .intro x g c s;rcases m x g with h|rfl
  .exact f.bb x h c s
  .rcases List.mem_or_eq_of_mem_set (s) with h|rfl
   .exact f.bb _ i c h
   .exact#[b0,b1]
def ZrP{y:Yd}(b:y.Ok)(c:l<y.ls.length):R_above [.fz<|QH y,.fz<|.int (l:Int)] (.fz<|upD (Zu y l).up):=by
 have f:(Zu y l).up=Zn y l:=by simp[Zu,Zn,c]
 by_cases h:l=0
 .subst h;rw[f,b.up0];exact R_above.zero b
 .apply At (b.ups l #[] c);intro a g j;have r:=R_above.mk (k:=(l)) b #[] #[];rw[Xr]at r;have i:upN y l=a:=by simp[upN,g]
  rw[i]at r;rw[f,g];exact r
inductive R_withb:List OT->OT->Prop
 |mk {y:Yd}{l t:Nat}{b:Int}(ok:y.Ok)(hl:l<y.ls.length)(ht:t<y.T):R_withb [.fz<|QH y,.fz<|.int (l:Int),.fz<|.int (t:Int),.fz<|.int b] (.fz<|QH<|ydB y l t b)
def Ho:Qo ["yard","line","turn","bound","above","bounds","changed"] ZaA (QG Sb):=by walk_at"p"
def Ov(T:Bl mg)(CH:Df K mg "with_bound" Sb ZaA)(v:QC P w K mg base "above_of" ZaJ 1 (QQ (K:=K) R_above)):QC P w K mg base "with_bound" ZaA 2 (QQ (K:=K) R_withb):=by
 refine CH.ev Ho (λf ts r h H k N A outer s D=>?_);cases h with
 |@mk y l t b j m C=>
  refine#[_,(Qw (QP 4 Ho.nd<|QI v D<|av 0<|av 1 Qq)
 (Qw (QP 5 Ho.nd<|Q9 QA (Q9 QA (Q9 QA (pv 0) Qx)<|pv 1) Qx)
 (Qw (QP 6 Ho.nd<|Yq<|av 4<|Qu (QW Bd (QW Bd (Ux Be (pv 5) Bb<|Jd<|pv 2)<|Yq<|av 3 Qq)<|Ux Be (pv 5) (Jd<|QW VH (pv 2) Qx) Bb) Qq)
 (Qy<|QK<|Yq<|Qu (Q9 QA (pv 0) Qx)<|Qu (QW Bd (QW Bd (Ux Be (Q9 QA (pv 0) Qx) Bb<|Jd<|pv 1)<|Yq<|av 6 Qq)<|Ux Be (Q9 QA (pv 0) Qx) (Jd<|QW VH (pv 1) Qx) Bb) Qq)))),?_]
  try dsimp only[VE]
  have a:=j.l5;have X:=j.t8;have c:((Zu y l).bs.map PyData.int).length=y.T:=by simpa using (Bm j m)
  have g:(y.ls.map ZU).length=y.ls.length:=by simp
  have M:((t:Int)+1)=((t+1:Nat)):=#[]
  have L:((l:Int)+1)=((l+1:Nat)):=#[]
  refine QL (ZF (Zk (Qv Qp<|Qv Qp Q5) (ZrP j m)) (QL (ZF (Vc (ds:=[upD (Zu y l).up,.tuple<|(Zu y l).bs.map PyData.int]) (Vc ((λe=>Vc (Qp e) Q2 rfl) rfl) Qp<|VM<|by rw[Xy];simp[Zu,m,ZU]) Q2 rfl) (QL (ZF (d:=ZU (lnB (Zu y l) t b)) (Qr.cast (Yn (QS Qp<|QS (UX (UX (GZ Qp UW<|J9 Qp) (Yn (QS Qp Z2)<|by show(1)<=1000;decide) ?l1) (GZ Qp (J9<|Qr.cast (ZD Qp Q2)<|by rw[M]) UW) ?l2) Z2)<|by show(2)<=1000;decide) ?eq) ?_)))))
  case l1=>rw[J1 _ _<|by rw[c];lia,Js,c];simp;lia
  case l2=>rw[J1 _ _<|by rw[c];lia,Ba _ _<|by rw[c];lia,Xn,Js,BE,c];simp;lia
  case eq=>
   rw[J1 _ _<|by rw[c];lia,Ba _ _<|by rw[c];lia,NV<|by rw[c];exact C];unfold ZU lnB;rw[BC]
  refine Vq (Qr.cast (Yn (QS (Vc Qp Q2 rfl)<|QS (UX (UX (GZ ((λe=>Vc (Qp e) Q2 rfl) rfl) UW<|J9 Qp) (Yn (QS Qp Z2)<|by show(1)<=1000;decide) ?l3) (GZ ((λe=>Vc (Qp e) Q2 rfl) rfl) (J9<|Qr.cast (ZD Qp Q2)<|by rw[L]) UW) ?l4) Z2)<|by show(2)<=1000;decide) ?eq2) rfl
  case l3=>rw[J1 _ _<|by rw[g];lia];simp;lia
  case l4=>rw[J1 _ _<|by rw[g];lia,Ba _ _<|by rw[g];lia,Xn,Js,BE,g];simp;lia
  case eq2=>
   rw[J1 _ _<|by rw[g];lia,Ba _ _<|by rw[g];lia,NV<|by rw[g];exact m];unfold QH ydB;rw[BC]
def Kp{y:Yd}{b:Int}{g:Gs}(h:G30 y g):G30 (ydB y l t b) g:=#[#[by show g.line<(y.ls.set l _).length;rw[X7];exact h.ok.ln,h.ok.fl,h.ok.lt,h.ok.w1,h.ok.w2,h.ok.m1,h.ok.m2],h.w,h.m]
inductive R_hset:HandS->List OT->(OT->HandS->Prop)->Prop
 |mk {y:Yd}{n:Nat}{gs:List Gs}{gv:Ql}{go:Qk}{ms:List Zc3}{l t:Nat}{b:Int}(ok:y.Ok)(hg:∀x∈gs,G30 y x)(gl:gv.length=gs.length)(h0:∀k,k<gs.length->0<=rsT gs gv go k)(l8:gs.length<=8)(hl:l<y.ls.length)(ht:t<y.T)(b0:0<=b)(b1:b<10^300)(hn:n<=t)(h:∀S,Z3 (ydB y l t b) (Q0<|mT n gs gv go) S<=0):
  R_hset (hT y n gs gv go ms) [.fz<|.int (l:Int),.fz<|.int (t:Int),.fz<|.int b] (λr N'=>r=.fz .none/\N'=hT (ydB y l t b) n gs gv go ms)
inductive X_hset(D:Addr):List OT->(Qd->Prop)->Prop
 |mk {y:Yd}{n:Nat}{gs:List Gs}{gv:Ql}{go:Qk}{ms:List Zc3}{l t:Nat}{b:Int}(ok:y.Ok)(hg:∀x∈gs,G30 y x)(gl:gv.length=gs.length)(h0:∀k,k<gs.length->0<=rsT gs gv go k)(l8:gs.length<=8)(hl:l<y.ls.length)(ht:t<y.T)(b0:0<=b)(b1:b<10^300)(hn:n<=t){S:Qm}(h:0<Z3 (ydB y l t b) (Q0<|mT n gs gv go) S):
  X_hset D [.zow<|Zj D<|hT y n gs gv go ms,.fz<|.int (l:Int),.fz<|.int (t:Int),.fz<|.int b] (λd=>∃S,0<Z3 (ydB y l t b) (Q0<|mT n gs gv go) S/\d=QR (ZE (mT n gs gv go) S))
def MD:Qo ["self","line","turn","bound","changed"] Zas (QG Hy):=by walk_at"p"
def Ej(T:Bl mg)(m:HandC K D)(XR:XC K mg "NoRoom" YR CR fR)(CH:Mf K D "set_bound" "Hand.set_bound" Hy Zas)(p:ZK P w K mg base D "refuse_past" ZaF 1 (V8 K ct Yu (R_hpast D)<|X_hpast D))(d:QC P w K mg base "with_bound" ZaA 2 (QQ (K:=K) R_withb))(e:U9 P w K mg base "refuse_lack" Zac 7 (spX K CR "some" R_refuse X_refuse))(o:Z8 P w K mg base D "still_there" Zak 5 (Zm K<|R_hstill D)):
 ZK P w K mg base D "set_bound" Zas 8 (G8 K D CR "some" R_hset<|X_hset D):=by
 have a:∀{Y:Zbv} {y:Yd} {n:Nat} {i:List Gs} {j:Ql} {B:Qk} {N:List Zc3} {O:XK},j.length=i.length->Y[0]?=some (zz<|Zj D<|hT y n i j B N)->i.length<=8->Qr K (ZQ D "still_there" (Zm K<|R_hstill D) [] O (Q3 0) QJ) Y _:=λ{Y y n i j B N O} gl Z l=>
  Qr.cast (EvO.fz<|Z5.o<|Gi NK Z Q5<|R_hstill.mk (rsT i j B) rfl rfl (λk U=>Mv gl U)<|#[]) (by rw[K1])
 refine CH.evHXn MD (λf H RR v M ts Ψ g h G A outer s c=>?_) (λf F H RR ts Φ g Q h G A outer s c=>?_)
 .cases h with
  |@mk y n i j B N l t b L z gl E W X u b0 I R h=>
   refine#[_,(Qw (Zp<|V5 p m c (WQ (C:=ct)) (pv 0)<|av 2 Qq)
 (Qw (QP 4 MD.nd<|QI d c<|Qu (QV<|pv 0)<|av 1<|av 2<|av 3 Qq)
 (Qw (Zp<|Bi e c (Y5 g)<|av 4<|Qu (V6 o m c<|pv 0) Qq)
 (PSs.nox<|Qy<|YT (pv 0) (pv 4) rfl)))),?_]
   try dsimp only[VE]
   refine Z7 (λJ=>J=[zo v<|QM D<|hT (ydB y l t b) n i j B N,zf<|.int<|l,zf<|.int<|t,zi b,zf<|QH<|ydB y l t b]) ?_ ?_
   .exact QL (W9 (W8 0 rfl (λr c=>by rw[c];exact JJ rfl)<|Jh Ur rfl (Qv Qp Q5) (R_hpast.mk<|by show(n:Int)<=(t);lia) Us) (QL (ZF (Zk (Qv (Qr.cast (ZoN m rfl) rfl)<|Qv Qp<|Qv Qp<|Qv Qp Q5)<|R_withb.mk L X u) (QL (W9 (W8 0 rfl (λr c=>by rw[c];exact JJ rfl)<|Lz (Qv Qp<|Qv (a gl rfl W) Q5) (R_refuse.mk (KC L X b0 I) (GI (λx q=>Kp<|z x q) E) (by rw[VF];exact W) h) g) (Od m rfl Qp rfl))))))
   .rintro _ rfl;exact VZ WY #[_,#[rfl,rfl],rfl]
 .cases h with
  |@mk y n i j B N l t b L z gl E W X u b0 I R S h=>
   refine#[_,(Qw (Zp<|V5 p m c (WQ (C:=ct)) (pv 0)<|av 2 Qq)
 (Qw (QP 4 MD.nd<|QI d c<|Qu (QV<|pv 0)<|av 1<|av 2<|av 3 Qq)
 (Qw (Zp<|Bi e c (Y5 g)<|av 4<|Qu (V6 o m c<|pv 0) Qq)
 (PSs.nox<|Qy<|YT (pv 0) (pv 4) rfl)))),?_]
   exact GR (W9 (Jh Ur rfl (Qv Qp Q5) (R_hpast.mk<|by show(n:Int)<=(t);lia) Us) rfl)<|GR (ZF (Zk (Qv (Qr.cast (JI m rfl) rfl)<|Qv Qp<|Qv Qp<|Qv Qp Q5)<|R_withb.mk L X u) rfl)<|J6 (Ld (Qv Qp<|Qv (a gl rfl W) Q5) (X_refuse.mk (KC L X b0 I) (GI (λx q=>Kp<|z x q) E) (by rw[VF];exact W) h) g Q)
inductive X_hsetT(D:Addr):List OT->(Unit->Prop)->Prop
 |mk {y:Yd}{n:Nat}{gs:List Gs}{gv:Ql}{go:Qk}{ms:List Zc3}{l t:Nat}{b:Int}(hn:t<n):X_hsetT D [.zow<|Zj D<|hT y n gs gv go ms,.fz<|.int (l:Int),.fz<|.int (t:Int),.fz<|.int b] (λ_=>True)
def Zp5(T:Bl mg)(L:HandC K D)(CH:Mf K D "set_bound" "Hand.set_bound" Hy Zas)(B:ZK P w K mg base D "refuse_past" ZaF 1 (V8 K ct Yu (R_hpast D)<|X_hpast D))(j:QC P w K mg base "with_bound" ZaA 2 (QQ (K:=K) R_withb))(m:U9 P w K mg base "refuse_lack" Zac 7 (spX K CR "some" R_refuse X_refuse))(v:Z8 P w K mg base D "still_there" Zak 5 (Zm K<|R_hstill D)):
 ZK P w K mg base D "set_bound" Zas 8 (V8 K ct Yu (λ_ _=>False)<|X_hsetT D):=by
 refine CH.evZ MD (λf H RR ts M c h i A outer s g=>h.elim) (λf F H RR ts M c N h i A outer s g=>?_);cases h with
 |@mk y n a Y d W l t b X=>
  refine#[_,(Qw (Zp<|V5 B L g (Y5 c) (pv 0)<|av 2 Qq)
 (Qw (QP 4 MD.nd<|QI j g<|Qu (QV<|pv 0)<|av 1<|av 2<|av 3 Qq)
 (Qw (Zp<|Bi m g (WQ (C:=CR))<|av 4<|Qu (V6 v L g<|pv 0) Qq)
 (PSs.nox<|Qy<|YT (pv 0) (pv 4) rfl)))),?_]
  exact J6 (Bu bkN Ur rfl (Qv Qp Q5) (X_hpast.mk<|by show(t:Int)<(n);lia) c N)
inductive R_hnow(D:Addr):List OT->(OT->Prop)->Prop
 |mk {N:HandS}:R_hnow D [.zow<|Zj D N] (λr=>r=.fz (.int N.now))
def ZlD:Qo Zak Zak (QG R0):=by walk_at"p"
def Ev(T:Bl mg)(c:HandC K D)(CH:Mf K D "now" "Hand.now" R0 Zak):Z8 P w K mg base D "now" Zak 1 (Zm K<|R_hnow D):=by
 refine CH.evD ZlD (λf ts g h H j b A outer s i=>?_);cases h with
 |@mk N=>
  refine#[_,(Qy<|QK<|QV<|pv 0),?_];show QB K _ [_] _
  walk_at"x";exact Vq (Mx c rfl) rfl
def Zhh:Qo Zak Zak (QG Sq):=by walk_at"p"
def Ox(T:Bl mg)(b:HandC K D)(CH:Mf K D "yard_now" "Hand.yard_now" Sq Zak):Z8 P w K mg base D "yard_now" Zak 1 (spY D):=by
 refine aF CH.ex λf fd F j v=>#[f,fd,j,v,F.ok Zhh (λc H Q m h=>by apply ae h;rintro a L y n k g d e⟨rfl,_⟩;rfl) λc H Q m h C A outer s M=>#[_,(Qy<|QK<|QV<|pv 0),?_]];apply ae h;rintro a L y n k g d e⟨rfl,B,i⟩;exact#[_,rfl,a,D,L,_,y,rfl,B,b.cl,b.yd,rfl,i]
inductive R_hgifts(D:Addr):List OT->(OT->Prop)->Prop
 |mk {N:HandS}(h:N.made.length<=1000):R_hgifts D [.zow<|Zj D N] (λr=>∃v,r=.own v (dlP N.made))
def ZjY:Qo Zak Zak (QG Hv):=by walk_at"p"
def Zph(T:Bl mg)(g:HandC K D)(CH:Mf K D "gifts" "Hand.gifts" Hv Zak):Z8 P w K mg base D "gifts" Zak 1 (Zm K<|R_hgifts D):=by
 refine CH.evD ZjY (λf ts i h H m c A outer s j=>?_);cases h with
 |@mk N h=>
  exact#[_,(Qy<|QK<|Wg (NX:=Zak) (sc:=QG Hv) (N:=["gifts"]) (f:=[none]) rfl (by decide +kernel) rfl rfl (YZ<|QV<|pv 0) (λ_=>(QT 0 (show(["gifts"]:Qh).Nodup by decide +kernel))) (λ_=>Yf) (λ_=>J8) λ_=>(Wl NI (by rfl) T.dict Dz<|av 0 Qq)),Nr (ZrD g rfl h (λ_=>rfl) (λ_=>rfl) λ_=>rfl) (λr b=>b)]
inductive R_hleave:HandS->List OT->(OT->HandS->Prop)->Prop
 |mk {y:Yd}{n:Nat}{gs:List Gs}{gv:Ql}{go:Qk}{ms:List Zc3}{k:Nat}(hk:k<gs.length)(gl:gv.length=gs.length)(hn:k∉go)(l:go.length<=900):R_hleave (hT y n gs gv go ms) [.fz<|.int (k:Int)] (λr N'=>r=.fz (.int<|gv.getD k 0)/\N'=hT y n gs gv (go++[k]) ms)
inductive X_hleave(D:Addr):List OT->(V->Prop)->Prop
 |mk {y:Yd}{n:Nat}{gs:List Gs}{gv:Ql}{go:Qk}{ms:List Zc3}{k:Nat}(hk:k<gs.length)(hn:k∈go):X_hleave D [.zow<|Zj D<|hT y n gs gv go ms,.fz<|.int (k:Int)] (λw=>w=.int (k:Int))
 |out {N:HandS}{z:Int}(h:z<0\/(N.known.length:Int)<=z):X_hleave D [.zow<|Zj D N,.fz<|.int z] (λw=>w=.int z)
def Aa{go:Qk}(h:k∉go):Uc (go.map λ(k:Nat)=>((.inl (k:Int):Key),PyData.bool true)) (.inl (k:Int)) (.bool true)=(go++[k]).map λ(k:Nat)=>((.inl (k:Int):Key),PyData.bool true):=by
 unfold Uc;grind
def LF{y:Yd}(b:k<gs.length)(gl:gv.length=gs.length):(hT y n gs gv go ms).given[k]?=some (gv.getD k 0):=by
 show gv[k]?=_
 simp[gl,b]
def ZjF:Qo Zab Zab (QG RX):=by walk_at"p"
def ZqT(T:Bl mg)(j:HandC K D)(a:XC K mg "NoNumber" YR CQ fQ)(CH:Mf K D "leave" "Hand.leave" RX Zab)(i:ZK P w K mg base D "refuse_number" Zab 3 (WL K CQ "number" (R_hnum D)<|X_hnum D))(g:GL P w K mg base fQ Zab 1 (Bj CQ "number")):ZK P w K mg base D "leave" Zab 4 (SB K D CQ "number" R_hleave<|X_hleave D):=by
 refine CH.evHXn ZjF (λf H RR v M ts Ψ b h Y A outer s c=>?_) (λf F H RR ts e b d h Y A outer s c=>?_)
 .cases h with
  |@mk y n X W m L k C gl B l=>
   refine#[_,(Qw (Zp<|V5 i j c (Y5 b) (pv 0)<|av 1 Qq)
 (Qw (Zb (Wz<|UT (Vo c) (pv 1)<|QV<|pv 0) (Qy<|Gk a g b c<|av 1 Qq) Za)
 (PSs.nox (Qw (Bh (Vo c) (QV<|pv 0) (pv 1) Vj rfl)
 (Qy<|QK<|Q9 QA (QV<|pv 0)<|pv 1))))),EvR.sq ?_]
   show EvR K _ [zo v<|QM D<|hT y n X W m L,zi (k:Int)] _;refine Z7 (λJ=>J=[some _,zf<|.int<|k]) (W9 (W8 0 rfl (λr c=>by rw[c];exact JJ rfl)<|Jh US rfl (Qv Qp Q5) (R_hnum.mk<|by simp[hT,C]) b) rfl) ?_
   rintro _ rfl;refine Z7 _ (Zf (Bp 0 rfl (QO.cast (Zc<|Rg j Qp rfl)<|(Dy k m).trans (Xt B))) nf λ_=>Zl rfl) ?_;rintro _ rfl;refine Z7 (λJ=>J=[zo v<|QM D<|hT y n X W (m++[k]) L,zf<|.int<|k]) (ZrI (k:=.inl (k)) j rfl Wu Qp (Vh<|by show(m.map _).length<=1000;rw[Xj];lia) ?_) ?_
   .dsimp only[List.set,hT];rw[Aa B]
   rintro _ rfl;exact VZ (Jk 0 rfl rfl (Vt (R1 j rfl) Qp<|NG<|LF C gl)) #[_,#[rfl,rfl],rfl]
 .cases h with
  |@mk y n X W m L k C B=>
   refine#[_,(Qw (Zp<|V5 i j c (Y5 b) (pv 0)<|av 1 Qq)
 (Qw (Zb (Wz<|UT (Vo c) (pv 1)<|QV<|pv 0) (Qy<|Gk a g b c<|av 1 Qq) Za)
 (PSs.nox (Qw (Bh (Vo c) (QV<|pv 0) (pv 1) Vj rfl)
 (Qy<|QK<|Q9 QA (QV<|pv 0)<|pv 1))))),?_]
   exact GR (W9 (Jh US rfl (Qv Qp Q5) (R_hnum.mk<|by simp[hT,C]) b) rfl)<|J6 (De (QO.cast (Zc<|Rg j Qp rfl)<|(Dy k m).trans (Xq B)) (λ_=>FF (Φx:=λw=>w=.int (k)) Qp rfl rfl d) nt)
  |@out N z h=>
   refine#[_,(Qw (Zp<|V5 i j c (Y5 b) (pv 0)<|av 1 Qq)
 (Qw (Zb (Wz<|UT (Vo c) (pv 1)<|QV<|pv 0) (Qy<|Gk a g b c<|av 1 Qq) Za)
 (PSs.nox (Qw (Bh (Vo c) (QV<|pv 0) (pv 1) Vj rfl)
 (Qy<|QK<|Q9 QA (QV<|pv 0)<|pv 1))))),?_]
   exact J6 (Bu bkV US rfl (Qv Qp Q5) (X_hnum.mk h) b d)
def mR(gs:List Gs)(gv:Ql)(go:Qk):List Gs:=(List.range gs.length).map λk=>{ gs.getD k default with want:=rsT gs gv go k }
def Ml(gs:List Gs)(gv:Ql)(go:Qk):(mR gs gv go).length=gs.length:=by simp[mR]
def Kt(h:k<gs.length):(mR gs gv go).getD k default={ gs.getD k default with want:=rsT gs gv go k }:=by simp[mR,h]
def rwL(g:Gs):Qd:=[.int (g.line:Int),.int (g.first:Int),.int (g.last:Int),.int g.want,.int g.most]
def A1{gs:List Gs}(h:k<gs.length):atI (gs.map eRw) (k:Int)=some (.list<|rwL<|gs.getD k default):=VM (by simp[h];rfl)
def Hr:Qo ["_law_yard_here","_law_line","_law_turn","_law_bound","_law_lines","_law_above","_law_bounds"] Zap (QG RD):=by walk_at"p"
def IT(T:Bl mg)(CH:Df K mg "_law_with" RD Zap):QC P w K mg base "_law_with" Zap 1 (QQ (K:=K) R_withb):=by
 refine CH.ev Hr (λf ts r h H M B A outer s L=>?_);cases h with
 |@mk y l t b g i m=>
  refine#[_,(Qw (QP 4 Hr.nd<|Wl D8 (by rfl) T.list Mo<|Qu (Q9 QA (pv 0) Qx) Qq)
 (Qw (Vz (Q9 QA (pv 4)<|pv 1)<|J5 (n:=2) rfl (Zy (QT 5 Hr.nd)<|Zy (QT 6 Hr.nd) Yz))
 (Qw (Vz (Yq<|av 5<|Qu (QW Bd (QW Bd (Ux Be (pv 6) Bb<|Jd<|pv 2)<|Yq<|av 3 Qq)<|Ux Be (pv 6) (Jd<|QW VH (pv 2) Qx) Bb) Qq)<|YU (pv 4) (pv 1) VU)
 (Qy<|QK<|Yq<|Qu (Q9 QA (pv 0) Qx)<|Qu (Wl N9 (by rfl) T.tuple DL<|av 4 Qq) Qq)))),?_]
  have D:=g.t8;have c:((Zu y l).bs.map PyData.int).length=y.T:=by simpa using (Bm g i)
  have j:(y.ls.map ZU).length=y.ls.length:=by simp
  have v:((t:Int)+1)=((t+1:Nat)):=#[]
  refine QL (Yo (KU<|Vc Qp Q2 rfl) (QL (BV (Ww (d:=.tuple [upD (Zu y l).up,.tuple<|(Zu y l).bs.map PyData.int]) rfl Qp<|VM<|by rw[Xy];simp[Zu,i,ZU]) (WN (Vb Zr<|Vb Zr Wx) rfl) (QL (UY (d:=ZU (lnB (Zu y l) t b)) rfl (Qr.cast (Yn (QS Qp<|QS (UX (UX (GZ Qp UW<|J9 Qp) (Yn (QS Qp Z2)<|by show(1)<=1000;decide) ?l1) (GZ Qp (J9<|Qr.cast (ZD Qp Q2)<|by rw[v]) UW) ?l2) Z2)<|by show(2)<=1000;decide) ?eq) Qp (by rw[j,Wi #[]<|#[],Xr]) ?_)))))
  case l1=>rw[J1 _ _<|by rw[c];lia,Js,c];simp;lia
  case l2=>rw[J1 _ _<|by rw[c];lia,Ba _ _<|by rw[c];lia,Xn,Js,BE,c];simp;lia
  case eq=>
   rw[J1 _ _<|by rw[c];lia,Ba _ _<|by rw[c];lia,NV<|by rw[c];exact m];unfold ZU lnB;rw[BC]
  refine GK 4 rfl<|Vq (Qr.cast (Yn (QS (Vc Qp Q2 rfl)<|QS (P6 Qp) Z2)<|by show(2)<=1000;decide) ?eq2) rfl
  case eq2=>
   unfold QH ydB;rw[BC]
inductive R_lsh:List OT->OT->Prop
 |mk {y:Yd}{gs:List Gs}{sm:Qk}{n:Nat}(ok:y.Ok)(hs:SetOk gs sm)(hg:∀k (h:k<gs.length),k∈sm->gs[k].line<y.ls.length)(hn:n<=y.T):R_lsh [.fz<|QH y,.fz<|.list<|gs.map eRw,.fz<|.list<|QR sm,.fz<|.int (n:Int)] (.fz<|.int<|YY gs sm-(Vy (λt=>V4 y gs (fpW gs sm) t) y.T-Vy (λt=>V4 y gs (fpW gs sm) t) n))
def Hk:Qo Zaw Zaq (QG Hq):=by walk_at"p"
def Ah(T:Bl mg)(CH:Df K mg "_law_short" Hq Zaq)(v:QC P w K mg base "_law_passes" Zam 1 (QQ (K:=K) R_lpass)):QC P w K mg base "_law_short" Zaq 2 (QQ (K:=K) R_lsh):=by
 refine CH.ev Hk (λf ts r h H l X A outer s C=>?_);cases h with
 |@mk y b g n B j L e=>
  refine#[_,(Qw (QP 4 Hk.nd<|Zw KI (by rfl) T.sum KR<|Qu (Wg (NX:=Zaw) (sc:=QG Hq) (N:=["_law_number","_law_rows"]) (f:=[none,some 1]) rfl (by decide +kernel) rfl rfl (YZ<|pv 2) (λ_=>(QT 0 (show(["_law_number","_law_rows"]:Qh).Nodup by decide +kernel))) (λ_=>Yf) (λ_=>J8) λ_=>(Q9 QA (Q9 QA (pv 1)<|pv 0) Qx)) Qq)
 (Qw (Vu zN rfl (by exact(Fb rfl T.range<|av 3<|Qu (Q9 QA (pv 0) Qx) Qq)) (QT 5 Hk.nd)<|by exact(Qy<|QP 4 Hk.nd<|QW Yb (pv 4)<|QI v C<|av 0<|av 1<|av 2<|av 5 Qq))
 (Qy<|QK<|pv 4))),?_]
  walk_at"x";have a:=j.len;have Y:=B.t8;refine QL (ZF (d:=.int (YY b g)) (Dk (Qr.cast (EvO.fz<|BQ (xs:=g) (enc:=λk=>PyData.int<|k) (h:=λk=>.int (b.getD k default).want) ?ei #[] ?el)<|by rw[Yg];rfl) rfl) ?_)
  case ei=>exact Ja Qp
  case el=>
   exact λk D c=>#[_,Zr,Vt (Vt Qp Qp<|A1 (j.mem k D)) Q2 rfl]
  refine QL (Mt (ds:=VA (n) (y.T-n)) (λi=>[zf<|QH y,some _,zf<|.list<|QR g,zf<|.int<|n,zf<|.int<|YY b g-(Vy (λt=>V4 y b (fpW b g) t) (n+i)-Vy (λt=>V4 y b (fpW b g) t) n),none]) ?ei2 #[rfl,rfl,rfl,rfl,?e0,trivial] ?st2 ?fin2)
  case ei2=>exact EvI.cast (Np (Qv Qp<|Qv (Vc Qp Q2 rfl) Q5)<|#[]) (JG rfl #[])
  case e0=>exact XS (λz=>some<|OT.fz<|.int z) (by rw[Nat.add_zero];lia)
  case st2=>
   intro i d W;obtain⟨E,rfl⟩:=W6 W;refine#[_,Zr,ZF (ZD Qp<|Zk (Qv Qp<|Qv Qp<|Qv Qp<|Qv Qp Q5)<|R_lpass.mk B j L<|#[]) #[rfl,rfl,rfl,rfl,?_,trivial]];rw[<- Nat.add_assoc,B2];exact XS (λz=>some<|OT.fz<|.int z) #[]
  case fin2=>
   refine λJ M=>BY M ?_;rw[JD,show n+(y.T-n)=y.T by lia];exact Vq Qp rfl
theorem NP{n:Nat}{gs:List Gs}{gv:Ql}{go:Qk}(t l:Nat):∀b:Qk,(∀k∈b,k<gs.length)->ZA (mT n gs gv go) (t:Int) l b=if n<=t then ZA (mR gs gv go) (t:Int) l b else 0
 |[],_=>by
  unfold ZA;split<;>rfl
 |k::b,h=>by
  have s:(mT n gs gv go)[k]?=some (stl gs n (rsT gs gv go) k):=by simp[mT,h k Xb]
  have m:(mR gs gv go)[k]?=some { gs.getD k default with want:=rsT gs gv go k }:=by simp[mR,h k Xb]
  simp only[ZA,s,m];rw[NP (n:=n) (gs:=gs) (gv:=gv) (go:=go) t l b λj i=>h j (Xh _ i)];have th:Vk (stl gs n (rsT gs gv go) k) (t:Int)=(decide (n<=t)&&Vk { gs.getD k default with want:=rsT gs gv go k } (t:Int)):=by
   unfold Vk stl;rw[<- Bool.and_assoc];congr 1;rw[<- Bool.decide_and];refine decide_eq_decide.mpr ?_;show(((max (gs.getD k default).first n:Nat):Int)<=(t:Int))↔(n<=t/\((gs.getD k default).first:Int)<=(t:Int))
   lia
  rw[th];by_cases c:n<=t
  .rw[Xe c,Xe c,Xq c,Bool.true_and];rfl
  .rw[Xd c,Xd c,Xt c,Bool.false_and,Xd λz=>nomatch z.2];rfl
def FQ{y:Yd}(m:y.Ok)(hn:n<=y.T)(hs:∀k∈sm,k<gs.length)(e:ZE (mT n gs gv go) S=sm):
 Z3 y (Q0<|mT n gs gv go) S=YY (mR gs gv go) sm-(Vy (λt=>V4 y (mR gs gv go) sm t) y.T-Vy (λt=>V4 y (mR gs gv go) sm t) n):=by
 rw[Ra,e];have w:YY (mT n gs gv go) sm=YY (mR gs gv go) sm:=by
  unfold YY;congr 1;exact X6 λk s=>by rw[VJ<|hs k s,Kt<|hs k s];rfl
 have v:∀t,V4 y (mT n gs gv go) sm t=if n<=t then V4 y (mR gs gv go) sm t else 0:=λt=>by
  unfold V4;by_cases c:n<=t
  .rw[Xe c];have:WX (mT n gs gv go) t sm=WX (mR gs gv go) t sm:=funext λl=>(NP t l sm hs).trans (Xe c)
   rw[this]
  .rw[Xd c];have:WX (mT n gs gv go) t sm=λ_=>0:=funext λl=>(NP t l sm hs).trans (Xd c)
   rw[this];exact Cm m (λl=>Dp m l t)
 have g:M8 y (mT n gs gv go) sm=Vy (λt=>V4 y (mR gs gv go) sm t) y.T-Vy (λt=>V4 y (mR gs gv go) sm t) n:=by
  show Vy _ y.T=_
  rw[funext v];have b:∀q i,n<=i->Vy (λt=>if n<=t then q t else 0) i=Vy q i-Vy q n:=λq i=>by
   induction i with
   |zero=>
    intro h;have:n=0:=#[]
    subst this;simp[Vy]
   |succ i f=>
    intro h;by_cases c:n<=i
    .rw[B2,B2,f c,Xe c];lia
    .have:n=i+1:=#[]
     subst this;have z:∀j,j<=i+1->Vy (λt=>if i+1<=t then q t else 0) j=0:=λj=>by
      induction j with
      |zero=>intro _;rfl
      |succ j f=>intro h;rw[B2,f<|#[],Xd<|#[]];rfl
     rw[z _<|Xm _];lia
  exact b _ y.T hn
 rw[w,g]
def MS(gs:List Gs)(gv:Ql)(go:Qk)(S:Qm)(k:Nat):Bool:=S k&&decide (0<rsT gs gv go k)
theorem LR{gs:List Gs}:∀b:Qk,(∀k∈b,0<=(gs.getD k default).want)->YY gs (fpW gs b)=YY gs b
 |[],_=>rfl
 |k::b,h=>by
  have c:=LR b λj f=>h j (Xh _ f);have g:=h k Xb;unfold YY fpW at c ⊢;by_cases z:0<(gs.getD k default).want
  .rw[S6<|by simpa using z];simp only[XI,Gy];rw[c]
  .rw[HH<|by simpa using z,c];simp only[XI,Gy];lia
def AQ(S:Qm):fpW (mR gs gv go) (ZE (mT n gs gv go) S)=ZE (mT n gs gv go) (MS gs gv go S):=by
 unfold fpW ZE MS;rw[List.filter_filter,VF];refine List.filter_congr λk b=>?_;rw[Kt<|XN.mp b,Bool.and_comm]
theorem TH{gs:List Gs}(t l:Nat)(p:Qm):∀b:Qk,(∀k (h:k<gs.length),0<=gs[k].most)->ZA gs (t:Int) l (b.filter p)<=ZA gs (t:Int) l b
 |[],_=>YI _
 |k::b,h=>by
  have j:=TH t l p b h
  by_cases z:p k=true
  .rw[S6 z];simp only[ZA];lia
  .rw[HH z];simp only[ZA];split
   .rename_i g c;have f:=(Xc.mp c).1;have i:=(Xc.mp c).2;have:=h k f;rw[i]at this;split<;>lia
   .lia
theorem Ls{f g:Qn}(h:∀t,f t<=g t){n:Nat}:∀{m:Nat},n<=m->Vy f m-Vy f n<=Vy g m-Vy g n
 |0,b=>by
  grind
 |m+1,b=>by
  by_cases z:n=m+1
  .subst z;lia
  .have c:=Ls h (n:=n) (m:=m) #[];rw[B2,B2];have:=h m;lia
def Fe{y:Yd}(g:y.Ok)(hn:n<=y.T)(h0:∀k,k<gs.length->0<=rsT gs gv go k)(S:Qm)(e:ZE (mT n gs gv go) S=sm):
 YY (mR gs gv go) sm-(Vy (λt=>V4 y (mR gs gv go) (fpW (mR gs gv go) sm) t) y.T-Vy (λt=>V4 y (mR gs gv go) (fpW (mR gs gv go) sm) t) n)=Z3 y (Q0<|mT n gs gv go) (MS gs gv go S):=by
 have f:∀k∈sm,k<gs.length:=λk b=>by
  rw[<- e]at b;unfold ZE at b;rw[VF]at b;exact XN.mp (WF.mp b).1
 have c:∀k∈fpW (mR gs gv go) sm,k<gs.length:=λk b=>f k (WF.mp b).1;rw[FQ g hn c<|by rw[<- AQ,e],LR sm λk b=>by rw[Kt<|f k b];exact h0 k<|f k b]
def ZoG{y:Yd}(i:y.Ok)(hn:n<=y.T)(v:∀x∈gs,G30 y x)(h0:∀k,k<gs.length->0<=rsT gs gv go k)(S:Qm):
 Z3 y (Q0<|mT n gs gv go) S<=Z3 y (Q0<|mT n gs gv go) (MS gs gv go S):=by
 generalize e:ZE (mT n gs gv go) S=b;have m:∀k∈b,k<gs.length:=λk c=>by
  rw[<- e]at c;unfold ZE at c;rw[VF]at c;exact XN.mp (WF.mp c).1
 rw[<- Fe i hn h0 S e,FQ i hn m e];have j:∀k (h:k<(mR gs gv go).length),0<=(mR gs gv go)[k].most:=λk h=>by
  rw[Ml]at h;have e:(mR gs gv go)[k]'(by rw[Ml];exact h)={ gs.getD k default with want:=rsT gs gv go k }:=by simp[mR]
  rw[e];have:=(v (gs.getD k default)<|by simp[h]).ok.m1;lia
 have s:∀t,V4 y _ (fpW (mR gs gv go) b) t<=V4 y _ b t:=λt=>ZlR (λ_=>YI _) (λl=>TH t l _ b j) 0
 have:=Ls (f:=λt=>V4 y _ _ t) (g:=λt=>V4 y _ b t) s hn;lia
inductive R_lshows:List OT->OT->Prop
 |mk {y:Yd}{n:Nat}{gs:List Gs}{gv:Ql}{go:Qk}{S:Qm}(ok:y.Ok)(hg:∀x∈gs,G30 y x)(g8:gs.length<=8)(hn:n<=y.T)(h0:∀k,k<gs.length->0<=rsT gs gv go k)(h:0<Z3 y (Q0<|mT n gs gv go) S):R_lshows [.fz<|.list<|QR<|ZE (mT n gs gv go) S,.fz<|QH y,.fz<|.list<|(mR gs gv go).map eRw,.fz<|.int (n:Int)] (.fz<|.bool true)
def Cp:Qo ["_law_some","_law_yard_here","_law_rows","_law_now","_law_number"] Zai (QG Sh):=by walk_at"p"
def Zql(T:Bl mg)(CH:Df K mg "_law_shows" Sh Zai)(X:QC P w K mg base "_law_short" Zaq 2 (QQ (K:=K) R_lsh)):QC P w K mg base "_law_shows" Zai 3 (QQ (K:=K) R_lshows):=by
 refine CH.ev Cp (λf ts r h H U Q A outer s l=>?_);cases h with
 |@mk y n c g j S M o O hn q h=>
  refine#[_,(Qw (Zb (PW.pt<|YQ (VG<|ZO<|Zw GQ (by rfl) T.isi Um<|av 0<|Qu (Jc (v:=.ty "list") rfl T.list Mo rfl) Qq)<|WU<|Zx (Tr l.units) (pv 0) (Zw ZqC (by rfl) T.sorted Zpb<|av 0 Qq)<|Zi _) (Qy<|QK Vj) Za)
 (Qw (Vu zN rfl (by exact(YZ<|pv 0)) (QT 4 Cp.nd)<|by exact(Qy<|Zb (PW.pt<|YQ (VG<|ZO<|Zw GQ (by rfl) T.isi Um<|av 4<|Qu (Jc (v:=.ty "int") rfl T.int KS rfl) Qq)<|YQ (ZO<|Zw GQ (by rfl) T.isi Um<|av 4<|Qu (Jc (v:=.ty "bool") rfl T.bool TZ rfl) Qq)<|WU<|VG<|Mz WO Yw Qx (pv 4)<|Zw ZY (by rfl) T.len ZV<|av 2 Qq) (Qy<|QK Vj) Za))
 (Qw (Zb (Zx Yw (Zw EY (by rfl) T.len ZV<|Qu (Wl El (by rfl) T.set AB<|av 0 Qq) Qq) (Zw ZY (by rfl) T.len ZV<|av 0 Qq)<|Zi _) (Qy<|QK Vj) Za)
 (Qy<|QK<|Jf VY (QI X l<|av 1<|av 2<|av 0<|av 3 Qq) Qx<|Zi _)))),?_]
  show QB K _ [_,_,_,_,_] _;have z:(mT n c g j).length<=8:=by rw[VF];exact O
  have L:=N8 z S;have m:=λk B=>by have:=L.mem k B;rwa [VF]at this
  have R:=L.len;have a:(ZE (mT n c g j) S).Pairwise (· < ·):=List.Pairwise.filter _ List.pairwise_lt_range;have C:QR (ZE (mT n c g j) S)=((ZE (mT n c g j) S).map λ(k:Nat)=>(k:Int)).map PyData.int:=by unfold QR;rw[Yg];rfl
  refine QL (Zf (b:=false) (YO (VD (b:=true)<|ZH<|UP Qp rfl) λ_=>QO.cast (Zc<|Kv Qp (Qr.cast (EvO.fz<|Zqw (Qr.cast Qp<|by rw[C]) (List.Perm.refl _) (List.pairwise_map.mpr (a.imp λh=>#[])) ?hn)<|by rw[C]) (DO _) (DO _))<|by rw[Uv (DO _)];rfl) nf λ_=>Zl ?_)
  case hn=>rw[Xj];lia
  refine QL (Mt (λi=>[zf<|.list<|QR<|ZE (mT n c g j) S,zf<|QH y,zf<|.list<|(mR c g j).map eRw,zf<|.int<|n,none]) (Ja Qp) #[rfl,rfl,rfl,rfl,trivial] ?st ?fin)
  case st=>
   intro i d p;have E:=by
    have:=(Xc.mp p).1;simpa [QR] using this
   obtain rfl:d=.int (((ZE (mT n c g j) S)[i])):=by simpa [QR,E] using p.symm
   have B:=m _ (Wb E);refine#[_,Zr,Zf (b:=false) (YO (VD (b:=true)<|ZH<|UP Qp rfl) λ_=>YO (b:=false) (ZH<|UP Qp rfl) λ_=>QO.cast (VD<|Zc<|Uo Q2 Qp<|Qr.cast (W3 Qp) (show _=PyData.int (c.length) by rw[Xj,Ml c g j])) ?_) nf (λ_=>Zl #[rfl,rfl,rfl,rfl,trivial])];rw[ Xq (show(((ZE (mT n c g j) S)[i]):Int)<(c.length) by lia)];rfl
  case fin=>
   refine λJ I=>BY I<|QL (Zf (QO.cast (Zc<|ZI (EK (Qr.cast Qp<|by rw[C]) rfl (by rw[Xj];lia) (List.pairwise_map.mpr (a.imp λh=>#[])))<|Qr.cast (W3 Qp)<|by rw[C,Xj])<|Xt<|#[]) nf λ_=>Zl ?_);have Z:=ZoG M hn o q S;have N:=Fe M hn q S rfl;have u:∀k (h),k∈ZE (mT n c g j) S->(mR c g j)[k].line<y.ls.length:=λk B G=>by
    have N:=m k G;have e:(mR c g j)[k]={ c.getD k default with want:=rsT c g j k }:=by simp[mR]
    rw[e];exact(o (c.getD k default)<|by simp[N]).ok.ln
   exact Vq (Qr.cast (ZI (Zk (Qv Qp<|Qv Qp<|Qv Qp<|Qv Qp Q5)<|R_lsh.mk M (#[λk B=>by rw[Ml c g j];exact m k B,L.len]) u hn) Q2)<|by rw[N];exact XS PyData.bool<|Xq<|#[]) rfl
def Zo5{y:Yd}(c:y.Ok)(S:Qm):Z3 y (Q0 []) S<=0:=by
 unfold Z3;have a:0<=Q4 (λt=>passes y _ (VR (Q0 []) S t) 0) y.T:=D0 λt _=>LZ c (λl=>Dp c l t) (λl=>YI _);have b:Q4 (Zg S (Q0 []).wa) (Q0 []).m=0:=rfl
 lia
def Zo(gs:List Gs)(W:Qn):List (Qd):=(List.range gs.length).map λk=>rwL { gs.getD k default with want:=W k }
def Jm(gs:List Gs)(W:Qn):(Zo gs W).length=gs.length:=by simp[Zo]
def Up(h:k<gs.length):(Zo gs W)[k]?=some (rwL { gs.getD k default with want:=W k }):=by simp[Zo,h]
def Lf(h:∀k,k<gs.length->W k=W' k):Zo gs W=Zo gs W':=X6 λk b=>by rw[h k<|XN.mp b]
def Nl(gs:List Gs)(gv:Ql)(go:Qk):(Zo gs<|rsT gs gv go).map PyData.list=(mR gs gv go).map eRw:=by
 unfold Zo mR;rw[Yg,Yg];rfl
def LL(h:k<gs.length)(v:Int):(Zo gs W).set k ((rwL { gs.getD k default with want:=W k }).set 3 (.int v))=Zo gs λj=>if j=k then v else W j:=by
 apply List.ext_getElem?;intro j;by_cases e:j=k
 .subst e;rw[Xk<|by rw[Jm];exact h,Up h,Xe rfl];rfl
 .rw[Xp<|Ne.symm e]
  by_cases b:j<gs.length
  .rw[Up b,Up b,Xd e]
  .rw[MI<|by rw[Jm];lia,MI<|by rw[Jm];lia]
def loS(rg:List Gs)(f:Qn)(P:Qk)(l:Nat):Int:=(P.map λk=>if (rg.getD k default).line=l then f k else 0).sum
def NM(rg:List Gs)(f:Qn)(P:Qk)(k l:Nat):loS rg f (P++[k]) l=loS rg f P l+if (rg.getD k default).line=l then f k else 0:=by
 unfold loS;simp
def EV{f:Qn}{m:Nat}(f0:∀k,k<m->0<=f k)(l:Nat):loS rg f ((List.range m).filter λk=>decide (f k > 0)) l=Q4 (λk=>f k*ind ((rg.getD k default).line=l)) m:=by
 induction m with
 |zero=>rfl
 |succ m b=>
  have h:=f0 m #[];rw[YK,B9,Q4,<- (b λk g=>f0 k #[])];by_cases c:f m > 0
  .have e:[m].filter (λk=>decide (f k > 0))=[m]:=by simp[c]
   rw[e,NM];congr 1;unfold ind;split<;>lia
  .have e:[m].filter (λk=>decide (f k > 0))=[]:=by simp[c]
   rw[e,Xx];have z:f m=0:=#[]
   rw[z,Int.zero_mul,Jp]
def ldL(y:Yd)(b own:Qn)(i l:Nat):Int:=own l+Q4 (λc=>if y.ls.length<=c+i/\Zn y c=some l then b c else 0) y.ls.length
def C3(y:Yd)(b own:Qn)(l:Nat):ldL y b own 0 l=own l:=by
 unfold ldL;rw[Zq λc f=>Xd<|#[],Vv,Jp]
theorem Lp{g:Qn}{j:Nat}{v:Int}:∀{n:Nat},j<n->Q4 (λc=>g c+if c=j then v else 0) n=Q4 g n+v
 |0,h=>#[]
 |n+1,h=>by
  rw[Q4,Q4];by_cases e:j=n
  .subst e;rw[Xe rfl,Zq λc b=>by rw[Xd<|#[],Jp]];lia
  .rw[Xd<|Ne.symm e,Lp<|#[]];lia
def K7{y:Yd}(E:i<y.ls.length)(b:y.ls.length-1-i=j):ldL y tk own (i+1) l=ldL y tk own i l+if Zn y j=some l then tk j else 0:=by
 unfold ldL;rw[Int.add_assoc];congr 1;rw[<- Lp (j:=j) #[]]
 grind
def Ig{f:Qn}{m:Nat}(i:k<m)(j:f k > 0):Yv (gfD f m) (.inl (k:Int))=some (.int<|f k):=by
 have b:k∈(List.range m).filter λk=>decide (f k > 0):=WF.mpr #[XN.mpr i,Xq j];unfold gfD;generalize (List.range m).filter _=c at b;unfold Yv;induction c with
 |nil=>cases b
 |cons x c h=>
  rw[XI,List.find?_cons];by_cases z:x=k
  .subst z;simp
  .have g:¬((.inl (x):Key)=.inl (k)):=λq=>z #[]
   simp only[g,decide_false];exact h ((Xf.mp b).resolve_left (Ne.symm z))
def IG(f:Qn)(m:Nat):(gfD f m).map (λb=>WI b.1)=QR ((List.range m).filter λk=>decide (f k > 0)):=by
 unfold gfD QR;rw[Yg];rfl
def wnT(gs:List Gs)(gv:Ql)(go:Qk)(k:Nat):Int:=if k∈go then gv.getD k 0 else (gs.getD k default).want
def wnL(gs:List Gs)(gv:Ql)(go:Qk):Qd:=(List.range gs.length).map λk=>.int (wnT gs gv go k)
def Wq(y:Yd)(gs:List Gs)(gv:Ql)(go:Qk):OwnP:=BM (QH y) (Z1<|Zo gs<|rsT gs gv go) (olP<|wnL gs gv go) (olP<|QR go)
structure DayI(y:Yd)(n:Nat)(gs:List Gs)(gv:Ql)(go:Qk)(ms:List Zc3):Prop where
 ok:y.Ok
 hg:∀x∈gs,G30 y x
 gl:gv.length=gs.length
 h0:∀k,k<gs.length->0<=rsT gs gv go k
 hn:n<=y.T
 sh:∀S,Z3 y (Q0<|mT n gs gv go) S<=0
 g8:gs.length<=8
 ml:ms.length=n
 mf:∀k∈ms,JZ k
 gn:go.Nodup
 gb:∀k∈go,k<gs.length
theorem PQ:∀(m:Nat) (l:Qk),l.Nodup->(∀k∈l,k<m)->l.length<=m
 |0,[],_,_=>Xm _
 |0,k::l,_,h=>Xv (h k Xb) (Nat.not_lt_zero _)
 |m+1,l,b,h=>by
  have:=PQ m (l.filter λk=>decide (k≠m)) (List.Pairwise.filter _ b) λk g=>by
   have:=h k (WF.mp g).1;have:=XX (WF.mp g).2;lia
  have e:∀l:Qk,l.Nodup->l.length<=(l.filter λk=>decide (k≠m)).length+1:=λl=>by
   induction l with
   |nil=>intro _;exact XJ _
   |cons k l f=>
    intro b;have f:=f (Xu.mp b).2
    by_cases c:k=m
    .subst c;have:(l.filter λj=>decide (j≠k))=l:=List.filter_eq_self.mpr λj i=>Xq λz=>(Xu.mp b).1 (z▸i)
     rw[HH<|by simp,this];exact Xm _
    .simp_all
  have:=e l b;lia
def DayI.gol{y:Yd}(I:DayI y n gs gv go ms):go.length<=8:=X4 (PQ _ _ I.gn I.gb) I.g8
def Kg(D:Addr)(v j:V)(y:Yd)(n:Nat)(d:PyData)(ts:List OT):Prop:=d=.bool true/\∃b c g f h i,DayI b c g f h i/\b.T=y.T/\n<=c/\ts=[.own v<|QM D<|hT b c g f h i,.own j<|Wq b g f h]
inductive R_deed(D:Addr):List OT->(PyData->List OT->Prop)->Prop
 |mk {v vd vf:V}{y:Yd}{n:Nat}{gs:List Gs}{gv:Ql}{go:Qk}{ms:List Zc3}{a b:Int}(I:DayI y n gs gv go ms):R_deed D [.own v<|QM D<|hT y n gs gv go ms,.own vd<|Wq y gs gv go,.own vf<|olP [.int a,.int b]] (Kg D v vd y n)
def CI(D:Addr)(v s j i m:V)(b c e:Nat)(Ψ:PyData->List OT->Prop)(r:OT)(Y:Zbv):Prop := ∃(d:PyData) (w:V) (N:HandS) (y:Yd) (f:List Gs) (h:Ql) (g:Qk),r=.fz d/\ZN d=some w/\Ψ d [.own v<|QM D N,.own s<|Wq y f h g]/\Y[0]?=some (zo v<|QM D N)/\Y[1]?=some (zo s<|ZJ (QH y) j i m)/\
 Y[b]?=some (zo j<|Z1<|Zo f<|rsT f h g)/\Y[c]?=some (zo i<|olP<|wnL f h g)/\Y[e]?=some (zo m<|olP<|QR g)
def Mj(D:Addr)(v f s m A:V){Ψ:PyData->List OT->Prop}(b c e:Nat)(hn:[0,1,b,c,e].Nodup)(h:EvR K t Y (CI D v f s m A b c e Ψ)):EvR K t Y (Ke Ψ):=h.post λr J ⟨d,w,N,y,L,C,M,l,k,a,f0,j,X,W,P⟩=>by
 simp only[Xu,Xf,MF,or_false,not_or]at hn;apply Hs hn;rintro⟨_,b0,p,d0⟩⟨E,o,n⟩⟨z,x⟩cd _;have g:((((J.set b none).set c none).set e none).set 1 (zo f<|Wq y L C M))[0]?=J[0]? := by
  rw[Xp<|by decide,Xp<|Ne.symm d0,Xp<|Ne.symm p,Xp<|Ne.symm b0]
 refine#[_,#[d,w,_,l,k,a,λi u G q=>?_],g,λH0 F O H S=>S.close j X W P<|by simp[E,o,n,z,x,cd]]
 match i,q with
 |0,q=>cases q;rw[<- f0];exact g
 |1,q=>cases q;exact Xk (by simpa using ((Xc.mp j).1))
def GD{b m:Int}(e:zg Y i<|zo v<|olP [.int a,.int b])(h:Qr K t Y (.int m))(h0:0<m)(g:m<=10^60):EvW K (ZS (spP K olP R_digit) [] hi<|QE (Q3 i)<|QE t QJ) Y i (λn o=>0<=n/\n<m/\∃a b:Int,o=.own v (olP [.int a,.int b])):=
 Ty e (Qv h Q5) (R_digit.mk h0 g) (by
  rintro r w ⟨n,s,j,f,c,rfl,rfl⟩;exact#[n,rfl,f,c,s,j,rfl])
def EJ{k:Nat}{go:Qk}(m:Qr K ta Y (.int (k:Int)))(i:Qr K tb Y (.list<|QR go)):Qr K (tOp (rIn K false) ta tb) Y (.bool<|decide (k∈go)):=λH0 F O H Q S q=>
 YS m i S λC Z u y e c b=>by
  have B:QR go=(go.map λ(k:Nat)=>(k:Int)).map PyData.int:=by unfold QR;rw[Yg];rfl
  rw[B]at b;apply aD (Jj (K:=K) b e.fh);rintro a xs rfl w s D;cases c;have A:=Uu s;subst A;refine#[a,_,rfl,.inl w,rfl,?_,?_]
  .rw[List.all_eq_true];intro v f;apply At (XH.mp f);rintro z _ rfl;rfl
  .rw[ Zs0,show decide _=decide _ from decide_eq_decide.mpr #[λh=>by apply At (XH.mp h);intro j g z;rw[<- (show j=k by lia)];exact g,λh=>XH.mpr #[k,h,rfl]]];exact q C Z _ e (.bl _)
def Dr{gs:List Gs}{W:Qn}{k:Nat}{j:Int}{w:V}(e:zg Y i<|zo v<|Z1<|Zo gs W)(h:Qr K ti ((Y.set i<|some<|.oll<|Zo gs W).set i (zf<|.list<|(Zo gs W).map PyData.list)) (.int (k:Int)))(c:k<gs.length)(f:ZN d=some w)(g:atI (rwL { gs.getD k default with want:=W k }) j=some d):Qr K (tOp (rIx K) (tOp (rIx K) (Q3 i) ti)<|tC<|.int j) Y d:=by
 have b:=(Xc.mp e).1;exact GV i e (JF i (Xk b) rfl f<|Vt (Vt (Qp<|Xk<|by rw[X7];exact b) h<|VM<|by rw[Xy,Up c];rfl) Q2 g)
def Gd(e:zg Y i<|zo v<|Z1<|Zo gs W):Qr K (tCB (Jv K)<|QE (Q3 i) QJ) Y (.int (gs.length:Int)):=by
 have b:=(Xc.mp e).1;exact GV i e (JF i (Xk b) rfl rfl (Qr.cast (W3<|Qp<|Xk<|by rw[X7];exact b)<|by rw[Xj,Jm]))
def Pb{gs:List Gs}{gv:Ql}{go:Qk}{k:Nat}(h:k<gs.length):atI (wnL gs gv go) (k:Int)=some (.int<|wnT gs gv go k):=VM (by simp[wnL,h])
inductive R_lborne:List OT->(PyData->List OT->Prop)->Prop
 |mk {v0 vg:V}{y:Yd}{gs:List Gs}{gv:Ql}{go:Qk}{f:Qn}{t:Nat}(ok:y.Ok)(ht:t<y.T)(g8:gs.length<=8)(hl:∀k,k<gs.length->(gs.getD k default).line<y.ls.length)(f0:∀k,k<gs.length->0<=f k)(fl:∀k,k<gs.length->f k<=rsT gs gv go k)(fm:∀k,k<gs.length->0<f k->f k<=(gs.getD k default).most/\(gs.getD k default).first<=t/\t<=(gs.getD k default).last)(hd:∀l,l<y.ls.length->Vf y gs.length (λk=>(gs.getD k default).line) f l<=ZG y l t)
  (hov:∀k,k<gs.length->(gs.getD k default).last<t+1->rsT gs (gvT gv f gs.length gs.length) go k=0):R_lborne [.fz<|QH y,.own v0<|Z1<|Zo gs<|rsT gs gv go,.own vg<|dkP<|gfD f gs.length,.fz<|.int (t:Int)] (λd ts=>d=.bool true/\ts=[.fz .none,.own v0<|Z1<|Zo gs<|rsT gs (gvT gv f gs.length gs.length) go])
def EW{f:Qn}(g:j<gs.length)(f0:0<=f j)(b:f j<=rsT gs gv go j):rsT gs (gvT gv f gs.length gs.length) go j=rsT gs gv go j-f j:=by
 unfold rsT at b ⊢;by_cases c:j∈go
 .rw[Xe c]at b ⊢;rw[Xe c];lia
 .rw[Xd c,Xd c,D5 g];lia
def Nu(gs:List Gs)(gv:Ql)(go:Qk):G7 (.oll<|Zo gs<|rsT gs gv go)=some (.list<|(mR gs gv go).map eRw):=by
 show some (PyData.list<|(Zo gs<|rsT gs gv go).map PyData.list)=_;rw[Nl]
def WB:Qo Zad Zar (QG Hw):=by walk_at"p"
def ZpQ(T:Bl mg)(CH:Df K mg "_law_borne" Hw Zar):QC P w K mg base "_law_borne" Zar 1 (spG K R_lborne):=by
 refine CH.evG WB (λf ts Ψ h H hi cdv A outer s hr=>?_);cases h with
 |@mk v0 vg y v gv G f t Z ht g8 hl f0 fl fm hd hov=>
  refine#[_,(Qw (QP 4 WB.nd<|QW Ti (Zz<|Qu Qx Qq)<|Zw ZY (by rfl) T.len ZV<|Qu (Q9 QA (pv 0) Qx) Qq)
 (Qw (Ab 2 (Vu zN rfl (Zrh<|pv 2) (QT 5 WB.nd) (Qw (Zb (PW.pt<|YQ (VG<|Mz WO Yw Qx (pv 5)<|Zw ZY (by rfl) T.len ZV<|av 1 Qq)<|YQ (Zx Yw (Gg (Vo hr) (pv 2) (pv 5) λ_ _=>rfl) Qx<|Zi _)<|WU<|Zx VY (Gg (Vo hr) (pv 2) (pv 5) λ_ _=>rfl) (Q9 QA (Q9 QA (pv 1)<|pv 5) Qx)<|Zi _) (Qy<|QK Vj) Za)
 (Qw (Vz (Q9 QA (pv 1)<|pv 5)<|UO (n:=5) rfl (Zy (QT 6 WB.nd)<|Zy (QT 7 WB.nd)<|Zy (QT 8 WB.nd)<|Zy (QT 9 WB.nd)<|Zy (QT 10 WB.nd) Yz))
 (Qw (Zb (PW.pt<|YQ (VG<|Mz WO WO (pv 7) (pv 3)<|pv 8)<|WU<|Zx VY (Gg (Vo hr) (pv 2) (pv 5) λ_ _=>rfl) (pv 9)<|Zi _) (Qy<|QK Vj) Za)
 (Qw (Vz (QW VH (Q9 QA (pv 4)<|pv 6)<|Gg (Vo hr) (pv 2) (pv 5) λ_ _=>rfl)<|YU (pv 4) (pv 6) VU)
 (Qy<|Vz (QW Yb (pv 9)<|Gg (Vo hr) (pv 2) (pv 5) λ_ _=>rfl)<|YU (Q9 QA (pv 1)<|pv 5) Qx VU)))))))
 (Qw (Vu zN rfl (by exact(Rr rfl T.range<|Qu (QW Yb (Zw ZY (by rfl) T.len ZV<|av 4 Qq) Qx)<|Qu (BS Mc Qx)<|Qu (BS Mc Qx) Qq)) (QT 11 WB.nd) (by exact(Qw (Vz (Q9 QA (Q9 QA (pv 0) Qx)<|pv 11)<|J5 (n:=2) rfl (Zy (QT 12 WB.nd)<|Zy (QT 13 WB.nd) Yz))
 (Qw (Zb (Zx VY (Q9 QA (pv 4)<|pv 11) (Q9 QA (pv 13)<|pv 3)<|Zi _) (Qy<|QK Vj) Za)
 (Qy<|Zb (Zx VY (pv 11) Qx<|Zi _) (Qy<|Vz (QW VH (Q9 QA (pv 4)<|pv 12)<|Q9 QA (pv 4)<|pv 11)<|YU (pv 4) (pv 12) VU) Za)))))
 (Qy<|QK<|Jf (Ul hr.units) (Wg (NX:=Zad) (sc:=QG Hw) (N:=["_law_row","_law_turn"]) (f:=[none,some 3]) rfl (by decide +kernel) rfl rfl (YZ<|pv 1) (λ_=>(QT 0 (show(["_law_row","_law_turn"]:Qh).Nodup by decide +kernel))) (λ_=>Yf) (λ_=>(Gf<|PW.pt<|UQ (Zx WO (Q9 QA (pv 0) Qx) (pv 1)<|Zi _)<|Ge<|Zx VY (Q9 QA (pv 0) Qx) Qx<|Zi _)) λ_=>(pv 0)) (Zz Qq)<|Zi _)))),?_]
  show EvR K _ [zf<|QH y,zo v0<|Z1<|Zo v<|rsT v gv G,zo vg<|dkP<|gfD f v.length,zi (t:Int),none,none,none,none,none,none,none,none,none,none] _
  walk_at"x";have l1:=Z.l1;have l5:=Z.l5;have eL:∀{Y:Zbv},Y[0]?=some (zf<|QH y)->Qr K (tOp (rIx K) (Q3 0)<|tC<|.int 1) Y (.tuple<|y.ls.map ZU):=λe=>Vc (ds:=[PyData.int (y.T:Int),.tuple<|y.ls.map ZU]) (Qp e) Q2 rfl;have len:(y.ls.map ZU).length=y.ls.length:=by simp
  refine Z7 (λJ=>J=[zf<|QH y,zo v0<|Z1<|Zo v<|rsT v gv G,zo vg<|dkP<|gfD f v.length,zi (t:Int),some<|.ol<|(List.range y.ls.length).map λl=>PyData.int<|loS v f [] l,none,none,none,none,none,none,none,none,none]) (Yo (EvO.cast (Tl (ds:=[.int 0]) (k:=(y.ls.length:Int)) (EvO.fz<|ZW (ds:=[.int 0]) (QS Q2 Z2) G6) (Qr.cast (GP<|eL rfl)<|by rw[len]) #[] (by show 1*_<=1000;lia)<|#[]) (d':=.ol ((List.range y.ls.length).map λl=>PyData.int<|loS v f [] l)) ?e0) rfl) ?_
  case e0=>
   rw[Nf,Xr,FG];rfl
  rintro _ rfl;have Lm:∀j,j∈((List.range v.length).filter λk=>decide (f k > 0))↔j<v.length/\f j > 0:=λj=>by rw[WF,XN,decide_eq_true_eq]
  have Ln:((List.range v.length).filter λk=>decide (f k > 0)).Nodup:=List.Pairwise.filter _ List.nodup_range;have Lk:=IG f v.length;have La:=EV (rg:=v) (m:=v.length) f0;generalize ((List.range v.length).filter λk=>decide (f k > 0))=B at Lm Ln Lk La;refine Z7 (λJ=>∃(o:Obj) (U S R Q O D:Option OT),J=[zf<|QH y,zo v0<|Z1<|Zo v<|rsT v (gvT gv f v.length v.length) G,zz<|DwZ o<|gfD f v.length,zi (t:Int),some<|.ol<|(List.range y.ls.length).map λl=>PyData.int<|loS v f B l,U,S,R,Q,O,D,none,none,none]) (Os 2 rfl λo=>?_) ?_
  .refine Ya (ds:=QR B) (λi J=>∃(W:Qn) (U S R Q O D:Option OT),(∀j,j∈B.take i->W j=rsT v gv G j-f j)/\(∀j,j∉B.take i->W j=rsT v gv G j)/\J=[zf<|QH y,zo v0<|Z1<|Zo v W,zz<|DwZ o<|gfD f v.length,zi (t:Int),some<|.ol<|(List.range y.ls.length).map λl=>PyData.int<|loS v f (B.take i) l,U,S,R,Q,O,D,none,none,none]) (EvI.cast (IM rfl) Lk) #[_,_,_,_,_,_,_,(λj C=>by simp at C),(λ_ _=>rfl),rfl] ?st3 ?fin3
   case st3=>
    rintro i d _ x ⟨W,U,S,R,Q,O,D,W1,W2,rfl⟩;have E:i<B.length:=by
     have:=(Xc.mp x).1;simpa [QR] using this
    obtain rfl:d=.int ((B[i]:Nat):Int):=by
     unfold QR at x;rw[Xy,XW E]at x;exact(Option.some.inj x).symm
    have I:=(Lm B[i]).mp (Wb E);have L:B.take (i+1)=B.take i++[B[i]]:=by rw[JM,XW E];rfl
    have nin:B[i]∉B.take i:=λz=>by
     rw[<- List.take_append_drop i B,JO]at Ln;exact Ln.2.2 B[i] z B[i] (by rw[Sy E];exact Xb) rfl
    generalize B[i]=k at I L nin;have ql:=hl k I.1;have q1:=fl k I.1;apply I0 (fm k I.1 I.2);intro m1 m2 m3;have wk:=W2 k nin;refine#[_,Zr,?_];walk_at"d";have eG:∀{Y:Zbv},Y[2]?=some (zz<|DwZ o<|gfD f v.length)->Y[5]?=some (zi (k:Int))->Qr K (Dc (Q3 2)<|Q3 5) Y (.int<|f k):=λe2 e5=>OK (k:=.inl (k:Int)) e2 (Qp e5) (Ig I.1 I.2);refine QL (Zf (b:=false) (YO (b:=false) (c:=false) (QO.cast (VD<|Zc<|Uo Q2 Qp<|Gd rfl) ?b1) λ_=>QO.cast (YO (Zc<|ZI (eG rfl rfl) Q2) λ_=>Zc<|ZI (eG rfl rfl)<|Dr (d:=.int (v.getD k default).most) rfl Qp I.1 rfl rfl) ?b2) nf λ_=>Zl ?_)
    case b1=>
     rw[Xq (show(0:Int)<=(k:Int) by lia),Xq (show(k:Int)<(v.length:Int) by lia)];rfl
    case b2=>
     rw[Xt<|#[],Xt<|#[]];rfl
    refine QL (Of (ds:=rwL { v.getD k default with want:=W k }) rfl Qp (by rw[Jm,Wi #[]<|#[],Xr]) (Up I.1) rfl (Vb Zr<|Vb Zr<|Vb Zr<|Vb Zr<|Vb Zr Wx) ?_);walk_at"d";refine QL (Zf (b:=false) (YO (b:=false) (c:=false) (QO.cast (VD<|Zc<|Uo Qp Qp Qp) ?b3) λ_=>QO.cast (Zc<|ZI (eG rfl rfl) Qp) ?b4) nf λ_=>Zl ?_)
    case b3=>
     rw[Xq (show((v.getD k default).first:Int)<=(t:Int) by lia),Xq (show(t:Int)<=((v.getD k default).last:Int) by lia)];rfl
    case b4=>exact Xt #[]
    refine QL (UY (j:=(v.getD k default).line) rfl (ZD (Ww rfl Qp<|by rw[W4 #[]<|#[],Xr])<|eG rfl rfl) Qp (by rw[Wi #[]<|by rw[Xj,Gq];lia,Xr]) ?_);walk_at"d";rw[Gb (f:=λl=>loS v f (B.take i) l) (g:=λl=>loS v f (B.take<|i+1) l) ql (λl _ hn=>by rw[L,NM,Xd<|Ne.symm hn,Jp])<|by rw[L,NM,Xe rfl]];refine Cc (d:=.int (W k-f k)) (k:=(k:Int)) (m:=3) (k':=k) (m':=3) (ds:=rwL { v.getD k default with want:=W k }) rfl (ZD Qp<|eG rfl rfl) Qp Q2 (by rw[Jm,Wi #[]<|#[],Xr]) (Up I.1) rfl ?_;walk_at"d";rw[LL I.1];refine#[λj=>if j=k then W k-f k else W j,_,_,_,_,_,_,λj C=>?_,λj C=>?_,rfl]
    .rw[L]at C;dsimp only;by_cases c:j=k
     .subst c;rw[Xe rfl,W2 j nin]
     .rw[Xd c];exact W1 j ((Xz.mp C).resolve_right λz=>c<|Xi.mp z)
    .rw[L]at C;dsimp only;have c:j≠k:=λz=>C (XM _<|by rw[z];exact List.mem_singleton_self _);rw[Xd c];exact W2 j λz=>C (X9 _ z)
   case fin3=>
    rintro _ ⟨W,U,S,R,Q,O,D,W1,W2,rfl⟩;have ll:(QR B).length=B.length:=by unfold QR;rw[Xj]
    rw[ll,Jr]at W1 W2 ⊢;have We:Zo v W=Zo v (rsT v (gvT gv f v.length v.length) G):=Lf λj C=>by
     rw[EW C (f0 j C)<|fl j C];by_cases c:j∈B
     .exact W1 j c
     .rw[W2 j c];have a:=f0 j C;have b:¬f j > 0:=λz=>c ((Lm j).mpr #[C,z])
      lia
    rw[We];exact#[o,_,_,_,_,_,_,rfl]
  rintro _ ⟨o,U,S,R,Q,O,D,rfl⟩;have sp:=λl hl'=>Bv Z (ln:=λk=>(v.getD k default).line) hl f (l:=l) hl';generalize Vf y v.length (λk=>(v.getD k default).line) f=L at hd sp;have sp:∀l,l<y.ls.length->L l=loS v f B l+Q4 (λc=>if Zn y c=some l then L c else 0) y.ls.length:=λl hl'=>by rw[La l];exact sp l hl'
  have e0:((List.range y.ls.length).map λl=>PyData.int<|loS v f B l)=(List.range y.ls.length).map λl=>PyData.int (ldL y L (loS v f B) 0 l):=X6 λl _=>by rw[C3]
  rw[e0];generalize gvT gv f v.length v.length=F at hov;refine Z7 (λJ=>∃u4 r q X:Option OT,J=[zf<|QH y,zo v0<|Z1<|Zo v<|rsT v F G,zz<|DwZ o<|gfD f v.length,zi (t:Int),u4,U,S,R,Q,O,D,r,q,X]) (Ya (ds:=WM ((y.ls.length:Int)-1) y.ls.length) (λi J=>∃r q X:Option OT,J=[zf<|QH y,zo v0<|Z1<|Zo v<|rsT v F G,zz<|DwZ o<|gfD f v.length,zi (t:Int),some<|.ol<|(List.range y.ls.length).map λl=>PyData.int<|ldL y L (loS v f B) i l,U,S,R,Q,O,D,r,q,X]) ?ei4 #[_,_,_,rfl] ?st4 ?fin4) ?_
  case ei4=>
   apply EvI.cast
   .walk_at"ei"
   .rw[Xj,Gq];exact NZ rfl #[]
  case fin4=>
   rintro _ ⟨r,q,X,rfl⟩;exact#[_,_,_,_,rfl]
  case st4=>
   rintro i d _ x ⟨r,q,X,rfl⟩;obtain⟨E,rfl⟩:=DI x;refine#[_,Zr,?_];walk_at"d";have ej:(y.ls.length:Int)-1-(i:Int)=((y.ls.length-1-i:Nat):Int):=#[]
   rw[ej];generalize C:y.ls.length-1-i=j;have M:j<y.ls.length:=#[]
   have hbl:=Bm Z M;have ln:atI (y.ls.map ZU) (j:Int)=some (ZU<|Zu y j):=VM (by simp[M,Zu]);have ar:ldL y L (loS v f B) i j=L j:=by
    rw[sp j M];unfold ldL;congr 1;refine Zq λc hc=>?_
    by_cases u:Zn y c=some j
    .have:=UK Z hc u;rw[Xe u,Xe #[#[],u]]
    .rw[Xd u,Xd λz=>u z.2]
   have bj:=hd j M;refine QL (BV (d:=.tuple [upD (Zu y j).up,.tuple<|(Zu y j).bs.map PyData.int]) (Vc (eL rfl) Qp ln) (WN (ds:=[upD (Zu y j).up,.tuple<|(Zu y j).bs.map PyData.int]) (Vb Zr<|Vb Zr Wx) rfl) ?_);walk_at"d";refine QL (Zf (b:=false) (QO.cast (Zc<|ZI (Ww rfl Qp<|W4 #[]<|#[])<|Vc (ds:=(Zu y j).bs.map PyData.int) Qp Qp<|KW #[]<|#[]) ?lb) nf λ_=>Zl ?_)
   case lb=>
    rw[Xr,Xr,(DY M).symm,ar];exact Xt #[]
   refine Zf (b:=decide ((j:Int) > 0)) (QO.cast (Zc<|ZI Qp Q2) rfl) (λc=>?_) (λc=>Zl ?_)
   .have c:=XX c;apply At (Z.ups j #[] M);intro a ea la;have eu:upD (Zu y j).up=.int (a:Int):=by
     have:(Zu y j).up=some a:=by rw[<- DU M];exact ea
     rw[this];rfl
    rw[eu];refine UY (j:=a) rfl (ZD (Ww rfl Qp<|W4 #[]<|#[])<|Ww rfl Qp<|W4 #[]<|#[]) Qp (by rw[Wi #[]<|by simp;lia,Xr]) ?_;walk_at"d";rw[Xr,Xr,ar];rw[Gb (f:=λl=>ldL y L (loS v f B) i l) (g:=λl=>ldL y L (loS v f B) (i+1) l) #[] (λl _ hn=>by rw[K7 #[] C,ea,Xd<|by simpa using λz=>hn z.symm,Jp])<|by rw[K7 #[] C,ea,Xe rfl]];exact#[_,_,_,rfl]
   .have c:=BH c;have j0:j=0:=#[]
    have e1:(λl=>PyData.int<|ldL y L (loS v f B) (i+1) l)=λl=>PyData.int (ldL y L (loS v f B) i l):=funext λl=>by
     rw[K7 #[] C,j0,Z.up0,Xd (by rintro⟨⟩),Jp]
    dsimp only;exact e1▸#[_,_,_,rfl]
  rintro _ ⟨u4,r,q,X,rfl⟩;have f00:V9 (.list []):=#[by decide +kernel,by decide +kernel]
  have nf:∀g∈mR v F G,(decide ((g.last:Int)<=(t:Int))&&decide (g.want > 0))=false:=λg hg=>by
   apply At (XH.mp hg);rintro k hk rfl;show(decide (((v.getD k default).last:Int)<=(t:Int))&&decide (rsT v F G k > 0))=false
   by_cases c:((v.getD k default).last:Int)<=(t:Int)
   .rw[(hov k (XN.mp hk))<|#[]];simp
   .rw[Xt c,Bool.false_and]
  refine VZ (GV 1 rfl (JF (d:=.bool true) 1 rfl (Nu v F G) rfl (Qr.cast (J4 (a:=.list []) (b:=.list []) (EvO.fz<|EvO.cast (UU (xs:=mR v F G) (enc:=eRw) (h:=eRw) (p:=λg=>decide ((g.last:Int)<=(t:Int))&&decide (g.want > 0)) (Ja Qp) (by rw[Ml];lia) ?lc)<|by rw[List.filter_eq_nil_iff.mpr λg hg=>by rw[nf g hg];decide];rfl) (EvO.fz<|ZW (ds:=[]) Z2<|by decide) f00 f00)<|by rw[Uv f00]))) #[_,_,_,rfl,rfl,#[rfl,rfl],λi u Φ e=>?_]
  case lc=>
   exact λg hg c=>#[_,Zr,UN (Zc<|ZI ((λe h=>Vt (ds:=rwL g) (Qp e) Q2 h) rfl rfl) Qp) (λ_=>Zc<|ZI ((λe h=>Vt (ds:=rwL g) (Qp e) Q2 h) rfl rfl) Q2),λ_=>Qp rfl]
  match i,e with
  |1,e=>cases e;rfl
def Om(b:k<gs.length):(Zo gs<|rsT gs gv go).set k ((rwL { gs.getD k default with want:=rsT gs gv go k }).set 3 (.int 0))=Zo gs (rsT gs gv<|go++[k]):=by
 rw[LL b];refine Lf λj _=>?_;unfold rsT;by_cases c:j=k<;>simp[c]
def ZrW(b:k<gs.length):(wnL gs gv go).set k (.int<|gv.getD k 0)=wnL gs gv (go++[k]):=by
 apply List.ext_getElem?;intro j;unfold wnL;by_cases c:j=k
 .subst c;rw[Xk<|by simpa using b];simp[b,wnT]
 .rw[Xp<|Ne.symm c,Xy,Xy]
  by_cases f:j<gs.length
  .rw[List.getElem?_range f];simp[wnT,c]
  .rw[MI<|by simpa using f];rfl
def WD:Qo ["_law_hand","_law_day","_law_feed_here","_law_yard_here","_law_rows","_law_wants","_law_gone","_law_number","_law_told","e","_law_due"] Zaa (QG RS):=by walk_at"p"
def ZnU(T:Bl mg)(UH:HandC K D)(XQ:XC K mg "NoNumber" YR CQ fQ)(G:C1 K mg YR CQ)(XP:MK K CR cg ct CQ)(CH:Df K mg "_law_leaves" RS Zaa)(x:QC P w K mg base "_law_digit" Zal 1 (spP K olP R_digit))(u:ZK P w K mg base D "leave" Zab 4 (SB K D CQ "number" R_hleave<|X_hleave D)):QC P w K mg base "_law_leaves" Zaa 5 (spG K<|R_deed D):=by
 refine CH.evG WD (λf ts Ψ h H hi cdv A outer s q=>?_);cases h with
 |@mk v d p y n m B g X a b I=>
  refine#[_,(Qw (Vz (pv 1)<|UO (n:=4) rfl (Zy (QT 3 WD.nd)<|Zy (QT 4 WD.nd)<|Zy (QT 5 WD.nd)<|Zy (QT 6 WD.nd) Yz))
 (Qw (QP 7 WD.nd<|QI x q<|av 2<|Qu Qx Qq)
 (Qw (QP 8 WD.nd Ui)
 (Qw (Oo (j:=9) XP.qq rfl rfl rfl XQ.m WD.nd rfl rfl (λCH Q=>(Qy<|QP 8 WD.nd<|N3 u UH q Hh (pv 0)<|av 7 Qq)) λe Q=>(Qy<|QP 8 WD.nd<|Zz<|Qu (D6 G.gt G.na<|pv 9) Qq))
 (Qw (Zb (PW.pt<|YQ (Zx C9 (pv 7) (Zw ZY (by rfl) T.len ZV<|av 4 Qq)<|Zi _)<|WU<|Zx ZpU (pv 7) (pv 6) rfl) (Qy<|QK<|Jf (Ul q.units) (pv 8) (Zz<|av 7 Qq)<|Zi _) Za)
 (Qw (QP 10 WD.nd<|QW Yb (Q9 QA (pv 5)<|pv 7)<|Q9 QA (Q9 QA (pv 4)<|pv 7) Qx)
 (Qw (Vz Qx<|YU (Q9 QA (pv 4)<|pv 7) Qx VU)
 (Qw (Vz (pv 10)<|YU (pv 5) (pv 7) VU)
 (Qw (Zp<|V1 zP zS zT V7 (pv 6)<|av 7 Qq)
 (Qy<|QK<|Jf Jy (pv 8) (pv 10)<|Zi _)))))))))),?_]
  walk_at"x";have go8:=I.gol;refine Z7 (λJ=>∃M W N,J=[zo v<|QM D<|hT y n m B g X,zo d<|ZJ (QH y) M W N,zo p<|olP [.int a,.int b],zf<|QH y,zo M<|Z1<|Zo m<|rsT m B g,zo W<|olP<|wnL m B g,zo N<|olP<|QR g,none,none,none,none]) (Mp rfl λM W N=>#[M,W,N,rfl]) ?_;rintro _ ⟨M,W,N,rfl⟩;refine Mj D v d M W N 4 5 6 (by decide)<|Z7 (λJ=>∃(k:Nat) (a b:Int),J=[zo v<|QM D<|hT y n m B g X,zo d<|ZJ (QH y) M W N,zo p<|olP [.int a,.int b],zf<|QH y,zo M<|Z1<|Zo m<|rsT m B g,zo W<|olP<|wnL m B g,zo N<|olP<|QR g,zi (k:Int),none,none,none]) (JB (GD rfl Q2 (by decide)<|by decide +kernel) ?_) ?_
  .rintro n _ ⟨R,n1,a,b,rfl⟩;refine#[n.toNat,a,b,?_];rw[XV R];rfl
  rintro _ ⟨k,a,b,rfl⟩;refine Z6 (ZF WY rfl) ?_;have l:∀{Y:Zbv},Y[4]?=some (zo M<|Z1<|Zo m<|rsT m B g)->Y[6]?=some (zo N<|olP<|QR g)->Y[7]?=some (zi (k:Int))->QO K (tOr (Ub<|tOp (rI0 λi j=>.bl<|decide (i>=j)) (Q3 7)<|tCB (Jv K)<|QE (Q3 4) QJ)<|Ub<|tOp (rIn K false) (Q3 7)<|Q3 6) Y (decide ((k:Int)>=(m.length:Int))||decide (k∈g)):=λe4 F E=>YO (Zc<|ZI (Qp E)<|Gd e4) (λ_=>Zc<|M4 6 F rfl (EJ (Qp<|(Xp<|by decide).trans E)<|Qp<|Xk (Xc.mp F).1))
  by_cases C:k<m.length/\k∉g
  .refine Z7 (λJ=>J=[zo v<|QM D<|hT y n m B (g++[k]) X,zo d<|ZJ (QH y) M W N,zo p<|olP [.int a,.int b],zf<|QH y,zo M<|Z1<|Zo m<|rsT m B g,zo W<|olP<|wnL m B g,zo N<|olP<|QR g,zi (k:Int),zf<|.int<|B.getD k 0,none,none]) (NN Lv rfl (Qv Qp Q5) (R_hleave.mk C.1 I.gl C.2<|#[]) ?_) ?_
   .rintro r N' ⟨rfl,rfl⟩;rfl
   rintro _ rfl;refine Z6 (Zf (b:=false) (QO.cast (l rfl rfl rfl) ?_) nf λ_=>Zl rfl) ?_
   .rw[Xt C.2,Xt<|#[]];rfl
   have O:wnT m B g k-rsT m B g k=B.getD k 0:=by
    unfold wnT rsT;rw[Xd C.2,Xd C.2];lia
   refine Z6 (ZF (Qr.cast (ZD (M4 5 rfl rfl (Vt Qp Qp<|Pb C.1))<|Dr rfl Qp C.1 rfl rfl)<|by rw[O]) rfl)<|Z6 (Cc (m':=3) rfl Q2 Qp Q2 (by rw[Jm,Wi #[]<|#[],Xr]) (Up C.1) rfl rfl)<|Z6 (Hi rfl Qp Qp (by rw[show(wnL m B g).length=m.length by simp[wnL],Wi #[]<|#[],Xr]) rfl)<|Z6 (TY rfl Qp (by rw[show(QR g).length=g.length by simp[QR]];lia) rfl) ?_;rw[show((Zo m<|rsT m B g).set k _)=_ from Om C.1,ZrW C.1,show QR g++[.int (k:Int)]=QR (g++[k]) by simp[QR]];refine VZ (Qr.cast (Wh Qp Qp)<|XS PyData.bool<|Xq rfl) #[_,_,_,y,m,B,g++[k],rfl,rfl,#[rfl,y,n,m,B,g++[k],X,#[I.ok,I.hg,I.gl,Zou I.h0 k,I.hn,Zog I.sh I.h0 k,I.g8,I.ml,I.mf,?_,?_],rfl,Xm _,rfl],rfl,rfl,rfl,rfl,rfl]
   .rw[JO];exact#[I.gn,by simp,λa Z b U z=>C.2<|by rw[<- Xi.mp U,<- z];exact Z]
   .intro j o;rcases Xz.mp o with o|o
    .exact I.gb j o
    .rw[Xi.mp o];exact C.1
  .refine Z7 (λJ=>J=[zo v<|QM D<|hT y n m B g X,zo d<|ZJ (QH y) M W N,zo p<|olP [.int a,.int b],zf<|QH y,zo M<|Z1<|Zo m<|rsT m B g,zo W<|olP<|wnL m B g,zo N<|olP<|QR g,zi (k:Int),some<|.ol [.int (k:Int)],none,none]) (D4 (Φx:=λw=>w=.int (k)) (λ_ _ _ _ h=>.inr h) xfV Lv rfl (Qv Qp Q5) ?hx ?hth λ_ _=>trivial) ?_
   case hx=>
    by_cases c:k<m.length
    .exact X_hleave.mk c (Classical.byContradiction λz=>C #[c,z])
    .exact X_hleave.out (.inr<|by show((m.map QZ).length:Int)<=_;rw[Xj];lia)
   case hth=>
    rintro _ e _ rfl ⟨L,rfl⟩;exact Yo (ZW (QS (A9 rfl λ_=>.int _) Z2)<|by show(1)<=1000;decide) rfl
   rintro _ rfl;refine YX (Wt (b:=true) (QO.cast (l rfl rfl rfl) ?_) (λ_=>?_) nt)
   .rw[<- Bool.decide_or];exact Xq (by by_cases c:k∈g;exact .inr c;exact .inl (by have:=λz=>C #[z,c];lia))
   have t:V9 (.list [.int<|k]):=DO [k];exact VZ (JF 8 rfl rfl rfl (Qr.cast (J4 Qp (EvO.fz<|ZW (QS Qp Z2)<|by show(1)<=1000;decide) t t)<|by rw[Uv t])) #[_,_,_,y,m,B,g,rfl,rfl,#[rfl,y,n,m,B,g,X,I,rfl,Xm _,rfl],rfl,rfl,rfl,rfl,rfl]
def Zqx{y:Yd}(c:y.Ok)(i:∀x∈gs,G30 y x)(h0:∀k,k<gs.length->0<=rsT gs gv go k)(f:t<y.T)(b:Wr y (Q0<|mT t gs gv go) φ):
 ∀l,l<y.ls.length->Vf y gs.length (λk=>(gs.getD k default).line) (QY (Q0<|mT t gs gv go) φ t) l<=ZG y l t:=λl g=>by
 have m:(Q0 _).m=gs.length:=VF t gs gv go;have e:Vf y gs.length (λk=>(gs.getD k default).line) (QY (Q0<|mT t gs gv go) φ t) l=Vf y (Q0<|mT t gs gv go).m (Q0<|mT t gs gv go).ln (QY (Q0<|mT t gs gv go) φ t) l:=by
  rw[m];refine Zq λk h=>?_
  have j:(Q0<|mT t gs gv go).ln k=(gs.getD k default).line:=by
   show((mT t gs gv go).getD k default).line=_
   rw[VJ h];rfl
  rw[j]
 rw[e];exact (b.1.load c (BZ<|GI i h0) f g)
def Fq{y:Yd}(f:Wr y (Q0<|mT n gs gv go) φ)(hn:n<y.T)(g:k<gs.length):0<=QY (Q0<|mT n gs gv go) φ n k/\(0<QY (Q0<|mT n gs gv go) φ n k->QY (Q0<|mT n gs gv go) φ n k<=(gs.getD k default).most/\(gs.getD k default).first<=n/\n<=(gs.getD k default).last):=by
 have a:=f.1.tak (show k<(Q0 _).m by show k<(mT n gs gv go).length;rw[VF];exact g) hn;refine#[a.1,λh=>?_];have b:=a.2;unfold moT at b;split at b
 .rename_i c;have c:Vk _ (n)=true:=c;have d:QY _ φ n k<=((mT n gs gv go).getD k default).most:=b;rw[VJ g]at c d;rw[Zmz,Bool.and_eq_true_iff,decide_eq_true_eq,decide_eq_true_eq]at c;have j:(((max (gs.getD k default).first n:Nat)):Int)<=(n):=c.1;have i:(n:Int)<=((gs.getD k default).last):=c.2;exact#[d,#[],#[]]
 .lia
def EB{f:Qn}(f0:∀k,k<gs.length->0<=f k)(h:∀k,k<gs.length->f k<=rsT gs gv go k):wnL gs gv go=wnL gs (gvT gv f gs.length gs.length) go:=X6 λk g=>by
 have g:=XN.mp g;have a:=f0 k g;have b:=h k g;unfold wnT;unfold rsT at b;by_cases c:k∈go
 .rw[Xe c]at b;rw[Xe c,Xe c,D5 g,show f k=0 by lia,Jp]
 .rw[Xd c,Xd c]
def CF(D:Addr)(v f:V)(y:Yd)(n:Nat)(gs:List Gs)(go:Qk)(d:PyData)(ts:List OT):Prop:=d=.bool true/\∃b c,DayI y (if n<y.T then n+1 else n) gs b go c/\ts=[.own v<|QM D<|hT y (if n<y.T then n+1 else n) gs b go c,.own f<|Wq y gs b go]
inductive R_turn(D:Addr):List OT->(PyData->List OT->Prop)->Prop
 |mk {v vd:V}{y:Yd}{n:Nat}{gs:List Gs}{gv:Ql}{go:Qk}{ms:List Zc3}(I:DayI y n gs gv go ms):R_turn D [.own v<|QM D<|hT y n gs gv go ms,.own vd<|Wq y gs gv go] (CF D v vd y n gs go)
def JL:Qo ["_law_hand","_law_day","_law_yard_here","_law_rows","_law_wants","_law_gone","_law_turn","_law_gifts"] Zao (QG RY):=by walk_at"p"
def ZqO(T:Bl mg)(E:HandC K D)(XZ:HM K mg "NoTime" ct)(XP:MK K CR cg ct CQ)(CH:Df K mg "_law_turns" RY Zao)(t:Z8 P w K mg base D "now" Zak 1 (Zm K<|R_hnow D))(Z:ZK P w K mg base D "turn" Zak 7 (UD K D ct Yu R_hturn<|X_hturn D))(S:Z8 P w K mg base D "gifts" Zak 1 (Zm K<|R_hgifts D))(U:QC P w K mg base "_law_borne" Zar 1 (spG K R_lborne)):QC P w K mg base "_law_turns" Zao 8 (spG K<|R_turn D):=by
 refine CH.evG JL (λf ts Ψ h H hi cdv A outer s p=>?_);cases h with
 |@mk v x y n c B g X I=>
  refine#[_,(Qw (Vz (pv 1)<|UO (n:=4) rfl (Zy (QT 2 JL.nd)<|Zy (QT 3 JL.nd)<|Zy (QT 4 JL.nd)<|Zy (QT 5 JL.nd) Yz))
 (Qw (QP 6 JL.nd<|V6 t E p<|pv 0)
 (Qw (QP 7 JL.nd Ui)
 (Qw (Zr6 XP.tt rfl rfl rfl XZ.m rfl (λCH pn=>(Qy<|QP 7 JL.nd<|Zq0 Z E p Hh<|pv 0)) λe pn=>(Qy<|QP 7 JL.nd Ui))
 (Qw (Zb (Zx Jy (pv 6) (Q9 QA (pv 2) Qx)<|Zi _) (Qy<|QK<|Mi (Ao<|Ts<|pv 7)<|Mm<|Jf Jy (V6 t E p<|pv 0) (pv 6)<|Zi _) Za)
 (Qw (Zb (PW.pt<|YQ (VG<|ZO<|Zw Af (by rfl) T.isi Um<|av 7<|Qu (Jc (v:=.ty "dict") rfl T.dict Dz rfl) Qq)<|YQ (Zx UI (V6 t E p<|pv 0) (QW VH (pv 6) Qx)<|Zi _)<|WU<|Zx (Iy p.units) (Q9 QA (V6 S E p<|pv 0)<|pv 6) (pv 7)<|Zi _) (Qy<|QK Vj) Za)
 (Qy<|QK<|QI U p<|av 2<|av 3<|av 7<|av 6 Qq))))))),?_]
  try dsimp only[VE]
  have ml:=I.ml;have t8:=I.ok.t8;refine Z7 (λJ=>∃N M W,J=[zo v<|QM D<|hT y n c B g X,zo x<|ZJ (QH y) N M W,zf<|QH y,zo N<|Z1<|Zo c<|rsT c B g,zo M<|olP<|wnL c B g,zo W<|olP<|QR g,none,none]) (Mp rfl λN M W=>#[N,M,W,rfl]) ?_;rintro _ ⟨N,M,W,rfl⟩;refine Mj D v x N M W 3 4 5 (by decide) ?_;have G:∀{Y:Zbv} {n:Nat} {B:Ql} {X:List Zc3} {E':XK},Y[0]?=some (zo v<|QM D<|hT y n c B g X)->Qr K (ZQ D "now" (Zm K<|R_hnow D) [] E' (Q3 0) QJ) Y (.int<|n):=λe=>Jk 0 e rfl (Gh UV (Xk (Xc.mp e).1) Q5 R_hnow.mk);refine Z6 (ZF (G rfl) rfl)<|Z6 (ZF WY rfl) ?_
  walk_at"d"
  by_cases C:n<y.T
  .refine Z7 (λJ=>∃a u,Wr y (Q0<|mT n c B g) a/\J=[zo v<|QM D<|hT y (n+1) c (gvT B (QY (Q0<|mT n c B g) a n) c.length c.length) g<|X++[gfD (QY (Q0<|mT n c B g) a n) c.length],zo x<|ZJ (QH y) N M W,zf<|QH y,zo N<|Z1<|Zo c<|rsT c B g,zo M<|olP<|wnL c B g,zo W<|olP<|QR g,zf<|.int<|n,zo u<|dkP<|gfD (QY (Q0<|mT n c B g) a n) c.length]) (NN TB rfl Q5 (R_hturn.mk I.ok I.hg I.gl C I.h0 I.g8<|#[]) ?_) ?_
   .rintro r N' ⟨a,u,i,rfl,rfl⟩;exact#[a,u,i,rfl]
   rintro _ ⟨a,u,i,rfl⟩;refine Z6 (Zf (QO.cast (Zc<|Wh Qp<|(λe=>Vc (Qp e) Q2 rfl) rfl)<|Xt<|#[]) nf λ_=>Zl rfl) ?_;have f0:=λk L=>(Fq i C (k:=k) L).1;have fm:=λk L=>(Fq i C (k:=k) L).2;have R:=λk L=>Ni i C (k:=k) L;have ld:=Zqx I.ok I.hg I.h0 C i;have q:=Zqz i C;have l:=ZqD I.ok I.hg I.h0 i C I.sh;have F:=Og (QY (Q0<|mT n c B g) a n) c.length;generalize QY (Q0<|mT n c B g) a n=f at f0 fm R ld q l F
   have gf:∀{Y:Zbv} {E':XK},Y[0]?=some (zo v<|QM D<|hT y (n+1) c (gvT B f c.length c.length) g<|X++[gfD f c.length])->Z5 K (ZQ D "gifts" (Zm K<|R_hgifts D) [] E' (Q3 0) QJ) Y (λr=>∃v,r=.own v (dlP<|X++[gfD f c.length])):=λe=>W8 0 e (λr ⟨v,z⟩=>by
    rw[z];exact II λk L=>(Xz.mp L).elim (I.mf k) λz=>by rw[Xi.mp z];exact F) (Gi Li (Xk (Xc.mp e).1) Q5<|R_hgifts.mk<|by show(X++[gfD f c.length]).length<=1000;rw[Xn,U5];lia)
   refine Z6 (Zf (b:=false) (YO (VD<|ZH<|Iq rfl) λ_=>YO (b:=false) (QO.cast (Zc<|UM (G rfl)<|ZD Qp Q2) ?b1) λ_=>Zc<|IY (k:=n) F (gf rfl) Qp ?b2 ?b3 rfl) nf λ_=>Zl rfl) ?_
   case b1=>exact XS (λz => !z) (Xq (show(((n+1):Int)=(n)+1) by lia))
   case b2=>rw[Xn,U5,Wi #[]<|#[],Xr]
   case b3=>rw[<- ml,Gu<|Xm _,BB];rfl
   refine T4 (Θ:=λd J=>d=.bool true/\J=[zo v<|QM D<|hT y (n+1) c (gvT B f c.length c.length) g<|X++[gfD f c.length],zo x<|ZJ (QH y) N M W,none,zo N<|Z1<|Zo c<|rsT c (gvT B f c.length c.length) g,zo M<|olP<|wnL c B g,zo W<|olP<|QR g,none,none]) (D2 (is:=[2,3,7,6]) (by decide) rfl (R_lborne.mk I.ok C I.g8 (λk L=>(I.hg (c.getD k default)<|by simp[L]).ok.ln) f0 R fm ld (λk L hl=>Zpw I.ok I.hg q l (k:=k) L hl)) ?hw λd ts z=>?hs) ?_
   case hs=>
    obtain⟨rfl,rfl⟩:=z;exact#[rfl,rfl]
   case hw=>
    rintro _ _ m u' Φ ⟨rfl,rfl⟩ e
    match m,e with
    |1,e=>cases e;exact#[_,rfl]
   rintro _ w _ ⟨rfl,rfl⟩ hf;refine#[_,_,_,y,c,gvT B f c.length c.length,g,rfl,hf,#[rfl,gvT B f c.length c.length,X++[gfD f c.length],?_,?_],rfl,rfl,rfl,by rw[<- (EB f0 R)];rfl,rfl]
   .rw[Xe C];exact#[I.ok,I.hg,Iw _ _ _ _,q,C,l,I.g8,by rw[Xn,ml];rfl,λk L=>(Xz.mp L).elim (I.mf k) λz=>by rw[Xi.mp z];exact F,I.gn,I.gb]
   .rw[Xe C]
  .obtain rfl:=Nat.le_antisymm I.hn (Nat.le_of_not_lt C);refine Z6 (e:=[zo v<|QM D<|hT y y.T c B g X,zo x<|ZJ (QH y) N M W,zf<|QH y,zo N<|Z1<|Zo c<|rsT c B g,zo M<|olP<|wnL c B g,zo W<|olP<|QR g,zf<|.int<|y.T,zf .none]) (D4 (j:=8) (λ_ _ _ _ h=>.inr h) xfN TB rfl Q5 X_hturn.mk (λd e o _ hx=>?_) λ_ _=>trivial) ?_
   .exact ZF WY rfl
   refine YX (Wt (QO.cast (Zc<|Wh Qp<|(λe=>Vc (Qp e) Q2 rfl) rfl)<|Xq rfl) (λ_=>VZ (Qr.cast (GN (Dj Qp) λ_=>Qr.cast (Wh (G rfl) Qp)<|XS PyData.bool<|Xq rfl) rfl) #[_,_,_,y,c,B,g,rfl,rfl,#[rfl,B,X,?_,?_],rfl,rfl,rfl,rfl,rfl]) nt)
   .rw[Xd C];exact I
   .rw[Xd C]
inductive R_stand(D:Addr):List OT->(PyData->List OT->Prop)->Prop
 |mk {v vd:V}{y:Yd}{n:Nat}{gs:List Gs}{gv:Ql}{go:Qk}{ms:List Zc3}(I:DayI y n gs gv go ms):R_stand D [.own v<|QM D<|hT y n gs gv go ms,.own vd<|Wq y gs gv go] (λd ts=>d=.bool true/\ts=[.own v<|QM D<|hT y n gs gv go ms,.own vd<|Wq y gs gv go])
def B6:Qo Zav Zao (QG Hl):=by walk_at"p"
def ZnI(T:Bl mg)(e:HandC K D)(CH:Df K mg "_law_stands" Hl Zao)(u:Z8 P w K mg base D "now" Zak 1 (Zm K<|R_hnow D))(G:Z8 P w K mg base D "yard_now" Zak 1 (spY D))(r:Z8 P w K mg base D "gifts" Zak 1 (Zm K<|R_hgifts D))(t:ZK P w K mg base D "rest" Zab 4 (WL K CQ "number" (R_hrest D)<|X_hnum D))(F:ZK P w K mg base D "got" Zab 4 (WL K CQ "number" (R_hgot D)<|X_hnum D))(x:Z8 P w K mg base D "open_ones" Zak 5 (Zm K<|R_hopen D)):QC P w K mg base "_law_stands" Zao 6 (spG K<|R_stand D):=by
 refine CH.evG B6 (λf ts Ψ h H hi Z A outer s W=>?_);cases h with
 |@mk v o y n g m j Y I=>
  refine#[_,(Qw (Vz (pv 1)<|UO (n:=4) rfl (Zy (QT 2 B6.nd)<|Zy (QT 3 B6.nd)<|Zy (QT 4 B6.nd)<|Zy (QT 5 B6.nd) Yz))
 (Qw (Zb (PW.pt<|YQ (Zx (Tr W.units) (V6 G e W<|pv 0) (pv 2)<|Zi _)<|WU<|Zx UI (Zw ZY (by rfl) T.len ZV<|Qu (V6 r e W<|pv 0) Qq) (V6 u e W<|pv 0)<|Zi _) (Qy<|QK Vj) Za)
 (Qw (Vu zN rfl (by exact(Wm rfl T.range<|Qu (Zw ZY (by rfl) T.len ZV<|av 3 Qq) Qq)) (QT 6 B6.nd)<|by exact(Qy<|Zb (PW.pt<|YQ (Zx UI (V5 t e W (WQ (C:=CQ)) (pv 0)<|av 6 Qq) (Q9 QA (Q9 QA (pv 3)<|pv 6) Qx)<|Zi _)<|WU<|Zx UI (V5 F e W (WQ (C:=CQ)) (pv 0)<|av 6 Qq) (QW Yb (Q9 QA (pv 4)<|pv 6)<|Q9 QA (Q9 QA (pv 3)<|pv 6) Qx)<|Zi _) (Qy<|QK Vj) Za))
 (Qy<|QK<|Jf (Ul W.units) (V6 x e W<|pv 0) (Wg (NX:=Zav) (sc:=QG Hl) (N:=["_law_k","_law_rows"]) (f:=[none,some 3]) rfl (by decide +kernel) rfl rfl (Wm rfl T.range<|Qu (Zw ZY (by rfl) T.len ZV<|av 3 Qq) Qq) (λ_=>(QT 0 (show(["_law_k","_law_rows"]:Qh).Nodup by decide +kernel))) (λ_=>Yf) (λ_=>(Gf<|Zx VY (Q9 QA (Q9 QA (pv 1)<|pv 0) Qx) Qx<|Zi _)) λ_=>(pv 0))<|Zi _)))),?_]
  walk_at"x";have g8:=I.g8;have R:=I.ml;have t8:=I.ok.t8;have hn:=I.hn;refine Z7 (λJ=>∃L B M,J=[zo v<|QM D<|hT y n g m j Y,zo o<|ZJ (QH y) L B M,zf<|QH y,zo L<|Z1<|Zo g<|rsT g m j,zo B<|olP<|wnL g m j,zo M<|olP<|QR j,none]) (Mp rfl λL B M=>#[L,B,M,rfl]) ?_;rintro _ ⟨L,B,M,rfl⟩;refine Mj D v o L B M 3 4 5 (by decide) ?_;have p:=P8 y;refine Z6 (Zf (b:=false) (YO (b:=false) (QO.cast (Zc<|Kv (a:=QH y) (Oi Ik rfl rfl) Qp p p)<|by rw[Uv p];rfl) λ_=>Bp 0 rfl (QO.cast (Zc<|UM (OM<|Gi Li rfl Q5<|R_hgifts.mk<|by show Y.length<=1000;lia)<|Gh UV rfl Q5 R_hnow.mk)<|XS (λz => !z)<|Xq (show((Y.length):Int)=(n) by rw[R]))) nf λ_=>Zl rfl)<|Z7 (λJ=>∃l,J=[zo v<|QM D<|hT y n g m j Y,zo o<|ZJ (QH y) L B M,zf<|QH y,zo L<|Z1<|Zo g<|rsT g m j,zo B<|olP<|wnL g m j,zo M<|olP<|QR j,l]) (Ya (ds:=VA 0 g.length) (λi J=>∃l,J=[zo v<|QM D<|hT y n g m j Y,zo o<|ZJ (QH y) L B M,zf<|QH y,zo L<|Z1<|Zo g<|rsT g m j,zo B<|olP<|wnL g m j,zo M<|olP<|QR j,l]) ?ei #[_,rfl] ?st ?fin) ?_
  case ei=>exact EvI.cast (W5 (Qv (Gd rfl) Q5) (by rw[z62];lia)<|by rw[z62];lia) (JG rfl #[])
  case fin=>exact λJ h=>h
  case st=>
   rintro i d _ U ⟨l,rfl⟩;obtain⟨E,rfl⟩:=W6 U;refine#[_,Zr,?_];rw[JP];have Q:wnT g m j i-rsT g m j i=m.getD i 0:=by
    unfold wnT rsT;by_cases c:i∈j
    .rw[Xe c,Xe c];lia
    .rw[Xd c,Xd c];lia
   refine Zf (b:=false) (Bp 0 rfl (YO (b:=false) (QO.cast (Zc<|UM (DT Nb rfl (Qv Qp Q5) (R_hrest.mk<|Mv I.gl E) Us)<|Dr rfl Qp E rfl rfl)<|XS (λz => !z)<|Xq rfl) λ_=>QO.cast (Zc<|UM (DT E7 rfl (Qv Qp Q5) (R_hgot.mk (by simpa [hT] using E) (LF E I.gl)) Us)<|Qr.cast (ZD (M4 4 rfl rfl (Vt Qp Qp<|Pb E))<|Dr rfl Qp E rfl rfl)<|by rw[Q])<|XS (λz => !z)<|Xq rfl)) nf (λ_=>Zl #[_,rfl])
  rintro _ ⟨l,rfl⟩;have q:=DO ((List.range g.length).filter λk=>decide (rsT g m j k > 0));refine VZ (Jk 0 rfl rfl (GV 3 rfl (JF 3 rfl rfl rfl (Qr.cast (J4 (b:=.list (QR<|(List.range g.length).filter λk=>decide (rsT g m j k > 0))) (Qr.cast (EvO.fz<|Z5.o<|Gi Ix rfl Q5<|R_hopen.mk (rsT g m j) (λk X=>Mv I.gl<|by simpa [hT] using X)<|by show(g.map QZ).length<=1000;rw[Xj];lia) ?op) (EvO.fz<|EvO.cast (UU (enc:=λ(k:Nat)=>PyData.int<|k) ?ei2 (by rw[Gq];lia) ?el) rfl) q q)<|by rw[Uv q])))) #[_,_,_,y,g,m,j,rfl,rfl,#[rfl,rfl],rfl,rfl,rfl,rfl,rfl]
  case op=>
   show PyData.list (QR<|(List.range (g.map QZ).length).filter _)=_;rw[Xj];refine XS (λz=>PyData.list<|QR z) (List.filter_congr λk X=>?_)
   have:=I.h0 k (XN.mp X)
   by_cases c:rsT g m j k=0
   .simp[c]
   .rw[Xt c,Xq<|#[]];rfl
  case ei2=>
   refine EvI.cast (W5 (Qv (W3 Qp) Q5) (by rw[z62];lia)<|by rw[z62,Xj,Jm];lia) ?_;rw[Xj,Jm];exact X6 λi _=>by rw[JP]
  case el=>
   exact λk X c=>#[_,Zr,#[Zc<|ZI (Vt (Vt Qp Qp<|VM<|by rw[Xy,Up (XN.mp X)];rfl) Q2 rfl) Q2,λ_=>Qp rfl]]
def Y2:Qo ["_law_hand","_law_day","_law_feed_here","_law_yard_here","_law_rows","_law_wants","_law_gone","_law_line","_law_turn","_law_bound","_law_other","_law_told","e"] Zaa (QG Sd):=by walk_at"p"
def Zo3(T:Bl mg)(UH:HandC K D)(XR:XC K mg "NoRoom" YR CR fR)(E:SA K mg YR CR cg ct)(XY:S9 K mg YR ct)(XP:MK K CR cg ct CQ)(CH:Df K mg "_law_binds" Sd Zaa)(F:QC P w K mg base "_law_digit" Zal 1 (spP K olP R_digit))(Xb9:QC P w K mg base "_law_with" Zap 1 (QQ (K:=K) R_withb))(Xca:ZK P w K mg base D "set_bound" Zas 8 (G8 K D CR "some" R_hset<|X_hset D))(Xcb:ZK P w K mg base D "set_bound" Zas 8 (V8 K ct Yu (λ_ _=>False)<|X_hsetT D))(Xba:Z8 P w K mg base D "now" Zak 1 (Zm K<|R_hnow D))(Xbz:QC P w K mg base "_law_shows" Zai 3 (QQ (K:=K) R_lshows)):QC P w K mg base "_law_binds" Zaa 9 (spG K<|R_deed D):=by
 refine CH.evG Y2 (λf ts Ψ h H hi cdv A outer s u=>?_);cases h with
 |@mk v G Q y n g C B p a b I=>
  have O:=I.ok;have g8:=I.g8;have t1:=O.t1;have l1:=O.l1;have l5:=O.l5;have nw:∀{Y:Zbv} {y':Yd} {E':XK},Y[0]?=some (zo v<|QM D<|hT y' n g C B p)->Qr K (ZQ D "now" (Zm K<|R_hnow D) [] E' (Q3 0) QJ) Y (.int (n:Int)):=λe=>Jk 0 e rfl (Gh UV (Xk (Xc.mp e).1) Q5 R_hnow.mk);refine#[_,(Qw (Vz (pv 1)<|UO (n:=4) rfl (Zy (QT 3 Y2.nd)<|Zy (QT 4 Y2.nd)<|Zy (QT 5 Y2.nd)<|Zy (QT 6 Y2.nd) Yz))
 (Qw (QP 7 Y2.nd<|QI F u<|av 2<|Qu (Zw ZY (by rfl) T.len ZV<|Qu (Q9 QA (pv 3) Qx) Qq) Qq)
 (Qw (QP 8 Y2.nd<|QI F u<|av 2<|Qu (Q9 QA (pv 3) Qx) Qq)
 (Qw (QP 9 Y2.nd<|QI F u<|av 2<|Qu (Q9 QA (Zz<|Qu Qx<|Qu Qx<|Qu Qx<|Qu (QW Dn Qx Qx) Qq)<|QI F u<|av 2<|Qu Qx Qq) Qq)
 (Qw (QP 10 Y2.nd<|QI Xb9 u<|av 3<|av 7<|av 8<|av 9 Qq)
 (Qw (QP 11 Y2.nd Vd)
 (Qw (OG (j:=12) E.em XY.em rfl rfl rfl E.my Y2.nd rfl rfl (λCH pn=>(Qy<|QP 11 Y2.nd<|CM (N3 Xca UH u ID (pv 0)<|av 7<|av 8<|av 9 Qq)<|N3 Xcb UH u Es (pv 0)<|av 7<|av 8<|av 9 Qq)) (λe pn=>(Qw (Zb (ZO<|Yx E.is T.isi<|av 12<|Qu (Yc (v:=.ref _) rfl E.m2 rfl) Qq) (Qy<|QP 11 Y2.nd Vd) Za)
 (Qy<|Zb (ZO<|Yx E.is T.isi<|av 12<|Qu (Yc (v:=.ref _) rfl XR.m rfl) Qq) (Qy<|QP 11 Y2.nd<|D6 E.gt E.na<|pv 12) Za))) (λe pn=>(Qw (Zb (ZO<|Yx XY.is T.isi<|av 12<|Qu (Yc (v:=.ref _) rfl E.m2 rfl) Qq) (Qy<|QP 11 Y2.nd Vd) Za)
 (Qy<|Zb (ZO<|Yx XY.is T.isi<|av 12<|Qu (Yc (v:=.ref _) rfl XR.m rfl) Qq) (Qy<|QP 11 Y2.nd Tc) Za))))
 (Qw (Zb (Zx Yw (pv 8) (V6 Xba UH u<|pv 0)<|Zi _) (Qy<|QK<|Jf Jy (pv 11) Vd<|Zi _) Za)
 (Qw (Zb (Wz<|Ts<|pv 11) (Qw (Vz (pv 10)<|YU (pv 1) Qx VU)
 (Qy<|QK Vj)) Za)
 (Qy<|QK<|QI Xbz u<|av 11<|av 10<|av 4<|Qu (V6 Xba UH u<|pv 0) Qq)))))))))),?_]
  walk_at"x";refine Z7 (λJ=>∃W N X,J=[zo v<|QM D<|hT y n g C B p,zo G<|ZJ (QH y) W N X,zo Q<|olP [.int a,.int b],zf<|QH y,zo W<|Z1<|Zo g<|rsT g C B,zo N<|olP<|wnL g C B,zo X<|olP<|QR B,none,none,none,none,none,none]) (Mp rfl λW N X=>#[W,N,X,rfl]) ?_;rintro _ ⟨W,N,X,rfl⟩;refine Mj D v G W N X 4 5 6 (by decide)<|Z7 (λJ=>∃(l:Nat) (a b:Int),l<y.ls.length/\J=[zo v<|QM D<|hT y n g C B p,zo G<|ZJ (QH y) W N X,zo Q<|olP [.int a,.int b],zf<|QH y,zo W<|Z1<|Zo g<|rsT g C B,zo N<|olP<|wnL g C B,zo X<|olP<|QR B,zi (l:Int),none,none,none,none,none]) (JB (GD rfl (Qr.cast (GP<|(λe=>Vc (Qp e) Q2 rfl) rfl) (show _=PyData.int (y.ls.length:Int) by rw[Xj])) #[]<|GB<|#[]) ?_) ?_
  .rintro z _ ⟨U,z1,a,b,rfl⟩;refine#[z.toNat,a,b,#[],?_];rw[XV U];rfl
  rintro _ ⟨l,a,b,hl,rfl⟩;refine Z7 (λJ=>∃(t:Nat) (a b:Int),t<y.T/\J=[zo v<|QM D<|hT y n g C B p,zo G<|ZJ (QH y) W N X,zo Q<|olP [.int a,.int b],zf<|QH y,zo W<|Z1<|Zo g<|rsT g C B,zo N<|olP<|wnL g C B,zo X<|olP<|QR B,zi (l:Int),zi (t:Int),none,none,none,none]) (JB (GD rfl ((λe=>Vc (Qp e) Q2 rfl) rfl) #[]<|GB O.t8) ?_) ?_
  .rintro z _ ⟨U,z1,a,b,rfl⟩;refine#[z.toNat,a,b,#[],?_];rw[XV U];rfl
  rintro _ ⟨t,a,b,ht,rfl⟩;refine Z7 (λJ=>∃M a b:Int,0<=M/\M<10^300/\J=[zo v<|QM D<|hT y n g C B p,zo G<|ZJ (QH y) W N X,zo Q<|olP [.int a,.int b],zf<|QH y,zo W<|Z1<|Zo g<|rsT g C B,zo N<|olP<|wnL g C B,zo X<|olP<|QR B,zi (l:Int),zi (t:Int),zi M,none,none,none]) (O2 rfl (EvO.fz<|ZW (QS Q2<|QS Q2<|QS Q2<|QS (VC Q2 Q2<|BP (by decide)<|by decide) Z2)<|by decide) (GD rfl Q2 (by decide)<|by decide +kernel) ?_) ?_
  .rintro Z _ ⟨w0,w1,a,b,rfl⟩;obtain⟨m,hm,m0,m1⟩:∃m:Int,atI [PyData.int 1,.int 6,.int 30,.int<|10^(30:Int).toNat] Z=some (.int m)/\0<m/\m<=10^30:=by
    obtain rfl|rfl|rfl|rfl:Z=0\/Z=1\/Z=2\/Z=3:=#[]
    .exact#[_,rfl,by decide,by decide +kernel]
    .exact#[_,rfl,by decide,by decide +kernel]
    .exact#[_,rfl,by decide,by decide +kernel]
    .exact#[_,rfl,by decide +kernel,by decide +kernel]
   refine#[m,hm,JB (GD rfl Q2 m0<|Gx m1<|by decide +kernel) ?_];rintro z _ ⟨U,z1,a,b,rfl⟩;exact#[z,a,b,U,Int.lt_of_lt_of_le z1<|Gx m1<|by decide +kernel,rfl]
  rintro _ ⟨M,a,b,b0,b1,rfl⟩;refine Z6 (ZF (Zk (Qv Qp<|Qv Qp<|Qv Qp<|Qv Qp Q5)<|R_withb.mk O hl ht) rfl)<|Z6 (ZF V2 rfl) ?_;walk_at"d";have okB:=KC (t:=t) O hl b0 b1
  by_cases hTn:t<n
  .refine Z6 (e:=[zo v<|QM D<|hT y n g C B p,zo G<|ZJ (QH y) W N X,zo Q<|olP [.int a,.int b],zf<|QH y,zo W<|Z1<|Zo g<|rsT g C B,zo N<|olP<|wnL g C B,zo X<|olP<|QR B,zi (l:Int),zi (t:Int),zi M,zf<|QH<|ydB y l t M,zf<|.str "time",none]) (CD<|D4 (λ_ _ _ _ h=>h) xfN Nn rfl ((λe7 e8 e9=>Qv (Qp e7) (Qv (Qp e8)<|Qv (Qp e9) Q5)) rfl rfl rfl) (X_hsetT.mk hTn) (λd e o _ hx=>?_) λ_ _=>trivial) ?_
   .obtain rfl:=hx;exact QL (Zf (b:=true) (ZH<|Ma rfl rfl XY.k1) (λ_=>ZF V2 (Zf (b:=false) (ZH<|Ma rfl rfl XP.tr) nf (λ_=>Zl rfl))) nt)
   exact YX (Wt (b:=true) (QO.cast (Zc<|ZI Qp<|nw rfl)<|Xq<|#[]) (λ_=>VZ (Qr.cast (Tt Qp V2 rfl rfl (λ_ _ h=>#[rfl,h]))<|XS PyData.bool<|Xq rfl) #[_,_,_,y,g,C,B,rfl,rfl,#[rfl,y,n,g,C,B,p,I,rfl,Xm _,rfl],rfl,rfl,rfl,rfl,rfl]) nt)
  by_cases hS:∀S,Z3 (ydB y l t M) (Q0<|mT n g C B) S<=0
  .refine Z6 (e:=[zo v<|QM D<|hT (ydB y l t M) n g C B p,zo G<|ZJ (QH y) W N X,zo Q<|olP [.int a,.int b],zf<|QH y,zo W<|Z1<|Zo g<|rsT g C B,zo N<|olP<|wnL g C B,zo X<|olP<|QR B,zi (l:Int),zi (t:Int),zi M,zf<|QH<|ydB y l t M,zf .none,none]) (Pt<|NN Nn rfl ((λe7 e8 e9=>Qv (Qp e7) (Qv (Qp e8)<|Qv (Qp e9) Q5)) rfl rfl rfl) (R_hset.mk O I.hg I.gl I.h0 g8 hl ht b0 b1 #[] hS) ?_) ?_
   .rintro r N' ⟨rfl,rfl⟩;rfl
   exact Z6 (Zf (b:=false) (QO.cast (Zc<|ZI Qp<|nw rfl)<|Xt<|#[]) nf λ_=>Zl rfl)<|YX (Wt (b:=true) (ZH<|Dj (a:=.none) Qp) (λ_=>Z6 (Er rfl Qp rfl) (VZ Wu #[_,_,_,ydB y l t M,g,C,B,rfl,rfl,#[rfl,ydB y l t M,n,g,C,B,p,#[okB,λx hx=>Kp (I.hg x hx),I.gl,I.h0,I.hn,hS,g8,I.ml,I.mf,I.gn,I.gb],rfl,Xm _,rfl],rfl,rfl,rfl,rfl,rfl])) nt)
  .obtain⟨S0,hS0⟩:∃S,0<Z3 (ydB y l t M) (Q0<|mT n g C B) S:=Classical.byContradiction λc=>hS λS=>Int.not_lt.mp λz=>c #[S,z]
   have flt:∀S,W0 (QR<|ZE (mT n g C B) S):=λS d hd=>by
    apply At (XH.mp hd);rintro k _ rfl;exact#[_,rfl]
   refine Z7 (λJ=>∃S,0<Z3 (ydB y l t M) (Q0<|mT n g C B) S/\J=[zo v<|QM D<|hT y n g C B p,zo G<|ZJ (QH y) W N X,zo Q<|olP [.int a,.int b],zf<|QH y,zo W<|Z1<|Zo g<|rsT g C B,zo N<|olP<|wnL g C B,zo X<|olP<|QR B,zi (l:Int),zi (t:Int),zi M,zf<|QH<|ydB y l t M,some<|.ol<|QR<|ZE (mT n g C B) S,none]) (Pt<|D4 (λ_ _ _ _ h=>.inr h) xfP Nn rfl ((λe7 e8 e9=>Qv (Qp e7) (Qv (Qp e8)<|Qv (Qp e9) Q5)) rfl rfl rfl) (X_hset.mk O I.hg I.gl I.h0 g8 hl ht b0 b1 #[] hS0) (λd e o hd hx=>?_)<|by rintro d ⟨S,_,z⟩;rw[z];exact flt S) ?_
   .apply At hd;rintro S R rfl;apply aN hx;rintro L q rfl;walk_at"d";exact QL (Zf (ZH<|Mb rfl rfl E.kt) nf λ_=>Zl (Zf (ZH<|Mb rfl rfl E.k1) (λ_=>Oe (i:=11) (j:=12) rfl (#[S,R,rfl])) nt))
   rintro _ ⟨S,R,rfl⟩;exact Z6 (Zf (QO.cast (Zc<|ZI Qp<|nw rfl)<|Xt<|#[]) nf λ_=>Zl rfl)<|Z6 (Zf (b:=false) (DP 11 rfl rfl (ZH<|Dj (a:=.list (QR<|ZE (mT n g C B) S)) Qp)) nf λ_=>Zl rfl)<|VZ (Jk 0 rfl rfl (GV 4 rfl (JF 4 rfl (Nu g C B) rfl (JF 11 rfl rfl rfl (Zk (Qv Qp<|Qv Qp<|Qv Qp<|Qv (Gh UV rfl Q5 R_hnow.mk) Q5)<|R_lshows.mk okB (λx hx=>Kp (I.hg x hx)) g8 I.hn I.h0 R))))) #[_,_,_,y,g,C,B,rfl,rfl,#[rfl,y,n,g,C,B,p,I,rfl,Xm _,rfl],rfl,rfl,rfl,rfl,rfl]
def GS{b:Type}{l:List b}{x d:b}{k:Nat}(h:k<l.length):(l++[x]).getD k d=l.getD k d:=by rw[List.getD_eq_getElem?_getD,U6 h,<- List.getD_eq_getElem?_getD]
def BX{b:Type}{l:List b}{x d:b}:(l++[x]).getD l.length d=x:=by simp
def Ms{g:Gs}(gl:gv.length=gs.length)(b:∀k∈go,k<gs.length)(f:k<=gs.length):rsT (gs++[g]) (gv++[0]) go k=if k<gs.length then rsT gs gv go k else g.want:=by
 unfold rsT;by_cases c:k<gs.length
 .rw[Xe c,GS c,GS<|by exact gl▸c]
 .obtain rfl:k=gs.length:=#[]
  rw[Xd c,Xd λz=>c<|b _ z,BX,<- gl,BX,Int.sub_zero]
def N7{b:Type}{gs:List Gs}{g:Gs}{F G:Nat->b}{x:b}(h:∀k,k<gs.length->F k=G k)(hx:F gs.length=x):(List.range (gs++[g]).length).map F=(List.range gs.length).map G++[x]:=by
 rw[Xn,U5,YK,XL,X6 λk c=>h k<|XN.mp c,List.map_singleton,hx]
section
variable {gs:List Gs}{gv:Ql}{go:Qk}{g:Gs}{n:Nat}
def Ip(gl:gv.length=gs.length)(c:∀k∈go,k<gs.length)(hn:n<=g.first):mT n (gs++[g]) (gv++[0]) go=mT n gs gv go++[g]:=N7 (λk b=>by unfold stl;rw[Ms gl c<|#[],Xe b,GS b]) (by unfold stl;rw[Ms gl c<|Xm _,Xd<|X8 _,BX,Nat.max_eq_left hn])
def Lw(gl:gv.length=gs.length)(c:∀k∈go,k<gs.length):Zo (gs++[g]) (rsT (gs++[g]) (gv++[0]) go)=Zo gs (rsT gs gv go)++[rwL g]:=N7 (λk b=>by rw[Ms gl c<|#[],Xe b,GS b]) (by rw[Ms gl c<|Xm _,Xd<|X8 _,BX])
def ET(gl:gv.length=gs.length)(c:∀k∈go,k<gs.length):wnL (gs++[g]) (gv++[0]) go=wnL gs gv go++[.int g.want]:=N7 (λk b=>by unfold wnT;rw[GS b,GS<|by exact gl▸b]) (by unfold wnT;rw[Xd λz=>X8 _<|c _ z,BX])
end
def Go:Qo ["_law_hand","_law_day","_law_feed_here","_law_yard_here","_law_rows","_law_wants","_law_gone","_law_guest_here","_law_told"] Zaa (QG Sa):=by walk_at"p"
def Zqm(T:Bl mg)(UH:HandC K D)(CH:Df K mg "_law_comes" Sa Zaa)(Xcc:QC P w K mg base "_law_guest" Zat 2 (spP K olP R_dguest))(E:Z8 P w K mg base D "now" Zak 1 (Zm K<|R_hnow D))(Xcd:QC P w K mg base "_law_come" ZaE 9 (BN K D R_lcome<|X_lcome D))(Xbz:QC P w K mg base "_law_shows" Zai 3 (QQ (K:=K) R_lshows)):QC P w K mg base "_law_comes" Zaa 10 (spG K<|R_deed D):=by
 refine CH.evG Go (λf ts Ψ h H hi cdv A outer s M=>?_);cases h with
 |@mk v R U y n B L C l a b I=>
  refine#[_,(Qw (Vz (pv 1)<|UO (n:=4) rfl (Zy (QT 3 Go.nd)<|Zy (QT 4 Go.nd)<|Zy (QT 5 Go.nd)<|Zy (QT 6 Go.nd) Yz))
 (Qw (QP 7 Go.nd<|QI Xcc M<|av 2<|av 3<|Qu (V6 E UH M<|pv 0) Qq)
 (Qw (Zb (Zx VY (Zw ZY (by rfl) T.len ZV<|av 4 Qq) Qx<|Zi _) (Qy<|QK Vj) Za)
 (Qw (QP 8 Go.nd<|QI Xcd M<|av 0<|av 7 Qq)
 (Qw (Zb (Zx Yw (Q9 QA (pv 7) Qx) (V6 E UH M<|pv 0)<|Zi _) (Qy<|QK<|Jf (Ul M.units) (pv 8) (Zz<|Qu Vd Qq)<|Zi _) Za)
 (Qw (Zb (Zx (Ul M.units) (pv 8) (Zz<|Qu Vd<|Qu (Zw ZY (by rfl) T.len ZV<|av 4 Qq) Qq)<|Zi _) (Qw (Zp<|V1 zP zS zT V7 (pv 4)<|Qu (Wl D8 (by rfl) T.list Mo<|av 7 Qq) Qq)
 (Qw (Zp<|V1 zP zS zT V7 (pv 5)<|Qu (Q9 QA (pv 7) Qx) Qq)
 (Qy<|QK Vj))) Za)
 (Qw (Zb (PW.pt<|YQ (Zx UI (Zw ZY (by rfl) T.len ZV<|av 8 Qq) Qx<|Zi _)<|WU<|Zx UI (Q9 QA (pv 8) Qx) Vd<|Zi _) (Qy<|QK Vj) Za)
 (Qy<|QK<|QI Xbz M<|Qu (Q9 QA (pv 8) Qx)<|av 3<|Qu (QW Dq (pv 4)<|Zz<|Qu (Wl D8 (by rfl) T.list Mo<|av 7 Qq) Qq)<|Qu (V6 E UH M<|pv 0) Qq)))))))),?_]
  walk_at"x";refine Z7 (λJ=>∃W N X,J=[zo v<|QM D<|hT y n B L C l,zo R<|ZJ (QH y) W N X,zo U<|olP [.int a,.int b],zf<|QH y,zo W<|Z1<|Zo B<|rsT B L C,zo N<|olP<|wnL B L C,zo X<|olP<|QR C,none,none]) (Mp rfl λW N X=>#[W,N,X,rfl]) ?_;rintro _ ⟨W,N,X,rfl⟩;refine Mj D v R W N X 4 5 6 (by decide) ?_;have nw:∀{Y:Zbv} {B:List Gs} {L:Ql} {E':XK},Y[0]?=some (zo v<|QM D<|hT y n B L C l)->Qr K (ZQ D "now" (Zm K<|R_hnow D) [] E' (Q3 0) QJ) Y (.int (n:Int)):=λe=>Jk 0 e rfl (Gh UV (Xk (Xc.mp e).1) Q5 R_hnow.mk);refine Z7 (λJ=>∃ds g,G30 y g/\J=[zo v<|QM D<|hT y n B L C l,zo R<|ZJ (QH y) W N X,zo U<|olP ds,zf<|QH y,zo W<|Z1<|Zo B<|rsT B L C,zo N<|olP<|wnL B L C,zo X<|olP<|QR C,zf<|QZ g,none]) (Zr5 (Φ:=olP) rfl (Qv Qp<|Qv (nw rfl) Q5) (R_dguest.mk I.ok) ?_) ?_
  .rintro r ds ⟨g,t,rfl⟩;exact#[ds,g,t,rfl]
  rintro _ ⟨ds,g,t,rfl⟩
  by_cases h7:B.length<=7
  case neg=>
   exact YX (Wt (b:=true) (QO.cast (Zc<|ZI (Gd rfl) Q2)<|Xq<|#[]) (λ_=>VZ Wu #[_,_,_,y,B,L,C,rfl,rfl,#[rfl,y,n,B,L,C,l,I,rfl,Xm _,rfl],rfl,rfl,rfl,rfl,rfl]) nt)
  refine Z6 (Zf (b:=false) (QO.cast (Zc<|ZI (Gd rfl) Q2)<|Xt<|#[]) nf λ_=>Zl rfl) ?_;have p:∀{Y:Zbv} {B:List Gs} {L:Ql} {E':XK},Y[0]?=some (zo v<|QM D<|hT y n B L C l)->Y[7]?=some (zf<|QZ g)->QO K (Ub<|tOp (rI0 λi j=>.bl<|decide (i<j)) (tOp (rIx K) (Q3 7)<|tC<|.int 1)<|ZQ D "now" (Zm K<|R_hnow D) [] E' (Q3 0) QJ) Y (decide ((g.first:Int)<(n:Int))):=λe0 e7=>Zc (ZI (Vc (Qp e7) Q2 rfl)<|nw e0);have ft:V9 (.list [.str "time"]):=(Gc (m:=0)<|Wj #[by decide +kernel,XJ _] Uj).fine (by decide)
  by_cases hp:g.first<n
  .exact Z6 (Jb (W8 0 rfl (λr M=>by rw[M];exact D1 λd hd=>by rw[Xi.mp hd];exact#[_,rfl])<|Fh (Dl rfl (Qv Qp Q5))<|X_lcome.tm t hp) λr q=>by subst q;rfl)<|YX (Wt (b:=true) (QO.cast (p rfl rfl)<|Xq<|#[]) (λ_=>VZ (JF 8 rfl rfl rfl (Qr.cast (J4 Qp (EvO.fz<|ZW (QS V2 Z2)<|by decide) ft ft)<|by rw[Uv ft])) #[_,_,_,y,B,L,C,rfl,rfl,#[rfl,y,n,B,L,C,l,I,rfl,Xm _,rfl],rfl,rfl,rfl,rfl,rfl]) nt)
  have gn:n<=g.first:=#[]
  have o:∀k:Nat,V9 (.list [.str "in",.int (k:Int)]):=λk=>(Gc (m:=0)<|Wj #[by decide +kernel,XJ _]<|Wj #[rfl,XJ _] Uj).fine (by decide);have sn:=Ip (n:=n) I.gl I.gb gn;have F:∀{Y:Zbv},Y[7]?=some (zf<|QZ g)->EvO K (tCB (DA K)<|QE (Q3 7) QJ) Y (.ol<|rwL g):=λe=>KU (Qp e);have G:=λx hx=>(Xz.mp hx).elim (I.hg x) λz=>by rw[Xi.mp z];exact t
  have Q:∀k,k<(B++[g]).length->0<=rsT (B++[g]) (L++[0]) C k:=λk Z=>by
   rw[Xn,U5]at Z;rw[Ms I.gl I.gb<|#[]];split
   .exact I.h0 k ‹_›
   .have:=t.ok.w1;lia
  have l8:(B++[g]).length<=8:=by rw[Xn,U5];lia
  by_cases hS:∀S,Z3 y (Q0<|mT n B L C++[g]) S<=0
  .refine Z6 (ZrF (by decide) rfl (Qv Qp Q5) (R_lcome.mk I.ok I.hg t I.gl gn I.h0 h7 hS)<|by rintro r N' ⟨rfl,rfl⟩;rfl)<|Z6 (Zf (b:=false) (QO.cast (p rfl rfl)<|Xt<|#[]) nf λ_=>Zl rfl)<|YX (Wt (b:=true) (DP 8 rfl rfl (QO.cast (Zc<|J4 Qp (EvO.fz<|ZW (QS V2<|QS (Gd rfl) Z2) SZ) (o _)<|o _)<|by rw[Uv<|o _])) (λ_=>Z6 (O1 rfl (F rfl) (by rw[Jm];lia) rfl) (Z6 (TY rfl (Vc Qp Q2 rfl) (by rw[show(wnL B L C).length=B.length by simp[wnL]];lia) rfl) ?_)) nt);rw[<- Lw I.gl I.gb,<- ET I.gl I.gb];exact VZ Wu #[_,_,_,y,B++[g],L++[0],C,rfl,rfl,#[rfl,y,n,B++[g],L++[0],C,l,#[I.ok,G,by rw[Xn,Xn,I.gl];rfl,Q,I.hn,by rw[sn];exact hS,l8,I.ml,I.mf,I.gn,λk Z=>by rw[Xn];exact XG (I.gb k Z)<|Nat.le_add_right _ _],rfl,Xm _,rfl],rfl,rfl,rfl,rfl,rfl]
  .obtain⟨S0,hS0⟩:∃S,0<Z3 y (Q0<|mT n B L C++[g]) S:=Classical.byContradiction λc=>hS λS=>Int.not_lt.mp λz=>c #[S,z]
   refine Z7 (λJ=>∃u S,0<Z3 y (Q0<|mT n B L C++[g]) S/\J=[zo v<|QM D<|hT y n B L C l,zo R<|ZJ (QH y) W N X,zo U<|olP ds,zf<|QH y,zo W<|Z1<|Zo B<|rsT B L C,zo N<|olP<|wnL B L C,zo X<|olP<|QR C,zf<|QZ g,zo u<|lsO (.str "room")<|QR<|ZE (mT n B L C++[g]) S]) (Jb (W8 0 rfl (λr M=>?th)<|Fh (Dl rfl (Qv Qp Q5))<|X_lcome.mk I.ok I.hg t I.gl gn I.h0 h7 hS0) λr q=>by apply KE q;rintro u S h rfl;exact#[u,S,h,rfl]) ?_
   case th=>
    apply KE M;rintro u S h rfl;refine IS rfl λd hd=>?_;apply At (XH.mp hd);rintro k _ rfl
    exact#[_,rfl]
   rintro _ ⟨u,S,O,rfl⟩;rw[<- sn]at O ⊢;refine Z6 (Zf (b:=false) (QO.cast (p rfl rfl)<|Xt<|#[]) nf λ_=>Zl rfl)<|Z6 (Zf (b:=false) (F6 8 rfl (QO.cast (Zc<|J4 Qp (EvO.fz<|ZW (QS V2<|QS (Gd rfl) Z2) SZ) ((Gc (m:=1)<|Wj #[by decide +kernel,XJ _]<|Wj (T2 _) Uj).fine (by decide))<|o _) rfl)) nf λ_=>Zl rfl)<|Z6 (Zf (b:=false) (F6 8 rfl (YO (b:=false) (c:=false) (QO.cast (Zc<|UM (W3 Qp) Q2) rfl) λ_=>QO.cast (Zc<|PH (Vt Qp Q2 rfl) V2 rfl rfl (λ_ _ h=>#[rfl,h]))<|XS (λz => !z)<|Xq rfl)) nf λ_=>Zl rfl)<|VZ (Jk 0 rfl rfl (GV 4 rfl (JF 4 rfl (Nu B L C) rfl (EvO.e<|Z5.o<|ZoU 8 rfl (λr M=>by rw[M];exact JJ rfl)<|EvO.d (Qr.o<|Zk (Qv (Vt Qp Q2 rfl)<|Qv Qp<|Qv (Qr.cast (EvO.fz<|Kx Qp (EvO.fz<|ZW (QS (EvO.fz<|F rfl) Z2) G6) ?cl) ?ce)<|Qv (Gh UV rfl Q5 R_hnow.mk) Q5)<|R_lshows.mk I.ok G l8 I.hn Q O) rfl)))) #[_,_,_,y,B,L,C,rfl,rfl,#[rfl,y,n,B,L,C,l,I,rfl,Xm _,rfl],rfl,rfl,rfl,rfl,rfl]
   case cl=>rw[Xj,Ml];show _+1<=1000;lia
   case ce=>
    rw[<- Nl,<- Nl,Lw I.gl I.gb,XL];rfl
def Cg:Qo ["_law_hand","_law_day","_law_feed_here","_law_way"] Zaa (QG RP):=by walk_at"p"
def Oc(T:Bl mg)(CH:Df K mg "_law_deed" RP Zaa)(q:QC P w K mg base "_law_digit" Zal 1 (spP K olP R_digit))(l:QC P w K mg base "_law_comes" Zaa 10 (spG K<|R_deed D))(o:QC P w K mg base "_law_turns" Zao 8 (spG K<|R_turn D))(Y:QC P w K mg base "_law_leaves" Zaa 5 (spG K<|R_deed D))(X:QC P w K mg base "_law_binds" Zaa 9 (spG K<|R_deed D))(p:QC P w K mg base "_law_stands" Zao 6 (spG K<|R_stand D)):QC P w K mg base "_law_deed" Zaa 11 (spG K<|R_deed D):=by
 refine CH.evG Cg (λf ts Ψ h H Q G A outer s c=>?_);cases h with
 |@mk v i r y n j N m t a b I=>
  refine#[_,(Qw (QP 3 Cg.nd<|QI q c<|av 2<|Qu Qx Qq)
 (Qw (Zb (Zx Yw (pv 3) Qx<|Zi _) (Qy<|QK<|QI l c<|av 0<|av 1<|av 2 Qq) Za)
 (Qw (Zb (Zx Jy (pv 3) Qx<|Zi _) (Qy<|QK<|QI o c<|av 0<|av 1 Qq) Za)
 (Qw (Zb (Zx Jy (pv 3) Qx<|Zi _) (Qy<|QK<|QI Y c<|av 0<|av 1<|av 2 Qq) Za)
 (Qw (Zb (Zx Yw (pv 3) Qx<|Zi _) (Qy<|QK<|QI X c<|av 0<|av 1<|av 2 Qq) Za)
 (Qy<|QK<|QI p c<|av 0<|av 1 Qq)))))),?_]
  refine Z7 (λJ=>∃k a b:Int,J=[zo v<|QM D<|hT y n j N m t,zo i<|Wq y j N m,zo r<|olP [.int a,.int b],zi k]) (JB (GD rfl Q2 (by decide)<|by decide +kernel) ?_) ?_
  .rintro k _ ⟨_,_,a,b,rfl⟩;exact#[k,a,b,rfl]
  rintro _ ⟨k,a,b,rfl⟩;have C:∀d ts,Kg D v i y n d ts->Kg D v i y n d ts/\∃F B,ts=[.own v F,.own i B]:=λd ts h=>by
   exact ak (id h) λ_ _ _ _ _ _ _ _ _ _ e=>#[h,_,_,e]
  have W:∀{E':XK},EvR K (Ys<|ZS (spG K<|R_deed D) [] E'<|tVs [0,1,2] QJ) [some _,some _,zo r<|olP [.int a,.int b],zi k] _:=KD (by decide) rfl (R_deed.mk I) C λ_ _=>#[rfl,rfl]
  by_cases E:k<4
  .exact YX (Wt (QO.cast (Zc<|ZI Qp Q2)<|Xq E) (λ_=>W) nt)
  refine Z6 (Zf (QO.cast (Zc<|ZI Qp Q2)<|Xt E) nf λ_=>Zl rfl) ?_
  by_cases z:k=4
  .refine YX (Wt (QO.cast (Zc<|Wh Qp Q2)<|Xq z) (λ_=>KD (is:=[0,1]) (by decide) rfl (R_turn.mk I) ?_ λ_ _=>#[rfl,rfl]) nt);rintro d ts ⟨e,M,L,O,g⟩;refine#[#[e,y,_,j,M,m,L,O,rfl,?_,g],_,_,g]
   split<;>lia
  refine Z6 (Zf (QO.cast (Zc<|Wh Qp Q2)<|Xt z) nf λ_=>Zl rfl) ?_
  by_cases x:k=5
  .exact YX (Wt (QO.cast (Zc<|Wh Qp Q2)<|Xq x) (λ_=>W) nt)
  refine Z6 (Zf (QO.cast (Zc<|Wh Qp Q2)<|Xt x) nf λ_=>Zl rfl) ?_
  by_cases u:k<8
  .exact YX (Wt (QO.cast (Zc<|ZI Qp Q2)<|Xq u) (λ_=>W) nt)
  refine Z6 (Zf (QO.cast (Zc<|ZI Qp Q2)<|Xt u) nf λ_=>Zl rfl)<|KD (is:=[0,1]) (by decide) rfl (R_stand.mk I) ?_ λ_ _=>#[rfl,rfl];rintro d ts ⟨e,g⟩;exact#[#[e,y,n,j,N,m,t,I,rfl,Xm _,g],_,_,g]
def Ws(D:Addr)(v i:V)(ns:Ql)(y:Yd)(n:Nat)(Y:Zbv):Prop := ∃b f c g h u,DayI b n f c g h/\b.T=y.T/\Y=[some<|.scr ns,zf<|QH y,zo v<|QM D<|hT b n f c g h,zo i<|Wq b f c g,u]
def IZ{ns:Ql}{lo E:Option Int}(h:(cut (ns.map PyData.int) lo E)[i]?=some d):∃z:Int,d=.int z:=by
 exact At (XH.mp (List.mem_of_mem_drop<|List.mem_of_mem_take<|List.mem_of_getElem? h)) λz _ e=>#[z,e.symm]
def GW:Qo ["_law_script","_law_yard_here","_law_hand","_law_day","_law_cell"] ["_law_script"] (QG Jx):=by walk_at"p"
def Ef{f:Addr}(T:Bl mg)(UH:HandC K D)(F:Fun K "law" "law" Jx f fd)(Xch:QC P w K mg base "_law_cell_at" ZaG 1 (QQ (K:=K) R_cell))(S:QC P w K mg base "_law_feed" ["_law_cell"] 1 (Zm K R_feed))(Xci:QC P w K mg base "_law_yard" ZaW 2 (spP K olP R_dyard))(Xcj:Ks P w K mg base "Hand" D ZaS 1)
(XbI:QC P w K mg base "_law_deed" Zaa 11 (spG K<|R_deed D))(R:QC P w K mg base "_law_stands" Zao 6 (spG K<|R_stand D))(Xbu:QC P w K mg base "_law_turns" Zao 8 (spG K<|R_turn D))(Xba:Z8 P w K mg base D "now" Zak 1 (Zm K<|R_hnow D)):
 FnOk P w K mg base CX0 12 f fd ["_law_script"] (Du K):=by
 refine F.evLaw GW (λL hl hb H hi cdv A outer s B=>#[_,(Qw (QP 1 GW.nd<|QI Xci B<|Qu (QI S B<|Qu (QI Xch B<|av 0<|Qu Qx Qq) Qq) Qq)
 (Qw (QP 2 GW.nd<|OQ Xcj B<|av 1 Qq)
 (Qw (QP 3 GW.nd<|Zz<|av 1<|Qu (Zz Qq)<|Qu (Zz Qq)<|Qu (Zz Qq) Qq)
 (Qw (Vu zN rfl (by exact(YZ<|Ux T6 (pv 0) (Jd Qx)<|Jd Qx)) (QT 4 GW.nd)<|by exact(Qy<|Zb (VG<|ZO<|QI XbI B<|av 2<|av 3<|Qu (QI S B<|av 4 Qq) Qq) (Qy<|QK Vj) Za))
 (Qw (Zb (VG<|ZO<|QI R B<|av 2<|av 3 Qq) (Qy<|QK Vj) Za)
 (Qw (DF zN (Zx Yw (V6 Xba UH B<|pv 2) (Q9 QA (pv 1) Qx)<|Zi _)<|Qy<|Zb (VG<|ZO<|QI Xbu B<|av 2<|av 3 Qq) (Qy<|QK Vj) Za)
 (Qw (Zb (PW.pt<|YQ (VG<|ZO<|QI Xbu B<|av 2<|av 3 Qq)<|WU<|VG<|ZO<|QI R B<|av 2<|av 3 Qq) (Qy<|QK Vj) Za)
 (Qw (Vu zN rfl (by exact(YZ<|Ux T6 (pv 0) (Jd Qx)<|Jd Qx)) (QT 4 GW.nd)<|by exact(Qy<|Zb (VG<|ZO<|QI XbI B<|av 2<|av 3<|Qu (QI S B<|av 4 Qq) Qq) (Qy<|QK Vj) Za))
 (Qy<|QK<|QI R B<|av 2<|av 3 Qq))))))))),?_])
 walk_at"x";refine QL (Jb (Zmr (Φ:=λr=>∃y:Yd,y.Ok/\r=.fz (QH y)) (JA (Qv (Zk (Pw rfl (Qv Q2 Q5))<|R_cell.mk<|by decide) Q5) R_feed.mk) Q5 λr N=>?_) λr N=>?_)
 .apply aN N;rintro a b rfl;refine#[_,_,rfl,R_dyard.mk,?_];rintro r ds' ⟨y,ok,_,e⟩;exact#[y,ok,e]
 apply At N;rintro y ok rfl;refine QL (Mw (OV Qp) λv=>QL (Mw (E4 Qp) λj=>?_))
 have G:∀{a b:OwnP} {d:PyData} {ts:List OT} {n:Nat} {u:V} {Φ:OwnP} {rs:List OT},(∃Φ E,ts=[.own v Φ,.own j E])->ts[n]?=some (.own u Φ)->∃E,(.own v a::.own j b::rs)[n]?=some (.own u E):=λ{a b d ts n u Φ rs} h e=>by
  apply aN h;rintro Φ2 Φ3 rfl
  match n,e with
  |0,e=>cases e;exact#[_,rfl]
  |1,e=>cases e;exact#[_,rfl]
 have Z:∀{n:Nat} {Y:Zbv} {te:TE} {E':XK},Ws D v j L y n Y->Z5 K te Y (λr=>∃a b:Int,r=.ol [.int a,.int b])->EvN K (ZS (spG K<|R_deed D) [] E'<|tVs [2,3]<|QE te QJ) Y (λd J=>d=.bool true/\∃n,Ws D v j L y n J):=λ{n Y te E'} h C=>by
  apply am h;rintro W X p l q u I o rfl;refine OZ (ts:=[.own v<|QM D<|hT W n X p l q,.own j<|Wq W X p l]) (by decide) rfl C λr w N=>?_;apply aN N;rintro a b rfl;refine#[.own w<|olP [.int a,.int b],_,λ_ _ _ z=>#[rfl,z],R_deed.mk I,λd ts n u Φ h e=>G (d:=d) ?_ e,λd ts h=>?_]
  .exact ak h λ_ _ _ _ _ _ _ _ _ _ e=>#[_,_,e]
  .apply ak h;rintro rfl y2 n2 gs2 Q go2 O I2 e2 _ rfl;exact#[rfl,n2,y2,gs2,Q,go2,O,_,I2,e2.trans o,rfl]
 have g:∀{n:Nat} {Y:Zbv} {E':XK},Ws D v j L y n Y->EvN K (ZS (spG K<|R_stand D) [] E'<|tVs [2,3] QJ) Y (λd J=>d=.bool true/\Ws D v j L y n J):=λ{n Y E'} h=>by
  apply am h;rintro W X p l q u I o rfl;refine D2 (by decide) rfl (R_stand.mk I) (λd ts n u Φ h e=>G (d:=d) #[_,_,h.2] e) λd ts h=>?_;obtain⟨rfl,rfl⟩:=h
  exact#[rfl,W,X,p,l,q,_,I,o,rfl]
 have M:∀{n:Nat} {Y:Zbv} {E':XK},Ws D v j L y n Y->EvN K (ZS (spG K<|R_turn D) [] E'<|tVs [2,3] QJ) Y (λd J=>d=.bool true/\Ws D v j L y (if n<y.T then n+1 else n) J):=λ{n Y E'} h=>by
  apply am h;rintro W X p l q u I o rfl;refine D2 (by decide) rfl (R_turn.mk I) (λd ts n u Φ h e=>G (d:=d) (by exact By h λ_ _ _ _ e=>#[_,_,e]) e) λd ts h=>?_;apply By h;rintro rfl Q O I2 rfl;rw[o]at I2 ⊢;exact#[rfl,W,X,Q,l,O,_,I2,o,rfl]
 have t:∀{k:Int} {n:Nat} {Y:Zbv} {CH:PEnds} {E1 E2:XK} {t1:TS},Ws D v j L y n Y->(∀n J,Ws D v j L y n J->CH.nx J)->QB K (UE (Di K<|tSl (HV K) (Q3 0) (Da<|tC<|.int 1)<|Da<|tC<|.int k) (ZM 4)<|YB (JS<|tB<|ZS (spG K<|R_deed D) [] E1<|QE (Q3 2)<|QE (Q3 3)<|QE (ZS (Zm K R_feed) [] E2<|QE (Q3 4) QJ) QJ) t1 Kn) Y CH:=λ{k n Y CH E1 E2 t1} h hn=>by
  apply am h;rintro W X p l q u I o rfl;refine Ya (λi J=>∃n,Ws D v j L y n J) (Ja<|EvO.fz<|Ag rfl (J9 Q2)<|J9 Q2) #[n,h] ?_<|by rintro J ⟨n,h⟩;exact hn n J h
  rintro i d _ hd ⟨n,W,X,p,l,q,u,I,o,rfl⟩;obtain⟨z,rfl⟩:=IZ hd;refine#[_,Zr,Bk (s:=λte=>YB (JS<|tB te) _ _) (Z #[W,X,p,l,q,_,I,o,rfl]<|(λh=>JA (Qv h Q5) R_feed.mk) Qp) (λ_ _ _ _ _ _ h=>h _ λ_ _ z=>z) ?_];rintro _ w J ⟨rfl,n,h⟩ C;cases C;exact Zf (b:=false) (VD (b:=true)<|ZH Wu) nf (λ_=>Zl #[n,h])
 refine QL (t (#[y,[],[],[],[],none,#[ok,(by rintro x ⟨⟩),rfl,(λk U=>Xv U<|Nat.not_lt_zero _),XJ _,Zo5 ok,XJ _,rfl,(by rintro k ⟨⟩),Gz,(by rintro k ⟨⟩)],rfl,rfl]) λn J h=>QL (Bk (s:=λte=>YB (JS<|tB te) _ _) (g h) (λ_ _ _ _ _ _ h=>h _ λ_ _ z=>z) ?_));rintro _ w J ⟨rfl,h⟩ C;cases C;refine Zf (b:=false) (VD (b:=true)<|ZH Wu) nf (λ_=>Zl (QL (DB (λm J=>∃n,m=y.T-n/\Ws D v j L y n J) _ #[n,rfl,h] ?ws)))
 case ws=>
  rintro m J ⟨n,rfl,h⟩;have h0:=h;apply am h;rintro W X p l q u I o rfl;refine#[decide ((n:Int)<(y.T:Int)),Bp 2 rfl (Zc<|ZI (Gh UV rfl Q5 R_hnow.mk)<|Vc Qp Q2 rfl),λc=>?_,λc=>?_]
  .refine Bk (s:=λte=>YB (JS<|tB te) _ _) (M h) (λ_ _ _ _ _ _ h=>h _ λ_ _ z=>z) ?_;rintro _ w J ⟨rfl,h⟩ C;cases C;rw[Xe (show n<y.T by lia)]at h;exact Zf (b:=false) (VD (b:=true)<|ZH Wu) nf (λ_=>Zl #[_,#[],n+1,rfl,h])
  .refine QL (Bk (s:=λte=>YB (tOr (JS<|tB te) _) _ _) (M h) (λ_ _ _ _ _ _ h=>h _ λ_ _ z=>z) ?_);rintro _ w J ⟨rfl,h⟩ C;cases C;refine Ed (VD<|ZH Wu) (Bk (s:=λte=>YB (JS<|tB te) _ _) (g h) (λ_ _ _ _ _ _ h=>h _ λ_ _ z=>z) ?_);rintro _ w J ⟨rfl,h⟩ C;cases C;refine Zf (b:=false) (VD<|ZH Wu) nf (λ_=>Zl (QL (t h λn J h=>Bk (g h) (λ_ _ _ _ _ _ h=>h _ λ_ _ z=>z) ?_)));rintro _ w J ⟨rfl,_⟩ C;cases C;exact Vq Wu rfl
end
inductive DH(K:W.Frag)(x:Str)(st:Stmt):Prop
 |mk {f:Addr}{oc kV dc pm cd ct:Value}{od an:Qj}{sl:Array (Qf)}(a:W.nsIn K mainGlobals x=some (some<|.ref f))(l:K.lookup f=some #[oc,od,.func<|W.fnOf x x (YG st) (Yy st) (QG st) .none kV dc pm an cd ct,sl])(c:W.codeIn K cd x=true)(k:W.keepIn K (.ref f)=true):DH K x st
def DH.df{x:Str}{st:Stmt}(X:K.In h)(G:h.Ns mainGlobals mg)(H:DH K x st)(g:∀(z:Value×Value×Value×Qj×Value×Value) (us:Qe),us.length=ps.length->bindArgs (W.fnOf x x (YG st) (Yy st) (QG st) .none z.1 z.2.1 z.2.2.1 z.2.2.2.1 z.2.2.2.2.1 z.2.2.2.2.2) #[us,[]]=pure (ps.zip us)):Df K mg x st ps:=by
 cases H with
 |mk a l c k=>exact#[_,_,J0 l c k,W.mg_of X G a,(J0 l c k).binds λkV i b m cd j us f=>g (kV,i,b,m,cd,j) us f]
inductive MH(K:W.Frag)(C:Addr)(m q:Str)(st:Stmt):Prop
 |mk {f:Addr}{oc kV dc pm cd ct:Value}{od an:Qj}{sl:Array (Qf)}(a:W.findIn K (.ref C) m=some (some<|.ref f))(i:W.isFn K (.ref f)=true)(l:K.lookup f=some #[oc,od,.func<|W.fnOf m q (YG st) (Yy st) (QG st) .none kV dc pm an cd ct,sl])(c:W.codeIn K cd q=true)(k:W.keepIn K (.ref f)=true):MH K C m q st
def MH.mf{q:Str}{st:Stmt}(H:MH K C m q st)(g:∀(z:Value×Value×Value×Qj×Value×Value) (us:Qe),us.length=ps.length->bindArgs (W.fnOf m q (YG st) (Yy st) (QG st) .none z.1 z.2.1 z.2.2.1 z.2.2.2.1 z.2.2.2.2.1 z.2.2.2.2.2) #[us,[]]=pure (ps.zip us)):Mf K C m q st ps:=by
 cases H with
 |mk a i l c k=>exact#[_,_,J0 l c k,#[a,i,k],(J0 l c k).binds λkV h b s cd j us f=>g (kV,h,b,s,cd,j) us f]
@[elab_as_elim] theorem ln1{α:Type}{p:List α->Prop}{us:List α}(h:us.length=1)(k:∀a0,p [a0]):p us:=by
 match us,h with
 |[a0],_=>exact k a0
@[elab_as_elim] theorem ln2{α:Type}{p:List α->Prop}{us:List α}(h:us.length=2)(k:∀a0 a1,p [a0,a1]):p us:=by
 match us,h with
 |[a0,a1],_=>exact k a0 a1
@[elab_as_elim] theorem ln3{α:Type}{p:List α->Prop}{us:List α}(h:us.length=3)(k:∀a0 a1 a2,p [a0,a1,a2]):p us:=by
 match us,h with
 |[a0,a1,a2],_=>exact k a0 a1 a2
@[elab_as_elim] theorem ln4{α:Type}{p:List α->Prop}{us:List α}(h:us.length=4)(k:∀a0 a1 a2 a3,p [a0,a1,a2,a3]):p us:=by
 match us,h with
 |[a0,a1,a2,a3],_=>exact k a0 a1 a2 a3
def Zwc   {fa z E:Addr}(X:K.In h)(G:h.Ns mainGlobals mg)(hfa:mg "law"=some (.ref fa))
{cg i:Addr}
{B CR fR:Addr}{odR anR:Qj}{slR:Array (Qf)}{kVR dcR pmR cdR ctR:Value}
{f fQ:Addr}{odQ anQ:Qj}{slQ:Array (Qf)}{kVQ dcQ pmQ cdQ ctQ:Value}
{F k d:Addr}{od48 x od69 an69 od70 an70 dS dE:Qj}{sl48 sl69 sl70 slS slE:Array (Qf)}{oc48 p q o L r oc69 kV69 dc69 pm69 u ct69 oc70 kV70 dc70 pm70 t ct70:Value}{tS tE nS nE:Nat}
(aC:W.nsIn K mainGlobals "Net"=some (some<|.ref C))
(aH:W.nsIn K mainGlobals "Hand"=some (some<|.ref D))
(h0:DH K "is_whole" R7)
(h1:DH K "is_whole_within" Ss)
(h2:DH K "is_amount" RF)
(h3:DH K "is_tuple_of" RW)
(h4:DH K "is_guest" R6)
(h5:DH K "turns_of" RA)
(h6:DH K "line_count" RZ)
(h7:DH K "above_of" R9)
(h8:DH K "bound_at" Rw)
(h9:DH K "line_of" NY)
(h10:DH K "is_there" Rv)
(h11:DH K "want_of" Rq)
(h12:DH K "most_of" Rl)
(h13:DH K "with_want" RH)
(h14:DH K "staying_from" Sn)
(h15:DH K "with_bound" Sb)
(h16:DH K "guest_node" Sf)
(h17:DH K "line_node" RO)
(h18:DH K "lay_guest" RG)
(h19:DH K "lay_turn" RB)
(h20:DH K "filled_net" Sg)
(h21:DH K "takes_by" Hd)
(h22:DH K "greatest_filling" HA)
(h23:DH K "guests_reached" Hx)
(h24:DH K "reaching_at" Hn)
(h25:DH K "given_at" Ry)
(h26:DH K "given_most" Ht)
(h27:DH K "short_of" Hb)
(h28:DH K "best_filling" Sm)
(h29:DH K "lacking_set" Si)
(h30:DH K "refuse_lack" RU)
(h31:DH K "_law_cell_at" Sl)
(h32:DH K "_law_feed" RJ)
(h33:DH K "_law_digit" Sc)
(h34:DH K "_law_yard" RL)
(h35:DH K "_law_guest" Hu)
(h36:DH K "_law_passes" RT)
(h37:DH K "_law_short" Hq)
(h38:DH K "_law_shows" Sh)
(h39:DH K "_law_come" B3)
(h40:DH K "_law_borne" Hw)
(h41:DH K "_law_with" RD)
(h42:DH K "_law_comes" Sa)
(h43:DH K "_law_turns" RY)
(h44:DH K "_law_leaves" RS)
(h45:DH K "_law_binds" Sd)
(h46:DH K "_law_stands" Hl)
(h47:DH K "_law_deed" RP)
(a48:W.nsIn K mainGlobals "law"=some (some<|.ref F))
(l48:K.lookup F=some #[oc48,od48,.func<|W.fnOf "law" "law" (YG Jx) (Yy Jx) (QG Jx) .none p q o x L r,sl48])
(c48:W.codeIn K L "law"=true)
(k48:W.keepIn K (.ref F)=true)
(m49:MH K C "lay" "Net.lay" Rp)
(m50:MH K C "lay_one" "Net.lay_one" Sk)
(m51:MH K C "flow" "Net.flow" Rt)
(m52:MH K C "reached" "Net.reached" Sj)
(m53:MH K C "push" "Net.push" Ha)
(m54:MH K C "fill" "Net.fill" Rs)
(m55:MH K C "way_to" "Net.way_to" Se)
(m56:MH K D "now" "Hand.now" R0)
(m57:MH K D "come" "Hand.come" Hj)
(m58:MH K D "turn" "Hand.turn" RM)
(m59:MH K D "leave" "Hand.leave" RX)
(m60:MH K D "got" "Hand.got" R4)
(m61:MH K D "rest" "Hand.rest" RC)
(m62:MH K D "set_bound" "Hand.set_bound" Hy)
(m63:MH K D "open_ones" "Hand.open_ones" Hz)
(m64:MH K D "gifts" "Hand.gifts" Hv)
(m65:MH K D "yard_now" "Hand.yard_now" Sq)
(m66:MH K D "still_there" "Hand.still_there" Su)
(m67:MH K D "refuse_past" "Hand.refuse_past" Sv)
(m68:MH K D "refuse_number" "Hand.refuse_number" Sr)
(a69:W.findIn K (.ref C) "__init__"=some (some<|.ref k))
(i69:W.isFn K (.ref k)=true)
(l69:K.lookup k=some #[oc69,od69,.func<|W.fnOf "__init__" "Net.__init__" (YG B7) (Yy B7) (QG B7) .none kV69 dc69 pm69 an69 u ct69,sl69])
(c69:W.codeIn K u "Net.__init__"=true)
(k69:W.keepIn K (.ref k)=true)
(a70:W.findIn K (.ref D) "__init__"=some (some<|.ref d))
(i70:W.isFn K (.ref d)=true)
(l70:K.lookup d=some #[oc70,od70,.func<|W.fnOf "__init__" "Hand.__init__" (YG B8) (Yy B8) (QG B8) .none kV70 dc70 pm70 an70 t ct70,sl70])
(c70:W.codeIn K t "Hand.__init__"=true)
(k70:W.keepIn K (.ref d)=true)
(pg:W.plainGet K C Str.empty=true)
(hd:W.hasDictIn K C=true)
(po:W.plainOver K C=true)
(sa:W.findIn K (.ref C) "__setattr__"=some (some<|.builtin "object.__setattr__"))
(mk:W.makesIn K C=true)
(kc:W.keepIn K (.ref C)=true)
(Hpg:W.plainGet K D Str.empty=true)
(Hhd:W.hasDictIn K D=true)
(Hpo:W.plainOver K D=true)
(Hsa:W.findIn K (.ref D) "__setattr__"=some (some<|.builtin "object.__setattr__"))
(Hmk:W.makesIn K D=true)
(Hkc:W.keepIn K (.ref D)=true)
(Hn0:W.findIn K (.ref D) "yard"=some none)
(Hn1:W.findIn K (.ref D) "present"=some none)
(Hn2:W.findIn K (.ref D) "known"=some none)
(Hn3:W.findIn K (.ref D) "given"=some none)
(Hn4:W.findIn K (.ref D) "gone"=some none)
(Hn5:W.findIn K (.ref D) "made"=some none)
(n0:W.findIn K (.ref C) "ends"=some none)
(n1:W.findIn K (.ref C) "rooms"=some none)
(n2:W.findIn K (.ref C) "leaving"=some none)
(n3:W.findIn K (.ref C) "laid"=some none)
(aS:W.nsIn K mainGlobals "START"=some (some<|.ref z))
(lS:K.lookup z=some #[.type "tuple",dS,.seq (List.toArray [.str "start" tS]) nS,slS])
(aE:W.nsIn K mainGlobals "END"=some (some<|.ref E))
(lE:K.lookup E=some #[.type "tuple",dE,.seq (List.toArray [.str "end" tE]) nE,slE])
(rC:W.nsIn K mainGlobals "NoRoom"=some (some<|.ref CR))
(rY:W.nsIn K mainGlobals "YardError"=some (some<|.ref B))
(rf:W.findIn K (.ref CR) "__init__"=some (some<|.ref fR))
(rl:K.lookup fR=some #[.type "function",odR,.func<|W.fnOf "__init__" "NoRoom.__init__" (YG B4) (Yy B4) (QG B4) .none kVR dcR pmR anR cdR ctR,slR])
(rc:W.codeIn K cdR "NoRoom.__init__"=true)
(rk:W.keepIn K (.ref fR)=true)
(rx:Dv K CR fR=true)
(rg:W.specialIn K (.ref B) "__getattribute__"=some (some<|.builtin "type.__getattribute__"))
(rr:W.readsIn K B (.type "type")=true)
(ri:W.findCls K (.ref B) (.type "type") "__init__"=some (.val<|.builtin "ValueError.__init__"))
(rs:W.findIn K (.ref CR) "__setattr__"=some (some<|.builtin "object.__setattr__"))
(ro:((W.clsIn K CR).any λcd=>WZ cd.mro)=true)
(xa0:W.nsIn K mainGlobals "NoGuest"=some (some<|.ref cg))
(xa1:W.nsIn K mainGlobals "NoTime"=some (some<|.ref i))
(xe:W.exmOne K (.ref CR) (.ref B)=some true)
(xp:W.findIn K (.ref CR) "__getattribute__"=some (some<|.builtin "BaseException.__getattribute__"))
(xn:W.findIn K (.ref CR) "some"=some none)
(xq:W.findIn K (.ref CR) "__getattr__"=some none)
(xb:W.mroIn K CR (.type "BaseException")=some true)
(xc:W.findIn K (.ref CR) "__class__"=some (some<|.builtin "object.__class__"))
(xs:W.specialIn K (.builtin "object.__class__") "__get__"=some (some<|.builtin "getset_descriptor.__get__"))
(xt:W.takesIn K (.builtin "object.__class__")=some true)
(xm:W.mroIn K CR (.type "object")=some true)
(xk1:W.kitOne K (.ref CR) (.ref CR)=some true)
(xk2:W.kitOne K (.ref CR) (.type "ValueError")=some true)
(xk3:W.kitOne K (.ref CR) (.ref cg)=some false)
(xk4:W.kitOne K (.ref CR) (.ref i)=some false)
(rd:W.hasDictIn K CR=true)
(rt:W.takerIn K CR "some"=some none)
(rK:W.keepIn K (.ref CR)=true)
(qC:W.nsIn K mainGlobals "NoNumber"=some (some<|.ref f))
(qf:W.findIn K (.ref f) "__init__"=some (some<|.ref fQ))
(ql:K.lookup fQ=some #[.type "function",odQ,.func<|W.fnOf "__init__" "NoNumber.__init__" (YG B5) (Yy B5) (QG B5) .none kVQ dcQ pmQ anQ cdQ ctQ,slQ])
(qc:W.codeIn K cdQ "NoNumber.__init__"=true)
(qk:W.keepIn K (.ref fQ)=true)
(qx:Dv K f fQ=true)
(qs:W.findIn K (.ref f) "__setattr__"=some (some<|.builtin "object.__setattr__"))
(qo:((W.clsIn K f).any λcd=>WZ cd.mro)=true)
(qd:W.hasDictIn K f=true)
(qt:W.takerIn K f "number"=some none)
(qK:W.keepIn K (.ref f)=true)
(qe:W.exmOne K (.ref f) (.ref B)=some true)
(qp:W.findIn K (.ref f) "__getattribute__"=some (some<|.builtin "BaseException.__getattribute__"))
(qn:W.findIn K (.ref f) "number"=some none)
(qq:W.findIn K (.ref f) "__getattr__"=some none)
(qb:W.mroIn K f (.type "BaseException")=some true)
(qcl:W.findIn K (.ref f) "__class__"=some (some<|.builtin "object.__class__"))
(qm:W.mroIn K f (.type "object")=some true)
(qk1:W.kitOne K (.ref f) (.ref f)=some true)
(qk2:W.kitOne K (.ref f) (.type "ValueError")=some true)
(tx:KQ K i=true)
(tK:W.keepIn K (.ref i)=true)
(ptt:W.exmOne K (.ref i) (.ref i)=some true)
(pqq:W.exmOne K (.ref f) (.ref f)=some true)
(ptg:W.kitOne K (.ref i) (.ref cg)=some false)
(ptr:W.kitOne K (.ref i) (.ref CR)=some false)
(te:W.exmOne K (.ref i) (.ref B)=some true)
(tp:W.findIn K (.ref i) "__getattribute__"=some (some<|.builtin "BaseException.__getattribute__"))
(tq:W.findIn K (.ref i) "__getattr__"=some none)
(tb:W.mroIn K i (.type "BaseException")=some true)
(td:W.hasDictIn K i=true)
(tcl:W.findIn K (.ref i) "__class__"=some (some<|.builtin "object.__class__"))
(tm:W.mroIn K i (.type "object")=some true)
(tk1:W.kitOne K (.ref i) (.ref i)=some true)
(tk2:W.kitOne K (.ref i) (.type "ValueError")=some true)
(z0:W.nsIn K mainGlobals "abs"=some none)
(z1:W.nsIn K mainGlobals "len"=some none)
(z2:W.nsIn K mainGlobals "max"=some none)
(z3:W.nsIn K mainGlobals "min"=some none)
(z4:W.nsIn K mainGlobals "sum"=some none)
(z5:W.nsIn K mainGlobals "any"=some none)
(z6:W.nsIn K mainGlobals "all"=some none)
(z7:W.nsIn K mainGlobals "isinstance"=some none)
(z8:W.nsIn K mainGlobals "int"=some none)
(z9:W.nsIn K mainGlobals "bool"=some none)
(z10:W.nsIn K mainGlobals "list"=some none)
(z11:W.nsIn K mainGlobals "tuple"=some none)
(z12:W.nsIn K mainGlobals "range"=some none)
(z13:W.nsIn K mainGlobals "zip"=some none)
(z14:W.nsIn K mainGlobals "enumerate"=some none)
(z15:W.nsIn K mainGlobals "dict"=some none)
(z16:W.nsIn K mainGlobals "ValueError"=some none)
(z17:W.nsIn K mainGlobals "sorted"=some none)
(z18:W.nsIn K mainGlobals "set"=some none)
 : (∃z E,W.nsIn K mainGlobals "START"=some (some<|.ref z)/\W.nsIn K mainGlobals "END"=some (some<|.ref E)/\KTup K z "start" /\ KTup K E "end")/\∃fd:FuncData,(∀(s:Shared) (v:Value),BindsTo s fd #[[v],[]] [("_law_script",v)])/\∀base:Heap,K.In base->base.Ns mainGlobals mg->FnOk P w K mg base CX0 12 fa fd ["_law_script"] (Du K):=by
 cases (hfa.symm.trans (W.mg_of X G a48));have T:Bl mg:=#[W.mg_none_of X G z0,W.mg_none_of X G z1,W.mg_none_of X G z2,W.mg_none_of X G z3,W.mg_none_of X G z4,W.mg_none_of X G z5,W.mg_none_of X G z6,W.mg_none_of X G z7,W.mg_none_of X G z8,W.mg_none_of X G z9,W.mg_none_of X G z10,W.mg_none_of X G z11,W.mg_none_of X G z12,W.mg_none_of X G z13,W.mg_none_of X G z14,W.mg_none_of X G z15,W.mg_none_of X G z16,W.mg_none_of X G z17,W.mg_none_of X G z18];have m:Tx K mg C z E:=#[#[#[pg,hd,po,sa],n0,n1,n2,n3],W.mg_of X G aS,W.mg_of X G aE,aS,aE];have g:HandC K D:=#[#[Hpg,Hhd,Hpo,Hsa],Hn0,Hn1,Hn2,Hn3,Hn4,Hn5];have XR:XC K mg "NoRoom" B CR fR:=#[Tq rx rl rfl rg rr ri,rK,W.mg_of X G rC];have XA:SA K mg B CR cg i:=#[xe,W.mg_of X G rY,#[#[xp,xq,xb],rd],xn,#[#[xp,xq,xb],rd,xc,xs,xt,xm],xk1,xk2,xk3,xk4,W.mg_of X G xa0,W.mg_of X G xa1];have Xck:=J0 (st:=B4) rl rc rk;have XQ:XC K mg "NoNumber" B f fQ:=#[Tq qx ql rfl rg rr ri,qK,W.mg_of X G qC];have Xcl:=J0 (st:=B5) ql qc qk;have XZ:HM K mg "NoTime" i:=#[AR tx,tK,W.mg_of X G xa1];have XP:MK K CR cg i f:=#[ptt,pqq,ptg,ptr];have XY:S9 K mg B i:=#[te,W.mg_of X G rY,#[#[tp,tq,tb],td,tcl,xs,xt,tm],tk1,tk2];have Xcm:=J0 (st:=B7) l69 c69 k69;have Xcn:=J0 (st:=B8) l70 c70 k70;refine#[#[z,E,aS,aE,#[_,_,_,_,lS],#[_,_,_,_,lE]],W.fnOf "law" "law" (YG Jx) (Yy Jx) (QG Jx) .none p q o x L r,λs v=>.of_eq rfl,λbase _ _=>?_];have a:=O9 (P:=P) (w:=w) (base:=base) T (h33.df X G λ_ c b=>ln2 b λ_ _=>rfl);have Y:=Ev (P:=P) (w:=w) (base:=base) T g (m56.mf λ_ c b=>ln1 b λ_=>rfl);have Z:=Zp2 T (h1.df X G λ_ c b=>ln3 b λ_ _ _=>rfl) (Zot (P:=P) (w:=w) (base:=base) T (h0.df X G λ_ c b=>ln1 b λ_=>rfl));have S:=Zr4 (P:=P) (w:=w) (base:=base) T (h6.df X G λ_ c b=>ln1 b λ_=>rfl);have y:=Ow (P:=P) (w:=w) (base:=base) T (h5.df X G λ_ c b=>ln1 b λ_=>rfl);have Xbs:=Zoq T (h4.df X G λ_ c b=>ln2 b λ_ _=>rfl) (ZrU (P:=P) (w:=w) (base:=base) T (h3.df X G λ_ c b=>ln2 b λ_ _=>rfl)) Z S y (ZlX T (h2.df X G λ_ c b=>ln2 b λ_ _=>rfl) Z);have N:=OA (P:=P) (w:=w) (base:=base) T g XZ (m67.mf λ_ c b=>ln2 b λ_ _=>rfl);have Xbp:=CZ T m (m49.mf λ_ c b=>ln4 b λ_ _ _ _=>rfl) (EO (P:=P) (w:=w) (base:=base) T m (m50.mf λ_ c b=>ln4 b λ_ _ _ _=>rfl));have Q:=EL (P:=P) (w:=w) (base:=base) T (h11.df X G λ_ c b=>ln1 b λ_=>rfl);have O:=Zrz (P:=P) (w:=w) (base:=base) T (h16.df X G λ_ c b=>ln1 b λ_=>rfl);have Xbv:=O7 (P:=P) (w:=w) (base:=base) T (h10.df X G λ_ c b=>ln2 b λ_ _=>rfl);have Xbw:=Il (P:=P) (w:=w) (base:=base) T (h12.df X G λ_ c b=>ln1 b λ_=>rfl);have U:=Zrr (P:=P) (w:=w) (base:=base) T (h17.df X G λ_ c b=>ln2 b λ_ _=>rfl);have J:=Zp3 (P:=P) (w:=w) (base:=base) T (h9.df X G λ_ c b=>ln1 b λ_=>rfl);have R:=ZrA (P:=P) (w:=w) (base:=base) T (h8.df X G λ_ c b=>ln3 b λ_ _ _=>rfl);have I:=IU (P:=P) (w:=w) (base:=base) T (h7.df X G λ_ c b=>ln2 b λ_ _=>rfl);have Xbr:=Zn8 (P:=P) (w:=w) (base:=base) T m (m52.mf λ_ c b=>ln2 b λ_ _=>rfl);have Xbx:=ZoX T m (h20.df X G λ_ c b=>ln2 b λ_ _=>rfl) (#[_,_,#[mk,a69,i69,kc],W.mg_of X G aC,Xcm.binds (ps:=Zak) λ_ _ _ _ _ _ c b=>ln1 b λ_=>rfl,Al (P:=P) (w:=w) (base:=base) T m Xcm]) (ZqF T m (h18.df X G λ_ c b=>ln4 b λ_ _ _ _=>rfl) Xbp Q O y Xbv Xbw U J) y (Zrs T m (h19.df X G λ_ c b=>ln3 b λ_ _ _=>rfl) Xbp R U S I) (Eh T m (m54.mf λ_ c b=>ln3 b λ_ _ _=>rfl) Xbr (IF (P:=P) (w:=w) (base:=base) T m (m53.mf λ_ c b=>ln2 b λ_ _=>rfl)) (AX (P:=P) (w:=w) (base:=base) T m (m55.mf λ_ c b=>ln3 b λ_ _ _=>rfl)));have l:=Zp8 T XR (h30.df X G λ_ c b=>ln2 b λ_ _=>rfl) (Ih T (h29.df X G λ_ c b=>ln2 b λ_ _=>rfl) (Zmd T m (h23.df X G λ_ c b=>ln2 b λ_ _=>rfl) Xbx Xbr O)) (Zrv T (h27.df X G λ_ c b=>ln3 b λ_ _ _=>rfl) Q (ZpF T (h26.df X G λ_ c b=>ln3 b λ_ _ _=>rfl) y (Oj T (h25.df X G λ_ c b=>ln4 b λ_ _ _ _=>rfl) (Zms T (h24.df X G λ_ c b=>ln4 b λ_ _ _ _=>rfl) S Xbv J Xbw I R) R))) (#[_,Xck.binds (ps:=ZaR) λ_ _ _ _ _ _ c b=>ln2 b λ_ _=>rfl,Zq7 (P:=P) (w:=w) (base:=base) T Xck XR.cl #[rs,ro,rd] rt<|W.mg_of X G rY]);have Xbn:GL P w K mg base fQ Zab 1 (Bj f "number"):=#[_,Xcl.binds (ps:=Zab) λ_ _ _ _ _ _ c b=>ln2 b λ_ _=>rfl,ZpJ (P:=P) (w:=w) (base:=base) T Xcl XQ.cl #[qs,qo,qd] qt<|W.mg_of X G rY];have Xbe:=EC T g XQ (m68.mf λ_ c b=>ln2 b λ_ _=>rfl) Z Xbn;have H:=Zrq T g (m61.mf λ_ c b=>ln2 b λ_ _=>rfl) Xbe Q;have M:=Zq1 T g (m66.mf λ_ c b=>ln1 b λ_=>rfl) (IV (P:=P) (w:=w) (base:=base) T (h13.df X G λ_ c b=>ln2 b λ_ _=>rfl)) (EZ (P:=P) (w:=w) (base:=base) T (h14.df X G λ_ c b=>ln2 b λ_ _=>rfl)) H;have Xbz:=Zql T (h38.df X G λ_ c b=>ln4 b λ_ _ _ _=>rfl) (Ah T (h37.df X G λ_ c b=>ln4 b λ_ _ _ _=>rfl) (ZrV (P:=P) (w:=w) (base:=base) T (h36.df X G λ_ c b=>ln4 b λ_ _ _ _=>rfl)));have Xby:=Zph (P:=P) (w:=w) (base:=base) T g (m64.mf λ_ c b=>ln1 b λ_=>rfl);have Xbu:=ZqO T g XZ XP (h43.df X G λ_ c b=>ln2 b λ_ _=>rfl) Y (ZrL T g (m58.mf λ_ c b=>ln1 b λ_=>rfl) N y (Em T (h28.df X G λ_ c b=>ln2 b λ_ _=>rfl) (On T m (h22.df X G λ_ c b=>ln2 b λ_ _=>rfl) Xbx (ZrS T m (h21.df X G λ_ c b=>ln4 b λ_ _ _ _=>rfl) y (EI (P:=P) (w:=w) (base:=base) T m (m51.mf λ_ c b=>ln3 b λ_ _ _=>rfl)) U J O))) M) Xby (ZpQ (P:=P) (w:=w) (base:=base) T (h40.df X G λ_ c b=>ln4 b λ_ _ _ _=>rfl));have Xbt:=Ov T (h15.df X G λ_ c b=>ln4 b λ_ _ _ _=>rfl) I;have Xbq:=ZnI T g (h46.df X G λ_ c b=>ln2 b λ_ _=>rfl) Y (Ox (P:=P) (w:=w) (base:=base) T g (m65.mf λ_ c b=>ln1 b λ_=>rfl)) Xby H (Ic T g (m60.mf λ_ c b=>ln2 b λ_ _=>rfl) Xbe) (Ot T g (m63.mf λ_ c b=>ln1 b λ_=>rfl) H);exact Ef T g (J0 (st:=Jx) l48 c48 k48) (IJ (P:=P) (w:=w) (base:=base) T (h31.df X G λ_ c b=>ln2 b λ_ _=>rfl)) (IH (P:=P) (w:=w) (base:=base) T (h32.df X G λ_ c b=>ln1 b λ_=>rfl)) (OH T (h34.df X G λ_ c b=>ln1 b λ_=>rfl) a) (#[_,_,#[Hmk,a70,i70,Hkc],W.mg_of X G aH,Xcn.binds (ps:=ZaS) λ_ _ _ _ _ _ c b=>ln2 b λ_ _=>rfl,En (P:=P) (w:=w) (base:=base) T g Xcn]) (Oc T (h47.df X G λ_ c b=>ln3 b λ_ _ _=>rfl) a (Zqm T g (h42.df X G λ_ c b=>ln3 b λ_ _ _=>rfl) (Zoz T (h35.df X G λ_ c b=>ln3 b λ_ _ _=>rfl) a) Y (ZrH T g XR XA XY XP (h39.df X G λ_ c b=>ln2 b λ_ _=>rfl) (Zr1 T g XR (m57.mf λ_ c b=>ln2 b λ_ _=>rfl) Xbs N l M) (Zoi T g (m57.mf λ_ c b=>ln2 b λ_ _=>rfl) Xbs N l M)) Xbz) Xbu (ZnU T g XQ (#[qe,W.mg_of X G rY,#[#[qp,qq,qb],qd],qn,#[#[qp,qq,qb],qd,qcl,xs,xt,qm],qk1,qk2]) XP (h44.df X G λ_ c b=>ln3 b λ_ _ _=>rfl) a (ZqT T g XQ (m59.mf λ_ c b=>ln2 b λ_ _=>rfl) Xbe Xbn)) (Zo3 T g XR XA XY XP (h45.df X G λ_ c b=>ln3 b λ_ _ _=>rfl) a (IT (P:=P) (w:=w) (base:=base) T (h41.df X G λ_ c b=>ln4 b λ_ _ _ _=>rfl)) (Ej T g XR (m62.mf λ_ c b=>ln4 b λ_ _ _ _=>rfl) N Xbt l M) (Zp5 T g (m62.mf λ_ c b=>ln4 b λ_ _ _ _=>rfl) N Xbt l M) Y Xbz) Xbq) Xbq Xbu Y
end My
namespace PySem.W.Fast
local macro_rules|`(unseal $x*)=>do return Lean.mkNullNode (<-x.mapM λx=>do return(<-`(def $x:ident:=0)).raw)
unseal tw4924133556419454968 tw120146770823046853 tw17090847005521239378 tw1611637967604746855 tw10972388507468131384 tw8427086165385273088 tw13922248169578177172 tw12596299579492663558 tw12827735164268514754 tw7587157709815191183 tw9973606313019172367 tw8035326262753901669 tw2069215908145710815 tw13568389028388860985 tw12405696849601758566 tw15014555205287995370 tw6811279699405792670 tw15001437220838605686 tw256214609645614664 tw16909933456235044178 tw6991801311607936233 tw5103145948291209276 tw8776554086958506444 tw16526105573617622414 tw10660013111805052034 tw18205625318309878707 tw2456070300406624293 tw11244527565986031487 tw1511315120009501768 tw14810501108611492813 tw14518581398048172639 tw5912656712124972014 tw2989366538821261110 tw5795259164204855779 tw3174691475512070142 tw3325755954085528389 tw13999163817103921746 tw2215079924348335285 tw14663103208330720677 tw14685019354409273903 tw12088365448445124823 tw11544940721904041134 tw4469192800148592947 tw16408892374471073453 tw8018933949940282035 tw11604126640733107122 tw12879976835360350650 tw14008847914825204577 tw5255032242290939460 tw2258812850957990585 tw3202459047881986114 tw7425473667013134837 tw8517954007270074886 tw4698904493101254992 tw6141173457165374283 tw3481117226568842388 tw14546919573469302014 tw1950159718890213452 tw3945417208992368709 tw5261580696357679933 tw5871206186582456434 tw13669506233279871755 tw14343957789031513978 tw4921034187505380136 tw7852873478931020786 tw13700829916510329291 tw8889208989868599350 tw10279446995154782822 tw17472274455340797337 tw2743982291279527285 tw15182139096063368216 tw4906432210232115433 tw12332548570860251588 tw935244268250363312 tw3177849248340606491 tw847032197313639180 tw16075798846338298651 tw877661450165831401 tw16384220892113874949 tw14541804132461446285 tw4158538735874423816 tw582276274701239710 tw4832159592598702074 tw7690747147151399690 tw10003239280591893068 tw10541481330951266967 tw14839294417245174327 tw4055383962000436867 tw8434625535326587148 tw10151338672821885691 tw12306306861981983616 tw7060454924364766086 tw18155317109112333041 tw6977337720781069388 tw12952985672685907936 tw10645811936393495992 tw15216830010676481303 tw10685401942892749549 tw10717685424304638445 tw15025903847413042150 tw11130796183741698089 tw113730788283762863 tw10687000850578481129 tw16535542789472723410 tw1725622784912569104 tw1894742442199233676 tw5314629409996607028 tw13945087609147634993 tw8867676416043334824 tw9526171671187371502 tw11926994122669067395 tw10805161158685754147 tw9055065105358529058 tw12588705419551229218 tw12502527785745907951 tw316547161683437436 tw16498865438760516274 tw15153303640874184716 tw14394003947696017614 tw14885723056533103314 tw16891174734229252802 tw3710937814238803666 tw9012925669215068815 tw15402412155303598987 tw4347414720404749644 tw5747179723836777813 tw860089713197324613 tw8093304147856216859 tw5970830048431942913 tw12673385988786211269 tw8615654484988837224 tw17597635574387366357 tw10276185607960496015 tw1156453295921829923 tw10419245070303639841 tw3529436740239051963 tw7750614220187925063 tw5294606597193643903 tw3551206791243335991 tw14991248148827221706 tw8615748095016050989 tw7851587579299372353 tw5784050707707037460 tw14667936740183399095 tw14978911941244127899 tw13190954872092650006 tw12068986608901152188 tw7006090265159537569 tw3327708661131985079 tw17154634753253052866 tw9004664479913792048 tw83932225562633264 tw5024754065416060187 tw4985800767642511154 tw17663740397232285147 tw3365198843223842482 tw10314196106954293628 tw4865678199150965267 tw14606234074283860431 tw4119477299477681761 tw12189000301562778303 tw2617234550753743191 tw1099150527186991952 tw6333935613383428090 tw12595403052468713866 tw13003672964380102534 tw458855359839400153 tw8042973061411257714 tw884087931838942733 tw10264890257214187024 tw18426370456620183926 tw6235804901759953013 tw5016099268155679520 tw41800250605632646 tw7855396450997293183 tw226536724003188417 tw16921777333269294661 tw17769914548405008795 tw1950495017105431100 tw8572656873343798709 tw11533836830830878395 tw10843703282364941312 tw2717810808933035167 tw1059242073983800573 tw637355667490052851 tw12126627454136653850 tw12933557859860203126 tw15667197990172311783 tw15005965904300080362 tw10665520071696797956 tw2345159281858817816 tw18263440318919153613 tw6278816772947528642 tw12324955776734301201 tw13145433120473119146 tw15386311131269478009 tw14164092985358568634 tw2464363564601992503 tw18089103336512152635
end PySem.W.Fast
open PySem PySem.W PyProof.Rows
set_option maxRecDepth 100000 in
set_option maxHeartbeats 0 in
theorem PySem.Challenge.cw_chargeyard_k93_whole_days_holds : PySem.Challenge.rw_chargeyard_k93_whole_days.Holds := by
 w_on; o_law; k_head; (case hw=>w_witness2)
 k_fill
 refine L2.Zqd (l:=PySem.Challenge.rw_chargeyard_k93_whole_days) (k:=12) (x := "_law_script") rfl rfl #[rfl,by decide,by decide] (λw h Y=>W.kIn_of Y) ?F
 case F=>
  intro w mg fa h KX G hmg
  refine' My.Zwc KX G hmg ?aC ?aH ?h0 ?h1 ?h2 ?h3 ?h4 ?h5 ?h6 ?h7 ?h8 ?h9 ?h10 ?h11 ?h12 ?h13 ?h14 ?h15 ?h16 ?h17 ?h18 ?h19 ?h20 ?h21 ?h22 ?h23 ?h24 ?h25 ?h26 ?h27 ?h28 ?h29 ?h30 ?h31 ?h32 ?h33 ?h34 ?h35 ?h36 ?h37 ?h38 ?h39 ?h40 ?h41 ?h42 ?h43 ?h44 ?h45 ?h46 ?h47 ?a48 ?l48 ?c48 ?k48 ?m49 ?m50 ?m51 ?m52 ?m53 ?m54 ?m55 ?m56 ?m57 ?m58 ?m59 ?m60 ?m61 ?m62 ?m63 ?m64 ?m65 ?m66 ?m67 ?m68 ?a69 ?i69 ?l69 ?c69 ?k69 ?a70 ?i70 ?l70 ?c70 ?k70 ?pg ?hd ?po ?sa ?mk ?kc ?Hpg ?Hhd ?Hpo ?Hsa ?Hmk ?Hkc ?Hn0 ?Hn1 ?Hn2 ?Hn3 ?Hn4 ?Hn5 ?n0 ?n1 ?n2 ?n3 ?aS ?lS ?aE ?lE ?rC ?rY ?rf ?rl ?rc ?rk ?rx ?rg ?rr ?ri ?rs ?ro ?xa0 ?xa1 ?xe ?xp ?xn ?xq ?xb ?xc ?xs ?xt ?xm ?xk1 ?xk2 ?xk3 ?xk4 ?rd ?rt ?rK ?qC ?qf ?ql ?qc ?qk ?qx ?qs ?qo ?qd ?qt ?qK ?qe ?qp ?qn ?qq ?qb ?qcl ?qm ?qk1 ?qk2 ?tx ?tK ?ptt ?pqq ?ptg ?ptr ?te ?tp ?tq ?tb ?td ?tcl ?tm ?tk1 ?tk2 ?z0 ?z1 ?z2 ?z3 ?z4 ?z5 ?z6 ?z7 ?z8 ?z9 ?z10 ?z11 ?z12 ?z13 ?z14 ?z15 ?z16 ?z17 ?z18
  case aC | aH | a48 | l48 | c48 | k48 | a69 | i69 | l69 | c69 | k69 | a70 | i70 | l70 | c70 | k70 | pg | hd | po | sa | mk | kc | Hpg | Hhd | Hpo | Hsa | Hmk | Hkc | Hn0 | Hn1 | Hn2 | Hn3 | Hn4 | Hn5 | n0 | n1 | n2 | n3 | aS | lS | aE | lE | rC | rY | rf | rl | rc | rk | rg | rr | ri | rs | xa0 | xa1 | xp | xn | xq | xb | xc | xs | xt | xm | rd | rt | rK | qC | qf | ql | qc | qk | qs | qd | qt | qK | qp | qn | qq | qb | qcl | qm | tK | tp | tq | tb | td | tcl | tm | z0 | z1 | z2 | z3 | z4 | z5 | z6 | z7 | z8 | z9 | z10 | z11 | z12 | z13 | z14 | z15 | z16 | z17 | z18=>k_is
  case xk1 | xk2 | xk3 | xk4 | qk1 | qk2 | ptg | ptr | tk1 | tk2=>kit_is
  case xe | qe | ptt | pqq | te=>kts_exm
  case h0 | h1 | h2 | h3 | h4 | h5 | h6 | h7 | h8 | h9 | h10 | h11 | h12 | h13 | h14 | h15 | h16 | h17 | h18 | h19 | h20 | h21 | h22 | h23 | h24 | h25 | h26 | h27 | h28 | h29 | h30 | h31 | h32 | h33 | h34 | h35 | h36 | h37 | h38 | h39 | h40 | h41 | h42 | h43 | h44 | h45 | h46 | h47=>
   refine' My.DH.mk ?a ?l ?c ?k
   case a | l | c | k=>k_is
  case m49 | m50 | m51 | m52 | m53 | m54 | m55 | m56 | m57 | m58 | m59 | m60 | m61 | m62 | m63 | m64 | m65 | m66 | m67 | m68=>
   refine' My.MH.mk ?a ?i ?l ?c ?k
   case a | i | l | c | k=>k_is
  case rx | ro | qx | qo | tx=>with_unfolding_all exact Eq.refl true
end
