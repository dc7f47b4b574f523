import PyProof.Rows.All
import Wide.All
import OpenK.AllK
import Lean
import PySem.Challenge.RW_chargeyard_k82_guests_of_the_text
noncomputable section
local macro_rules|`(#[])=>`(by lia)|`(#[$x])=>`(⟨$x⟩)|`(#[$x,$y,*])=>`(⟨$x,$y,*⟩)
set_option Elab.async false
set_option linter.all false
set_option maxRecDepth 100000
set_option maxHeartbeats 4000000
set_option compiler.extract_closed false
set_option genSizeOf false
section
open PySem PySem.Spec PyProof.Rows
section
variable{α β γ δ ε ζ η θ ι κ μ ν ξ ο π ρ σ:Sort _}{g:Prop}{A0 B0 C0 D0 E0 F0:Prop}{A1 B1 C1 D1:α->Prop}{A2 B2 C2 D2 E2 F2:α->β->Prop}{A3 B3 C3 D3 E3:α->β->γ->Prop}{A4 B4 C4 D4 E4:α->β->γ->δ->Prop}{A5 B5 C5 D5 E5 F5:α->β->γ->δ->ε->Prop}{A8:α->β->γ->δ->ε->ζ->η->θ->Prop}{A9 B9 C9 D9:α->β->γ->δ->ε->ζ->η->θ->ι->Prop}{A11:α->β->γ->δ->ε->ζ->η->θ->ι->κ->μ->Prop}{A17:α->β->γ->δ->ε->ζ->η->θ->ι->κ->μ->ν->ξ->ο->π->ρ->σ->Prop}
def At(h:∃u,A1 u/\B1 u)(f:∀u,A1 u->B1 u->g):g:=by obtain⟨u,H,h1⟩:=h;exact f u H h1
def By(h:A0/\∃u v,A2 u v/\B2 u v)(f:A0->∀u v,A2 u v->B2 u v->g):g:=by obtain⟨H,u,v,h1,h2⟩:=h;exact f H u v h1 h2
def Do(h:A0/\∃u,A1 u/\B1 u)(f:A0->∀u,A1 u->B1 u->g):g:=by obtain⟨H,u,h1,h2⟩:=h;exact f H u h1 h2
def Hs(h:A0/\B0/\∃u,A1 u/\∃v w x,A4 u v w x/\B4 u v w x)(f:A0->B0->∀u,A1 u->∀v w x,A4 u v w x->B4 u v w x->g):g:=by obtain⟨H,h1,u,h2,v,w,x,h3,h4⟩:=h;exact f H h1 u h2 v w x h3 h4
def I0(h:∃u v w,A3 u v w)(f:∀u v w,A3 u v w->g):g:=by obtain⟨u,v,w,H⟩:=h;exact f u v w H
def JH(h:A0/\B0/\C0/\D0/\E0)(f:A0->B0->C0->D0->E0->g):g:=by obtain⟨H,h1,h2,h3,h4⟩:=h;exact f H h1 h2 h3 h4
def KE(h:A0/\B0/\C0)(f:A0->B0->C0->g):g:=by obtain⟨H,h1,h2⟩:=h;exact f H h1 h2
def L0(h:∃u v,A2 u v/\B2 u v)(f:∀u v,A2 u v->B2 u v->g):g:=by obtain⟨u,v,H,h1⟩:=h;exact f u v H h1
def L1(h:∃u v w,A3 u v w/\B3 u v w)(f:∀u v w,A3 u v w->B3 u v w->g):g:=by obtain⟨u,v,w,H,h1⟩:=h;exact f u v w H h1
def L3(h:∃u,A1 u/\B1 u/\C1 u)(f:∀u,A1 u->B1 u->C1 u->g):g:=by obtain⟨u,H,h1,h2⟩:=h;exact f u H h1 h2
def aA(h:∃u v w,A3 u v w/\B3 u v w/\C3 u v w)(f:∀u v w,A3 u v w->B3 u v w->C3 u v w->g):g:=by obtain⟨u,v,w,H,h1,h2⟩:=h;exact f u v w H h1 h2
def aB(h:∃u v,A2 u v/\B2 u v/\C2 u v/\D2 u v)(f:∀u v,A2 u v->B2 u v->C2 u v->D2 u v->g):g:=by obtain⟨u,v,H,h1,h2,h3⟩:=h;exact f u v H h1 h2 h3
def aF(h:∃u v,A2 u v/\B2 u v/\C2 u v)(f:∀u v,A2 u v->B2 u v->C2 u v->g):g:=by obtain⟨u,v,H,h1,h2⟩:=h;exact f u v H h1 h2
def aG(h:A0/\B0/\C0/\D0/\E0/\F0)(f:A0->B0->C0->D0->E0->F0->g):g:=by obtain⟨H,h1,h2,h3,h4,h5⟩:=h;exact f H h1 h2 h3 h4 h5
def aI(h:∃u,A1 u/\B1 u/\C1 u/\D1 u)(f:∀u,A1 u->B1 u->C1 u->D1 u->g):g:=by obtain⟨u,H,h1,h2,h3⟩:=h;exact f u H h1 h2 h3
def aJ(h:A0/\B0/\C0/\D0)(f:A0->B0->C0->D0->g):g:=by obtain⟨H,h1,h2,h3⟩:=h;exact f H h1 h2 h3
def aK(h:∃u v w x y,A5 u v w x y/\B5 u v w x y/\C5 u v w x y/\D5 u v w x y/\E5 u v w x y/\F5 u v w x y)(f:∀u v w x y,A5 u v w x y->B5 u v w x y->C5 u v w x y->D5 u v w x y->E5 u v w x y->F5 u v w x y->g):g:=by obtain⟨u,v,w,x,y,H,h1,h2,h3,h4,h5⟩:=h;exact f u v w x y H h1 h2 h3 h4 h5
def aL(h:A0/\B0/\∃u,A1 u/\B1 u)(f:A0->B0->∀u,A1 u->B1 u->g):g:=by obtain⟨H,h1,u,h2,h3⟩:=h;exact f H h1 u h2 h3
def aM(h:∃u,A1 u/\∃v,A2 u v)(f:∀u,A1 u->∀v,A2 u v->g):g:=by obtain⟨u,H,v,h1⟩:=h;exact f u H v h1
def aN(h:∃u v w,A3 u v w/\B3 u v w/\C3 u v w/\D3 u v w/\E3 u v w)(f:∀u v w,A3 u v w->B3 u v w->C3 u v w->D3 u v w->E3 u v w->g):g:=by obtain⟨u,v,w,H,h1,h2,h3,h4⟩:=h;exact f u v w H h1 h2 h3 h4
def aO(h:∃u v,A2 u v)(f:∀u v,A2 u v->g):g:=by obtain⟨u,v,H⟩:=h;exact f u v H
def aP(h:∃u v,A2 u v/\B2 u v/\C2 u v/\D2 u v/\E2 u v/\F2 u v)(f:∀u v,A2 u v->B2 u v->C2 u v->D2 u v->E2 u v->F2 u v->g):g:=by obtain⟨u,v,H,h1,h2,h3,h4,h5⟩:=h;exact f u v H h1 h2 h3 h4 h5
def aQ(h:∃u v w x,A4 u v w x/\B4 u v w x/\C4 u v w x/\D4 u v w x/\E4 u v w x)(f:∀u v w x,A4 u v w x->B4 u v w x->C4 u v w x->D4 u v w x->E4 u v w x->g):g:=by obtain⟨u,v,w,x,H,h1,h2,h3,h4⟩:=h;exact f u v w x H h1 h2 h3 h4
def aR(h:∃u,A1 u/\B1 u/\∃v,A2 u v)(f:∀u,A1 u->B1 u->∀v,A2 u v->g):g:=by obtain⟨u,H,h1,v,h2⟩:=h;exact f u H h1 v h2
def aT(h:∃u v w x,A4 u v w x/\B4 u v w x/\C4 u v w x)(f:∀u v w x,A4 u v w x->B4 u v w x->C4 u v w x->g):g:=by obtain⟨u,v,w,x,H,h1,h2⟩:=h;exact f u v w x H h1 h2
def aU(h:∃u v w x y z i j k,A9 u v w x y z i j k/\B9 u v w x y z i j k/\C9 u v w x y z i j k)(f:∀u v w x y z i j k,A9 u v w x y z i j k->B9 u v w x y z i j k->C9 u v w x y z i j k->g):g:=by obtain⟨u,v,w,x,y,z,i,j,k,H,h1,h2⟩:=h;exact f u v w x y z i j k H h1 h2
def aV(h:A0/\∃u,A1 u/\∃v,A2 u v/\B2 u v/\∃w,A3 u v w)(f:A0->∀u,A1 u->∀v,A2 u v->B2 u v->∀w,A3 u v w->g):g:=by obtain⟨H,u,h1,v,h2,h3,w,h4⟩:=h;exact f H u h1 v h2 h3 w h4
def aW(h:∃u v,A2 u v/\B2 u v/\C2 u v/\D2 u v/\E2 u v)(f:∀u v,A2 u v->B2 u v->C2 u v->D2 u v->E2 u v->g):g:=by obtain⟨u,v,H,h1,h2,h3,h4⟩:=h;exact f u v H h1 h2 h3 h4
def aX(h:A0/\∃u,A1 u/\B1 u/\C1 u)(f:A0->∀u,A1 u->B1 u->C1 u->g):g:=by obtain⟨H,u,h1,h2,h3⟩:=h;exact f H u h1 h2 h3
def aY(h:∃u,A1 u/\B1 u/\C1 u/\∃v,A2 u v/\B2 u v)(f:∀u,A1 u->B1 u->C1 u->∀v,A2 u v->B2 u v->g):g:=by obtain⟨u,H,h1,h2,v,h3,h4⟩:=h;exact f u H h1 h2 v h3 h4
def aZ(h:∃u,A1 u/\∃v,A2 u v/\B2 u v/\C2 u v/\∃w,A3 u v w/\B3 u v w)(f:∀u,A1 u->∀v,A2 u v->B2 u v->C2 u v->∀w,A3 u v w->B3 u v w->g):g:=by obtain⟨u,H,v,h1,h2,h3,w,h4,h5⟩:=h;exact f u H v h1 h2 h3 w h4 h5
def aa(h:∃u v w x y z i j k,A9 u v w x y z i j k/\B9 u v w x y z i j k/\C9 u v w x y z i j k/\D9 u v w x y z i j k)(f:∀u v w x y z i j k,A9 u v w x y z i j k->B9 u v w x y z i j k->C9 u v w x y z i j k->D9 u v w x y z i j k->g):g:=by obtain⟨u,v,w,x,y,z,i,j,k,H,h1,h2,h3⟩:=h;exact f u v w x y z i j k H h1 h2 h3
def ac(h:∃u v w x y z i j,A8 u v w x y z i j)(f:∀u v w x y z i j,A8 u v w x y z i j->g):g:=by obtain⟨u,v,w,x,y,z,i,j,H⟩:=h;exact f u v w x y z i j H
def ae(h:∃u v w x y z i j k l m n o p q r s,A17 u v w x y z i j k l m n o p q r s)(f:∀u v w x y z i j k l m n o p q r s,A17 u v w x y z i j k l m n o p q r s->g):g:=by obtain⟨u,v,w,x,y,z,i,j,k,l,m,n,o,p,q,r,s,H⟩:=h;exact f u v w x y z i j k l m n o p q r s H
def ah(h:∃u v w x y z i j k l m,A11 u v w x y z i j k l m)(f:∀u v w x y z i j k l m,A11 u v w x y z i j k l m->g):g:=by obtain⟨u,v,w,x,y,z,i,j,k,l,m,H⟩:=h;exact f u v w x y z i j k l m H
def ai(h:A0/\∃u v w,A3 u v w/\B3 u v w/\C3 u v w/\D3 u v w/\E3 u v w)(f:A0->∀u v w,A3 u v w->B3 u v w->C3 u v w->D3 u v w->E3 u v w->g):g:=by obtain⟨H,u,v,w,h1,h2,h3,h4,h5⟩:=h;exact f H u v w h1 h2 h3 h4 h5
end
def Qa{b:Sort _}{a:b}{q:Prop}:a=a\/q:=Or.inl rfl
def zP:=@PySem.F.plainAttrs_list
def zS:=@PySem.F.slot_list_append
def zT:=@PySem.F.type_list_append
def zN:=@PassesOwn.never
abbrev Qb:=Value->Shared->Prop
abbrev Qc:=List (Addr×Obj)
abbrev Qd:=List PyData
abbrev Qe:=List Value
abbrev Qf:=Option Value
abbrev Qg:=List Addr
abbrev Qh:=List Str
abbrev Zaa:Qh:=["yard","guests"]
abbrev Zab:Qh:=["self","number"]
abbrev Zac:Qh:=["self","start","end","room"]
abbrev Zad:Qh:=["hand","word","numbers"]
abbrev Zae:Qh:=["yard","guests","some","turn"]
abbrev Zaf:Qh:=["net","yard","number","guest"]
abbrev Zag:Qh:=["words"]
abbrev Zah:Qh:=["yard","guests","some"]
abbrev Zai:Qh:=["_law_yard_here","_law_rows","_law_picked","_law_turn"]
abbrev Zaj:Qh:=["_law_yard_here","_law_rows","_law_picked","_law_now"]
abbrev Zak:Qh:=["_law_desk","_law_row","_law_told","e","_law_marks","_law_words"]
abbrev Zal:Qh:=["thing","least","end"]
abbrev Zam:Qh:=["_law_feed_here","_law_yard_here","_law_now"]
abbrev Zan:Qh:=["self","start","end"]
abbrev Zao:Qh:=["_law_desk","_law_row"]
abbrev Zap:Qh:=["_law_yard_here","_law_rows","_law_now"]
abbrev Zaq:Qh:=["guest","turn"]
abbrev Zar:Qh:=["thing","turns"]
abbrev Zas:Qh:=["_law_feed_here","_law_many"]
abbrev Zat:Qh:=["yard","line","turn"]
abbrev Zau:Qh:=["_law_k","_law_words","_law_marks"]
abbrev Zav:Qh:=["self"]
abbrev Zaw:Qh:=["self","row"]
abbrev Zax:Qh:=["guest"]
abbrev Zay:Qh:=["thing","length"]
abbrev Zaz:Qh:=["_law_yard_here","_law_guests"]
abbrev ZaA:Qh:=["_law_script","_law_k"]
abbrev ZaB:Qh:=["thing","line","turns"]
abbrev ZaC:Qh:=["_law_desk","_law_rows"]
abbrev ZaD:Qh:=["yard"]
abbrev ZaE:Qh:=["line","turn"]
abbrev ZaF:Qh:=["thing","least"]
abbrev ZaG:Qh:=["yard","thing"]
abbrev ZaH:Qh:=["self","edges","end"]
abbrev ZaI:Qh:=["yard","line"]
abbrev ZaJ:Qh:=["net","yard","turn"]
abbrev ZaK:Qh:=["self","some"]
abbrev ZaL:Qh:=["self","yard"]
abbrev ZaM:Qh:=["self","turn"]
abbrev ZaN:Qh:=["self","start"]
abbrev ZaO:Qh:=["thing","line"]
abbrev ZaP:Qh:=["guest","want"]
abbrev ZaQ:Qh:=["self","guest"]
abbrev ZaR:Qh:=["rows","place"]
abbrev ZaS:Qh:=["hand","guest"]
abbrev ZaT:Qh:=["_law_feed_here"]
abbrev ZaU:Qh:=["thing"]
abbrev ZaV:Qh:=["self","text"]
abbrev ZaW:Qh:=["number"]
abbrev ZaX:Qh:=["word"]
abbrev Qi:=List Expr
abbrev Qj:=Option Addr
abbrev Qk:=List Nat
abbrev Ql:=List Int
abbrev Qm:=Nat->Bool
abbrev Qn:=Nat->Int
def Xa:=@wpAny_bind
def Xb:=@List.mem_cons_self
def Xc:=@Heap.get?_push_of_some
def Xd:=@List.mem_cons
def Xe:=@if_neg
def Xf:=@List.mem_cons_of_mem
def Xg:=@List.length_map
def Xh:=@if_pos
def Xi:=@List.getElem?_eq_some_iff
def Xj:=@List.mem_singleton
def Xk:=@Heap.lt_size
def Xl:=@wpAny_pure
def Xm:=@Nat.le_refl
def Xn:=@Heap.get?_push_size
def Xo:=@List.mem_map
def Xp:=@Nat.ne_of_lt
def Xq:=@Nat.le_trans
def Xr:=@List.append_nil
def Xs:=@List.length_append
def Xt:=@absurd
def Xu:=@List.size_toArray
def Xv:=@List.getElem?_map
def Xw:=@List.map_cons
def Xx:=@List.map_append
def Xy:=@Bool.false_ne_true
def Xz:=@List.mem_append
def XA:=@List.map_map
def XF:=@Int.toNat_natCast
def XG:=@Nat.lt_of_lt_of_le
def XH:=@Nat.zero_le
def XI:=@List.getElem?_set_self
def XJ:=@decide_eq_false
def XM:=@List.nodup_cons
def XN:=@decide_eq_true
def XS:=@congrArg
def XT:=@List.getElem?_eq_getElem
def XV:=@Heap.get?_update_other
def XW:=@List.not_mem_nil
def XX:=@List.getElem?_set_ne
def XY:=@List.mem_range
def X4:=@List.length_cons
def X5:=@List.lookup_cons
def X6:=@List.getElem_mem
def X7:=@List.mem_append_right
def X8:=@of_decide_eq_true
def X9:=@Heap.get?_update_self
def Yt:=@Heap.size_push
def VY:=@Nat.ne_of_gt
def W6:=@List.map_congr_left
def W5:=@Int.toNat_of_nonneg
def VX:=@wpAny_field
def Y5:=@Nat.lt_irrefl
def YY:=@List.range_succ
def YX:=@Option.map_some
def Ys:=@Int.zero_add
def YW:=@Nat.add_le_add
def W4:=@Bool.and_eq_true
def W3:=@List.take_length
def YV:=@Nat.le_of_lt
def JA:=@Nat.lt_succ_of_lt
def GU:=@List.getElem?_append_left
def J9:=@Nat.lt_succ_self
def Jf:=@List.take_succ
def US:=@List.mem_iff_getElem
def Uu:=@Option.isSome_map
def Ut:=@List.length_range
def Mr:=@List.getElem?_append_right
def Us:=@List.all_eq_true
def Ur:=@List.cons_append
def GT:=@List.mem_append_left
def UR:=@List.append_assoc
def Mq:=@Option.map_eq_some_iff
def GZ:=@List.filter_append
def GY:=@of_decide_eq_false
def M4:=@List.length_filter_le
def M3:=@List.length_pos_iff
def M0:=@List.filter_eq_self
def Mz:=@List.flatMap_append
def Hf:=@List.getElem?_replicate
def He:=@Int.eq_ofNat_of_zero_le
def UU:=@List.sum_cons
def GX:=@List.mem_filter
def GW:=@Bool.eq_iff_iff
def Mx:=@Nat.lt_of_le_of_lt
def Mw:=@wpAny_setField_rec
def Uv:=@Int.le_refl
def Mv:=@List.nodup_append
def Hd:=@List.length_replicate
def Hc:=@List.length_singleton
def Hb:=@List.pairwise_flatMap
def Mu:=@List.length_take
def UT:=@Nat.le_succ
def Ha:=@List.replicate_succ
def Mt:=@List.nil_append
def GV:=@Int.lt_trans
def DZ:=@Bool.false_eq_true
def DY:=@Int.lt_of_le_of_lt
def Ms:=@List.nodup_nil
def Hi:=@Heap.get?_push_at
def Ba:=@Int.mul_sub
def Hh:=@List.filter_cons
def Hg:=@List.mem_flatMap
end
namespace L2
open PySem PySem.Spec PyProof.Rows
abbrev Key:=Sum Int Str
def Go:Key->Value->Bool
 |.inl k,v=>Value.isInt k v
 |.inr x,v=>Value.isStrOf x v
def Z0e(w:World):Key->Int
 |.inl k=>hashInt k
 |.inr x=>hashStr w x
theorem W0:∀{k:Key} {v:Value},Go k v=true->(∃i t,k=Sum.inl i/\v=Value.int i t)\/(∃x t,k=Sum.inr x/\v=Value.str x t)
 |.inl i,v,h=>by
  obtain⟨t,e⟩:=Value.isInt_shape h;exact .inl #[i,t,rfl,e]
 |.inr x,v,h=>by
  obtain⟨t,e⟩:=Value.isStrOf_shape h;exact .inr #[x,t,rfl,e]
def Zpu(i:Int)(t:Tok):Go (.inl i) (.int i t)=true:=by simp[Go,Value.isInt]
def ZrG(x:Str)(t:Tok):Go (.inr x) (.str x t)=true:=by simp[Go,Value.isStrOf]
def Ef(a b:Int):decide ((Sum.inl a:Key)=Sum.inl b)=(a==b):=by
 grind
def Ee(a b:Str):decide ((Sum.inr a:Key)=Sum.inr b)=decide (a=b):=by
 simp_all
def EB(a:Int)(b:Str):decide ((Sum.inl a:Key)=Sum.inr b)=false:=XJ (by rintro⟨⟩)
def AJ(a:Str)(b:Int):decide ((Sum.inr a:Key)=Sum.inl b)=false:=XJ (by rintro⟨⟩)
noncomputable def VH(prog:Program)(w:World):PySem.KeyKind prog w Key where
 is:=Go
 hash:=Z0e w
 inj:=λv a b l f=>by
  rcases W0 l with ⟨i,t,rfl,rfl⟩|⟨x,t,rfl,rfl⟩
  .rcases W0 f with ⟨j,u,rfl,e⟩|⟨y,u,rfl,e⟩
   .injection e with c _;rw[c]
   .exact nomatch e
  .rcases W0 f with ⟨j,u,rfl,e⟩|⟨y,u,rfl,e⟩
   .exact nomatch e
   .injection e with c _;rw[c]
 byValue:=λk v h=>by
  rcases W0 h with ⟨i,t,rfl,rfl⟩|⟨x,t,rfl,rfl⟩<;>rfl
 pyHash:=λd h=>by
  rcases W0 d with ⟨i,t,rfl,rfl⟩|⟨x,t,rfl,rfl⟩
  .exact wpAny_pyHash_int h
  .exact wpAny_pyHash_str h
 eqBool:=λg d h=>by
  rcases W0 g with ⟨i,t,rfl,rfl⟩|⟨x,t,rfl,rfl⟩
  .rcases W0 d with ⟨j,u,rfl,rfl⟩|⟨y,u,rfl,rfl⟩
   .rw[Ef]at h;exact wpAny_eqBool_int h
   .rw[EB]at h;exact SeqAt.EqAt.int_str i t y u _ _ _ _ h
  .rcases W0 d with ⟨j,u,rfl,rfl⟩|⟨y,u,rfl,rfl⟩
   .rw[AJ]at h;exact SeqAt.EqAt.str_int x t j u _ _ _ _ h
   .rw[Ee]at h;exact wpAny_eqBool_str h
 «strs» := λk x t v h=>by
  rcases W0 h with ⟨i,u,rfl,e⟩|⟨y,u,rfl,e⟩
  .exact nomatch e
  .injection e with c _;subst c;cases v<;>rfl
def ZlD(prog:Program)(w:World)(i:Int)(t:Tok):(VH prog w).is (.inl i) (.int i t)=true:=Zpu i t
def ZlW(prog:Program)(w:World)(x:Str)(t:Tok):(VH prog w).is (.inr x) (.str x t)=true:=ZrG x t
end L2
open PySem PySem.Spec PyProof.Rows
variable {P prog:Program}{h h':Heap}{Y:Qc}{s s0:Shared}{XD UH hpos np pos pos':Pos}{tg:Expr}{A:Around}{K:W.Frag}{C CH Xa4 f0:Addr}{f m nm q qual:Str}{es:Qi}{fd:FuncData}{ps sn:Qh}{mg:Str->Qf}{env:Env}{i j n:Nat}{g:Array GenState}{bm S0:Qe}{ab T1:Bool}{col:Option Bool}{dd:Qj}{k0 k1 k2 k3 k5:Qf}{B initId newId:String}{M:Model}{scope:Scope}{cd:Value}{outer:List Env}{ds:Qd}{body suite:List Stmt}{b0:Stmt}{rest:List ExceptHandler}
namespace L2
inductive V where
 |non|bl (b:Bool)|int (i:Int)|str (x:Str)|byt (b:Array UInt8)|flt (b:UInt64)|ref (a:Addr)|ty (n:String)
 deriving DecidableEq
def QO:V->Value->Prop
 |.non,u=>u=Value.none
 |.bl b,u=>u=Value.bool b
 |.int i,u=>∃t,u=Value.int i t
 |.str x,u=>∃t,u=Value.str x t
 |.byt b,u=>∃t,u=Value.bytes b t
 |.flt b,u=>∃t,u=Value.float b t
 |.ref a,u=>u=Value.ref a
 |.ty n,u=>u=Value.type n
abbrev QS:List V->Qe->Prop:=Paired QO
def QS.length(r:QS xs us):xs.length=us.length:=Paired.length r
theorem QS.get:∀{xs:List V} {us:Qe} {i:Nat} {x:V},QS xs us->xs[i]?=some x->∃u,us[i]?=some u/\QO x u
 |_,_,_,_,.nil,e=>by simp at e
 |_,_,0,_,.cons r _,e=>by simp at e;subst e;exact#[_,rfl,r]
 |_,_,i+1,x,.cons _ t,e=>by
  obtain⟨u,L,f⟩:=QS.get t (by simpa using e);exact#[u,by simpa using L,f]
theorem QS.set{x:V}{u:Value}(r:QO x u):∀{xs:List V} {us:Qe} (i:Nat),QS xs us->QS (xs.set i x) (us.set i u)
 |_,_,_,.nil=>.nil
 |_,_,0,.cons _ t=>.cons r t
 |_,_,i+1,.cons q t=>.cons q (QS.set r i t)
theorem QS.append:∀{xs ys:List V} {us ws:Qe},QS xs us->QS ys ws->QS (xs++ys) (us++ws)
 |_,_,_,_,.nil,s=>s
 |_,_,_,_,.cons r t,s=>.cons r (QS.append t s)
theorem QS.take:∀{xs:List V} {us:Qe} (n:Nat),QS xs us->QS (xs.take n) (us.take n)
 |_,_,0,_=>.nil
 |_,_,_+1,.nil=>.nil
 |_,_,n+1,.cons r t=>.cons r (QS.take n t)
theorem QS.drop:∀{xs:List V} {us:Qe} (n:Nat),QS xs us->QS (xs.drop n) (us.drop n)
 |_,_,0,r=>r
 |_,_,_+1,.nil=>.nil
 |_,_,n+1,.cons _ t=>QS.drop n t
def Vn:Option V->Qf->Prop
 |some v,some u=>QO v u
 |none,none=>True
 |_,_=>False
def KV{f:Type}:List (f×V)->List (f×Value)->Prop:=Paired λ(p:f×V) (q:f×Value)=>p.1=q.1/\QO p.2 q.2
def kV:Key->V
 |.inl i=>.int i
 |.inr x=>.str x
inductive HO where
 |lst (xs:List V)
 |tup (xs:List V)
 |dK (kvs:List (Key×V))|dT (kvs:List (List Key×V))
 |set (S:Int->Bool)(n:Nat)
 |ins (C E:Addr)(fs:List (Str×V))
 |own (x:Addr)
 |xd (fs:List (Str×V))
 |met (f x:Addr)
 |rng (lo hi:Int)
 |frz (o:Obj)(u:HO)
 |tbl (ps:Array Value)
 |ext (φ:Heap->Prop)
abbrev Hp:=Addr->Option HO
noncomputable def upd(H:Hp)(a:Addr)(o:HO):Hp:=λb=>if b=a then some o else H b
def QI : upd H a o a=some o:=by unfold upd;rw[Xh rfl]
def Qv{b:Addr}(h:b≠a):upd H a o b=H b:=by unfold upd;rw[Xe h]
def Pw{H:Hp}{a b:Addr}{o u:HO}(h:H a=some o)(h':H b=some u)(d:o≠u):a≠b:=by
 intro e;subst e;exact d (Option.some.inj (h▸h'))
def Z1{H:Hp}{a b:Addr}{o:HO}(h:H a=some o)(h':H b=none):a≠b:=by
 grind
def Be:1<=1000:=by decide
def Z0j:2<=1000:=by decide
section
variable (P:Program)(w:World)
def ZT(H:Hp)(h:Heap)(a:Addr):HO->Prop
 |.lst j=>j.length<=sizeLine/\∃(i:Qe) (n:Nat),QS j i/\h.get? a=some { cls:=.type "list",data:=.seq i.toArray n }
 |.tup j=>j.length<=sizeLine/\∃i:Qe,QS j i/\IsTup h a i.toArray
 |.dK g=>g.length<=sizeLine/\(a==sysModules)=false/\∃B,KV g B/\h.DictOf (VH P w) a B
 |.dT g=>g.length<=sizeLine/\(a==sysModules)=false/\∃j:List (List Key×Addr×Value),
  Paired (λ(p:List Key×V) (q:List Key×Addr×Value)=>p.1=q.1/\H q.2.1=some (.tup<|p.1.map kV)/\QO p.2 q.2.2) g j/\
  ∃o es b,h.get? a=some o/\o.ExactDict/\o.data=.dict es b/\es.toList=j.map (entryOfKey<|tupleKind<|VH P w)/\(j.map (·.1)).Nodup
 |.set S n=>h.SetOf (intKind P w) a S n
 |.ins C E s=>H E=some (.own a)/\s.length<=1000/\E≠a/\h.get? a=some (W.instObj C E)/\
  ∃m,h.Ns1 E m/\(∀f,Vn (s.lookup f)<|m f)/\PySem.Within m (s.map (·.1))
 |.own _=>∃o,h.get? a=some o
 |.xd s=>∃m,h.Ns1 a m/\∀f,Vn (s.lookup f) (m f)
 |.rng M Y=>∃t u v,h.get? a=some { cls:=.type "range",data:=.fields (List.toArray [.int M t,.int Y u,.int 1 v]) }
 |.frz o u=>h.get? a=some o/\ZT H h a u
 |.tbl ps=>h.get? a=some { cls:=.none,data:=.fields ps }
 |.met f x=>h.get? a=some (W.methodObj (.ref f)<|.ref x)
 |.ext A=>A h/\(∃o,h.get? a=some o)/\∀L K:Heap,A L->(∀o,L.get? a=some o->K.get? a=some o)->A K
def HOk(H:Hp)(h:Heap):Prop := ∀a o,H a=some o->ZT P w H h a o
end
section
variable {w:World}{H J:Hp}{a:Addr}{o:HO}
def ZT.lt(x:ZT P w H h a o):a<h.objs.size:=by
 cases o with
 |lst i=>obtain⟨_,_,_,_,e⟩:=x;exact Xk e
 |tup i=>obtain⟨_,_,_,p⟩:=x;exact p.lt
 |dK g=>obtain⟨_,_,_,_,o,_,_,e,_⟩:=x;exact Xk e
 |dT g=>obtain⟨_,_,_,_,o,_,_,e,_⟩:=x;exact Xk e
 |set S n=>obtain⟨o,_,_,_,e,_⟩:=x;exact Xk e
 |ins C E j=>obtain⟨_,_,_,e,_⟩:=x;exact Xk e
 |own y=>obtain⟨_,e⟩:=x;exact Xk e
 |xd j=>obtain⟨_,⟨_,_,_,e,_⟩,_⟩:=x;exact Xk e
 |rng s A=>obtain⟨_,_,_,e⟩:=x;exact Xk e
 |frz q u=>obtain⟨e,_⟩:=x;exact Xk e
 |tbl ps=>exact Xk (x)
 |met f y=>exact Xk (x)
 |ext m=>obtain⟨_,⟨_,e⟩,_⟩:=x;exact Xk e
theorem Paired.mapP{h g:Type}{F G:h->g->Prop}:∀{j:List h} {i:List g},Paired F j i->(∀a b,F a b->G a b)->Paired G j i
 |_,_,.nil,_=>.nil
 |_,_,.cons r t,f=>.cons (f _ _ r) (Paired.mapP t f)
def ZT.stay(x:ZT P w H h a o)(k:∀b u,(b=a\/H b=some (.own a))->h.get? b=some u->h'.get? b=some u)
(l:∀b,H b=some (.own a)->J b=some (.own a))(Y:∀b xs,H b=some (.tup xs)->J b=some (.tup xs)):ZT P w J h' a o:=by
 induction o with
 |lst xs=>exact By x λz j n r e=>#[z,j,n,r,k _ _ (.inl rfl) e]
 |tup xs=>apply Do x;rintro z j r⟨g,e,c⟩;exact#[z,j,r,g,k _ _ (.inl rfl) e,c]
 |dK A=>exact Hs x λz y K r g es i e c=>#[z,y,K,r,g,es,i,k _ _ (.inl rfl) e,c]
 |dT A=>
  exact Hs x λz y xs r g es i e c=>#[z,y,xs,Paired.mapP r λp q z=>#[z.1,Y _ _ z.2.1,z.2.2],g,es,i,k _ _ (.inl rfl) e,c]
 |set S n=>apply I0 x;rintro g es i⟨t,e,c⟩;exact#[g,es,i,t,k _ _ (.inl rfl) e,c]
 |ins C E D=>
  apply JH x;rintro d z M e⟨s,⟨m,es,i,F,c⟩,r⟩;exact#[l _ d,z,M,k _ _ (.inl rfl) e,s,#[m,es,i,k _ _ (.inr d) F,c],r]
 |own y=>obtain⟨g,e⟩:=x;exact#[g,k _ _ (.inl rfl) e]
 |xd D=>apply At x;rintro s⟨m,es,i,e,c⟩r;exact#[s,#[m,es,i,k _ _ (.inl rfl) e,c],r]
 |rng I L=>exact I0 x λt u v e=>#[t,u,v,k _ _ (.inl rfl) e]
 |frz g u W=>obtain⟨e,q⟩:=x;exact#[k _ _ (.inl rfl) e,W q]
 |tbl ps=>
  exact k a _ (.inl rfl) x
 |met f y=>
  have e:=x;exact k a _ (.inl rfl) x
 |ext G=>apply KE x;rintro p⟨o,x⟩B;exact#[B _ _ p λo q=>k _ _ (.inl rfl) q,#[o,k _ _ (.inl rfl) x],B]
def HOk.lt(x:HOk P w H h)(e:H a=some o):a<h.objs.size:=(x a o e).lt
def HOk.fresh(x:HOk P w H h)(e:h.objs.size<=a):H a=none:=by
 cases q:H a with
 |none=>rfl
 |some u=>exact Xt (XG (x.lt q) e) (Y5 _)
def HOk.kept(x:HOk P w H h)(k:∀b u,h.get? b=some u->h'.get? b=some u):HOk P w H h':=λa o e=>
 (x a o e).stay (λb u _ q=>k b u q) (λ_ q=>q) λ_ _ q=>q
def HOk.laid(x:HOk P w H h)(k:∀b u,h.get? b=some u->h'.get? b=some u)(j:h.objs.size<=a)(f:ZT P w (upd H a o) h' a o):HOk P w (upd H a o) h':=λb u e=>by
 have g:=x.fresh j
 by_cases i:b=a
 .subst i;rw[QI]at e;cases e;exact f
 .rw[Qv i]at e;exact(x b u e).stay (λc v _ q=>k c v q) (λc q=>by rw[Qv<|Z1 q g];exact q) λc m q=>by rw[Qv<|Z1 q g];exact q
end
def Rd(H:Hp)(a:Addr)(u:HO):Prop:=H a=some u\/∃o,H a=some (.frz o u)
def Rd.of(h:H a=some u):Rd H a u:=.inl h
def Rd.ok(r:Rd H a u)(x:HOk P w H h):ZT P w H h a u:=by
 rcases r with r|⟨o,r⟩
 .exact x a u r
 .obtain⟨_,q⟩:=x a _ r;exact q
def Mut:Option HO->Prop
 |some (.lst _)=>True
 |some (.dK _)=>True
 |some (.dT _)=>True
 |some (.set _ _)=>True
 |some (.ins _ _ _)=>True
 |some (.ext _)=>True
 |_=>False
section
variable {w:World}{H:Hp}{x e:Addr}{o':HO}
def HOk.write(C:HOk P w H h)(m:Mut (H x))(he:e=x\/H e=some (.own x))(k:∀b u,b≠e->h.get? b=some u->h'.get? b=some u)(s:∃u,h'.get? e=some u)
(n:ZT P w (upd H x o') h' x o'):HOk P w (upd H x o') h':=λb u q=>by
 have i:∀c y,H c=some (.own y)->c≠x:=λc y r z=>by subst z;rwa[r]at m
 have g:∀c j,H c=some (.tup j)->c≠x:=λc j r z=>by subst z;rwa[r]at m
 by_cases A:b=x
 .subst A;rw[QI]at q;cases q;exact n
 .rw[Qv A]at q
  by_cases f:b=e
  .have B:H b=some (.own x):=by
    rcases he with z|z
    .exact Xt (f.trans z) A
    .exact f▸z
   rw[q]at B;cases B;obtain⟨v,K⟩:=s;exact#[v,by exact f▸K]
  .refine(C b u q).stay (λc v M r=>k c v ?_ r) (λc r=>by rw[Qv<|i c b r];exact r) λc j r=>by rw[Qv<|g c j r];exact r
   grind
end
structure Un(fs ex:Qg)(H J:Hp)(h h':Heap):Prop where
 keep:∀b o,h.get? b=some o->H b=none->b∉fs->b∉ex->h'.get? b=some o
 slot:∀b o,h.get? b=some o->H b=none->b∈fs->b∉ex->∃sl,h'.get? b=some { o with slots:=sl }
 free:∀b o,h.get? b=some o->H b=none->b∉ex->J b=none
 there:∀b o,h.get? b=some o->b∉ex->∃o',h'.get? b=some o'
 tups:∀b xs,H b=some (.tup xs)->J b=some (.tup xs)
 frzs:∀b o u,H b=some (.frz o u)->J b=some (.frz o u)
 tupo:∀b xs o,H b=some (.tup xs)->h.get? b=some o->b∉ex->h'.get? b=some o
 tbls:∀b ps,H b=some (.tbl ps)->∃more,J b=some (.tbl<|ps++more)
section
variable {fs ex:Qg}{H D:Hp}{L:Heap}{a x e:Addr}{o:HO}
def Un.any(u:Un fs ex H D h L){b:Addr}(q:h.get? b=some ob)(n:H b=none)(a:b∉ex):∃f,L.get? b=some { ob with slots:=f }:=by
 by_cases e:b∈fs
 .exact u.slot b ob q n e a
 .exact#[ob.slots,u.keep b ob q n e a]
def Un.kept(k:∀b u,h.get? b=some u->h'.get? b=some u):Un fs ex H H h h':=
 #[λb a q _ _ _=>k b a q,λb a q _ _ _=>#[a.slots,k b a q],λ_ _ _ n _=>n,λb a q _=>#[a,k b a q],λ_ _ q=>q,λ_ _ _ q=>q,λb _ a _ e _=>k b a e,λ_ ps q=>#[(List.toArray []),by rw[q];simp]]
def Un.refl:Un fs ex H H h h:=Un.kept λ_ _ q=>q
theorem Un.laid(k:∀b u,h.get? b=some u->h'.get? b=some u)(i:h.objs.size<=a)(hn:H a=none):Un fs ex H (upd H a o) h h' where
 keep:=λb u q _ _ _=>k b u q
 slot:=λb u q _ _ _=>#[u.slots,k b u q]
 free:=λb u q n _=>by rw[Qv<|Xp<|XG (Xk q) i];exact n
 there:=λb u q _=>#[u,k b u q]
 tups:=λb f q=>by rw[Qv<|Z1 q hn];exact q
 frzs:=λb u f q=>by rw[Qv<|Z1 q hn];exact q
 tupo:=λb _ g _ e _=>k b g e
 tbls:=λb ps q=>#[(List.toArray []),by rw[Qv<|Z1 q hn,q];simp]
def Un.write(a:Mut (H x))(he:e=x\/H e=some (.own x))(k:∀b u,b≠e->h.get? b=some u->h'.get? b=some u)(s:∃u,h'.get? e=some u):Un fs ex H (upd H x o) h h':=by
 have m:∀b,H b=none->b≠x:=λb n z=>by subst z;rwa[n]at a
 have j:∀b,H b=none->b≠e:=λb n z=>by
  grind
 have f:∀b u,H b=some u->¬Mut (some u)->b≠x:=λb u q nm z=>by subst z;exact nm (q▸a)
 refine#[λb u q n _ _=>k b u (j b n) q,λb u q n _ _=>#[u.slots,k b u (j b n) q],λb u q n _=>by rw[Qv<|m b n];exact n,λb u q _=>?_,
  λb i q=>by rw[Qv<|f b _ q λz=>z];exact q,λb u i q=>by rw[Qv<|f b _ q λz=>z];exact q,λb i u q A _=>k b u (λz=>by
   rcases he with r|r
   .exact f b _ q (λy=>y) (z.trans r)
   .rw[<- z,q]at r;cases r) A,λb ps q=>#[(List.toArray []),by rw[Qv<|f b _ q λz=>z,q];simp]]
 by_cases g:b=e
 .simp_all
 .exact#[u,k b u g q]
end
noncomputable def trk(h:Heap)(H:Hp):Qg:=(List.range h.objs.size).filter λa=>(H a).isSome
def JI(h:Heap)(H:Hp):Heap:=W.hideAll h (trk h H)
def Zrw(h:Heap)(H:Hp):(JI h H).objs.size=h.objs.size:=W.hideAll_size _ _
def OY{b:Addr}(e:h.get? b=some o)(n:H b=none):(JI h H).get? b=some o:=
 W.hideAll_get _ e λf=>by
  have q:=(GX.mp f).2;rw[n]at q;simp at q
def IQ{b:Addr}(e:(JI h H).get? b=some o):h.get? b=some o/\H b=none:=by
 have f:=W.of_hideAll _ e;refine#[f,?_];cases q:H b with
 |none=>rfl
 |some x=>
  have z:(JI h H).get? b=none:=W.hideAll_none _ (GX.mpr #[XY.mpr<|Xk f,by simp[q]])
  grind
end L2
variable {xs ys:List L2.V}{c y:L2.V}{F0 U:L2.Hp}{RR:Addr->Qj->L2.Hp->Prop}{δ:Type}{FL:Addr->L2.Hp->L2.Hp->L2.Hp->Qj->δ->Prop}
namespace L2
structure Mod(K:W.Frag)(mg:Str->Qf)(base:Heap):Prop where
 kin:K.In base
 glob:base.Ns mainGlobals mg
 blt:∃mb,base.Ns builtinsNs mb/\∀x:Str,x ≠ "__name__" -> mb x=bootBuiltins x
 nolimit:base.NoLimit
structure Cx where
 prog:Program
 w:World
 K:W.Frag
 mg:Str->Qf
 base:Heap
 A:Around
 N:Qh
 s₀:Shared
 H₀:Hp
 env:Env
 outer:List Env
 stack:List Env
 ex:Qg
 fn:Str->Bool
 calm:Bool
 pn:Qc
 xe:Qb
def frs(l:List Env):Qg:=l.filterMap (·.frame)
abbrev Cx.fs(X:Cx):Qg:=frs X.outer
def Vis(sc:Scope)(x:Str):Prop:=sc.names.lookup x=some .local\/sc.names.lookup x=some .cell\/sc.names.lookup x=some .free
def Loc(sc:Scope)(x:Str):Prop:=sc.names.lookup x=some .local\/sc.names.lookup x=some .cell
def Bh(env:Env)(h:Heap)(m:Str->Qf)(x:Str)(u:Value):Prop:=
 (env.kindOf x=some .local/\m x=some u)\/((env.kindOf x=some .cell\/env.kindOf x=some .free)/\∃c,env.cells.lookup x=some c/\h.IsCell c (some u))
structure Cx.Ok(X:Cx):Prop where
 mod:Mod X.K X.mg X.base
 kind:X.env.scope.kind=.function
 glob:X.env.globals=mainGlobals
 blt:X.env.builtins=builtinsNs
 above:X.s₀.heap.objs.size<=X.env.locals
 inj:∀x y c,X.env.cells.lookup x=some c->X.env.cells.lookup y=some c->x=y
 has:∀x,(X.env.kindOf x=some .cell\/X.env.kindOf x=some .free)->∃c,X.env.cells.lookup x=some c
 cab:∀x c,X.fn x=true->X.env.cells.lookup x=some c->X.s₀.heap.objs.size<=c
 hd:X.calm=true->X.A.handled=none
 frames:X.A.frames=some X.stack
 stk:X.stack=X.outer\/(X.stack=X.env::X.outer/\X.env.frame=some X.env.locals)
 exf:∀b∈X.ex,b≠X.env.locals/\∀x c,X.env.cells.lookup x=some c->c≠b
 bs:∀b o,X.base.get? b=some o->X.s₀.heap.get? b=some o/\(X.H₀ b=none\/∃xs,X.H₀ b=some (.tup xs))
 bsz:X.base.objs.size<=X.s₀.heap.objs.size
 noex:∀b o,X.base.get? b=some o->b∉X.ex
 exfs:∀b∈X.ex,b∉X.fs
 funs:X.s₀.heap.FunFrames X.base X.outer
 frf:∀b∈X.fs,X.H₀ b=none
structure Qt(X:Cx)(Y:Qc)(O:List (Option V))(H:Hp)(s:Shared):Prop where
 ok:X.Ok
 os:s.os=X.s₀.os
 bare:AllBare s.gens
 base:Un X.fs X.ex X.H₀ H X.s₀.heap s.heap
 loc:∃m,s.heap.Ns X.env.locals m/\∀(i:Nat) (x:Str) (v:V),X.N[i]?=some x->O[i]?=some (some v)->Vis X.env.scope x->∃u,QO v u/\Bh X.env s.heap m x u
 cell:∀x c,X.env.cells.lookup x=some c->∃v,s.heap.IsCell c v
 free:H X.env.locals=none
 freeC:∀x c,X.env.cells.lookup x=some c->H c=none
 pin:∀p∈X.pn++Y,s.heap.get? p.1=some p.2/\H p.1=none/\p.1≠X.env.locals/\p.1∉X.fs/\∀v,p.2.data≠.cell v
 hok:HOk X.prog X.w H s.heap
 len:O.length=X.N.length
section
variable {X:Cx}{O:List (Option V)}{H J:Hp}
def Cx.Ok.nofr(c:X.Ok){b:Addr}(e:X.base.get? b=some o):b∉X.fs:=λf=>by
 have:=(c.funs.mem f).1
 grind
def Qt.bs(I:Qt X Y O H s):∀b o,X.base.get? b=some o->s.heap.get? b=some o/\(H b=none\/∃xs,H b=some (.tup xs)):=λb o e=>by
 obtain⟨f,c⟩:=I.ok.bs b o e;rcases c with c|⟨xs,c⟩
 .exact#[I.base.keep b o f c (I.ok.nofr e)<|I.ok.noex b o e,.inl<|I.base.free b o f c<|I.ok.noex b o e]
 .exact#[I.base.tupo b xs o c f<|I.ok.noex b o e,.inr #[xs,I.base.tups b xs c]]
def Qt.bk(I:Qt X Y O H s):∀b o,X.base.get? b=some o->s.heap.get? b=some o:=λb o e=>(I.bs b o e).1
def Qt.mod(I:Qt X Y O H s):Mod X.K X.mg X.base:=I.ok.mod
def Qt.kIn(I:Qt X Y O H s):X.K.In s.heap:=I.ok.mod.kin.keeps I.bk
def Qt.lt(I:Qt X Y O H s):X.env.locals<s.heap.objs.size:=let ⟨_,hn,_⟩:=I.loc;hn.lt
def Qt.sz(I:Qt X Y O H s):X.s₀.heap.objs.size<=s.heap.objs.size:=Xq I.ok.above (YV I.lt)
def Qt.nofs(I:Qt X Y O H s){a:Addr}(h:s.heap.objs.size<=a):a∉X.fs:=λf=>by
 exact Do (I.ok.funs.mem f) λ_ o c _=>Xt (XG (Xk c)<|Xq I.sz h) (Y5 _)
def Qt.cne(I:Qt X Y O H s):∀x c,X.env.cells.lookup x=some c->c≠X.env.locals:=λx c e z=>by
 apply L0 (I.cell x c e);intro v o i j;obtain⟨m,⟨h,es,n,f,g,_⟩,_⟩:=I.loc
 grind
def Qt.funs(I:Qt X Y O H s):s.heap.FunFrames X.base X.outer:=by
 have i:∀l,(∀b∈frs l,b∈X.fs)->X.s₀.heap.FunFrames X.base l->s.heap.FunFrames X.base l:=by
  intro l;induction l with
  |nil=>intro _ _;trivial
  |cons env r m=>
   intro j A;obtain⟨B,⟨c,o,f,y,q,C⟩,n⟩:=A;have h:=j c (by unfold frs;rw[List.filterMap_cons,f];exact Xb);obtain⟨J,e⟩:=I.base.slot c o q (I.ok.frf c h) h λz=>I.ok.exfs c z h
   exact#[B,#[c,_,f,y,e,C],m (λb g=>j b<|by unfold frs;rw[List.filterMap_cons,f];exact Xf _ g) n]
 exact i X.outer (λ_ g=>g) I.ok.funs
def Qt.stack(I:Qt X Y O H s):s.heap.FunFrames X.base X.stack:=by
 rcases I.ok.stk with e|⟨e,f⟩
 .rw[e];exact I.funs
 .rw[e];obtain⟨m,c,_⟩:=I.loc;refine .cons (by rw[I.ok.kind];decide) f c ?_ I.funs;exact Heap.get?_none_of_le (Xq I.ok.bsz I.ok.above)
def Qt.stkSub(I:Qt X Y O H s):∀b∈frs X.stack,b∈X.env.locals::X.fs:=λb c=>by
 rcases I.ok.stk with e|⟨e,f⟩
 .rw[e]at c;exact Xf _ c
 .rw[e]at c;unfold frs at c;rwa[List.filterMap_cons,f]at c
def Qt.stkFree(I:Qt X Y O H s):∀b∈frs X.stack,H b=none:=λb c=>by
 rcases Xd.mp (I.stkSub b c) with e|c
 .exact e▸I.free
 .exact Do (I.ok.funs.mem c) λ_ o f _=>I.base.free b o f (I.ok.frf b c) λz=>I.ok.exfs b z c
def Qt.step{t':Nat}{ch:Qg}(I:Qt X Y O H s)
(A:∀b∈ch,(b∈X.ex\/X.s₀.heap.objs.size<=b)/\b≠X.env.locals/\(∀x c,X.env.cells.lookup x=some c->c≠b)/\∀p∈X.pn++Y,p.1≠b)
(y:∀b o,b≠X.env.locals->b∉X.fs->b∉ch->s.heap.get? b=some o->H b=none->h'.get? b=some o)
(K:∀b o,b≠X.env.locals->b∈X.fs->b∉ch->s.heap.get? b=some o->H b=none->∃N,h'.get? b=some { o with slots:=N })(g:∀b o,b∉ch->s.heap.get? b=some o->H b=none->J b=none)
(M:∀b o,b∉ch->s.heap.get? b=some o->∃w,h'.get? b=some w)
(W:∀b xs,H b=some (.tup xs)->J b=some (.tup xs))(F:∀b o u,H b=some (.frz o u)->J b=some (.frz o u))(t:∀b ps,H b=some (.tbl ps)->∃E,J b=some (.tbl<|ps++E))
(ns:∀m,s.heap.Ns X.env.locals m->h'.Ns X.env.locals m)(Q:HOk X.prog X.w J h')(hg:AllBare g')(a:∀b xs o,b∉ch->H b=some (.tup xs)->s.heap.get? b=some o->h'.get? b=some o):
 Qt X Y O J { s with heap:=h',gens:=g',drawn:=d',toks:=t' }:=by
 have D:∀b o,X.s₀.heap.get? b=some o->b≠X.env.locals:=λb o e=>Xp (XG (Xk e) I.ok.above)
 have h:∀b o,X.s₀.heap.get? b=some o->b∉X.ex->b∉ch:=λb o e f P=>by
  rcases(A b P).1 with z|z
  .exact f z
  .exact Xt (XG (Xk e) z) (Y5 _)
 have B:∀x c,X.env.cells.lookup x=some c->∀v,s.heap.IsCell c v->h'.IsCell c v:=λx c e v ⟨o,U,R⟩=>by
  have j:=λz=>(A c z).2.2.1 x c e rfl
  by_cases Z:c∈X.fs
  .obtain⟨N,q⟩:=K c o (I.cne x c e) Z j U (I.freeC x c e);exact#[_,q,R]
  .exact#[o,y c o (I.cne x c e) Z j U<|I.freeC x c e,R]
 refine#[I.ok,I.os,hg,#[λb o e n P f=>?_,λb o e n P f=>?_,λb o e n f=>?_,λb o e f=>?_,λb xs e=>W b xs<|I.base.tups b xs e,λb o xs e=>F b o xs<|I.base.frzs b o xs e,λb xs o q e f=>a b xs o (h b o e f) (I.base.tups b xs q)<|I.base.tupo b xs o q e f,λb ps e=>?_],?_,λx c e=>?_,?_,λx c e=>?_,λp T=>?_,Q,I.len]
 .exact y b o (D b o e) P (h b o e f) (I.base.keep b o e n P f) (I.base.free b o e n f)
 .obtain⟨N,C⟩:=I.base.slot b o e n P f;obtain⟨L,G⟩:=K b _ (D b o e) P (h b o e f) C (I.base.free b o e n f);exact#[L,G]
 .obtain⟨w,C⟩:=I.base.there b o e f;exact g b w (h b o e f) C (I.base.free b o e n f)
 .obtain⟨w,C⟩:=I.base.there b o e f;exact M b w (h b o e f) C
 .obtain⟨m1,C⟩:=I.base.tbls b ps e;obtain⟨m2,G⟩:=t b _ C;exact#[m1++m2,by rw[G,Array.append_assoc]]
 .refine At I.loc λm hn hl=>#[m,ns m hn,λi x v C G e3=>At (hl i x v C G e3) λu r l=>#[u,r,?_]];rcases l with l|⟨k,c,e,z⟩
  .exact .inl l
  .exact .inr #[k,c,e,B x c e _ z]
 .obtain⟨v,z⟩:=I.cell x c e;exact#[v,B x c e v z]
 .apply At I.loc;rintro m⟨o,_,_,U,_⟩_;exact g _ o (λz=>(A _ z).2.1 rfl) U I.free
 .exact L0 (I.cell x c e) λv o U R=>g c o (λz=>(A c z).2.2.1 x c e rfl) U (I.freeC x c e)
 .apply JH (I.pin p T);intro e n S nf d;have j:=λz=>(A p.1 z).2.2.2 p T rfl
  exact#[y p.1 p.2 S nf j e n,g p.1 p.2 j e n,S,nf,d]
def Qt.un(I:Qt X Y O H s)(u:Un X.fs [] H J s.heap h')(f:HOk X.prog X.w J h'):Qt X Y O J { s with heap:=h',toks:=t' }:=by
 apply At (id I.loc);rintro m⟨o,es,P,j,r⟩_;obtain⟨C,B⟩:=u.any j I.free (by simp);exact I.step (ch:=[]) (by rintro _ ⟨⟩) (λb o _ g _ e n=>u.keep b o e n g<|by simp) (λb o _ g _ e n=>u.slot b o e n g<|by simp) (λb o _ e n=>u.free b o e n<|by simp) (λb o _ e=>u.there b o e<|by simp) u.tups u.frzs u.tbls (λM A=>by
  apply L1 A;intro K h i c y;rw[j]at c;cases c;exact#[_,h,i,B,y]) f I.bare (λb xs o _ q e=>u.tupo b xs o q e<|by simp)
def Qt.call(I:Qt X Y O H s)(u:Un (frs X.stack) ch H J s.heap h')(i:HOk X.prog X.w J h')(hg:AllBare g')
(h:∀b∈ch,(b∈X.ex\/X.s₀.heap.objs.size<=b)/\b≠X.env.locals/\(∀x c,X.env.cells.lookup x=some c->c≠b)/\∀p∈X.pn++Y,p.1≠b):
 Qt X Y O J { s with heap:=h',gens:=g',drawn:=d',toks:=t' }:=by
 apply At (id I.loc);rintro m⟨o,es,a,B,r⟩_;obtain⟨P,j⟩:=u.any B I.free λz=>(h _ z).2.1 rfl
 exact I.step h (λb o j M f e n=>u.keep b o e n (λz=>(Xd.mp<|I.stkSub b z).elim j M) f) (λb o _ _ f e n=>u.any e n f) (λb o f e n=>u.free b o e n f) (λb o f e=>u.there b o e f) u.tups u.frzs u.tbls (λW K=>by
  apply L1 K;intro U y A g C;rw[B]at g;cases g;exact#[_,y,A,j,C]) i hg (λb xs o f q e=>u.tupo b xs o q e f)
def Qt.turned(I:Qt X Y O H s)(k:∀b o,b≠it->s.heap.get? b=some o->h'.get? b=some o)(hn:H it=none)(h:it≠X.env.locals)
(L:it∈X.ex\/X.s₀.heap.objs.size<=it)(B:∀x c,X.env.cells.lookup x=some c->c≠it)(A:∀p∈X.pn++Y,p.1≠it):Qt X Y O H { s with heap:=h',toks:=t' }:=by
 have g:∀b u,H b=some u->b≠it:=λb u e z=>by rw[z,hn]at e;cases e
 refine I.step (ch:=[it]) (λb y=>?_) (λb o _ _ f e _=>k b o (λz=>f<|by simp[z]) e) (λb o _ _ f e _=>#[o.slots,k b o (λz=>f<|by simp[z]) e]) (λ_ _ _ _ n=>n)
  (λb o f e=>#[o,k b o (λz=>f<|by simp[z]) e]) (λ_ _ e=>e) (λ_ _ _ e=>e) (λb ps e=>#[(List.toArray []),by rw[e];simp]) (λm j=>?_) (λb u e=>?_) I.bare (λb _ o f _ e=>k b o (λz=>f<|by simp[z]) e)
 .have e:=by simpa using y
  subst e;exact#[L,h,B,A]
 .exact L1 j λo es C i r=>#[o,es,C,k _ o (Ne.symm h) i,r]
 .refine(I.hok b u e).stay (λc v f q=>k c v ?_ q) (λ_ q=>q) λ_ _ q=>q
  rcases f with z|z
  .rw[z];exact g b u e
  .exact g c _ z
def Qt.tok(I:Qt X Y O H s)(t:Nat):Qt X Y O H { s with toks:=t }:=I.un Un.refl I.hok
def Qt.kept(I:Qt X Y O H s)(k:∀b u,s.heap.get? b=some u->h'.get? b=some u):Qt X Y O H { s with heap:=h',toks:=t' }:=I.un (Un.kept k) (I.hok.kept k)
def Qt.laid{a:Addr}{o:HO}{t':Nat}(I:Qt X Y O H s)(k:∀b u,s.heap.get? b=some u->h'.get? b=some u)(f:s.heap.objs.size<=a)(c:ZT X.prog X.w (upd H a o) h' a o):
 Qt X Y O (upd H a o) { s with heap:=h',toks:=t' }:=I.un (Un.laid k f<|I.hok.fresh f) (I.hok.laid k f c)
def Qt.write(I:Qt X Y O H s)(g:Mut (H x))(he:e=x\/H e=some (.own x))(k:∀b u,b≠e->s.heap.get? b=some u->h'.get? b=some u)(c:∃u,h'.get? e=some u)
(f:ZT X.prog X.w (upd H x o) h' x o):Qt X Y O (upd H x o) { s with heap:=h',toks:=t' }:=I.un (Un.write g he k c) (I.hok.write g he k c f)
def Qt.weak(I:Qt X Y O H s)(c:σ'.length=O.length)(w:∀(i:Nat) v,σ'[i]?=some (some v)->O[i]?=some (some v)):Qt X Y σ' H s:=
 #[I.ok,I.os,I.bare,I.base,let ⟨m,hn,hl'⟩:=I.loc;#[m,hn,λi x v h g f=>hl' i x v h (w i v g) f],I.cell,I.free,I.freeC,I.pin,I.hok,c.trans I.len]
def Qt.pins_of(I:Qt X Y O H s)(h:∀p∈pins',s.heap.get? p.1=some p.2/\H p.1=none/\p.1≠X.env.locals/\p.1∉X.fs/\∀v,p.2.data≠.cell v):Qt X pins' O H s:=
 #[I.ok,I.os,I.bare,I.base,I.loc,I.cell,I.free,I.freeC,λp c=>(Xz.mp c).elim (λz=>I.pin p<|GT _ z) (h p),I.hok,I.len]
def Zsj{N:Qh}(c:N.Nodup)(a:N[i]?=some x)(b:N[j]?=some x):i=j:=by
 obtain⟨L,g⟩:=Xi.mp a;obtain⟨h,f⟩:=Xi.mp b;exact(List.getElem_inj c).mp (g.trans f.symm)
def Qt.poke{m:Str->Qf}(I:Qt X Y O H s)(t:X.N.Nodup)(C:X.N[i]?=some x)(hs:Heap.SameBut a s.heap h')(ab:X.s₀.heap.objs.size<=a)(N:H a=none)
(J:a=X.env.locals\/(∃v,s.heap.IsCell a v)/\∃w,h'.IsCell a w)(hn:h'.Ns X.env.locals m')(l:∀(i:Nat) (x:Str) (v:V),X.N[i]?=some x->O[i]?=some (some v)->Vis X.env.scope x->∃u,QO v u/\Bh X.env s.heap m x u)
(P:∀v,ov=some v->∃u,QO v u/\Bh X.env h' m' x u)(W:∀y u,y≠x->Bh X.env s.heap m y u->Bh X.env h' m' y u):Qt X Y (O.set i ov) H { s with heap:=h',toks:=tk }:=by
 have k:∀{b o o'},X.s₀.heap.get? b=some o->s.heap.get? b=some o'->h'.get? b=some o':=λe q=>(hs.2 _<|Xp<|XG (Xk e) ab).trans q;refine#[I.ok,I.os,I.bare,#[λb o e n A f=>k e<|I.base.keep b o e n A f,λb o e n A f=>(I.base.slot b o e n A f).imp λ_=>k e,I.base.free,λb o e f=>(I.base.there b o e f).imp λ_=>k e,I.base.tups,I.base.frzs,λb xs o q e f=>k e<|I.base.tupo b xs o q e f,I.base.tbls],#[m',hn,λj y v g K D=>?_],λy c e=>?_,I.free,I.freeC,λp U=>?_,λb M e=>(I.hok b M e).stay (λc G L q=>(hs.2 c<|by rintro rfl;grind).trans q) (λ_ q=>q) λ_ _ q=>q,by simpa using I.len]
 .by_cases h:j=i
  .subst h;rw[C]at g;cases g;exact P _ (by grind)
  .exact At (l j y v g ((XX<|Ne.symm h)▸K) D) λu r q=>#[u,r,W y u (λe=>h<|Zsj t g<|e▸C) q]
 .by_cases z:c=a
  .subst z;exact J.elim (λz=>Xt z<|I.cne y c e) And.right
  .exact(I.cell y c e).imp λ_ q=>q.sameBut hs z
 .refine JH (I.pin p U) λe n B nf d=>#[(hs.2 p.1 λq=>?_).trans e,n,B,nf,d];rcases J with z|⟨⟨v,o,E,F⟩,_⟩
  .exact B (q.trans z)
  .rw[q,E]at e;cases e;exact d _ F
def Cg(I:Qt X Y O H s)(b:X.N.Nodup)(W:X.N[i]?=some x)(l:Loc X.env.scope x)(r:QO v u)
(h:∀B,Qt X Y (O.set i<|some v) H B->(∃a,Heap.SameBut a s.heap B.heap/\(a=X.env.locals\/X.env.cells.lookup x=some a))->Q () B)(o:X.fn x=true\/X.env.scope.names.lookup x=some .local:=by first|exact .inl rfl|exact .inr rfl|assumption):wpAny M A (storeName X.env x u) Q dx s:=by
 apply At (id I.loc);intro m P U;rcases l with g|g
 .refine wpAny_storeName_local g P (λh' J f=>h _ (I.poke (ov:=some v) b W f I.ok.above I.free (.inl rfl) J U (λ_ e=>by cases e;exact#[u,r,.inl #[g,by simp]]) λy u C q=>q.imp ?_<|by rintro⟨k,c,e,z⟩;exact#[k,c,e,z.sameBut f<|I.cne y c e]) #[_,f,.inl rfl]) (by rw[I.ok.kind];rfl);rintro⟨k,e⟩;exact#[k,by simp[C,e]]
 .have K:X.fn x=true:=o.elim id λz=>by rw[z]at g;cases g
  obtain⟨c,j⟩:=I.ok.has x (.inl g);obtain⟨t,z⟩:=I.cell x c j;refine wpAny_storeName_cell I.ok.kind g j z λh' n f=>h { s with heap:=h' } (I.poke (ov:=some v) b W f (I.ok.cab x c K j) (I.freeC x c j) (.inr #[#[_,z],_,n]) (P.sameBut f<|Ne.symm<|I.cne x c j) U (λ_ e=>by cases e;exact#[u,r,.inr #[.inl g,c,j,n]]) λy u C q=>q.imp id ?_) #[c,f,.inr j];rintro⟨k,p,e,d⟩;exact#[k,p,e,d.sameBut f λq=>C<|I.ok.inj _ _ _ (q▸e) j]
noncomputable def DF(I:Qt X Y O H s)(m:X.N.Nodup)(g:X.N[i]?=some x)(f:Loc X.env.scope x)(r:QO v u)
(h:∀c,Qt X Y (O.set i<|some v) H c->Q () c)(j:X.fn x=true\/X.env.scope.names.lookup x=some .local:=by first|exact .inl rfl|exact .inr rfl|assumption):wpAny M A (storeName X.env x u) Q dx s:=
 Cg I m g f r (λc n _=>h c n) j
def Qt.call'(I:Qt X Y O H s)(h:s'.os=s.os)(u:Un (frs X.stack) ch H J s.heap s'.heap)(f:HOk X.prog X.w J s'.heap)(hg:AllBare s'.gens)
(g:∀b∈ch,(b∈X.ex\/X.s₀.heap.objs.size<=b)/\b≠X.env.locals/\(∀x c,X.env.cells.lookup x=some c->c≠b)/\∀p∈X.pn++Y,p.1≠b):Qt X Y O J s':=by
 obtain⟨h',m,n,i,j⟩:=s';subst h;exact I.call u f hg g
end
abbrev XK:=Value->Qj->Hp->Prop
abbrev St:=List (Option V)
abbrev VK:=V->Hp->Prop
abbrev TE:=St->Hp->VK->Prop
abbrev TT:=St->Hp->(Bool->Hp->Prop)->Prop
abbrev TA:=St->Hp->(List V->Hp->Prop)->Prop
structure Ends where
 nx:St->Hp->Prop
 rt:VK
 bk:St->Hp->Prop:=λ_ _=>False
 ct:St->Hp->Prop:=λ_ _=>False
abbrev TS:=Ends->St->Hp->Prop
def EP(X:Cx)(Y:Qc)(O:St)(Q:VK)(u:Value)(c:Shared):Prop := ∃v J,Qt X Y O J c/\QO v u/\Q v J
def TP(X:Cx)(Y:Qc)(O:St)(Q:Bool->Hp->Prop)(b:Bool)(c:Shared):Prop := ∃J,Qt X Y O J c/\Q b J
def AP(X:Cx)(Y:Qc)(O:St)(Q:List V->Hp->Prop)(us:Qe)(f:Shared):Prop := ∃c J,Qt X Y O J f/\QS c us/\Q c J
def SP(X:Cx)(Y:Qc)(h:Ends)(f:Flow)(g:Shared):Prop:=
 match f with
 |.next=>∃c J,Qt X Y c J g/\h.nx c J
 |.brk=>∃c J,Qt X Y c J g/\h.bk c J
 |.cont=>∃c J,Qt X Y c J g/\h.ct c J
 |.ret u=>∃v c J,Qt X Y c J g/\QO v u/\h.rt v J
def PE(X:Cx)(e:Expr)(t:TE):Prop:=
 ∀(Y:Qc) (s:Shared) (O:St) (H:Hp) (Q:VK),Qt X Y O H s->t O H Q->wpAny (model X.prog X.w) X.A (eval e X.env) (EP X Y O Q) X.xe s
def PT(X:Cx)(e:Expr)(t:TT):Prop:=
 ∀(Y:Qc) (s:Shared) (O:St) (H:Hp) (Q:Bool->Hp->Prop),Qt X Y O H s->t O H Q->wpAny (model X.prog X.w) X.A (isTrue e X.env<|eval e X.env) (TP X Y O Q) X.xe s
def PW(X:Cx)(e:Expr)(t:TT):Prop:=
 ∀(c:Sem Value) (Y:Qc) (s:Shared) (O:St) (H:Hp) (Q:Bool->Hp->Prop),Qt X Y O H s->t O H Q->wpAny (model X.prog X.w) X.A (isTrue e X.env c) (TP X Y O Q) X.xe s
def PW.pt(h:PW X e t):PT X e t:=h _
def PA(X:Cx)(es:Qi)(t:TA):Prop:=
 ∀(pos:Pos) (Y:Qc) (s:Shared) (O:St) (H:Hp) (Q:List V->Hp->Prop),Qt X Y O H s->t O H Q->wpAny (model X.prog X.w) X.A (spliced<|backTo pos<|starEach es X.env) (AP X Y O Q) X.xe s
def PS(X:Cx)(st:Stmt)(t:TS):Prop:=
 ∀(Y:Qc) (s:Shared) (O:St) (H:Hp) (c:Ends),Qt X Y O H s->t c O H->wpAny (model X.prog X.w) X.A (exec st X.env) (SP X Y c) X.xe s
def PSs(X:Cx)(st:List Stmt)(t:TS):Prop:=
 ∀(Y:Qc) (s:Shared) (O:St) (H:Hp) (c:Ends),Qt X Y O H s->t c O H->wpAny (model X.prog X.w) X.A (execs st X.env) (SP X Y c) X.xe s
def Q9{c:Type}{t:Sem c}{Q g:c->Shared->Prop}{f:Qb}(h:wpAny M A t Q f s)(i:∀a s,Q a s->g a s):wpAny M A t g f s:=wpAny_mono h i λ_ _ x=>x
end L2
variable {X:L2.Cx}{ta tc td te tv tx:L2.TE}{tA tB':L2.TT}{th:Addr->L2.TS}{E':L2.XK}
namespace L2
section
def Q8(i:Nat):TE:=λO H Q=>∃v,O[i]?=some (some v)/\Q v H
def tC(v:V):TE:=λ_ H Q=>Q v H
def Tc  (M:X.N[i]?=some x)(A:Vis X.env.scope x)(n:(x==("__debug__" : Str))=false:=by decide)(q:(x==("__classdict__" : Str))=false:=by decide):PE X (.Name x pos) (Q8 i):=by
 refine λY s O H Q I h=>At h λv e h=>At I.loc λm B K=>At (K i x v M e A) λu r l=>?_;have j:EP X Y O Q u s:=#[v,H,I,r,h]
 rcases l with ⟨g,C⟩|⟨g,c,y,f⟩
 .exact wpAny_Name (wpAny_loadName_local I.ok.kind g B C j) n
 .rcases g with g|g
  .exact wpAny_Name (wpAny_loadName_cell I.ok.kind g y f j) n
  .exact wpAny_Name (wpAny_loadName_free I.ok.kind g y f j q) n
def Qw{i j pos}:PE X (.Constant (.int i) j pos) (tC<|.int i):=λ_ _ _ H _ I h=>wpAny_Constant_int #[.int i,H,I.tok _,#[_,rfl],h]
def YB{b j pos}:PE X (.Constant (.bool b) j pos) (tC<|.bl b):=λ_ _ _ H _ I h=>Constant_bool #[.bl b,H,I,rfl,h]
def U8{j pos}:PE X (.Constant .none j pos) (tC .non):=λ_ _ _ H _ I h=>Constant_none #[.non,H,I,rfl,h]
def QP{x j pos}:PE X (.Constant (.str x) j pos) (tC<|.str x):=λ_ _ _ H _ I h=>Calls.Constant_str #[.str x,H,I.tok _,#[_,rfl],h]
def Gl(X:Cx)(x:Str):Prop:=X.env.kindOf x=some .globalImplicit
def WY{g:Qb}{O:St}{H:Hp}{x:Str}{u:Value}{Q:Qb}(I:Qt X Y O H s)(hg:Gl X x)(c:X.mg x=some u)(h:Q u s)
(f:(x==("__debug__" : Str))=false:=by decide):wpAny (model X.prog X.w) X.A (eval (.Name x pos) X.env) Q g s:=
 Calls.Name_function_global I.ok.kind hg (Calls.loadGlobal_global (by rw[I.ok.glob];exact I.mod.glob.keeps I.bk) c h) f
noncomputable def WN{j:Qb}{O:St}{H:Hp}{x:Str}{u:Value}{Q:Qb}(I:Qt X Y O H s)(hg:Gl X x)(f:X.mg x=none)(c:bootBuiltins x=some u)(h:Q u s)
(hn:x ≠ "__name__" := by decide)(g:(x==("__debug__" : Str))=false:=by decide):wpAny (model X.prog X.w) X.A (eval (.Name x pos) X.env) Q j s:=by
 exact At I.mod.blt λm L i=>Calls.Name_function_global I.ok.kind hg (Calls.loadGlobal_builtin (by rw[I.ok.glob];exact I.mod.glob.keeps I.bk) f (by rw[I.ok.blt];exact L.keeps I.bk) ((i x hn).trans c) h) g
def Y2   (hg:Gl X x)(c:X.mg x=some u)(r:QO v u)(f:(x==("__debug__" : Str))=false:=by decide):PE X (.Name x pos) (tC v):=
 λ_ _ _ H _ I h=>WY I hg c #[v,H,I,r,h] f
def UL   (hg:Gl X x)(f:X.mg x=none)(c:bootBuiltins x=some u)(r:QO v u)(hn:x ≠ "__name__" := by decide)(g:(x==("__debug__" : Str))=false:=by decide):PE X (.Name x pos) (tC v):=
 λ_ _ _ H _ I h=>WN I hg f c #[v,H,I,r,h] hn g
variable {a b:Expr}{tb:TE}
def PC(X:Cx)(c:CmpOp)(a b:Expr)(t:TE):Prop:=
 ∀(Y:Qc) (s:Shared) (O:St) (H:Hp) (Q:VK),Qt X Y O H s->t O H Q->
  wpAny (model X.prog X.w) X.A (eval a X.env) (λv g=>wpAny (model X.prog X.w) X.A (eval b X.env) (λu f=>wpAny (model X.prog X.w) X.A (compareOp c v u) (EP X Y O Q) X.xe f) X.xe g) X.xe s
def LV(b:Expr)(h:op≠.In)(a:op≠.NotIn):behindInMarks op b=false:=by
 have f:(op==CmpOp.In)=false:=by cases op<;>first|rfl|exact Xt rfl h
 have c:(op==CmpOp.NotIn)=false:=by cases op<;>first|rfl|exact Xt rfl a
 cases b<;>simp[behindInMarks,f,c]
def SW(ta:TE):TE:=λO H Q=>ta O H λx D=>Q (.bl<|decide (x=.non)) D
def HJ(ta:TE):TE:=λO H Q=>ta O H λx D=>Q (.bl<|!decide (x=.non)) D
def QO.none_iff{v:Value}(r:QO x v):(v==Value.none)=decide (x=.non):=by
 cases x with
 |non=>cases r;rfl
 |bl _=>cases r;rfl
 |int _=>obtain⟨t,rfl⟩:=r;rfl
 |str _=>obtain⟨t,rfl⟩:=r;rfl
 |byt _=>obtain⟨t,rfl⟩:=r;rfl
 |flt _=>obtain⟨t,rfl⟩:=r;rfl
 |ref _=>cases r;rfl
 |ty _=>cases r;rfl
def E6{j pos'}(f:PE X a ta):PC X .Is a (.Constant .none j pos') (SW ta):=by
 refine λY s O H Q I h=>Q9 (f Y s O H _ I h) ?_;rintro v i ⟨x,D,g,b,c⟩;exact Constant_none (is_none_gen #[.bl _,D,g,by rw[b.none_iff];rfl,c])
def L9{j pos'}(f:PE X a ta):PC X .IsNot a (.Constant .none j pos') (HJ ta):=by
 refine λY s O H Q I h=>Q9 (f Y s O H _ I h) ?_;rintro v i ⟨x,D,g,b,c⟩;exact Constant_none (isnot_none_gen #[.bl _,D,g,by rw[b.none_iff];rfl,c])
def tB(t:TE):TT:=λO H Q=>t O H λx D=>∃c,x=.bl c/\Q c D
def AD(h:PC X op a b t)(L:behindInMarks op b=false:=by first|exact LV _ (by decide) (by decide)|rfl):PE X (.Compare a [op] [b] pos) t:=λY s O H Q I c=>wpAny_Compare1 (h Y s O H Q I c) L
def UF(h:PC X op a b t)(L:behindInMarks op b=false:=by first|exact LV _ (by decide) (by decide)|rfl):PT X (.Compare a [op] [b] pos) (tB t):=by
 refine λY s O H Q I i=>wpAny_isTrue_Compare1 (Q9 (h Y s O H _ I i) λv A L=>Q9 L λu y j=>Q9 j ?_) L;rintro c n ⟨x,D,m,f,g⟩;apply At g;rintro d rfl q;cases f;exact wpAny_truthy_bool #[D,m,q]
def ZL(h:PE X e t)(he:∀a,isTrue e X.env a=(do let v <- a;standAt e.pos;holding [v] (truthy v)):=by intro _;rfl):PT X e (tB t):=by
 refine λY s O H Q I f=>isTrue_plain (Q9 (h Y s O H _ I f) ?_) (he _);rintro v i ⟨x,D,g,b,c⟩;apply At c;rintro d rfl q;cases b;exact wpAny_truthy_bool #[D,g,q]
variable {rest:Qi}
def HB(t u:TT):TT:=λO H Q=>t O H λc D=>if c=true then u O D Q else Q false D
def tOr(t u:TT):TT:=λO H Q=>t O H λc D=>if c=true then Q true D else u O D Q
def SZ(t:TT):TT:=λO H Q=>t O H λc D=>Q (!c) D
def Dp(b:PT X a tA):PW X (.BoolOp .And [a] pos) tA:=by
 refine λf Y s O H Q I h=>isTrue_and (Q9 (b Y s O H Q I h) λc g e=>?_);cases c with
 |true=>exact isTrue_and_nil e
 |false=>exact e
def UE(b:PT X a tA):PW X (.BoolOp .Or [a] pos) tA:=by
 refine λf Y s O H Q I h=>isTrue_or (Q9 (b Y s O H Q I h) λc g e=>?_);cases c with
 |false=>exact isTrue_or_nil e
 |true=>exact e
def De(n:PT X a tA)(m:PW X (.BoolOp .And (b::rest) pos) tB'):PW X (.BoolOp .And (a::b::rest) pos) (HB tA tB'):=by
 refine λi Y s O H Q I h=>isTrue_and (Q9 (n Y s O H _ I h) ?_);rintro c j ⟨D,g,f⟩;cases c with
 |true=>exact m i Y j O D Q g f
 |false=>exact#[D,g,f]
def U6(n:PT X a tA)(m:PW X (.BoolOp .Or (b::rest) pos) tB'):PW X (.BoolOp .Or (a::b::rest) pos) (tOr tA tB'):=by
 refine λi Y s O H Q I h=>isTrue_or (Q9 (n Y s O H _ I h) ?_);rintro c j ⟨D,g,f⟩;cases c with
 |true=>exact#[D,g,f]
 |false=>exact m i Y j O D Q g f
def Vy(b:PT X a tA):PT X (.UnaryOp .Not a pos) (SZ tA):=by
 exact λY s O H Q I h=>isTrue_not (b Y s O H _ I h)
def Pq(ta tb:TE):TE:=λO H Q=>ta O H λx D=>∃c,x=.bl c/\if c=true then tb O D Q else Q (.bl false) D
def Aj(ta tb:TE):TE:=λO H Q=>ta O H λx D=>∃c,x=.bl c/\if c=true then Q (.bl true) D else tb O D Q
def Px(ta:TE):TE:=λO H Q=>ta O H λx D=>∃c,x=.bl c/\Q (.bl<|!c) D
def YE{op}(h:PE X a t):PE X (.BoolOp op [a] pos) t:=λY s O H Q I b=>BoolOp_one (h Y s O H Q I b)
def Yo(n:PE X a ta)(m:PE X (.BoolOp .And (b::rest) pos) tb):PE X (.BoolOp .And (a::b::rest) pos) (Pq ta tb):=by
 refine λY s O H Q I h=>BoolOp_and (Q9 (n Y s O H _ I h) ?_);rintro v i ⟨x,D,g,j,f⟩;obtain⟨c,rfl,f⟩:=f;cases j;refine wpAny_truthy_bool ?_;cases c with
 |true=>exact m Y i O D Q g f
 |false=>exact#[.bl false,D,g,rfl,f]
def Ph(n:PE X a ta)(m:PE X (.BoolOp .Or (b::rest) pos) tb):PE X (.BoolOp .Or (a::b::rest) pos) (Aj ta tb):=by
 refine λY s O H Q I h=>BoolOp_or (Q9 (n Y s O H _ I h) ?_);rintro v i ⟨x,D,g,j,f⟩;obtain⟨c,rfl,f⟩:=f;cases j;refine wpAny_truthy_bool ?_;cases c with
 |false=>exact m Y i O D Q g f
 |true=>exact#[.bl true,D,g,rfl,f]
def Tp(g:PE X a ta):PE X (.UnaryOp .Not a pos) (Px ta):=by
 refine λY s O H Q I h=>UnaryOp_ (Q9 (g Y s O H _ I h) ?_);rintro v j ⟨x,D,i,f,b⟩;apply At b;rintro c rfl b;cases f;exact not_of (wpAny_truthy_bool #[.bl<|!c,D,i,rfl,b])
def tIf(t:TT)(ta tb:TE):TE:=λO H Q=>t O H λc D=>if c=true then ta O D Q else tb O D Q
def Fj{c:Expr}(j:PT X c tA)(n:PE X a ta)(m:PE X b tb):PE X (.IfExp c a b pos) (tIf tA ta tb):=by
 refine λY s O H Q I h=>wpAny_IfExp (Q9 (j Y s O H _ I h) ?_);rintro d f ⟨D,i,g⟩;cases d with
 |true=>exact n Y f O D Q i g
 |false=>exact m Y f O D Q i g
end
end L2
namespace L2
def SqL(K:W.Frag)(H:Hp)(a:Addr)(xs:List V):Prop:=
 Rd H a (.lst xs) \/
  ∃(o:Obj) (c:Array Value) (n:Nat),K.lookup a=some o/\o.cls=.type "list" /\ o.dict=none/\o.data=.seq c n/\c.size<=sizeLine/\QS xs c.toList
def SqT(K:W.Frag)(H:Hp)(a:Addr)(xs:List V):Prop:=
 Rd H a (.tup xs) \/
  ∃(o:Obj) (c:Array Value) (n:Nat),K.lookup a=some o/\o.cls=.type "tuple" /\ o.data=.seq c n/\c.size<=sizeLine/\QS xs c.toList
noncomputable def Z0k:Value->Option V
 |.none=>some .non
 |.bool b=>some (.bl b)
 |.int i _=>some (.int i)
 |.str x _=>some (.str x)
 |.bytes b _=>some (.byt b)
 |.float b _=>some (.flt b)
 |.ref a=>some (.ref a)
 |.type n=>some (.ty n)
 |_=>none
def QO.abs(r:QO x u):Z0k u=some x:=by
 cases x with
 |non=>cases r;rfl
 |bl _=>cases r;rfl
 |int _=>obtain⟨t,rfl⟩:=r;rfl
 |str _=>obtain⟨t,rfl⟩:=r;rfl
 |byt _=>obtain⟨t,rfl⟩:=r;rfl
 |flt _=>obtain⟨t,rfl⟩:=r;rfl
 |ref _=>cases r;rfl
 |ty _=>cases r;rfl
def QO.inj(r:QO x u)(q:QO y u):x=y:=Option.some.inj (r.abs.symm.trans q.abs)
theorem QS.inj:∀{xs ys:List V} {us:Qe},QS xs us->QS ys us->xs=ys
 |_,_,_,.nil,.nil=>rfl
 |_,_,_,.cons r t,.cons f c=>by rw[r.inj f,QS.inj t c]
section
variable {O:St}{H:Hp}{a:Addr}
def SqL.of(h:H a=some (.lst xs)):SqL K H a xs:=.inl (.inl h)
def SqT.of(h:H a=some (.tup xs)):SqT K H a xs:=.inl (.inl h)
def Qt.list(I:Qt X Y O H s)(h:SqL X.K H a xs):∃c:Qe,QS xs c/\PlainL s.heap a c.toArray/\xs.length<=sizeLine:=by
 rcases h with h|⟨o,c,n,g,j,i,f,m,r⟩
 .exact By (h.ok I.hok) λz c n r e=>#[c,r,#[_,n,e,rfl,rfl,rfl],z]
 .refine#[c.toList,r,#[o,n,I.kIn a o g,j,i,by simpa using f],?_];have e:=r.length;simp_all
def Qt.tuple(I:Qt X Y O H s)(h:SqT X.K H a xs):∃c:Qe,QS xs c/\IsTup s.heap a c.toArray/\xs.length<=sizeLine:=by
 rcases h with h|⟨o,c,n,g,i,f,j,r⟩
 .exact Do (h.ok I.hok) λz c r p=>#[c,r,p,z]
 .refine#[c.toList,r,#[o,I.kIn a o g,i,n,by simpa using f],?_];have e:=r.length;simp only[Array.length_toList]at e;lia
def Qt.list_inj(I:Qt X Y O H s)(h:SqL X.K H a xs)(h':SqL X.K H a ys):xs=ys:=by
 apply L3 (I.list h);rintro j r⟨o,n,e,_,_,d⟩_;apply L3 (I.list h');rintro c i⟨q,y,f,_,_,g⟩_;rw[e]at f;cases f;rw[d]at g;injection g with m _;have:=by simpa using XS Array.toList m
 subst this;exact r.inj i
def Qt.tuple_inj(I:Qt X Y O H s)(h:SqT X.K H a xs)(h':SqT X.K H a ys):xs=ys:=by
 apply L3 (I.tuple h);rintro j r⟨o,e,_,n,d⟩_;apply L3 (I.tuple h');rintro c i⟨q,f,_,y,g⟩_;rw[e]at f;cases f;rw[d]at g;injection g with m _;have:=by simpa using XS Array.toList m
 subst this;exact r.inj i
end
noncomputable abbrev Cx.wish(X:Cx)(dx:Qb):Cx:={ X with xe:=dx }
noncomputable abbrev Cx.nox(X:Cx):Cx:=X.wish λ_ _=>False
def Cx.Ok.wish(c:X.Ok)(f:Qb):(X.wish f).Ok:=
 #[c.mod,c.kind,c.glob,c.blt,c.above,c.inj,c.has,c.cab,c.hd,c.frames,c.stk,c.exf,c.bs,c.bsz,c.noex,c.exfs,c.funs,c.frf]
def Cx.Ok.unwish(c:(X.wish dx).Ok):X.Ok:=
 #[c.mod,c.kind,c.glob,c.blt,c.above,c.inj,c.has,c.cab,c.hd,c.frames,c.stk,c.exf,c.bs,c.bsz,c.noex,c.exfs,c.funs,c.frf]
section
variable {O:St}{H:Hp}{dx:Qb}
def Qt.wish(I:Qt X Y O H s)(dx:Qb):Qt (X.wish dx) Y O H s:=#[I.ok.wish dx,I.os,I.bare,I.base,I.loc,I.cell,I.free,I.freeC,I.pin,I.hok,I.len]
def Qt.unwish(I:Qt (X.wish dx) Y O H s):Qt X Y O H s:=#[I.ok.unwish,I.os,I.bare,I.base,I.loc,I.cell,I.free,I.freeC,I.pin,I.hok,I.len]
def SP.unwish{f:Flow}(h:SP (X.wish dx) Y H1 f s'):SP X Y H1 f s':=by
 cases f with
 |next=>obtain⟨c,J,I,q⟩:=h;exact#[c,J,I.unwish,q]
 |brk=>obtain⟨c,J,I,q⟩:=h;exact#[c,J,I.unwish,q]
 |cont=>obtain⟨c,J,I,q⟩:=h;exact#[c,J,I.unwish,q]
 |ret u=>obtain⟨v,c,J,I,r,q⟩:=h;exact#[v,c,J,I.unwish,r,q]
def PSs.nox{st:List Stmt}(h:PSs X.nox st t):PSs X st t:=λY s O H f I c=>
 wpAny_mono (h Y s O H f (I.wish _) c) (λ_ _ q=>q.unwish) λ_ _ z=>False.elim z
end
section
variable {st:Stmt}{rest:List Stmt}{t u:TS}{e:Expr}
def Gk:TS:=λc O H=>c.nx O H
def V6(t u:TS):TS:=λc O H=>t { c with nx:=u c } O H
def QV:PSs X [] Gk:=λ_ _ O H _ I h=>wpAny_execs_nil #[O,H,I,h]
def Qy(L:PS X st t)(i:PSs X rest u):PSs X (st::rest) (V6 t u):=by
 refine λY s O H e I h=>wpAny_execs_cons (Q9 (L Y s O H { e with nx:=u e } I h) λf g q=>?_);cases f with
 |next=>
  exact L0 q λc J j q=>i Y g c J e j q
 |ret v=>exact q
 |brk=>exact q
 |cont=>exact q
def Qz(L:PS X st t):PSs X [st] t:=by
 refine λY s O H c I h=>wpAny_execs_cons (Q9 (L Y s O H c I h) λf e q=>?_);cases f with
 |next=>exact wpAny_execs_nil q
 |ret v=>exact q
 |brk=>exact q
 |cont=>exact q
def EM:PS X (.Pass pos) Gk:=λ_ _ O H _ I h=>wpAny_Pass #[O,H,I,h]
def Qt.quiet{O:St}{H:Hp}(I:Qt X Y O H s):interactive X.env=false:=by simp[interactive,I.ok.kind]
def V2(te:TE):TS:=λc O H=>te O H λ_ D=>c.nx O D
def Z0(he:PE X e te)(hs:swapsWith e none pos.line X.env=pure false:=by rfl):PS X (.Expr e pos) (V2 te):=by
 refine λY s O H j I h=>wpAny_Expr_any (Q9 (he Y s O H _ I h) ?_) I.quiet hs;rintro v g ⟨x,D,f,i,c⟩;exact#[O,D,f,c]
def VN(te:TE):TS:=λc O H=>te O H c.rt
def QK(he:PE X e te):PS X (.Return (some e) pos) (VN te):=by
 refine λY s O H j I h=>wpAny_Return_some (Q9 (he Y s O H _ I h) ?_);rintro v i ⟨x,D,g,c,f⟩;exact#[x,O,D,g,c,f]
def Jj(c:TT)(t u:TS):TS:=λe O H=>c O H λb D=>if b=true then t e O D else u e O D
def QW{c:Expr}{b:List Stmt}{tc:TT}(j:PT X c tc)(n:PSs X a t)(m:PSs X b u):PS X (.If c a b pos) (Jj tc t u):=by
 refine λY s O H i I h=>wpAny_If (Q9 (j Y s O H _ I h) ?_);rintro d e ⟨D,g,f⟩;cases d with
 |true=>exact n Y e O D i g f
 |false=>exact m Y e O D i g f
def Ea:TS:=λ_ _ _=>False
def Vd:PSs X sts Ea:=λ_ _ _ _ _ _ h=>h.elim
end
abbrev TG:=V->St->Hp->(St->Hp->Prop)->Prop
abbrev TGs:=List V->St->Hp->(St->Hp->Prop)->Prop
def PG(X:Cx)(c:Expr)(t:TG):Prop:=
 ∀(Y:Qc) (s:Shared) (O:St) (H:Hp) (v:V) (u:Value) (Q:St->Hp->Prop),Qt X Y O H s->QO v u->t v O H Q->
  wpAny (model X.prog X.w) X.A (assign c X.env u) (λ_ g=>∃f J,Qt X Y f J g/\Q f J) X.xe s
def PGs(X:Cx)(ts:Qi)(t:TGs):Prop:=
 ∀(Y:Qc) (s:Shared) (O:St) (H:Hp) (f:List V) (g:Qe) (Q:St->Hp->Prop),Qt X Y O H s->QS f g->t f O H Q->
  wpAny (model X.prog X.w) X.A (assignInOrder ((assignEach ts X.env).map (·.2)) g) (λ_ h=>∃c J,Qt X Y c J h/\Q c J) X.xe s
abbrev Ho:=V->V->V->Hp->(Hp->Prop)->Prop
def Hz(X:Cx)(t:Ho):Prop:=
 ∀(Y:Qc) (s:Shared) (O:St) (H:Hp) (o i v:V) (c f u:Value) (Q:Hp->Prop),Qt X Y O H s->QO o c->QO i f->QO v u->t o i v H Q->
  wpAny (model X.prog X.w) X.A (setItem c f u) (λ_ g=>∃J,Qt X Y O J g/\Q J) X.xe s
abbrev TIp:=V->V->Hp->VK->Prop
def PIp(X:Cx)(c:Operator)(t:TIp):Prop:=
 ∀(Y:Qc) (s:Shared) (O:St) (H:Hp) (x y:V) (v u:Value) (Q:VK),Qt X Y O H s->QO x v->QO y u->t x y H Q->
  wpAny (model X.prog X.w) X.A (inplaceOp c v u) (EP X Y O Q) X.xe s
def Vs(i:Nat):TG:=λv O H Q=>Q (O.set i<|some v) H
def Zy(i:Nat)(j:X.N.Nodup)(f:X.N[i]?=some x:=by rfl)(c:Loc X.env.scope x:=by first|exact Or.inl rfl|exact Or.inr rfl)(g:X.fn x=true\/X.env.scope.names.lookup x=some .local:=by first|exact .inl rfl|exact .inr rfl|assumption):PG X (.Name x pos) (Vs i):=by
 exact λY s O H v u Q I r h=>wpAny_assign_Name (DF I j f c r (λn m=>#[_,H,m,h]) g)
def HH:TGs:=λc O H Q=>c=[]/\Q O H
def HK(t:TG)(u:TGs):TGs:=λf O H Q=>∃v r,f=v::r/\t v O H λc J=>u r c J Q
def Ue:PGs X [] HH:=by
 exact λY s O H c f Q I r h=>assignInOrder_nil #[O,H,I,h.2]
def VG(L:PG X e t)(j:PGs X es u)
(hs:(assignEach (e::es) X.env).map (·.2)=assign e X.env::(assignEach es X.env).map (·.2):=by rfl):PGs X (e::es) (HK t u):=by
 intro Y s O H q A Q I r h;obtain⟨v,y,rfl,h⟩:=h;cases r with
 |cons r g=>
  rw[hs];refine assignInOrder_cons (Q9 (L Y s O H _ _ _ I r h) ?_);rintro _ f ⟨c,D,n,i⟩;exact j Y f c D _ _ Q n g i
def Hy(K:W.Frag)(n:Nat)(t:TGs):TG:=λv O H Q=>∃a xs,v=.ref a/\SqT K H a xs/\xs.length=n/\t xs O H Q
def UG{k:Nat}(A:X.calm=true)(h:PGs X es t)
(hn:(assignEach es X.env).length=n:=by rfl)(f:(assignEach es X.env).findIdx? (·.1)=none:=by rfl):PG X (.Tuple es k pos) (Hy X.K n t):=by
 intro Y s O H v u Q I r c;obtain⟨a,xs,rfl,q,y,c⟩:=c;cases r;exact L3 (I.tuple q) λi g m K=>assign_Tuple_tuple (I.ok.hd A) m (by simp[hn,<- y,g.length]) f λh' j=>h Y _ O H xs _ Q (I.kept (t':=s.toks) λb o e=>j b o (Xp<|Xk e) e) (by simpa using g) c
def Hx(c f:TE)(t:Ho):TG:=λv O H Q=>c O H λo D=>f O D λi h=>t o i v h λg=>Q O g
def G5{i:Expr}(B:PE X o to)(C:PE X i ti)(hs:Hz X t)
(K:∀v,assign (.Subscript o i pos) X.env v=(do
  let ov <- holding [v] (eval o X.env)
  let c <- holding [v,ov] (eval i X.env)
  standAt pos
  holding [v,ov,c] (setItem ov c v)
  release [v,ov,c] []):=by intro _;rfl):PG X (.Subscript o i pos) (Hx to ti t):=by
 intro Y s O H v u Q I r h;rw[K];refine Xa (wpAny_holding<|Q9 (B Y s O H _ I h) ?_);rintro ov g ⟨x,D,U,m,A⟩;refine Xa (wpAny_holding<|Q9 (C Y g O D _ U A) ?_);rintro c f ⟨y,a,P,j,q⟩;refine Xa (wpAny_standAt<|Xa<|wpAny_holding<|Q9 (hs Y f O a x y v ov c u _ P m j r q) ?_);rintro _ b ⟨W,M,n⟩;exact wpAny_release #[O,W,M,n]
def ZN(te:TE)(g:TG):TS:=λc O H=>te O H λx D=>g x O D c.nx
def JW{g:TG}(he:PE X e te)(hg:PG X tg g)(hs:swapsWithSole [tg] e pos.line X.env=pure false:=by rfl)(hw:swappedStores [tg] e X.env=pure none:=by rfl)
(L:(assignEach [tg] X.env).map (·.2)=[assign tg X.env]:=by rfl):PS X (.Assign [tg] e pos) (ZN te g):=by
 refine λY s O H n I h=>wpAny_Assign_stores (Q9 (he Y s O H _ I h) ?_) hs hw;rintro v c ⟨x,D,j,f,i⟩;rw[L];exact Q9 (hg Y c O D x v _ j f i) λ_ m q=>q
def QR(i:Nat)(n:X.N.Nodup)(he:PE X e te)(j:X.N[i]?=some x:=by rfl)(g:Loc X.env.scope x:=by first|exact Or.inl rfl|exact Or.inr rfl)(hs:swapsWith e (some<|.Name x pos') pos.line X.env=pure false:=by rfl)(m:X.fn x=true\/X.env.scope.names.lookup x=some .local:=by first|exact .inl rfl|exact .inr rfl|assumption):
 PS X (.Assign [.Name x pos'] e pos) (ZN te<|Vs i):=by
 refine λY s O H K I h=>wpAny_Assign_Name (Q9 (he Y s O H _ I h) ?_) hs;rintro v C ⟨y,D,A,c,f⟩;exact DF A n j g c (λB q=>#[_,D,q,f]) m
def MO(h j te:TE)(f:V->V->Hp->VK->Prop)(g:TIp)(c:Ho):TS:=λB O H=>h O H λo D=>j O D λi A=>f o i A λx s=>te O s λy q=>g x y q λz n=>c o i z n λm=>B.nx O m
def SR(X:Cx)(t:V->V->Hp->VK->Prop):Prop:=
 ∀(Y:Qc) (s:Shared) (O:St) (H:Hp) (o i:V) (c f:Value) (Q:VK),Qt X Y O H s->QO o c->QO i f->t o i H Q->
  wpAny (model X.prog X.w) X.A (getItem c f) (EP X Y O Q) X.xe s
noncomputable def BI{i:Expr}(w:PE X o to)(x:PE X i ti)(hg:SR X tget)(he:PE X e te)(u:PIp X op tip)(hs:Hz X tset)
(z:∀ov f c,augStore i ov f c=(do holding [c,ov,f] (setItem ov f c);release [c,ov,f] [];pure .next):=by intros;rfl):PS X (.AugAssign (.Subscript o i tpos) op e pos) (MO to ti te tget tip tset):=by
 refine λY s O H H1 I h=>wpAny_AugAssign_SubscriptAny (Q9 (w Y s O H _ I h) ?_) z;rintro ov U ⟨m,D,N,q,t⟩;refine Q9 (x Y U O D _ N t) ?_;rintro f P ⟨j,Z,L,n,r⟩;refine Q9 (hg Y P O Z m j ov f _ L q n r) ?_;rintro g M ⟨B,T,J,b,p⟩;refine Q9 (he Y M O T _ J p) ?_;rintro v K ⟨A,S,G,a,l⟩;refine Q9 (u Y K O S B A g v _ G b a l) ?_;rintro c C ⟨y,R,F,W,k⟩;refine Q9 (hs Y C O R m j y ov f c _ F q n W k) ?_;rintro _ s6 ⟨Q,E,d⟩;exact#[O,Q,E,d]
def ipI(f:Int->Int->Int):TIp:=λx y H Q=>∃i j,x=.int i/\y=.int j/\Q (.int<|f i j) H
def Dc:PIp X .Add (ipI λi j=>i+j):=by
 intro Y s O H x y v u Q I f c h;apply aF h;intro i j m g q;subst m;subst g;obtain⟨t,rfl⟩:=f;obtain⟨n,rfl⟩:=c;exact iadd_int #[.int _,H,I.tok _,#[_,rfl],q]
def EA:PIp X .Sub (ipI λi j=>i-j):=by
 intro Y s O H x y v u Q I f c h;apply aF h;intro i j m g q;subst m;subst g;obtain⟨t,rfl⟩:=f;obtain⟨n,rfl⟩:=c;exact isub_int #[.int _,H,I.tok _,#[_,rfl],q]
def T9(c:TT)(i:TS):TS:=λg O H=>∃W:Nat->St->Hp->Prop,(∃m,W m O H)/\∀m O H,W m O H->
 c O H λb D=>if b=true then ∃N:St->Hp->Prop,(∀f J,N f J->∃h,h<m/\W h f J)/\i { g with nx:=N,ct:=N,bk:=g.nx } O D else g.nx O D
def Nj{c:Expr}{tc:TT}(U:PassesOwn (model X.prog X.w) X.A X.env X.xe)(u:PT X c tc)(w:PSs X body tb):PS X (.While c body [] pos) (T9 tc tb):=by
 intro Y s O H E I h;apply At h;rintro W⟨t,l⟩m;refine wpAny_While (codeAny_whileLoop (λn r=>∃j J,Qt X Y j J r/\W n j J) ?_ t #[O,H,I,l]);rintro n p ⟨i,D,x,k⟩;refine wpAny_passesOwn U (Q9 (u Y p i D _ x<|m n i D k) ?_);rintro b o ⟨e,d,A⟩;cases b with
 |true=>
  refine At A λN a A=>wpAny_passesOwn U (Q9 (w Y o i e _ d A) λf z y=>?_);cases f with
  |next=>
   exact L0 y λg q P C=>At (a g q C) λK M B=>#[K,M,g,q,P,B]
  |cont=>
   exact L0 y λg q P C=>At (a g q C) λK M B=>#[K,M,g,q,P,B]
  |brk=>exact y
  |ret v=>exact y
 |false=>
  exact wpAny_execs_nil #[i,e,d,A]
structure It where
 go:Nat->Hp->Prop
 yld:Nat->Hp->V->Hp->Prop
 stop:Nat->Hp->Prop
def Wb(X:Cx)(Y:Qc)(H:Hp)(b:Addr):Prop:=
 H b=none/\b≠X.env.locals/\b∉X.fs/\(b∈X.ex\/X.s₀.heap.objs.size<=b)/\(∀x c,X.env.cells.lookup x=some c->c≠b)/\∀p∈X.pn++Y,p.1≠b
def Qt.fpOk{O:St}{H J:Hp}{b:Addr}(I:Qt X Y O H s)(f:s.heap.objs.size<=b)(hn:J b=none):Wb X Y J b:=by
 refine#[hn,VY<|XG I.lt f,I.nofs f,.inr<|Xq I.sz f,λx c e z=>?_,λp g z=>?_]
 .obtain⟨v,q⟩:=I.cell x c e;exact Xt (XG q.lt<|by exact z▸f) (Y5 _)
 .exact Xt (XG (Xk (I.pin p g).1)<|by exact z▸f) (Y5 _)
structure Turn(P:Program)(w:World)(K:W.Frag)(tg:Expr)(H':It)(fp:Qg)(it:Addr)(tn:Nat->Heap->Prop):Prop where
 mem:it∈fp
 obj:∀i h,tn i h->∀b∈fp,∃o,h.get? b=some o/\∀v,o.data≠.cell v
 keep:∀i h h',tn i h->(∀b∈fp,∀o,h.get? b=some o->h'.get? b=some o)->tn i h'
 item:∀(X:Cx),X.prog=P->X.w=w->X.K=K->X.calm=true->∀(i:Nat) (Y:Qc) (s:Shared) (O:St) (H:Hp) (dx:Qb),Qt X Y O H s->(∀b∈fp,Wb X Y H b)->tn i s.heap->H'.go i H->
  wpAny (model P w) X.A (pyNext<|.ref it) (λr s1=>∃u,r=some u/\
   wpAny (model P w) X.A (letOwnedTupleGo tg (.ref it) u) (λ_ s2=>∃x J,Qt X Y O J s2/\QO x u/\H'.yld i H x J/\tn (i+1) s2.heap/\∀b∈fp,J b=none) dx s1) dx s
 done:∀(X:Cx),X.prog=P->X.w=w->X.K=K->X.calm=true->∀(i:Nat) (Y:Qc) (s:Shared) (O:St) (H:Hp) (dx:Qb),Qt X Y O H s->(∀b∈fp,Wb X Y H b)->tn i s.heap->H'.stop i H->
  wpAny (model P w) X.A (pyNext<|.ref it) (λr s1=>r=none/\Qt X Y O H s1) dx s
 self:∀(A:Around) (i:Nat) (s:Shared) (Q:Qb) (dx:Qb),tn i s.heap->Q (.ref it) s->wpAny (model P w) A (pyIter<|.ref it) Q dx s
abbrev TI:=St->Hp->(It->Hp->Prop)->Prop
def PIE(X:Cx)(Y:Qc)(O:St)(tg:Expr)(R:It->Hp->Prop)(c:Value)(g:Shared):Prop:=
 ∃(h:Addr) (i:Qg) (f:Nat->Heap->Prop) (j:It) (J:Hp),c=.ref h/\Qt X Y O J g/\Turn X.prog X.w X.K tg j i h f/\f 0 g.heap/\(∀b∈i,Wb X Y J b)/\R j J
def PI(X:Cx)(tg iter:Expr)(c:TI):Prop:=
 ∀(Y:Qc) (s:Shared) (O:St) (H:Hp) (R:It->Hp->Prop),Qt X Y O H s->c O H R->
  wpAny (model X.prog X.w) X.A (eval iter X.env) (λv f=>wpAny (model X.prog X.w) X.A (pyIter v) (PIE X Y O tg R) X.xe f) X.xe s
def Gx{n:String}(f:s.heap.get? it=some o)(h:o.cls=.type n)(g:o.data=.fields vs)
(hn:["enumerate","zip","dict_itemiterator","dict_reverseitemiterator","odict_iterator","itertools.zip_longest","itertools.pairwise"].contains n=false)(c:Q () s):wpAny M A (letOwnedTupleGo tg (.ref it) u) Q dx s:=by
 cases tg<;>first
  |exact Xl c
  | (cases u<;>first
   |exact Xl c
   | (refine Xa (wpAny_load f ?_)
      rw[h,g];show wpAny M A (if _=true then _ else _) Q dx s;rw[Xe<|#[]];exact Xl c))
def Itl(K:W.Frag)(a:Addr):It:=
 #[λi H=>∃xs x,SqL K H a xs/\xs[i]?=some x,λi H x J=>J=H/\∀xs,SqL K H a xs->xs[i]?=some x,λi H=>∃xs,SqL K H a xs/\xs.length<=i]
def Itt(K:W.Frag)(a:Addr):It:=
 #[λi H=>∃xs x,SqT K H a xs/\xs[i]?=some x,λi H x J=>J=H/\∀xs,SqT K H a xs->xs[i]?=some x,λi H=>∃xs,SqT K H a xs/\xs.length<=i]
def Itr(lo:Int)(n:Nat):It:=#[λi _=>i<n,λi H x J=>J=H/\x=.int (lo+i),λi _=>n<=i]
theorem Zqn(a it:Addr):Turn P w K tg (Itl K a) [it] it (λi h=>h.IsListIter it a i) where
 mem:=by simp
 obj:=λi h f b g=>by
  have e:=by simpa using g
  subst e;apply L3 f;intro o e c d;simp_all
 keep:=λi h h' f k=>f.at λo e=>k it (by simp) o e
 item:=by
  intro X B A C r i Y s O H G I m f hg;subst B A C;refine L0 hg λxs x hq y=>L3 (I.list hq) λq n p hz=>At (n.get y) λu D v=>aG (m it (by simp)) λf0 l E W U M=>wpAny_pyNext_list_item f p.isList (by simpa using D) λh' j t=>?_;apply L3 (id j);intro o e c d
  exact#[u,rfl,Gx e c d (by decide) #[x,H,I.turned (t':=s.toks) (λb o g e=>(t.2 b g).trans e) f0 l W U M,v,#[rfl,λys z=>by rw[I.list_inj z hq];exact y],j,λb g=>(m b g).1]]
 done:=by
  intro X B A C r i Y s O H G I m f hg;subst B A C;refine At hg λxs hq y=>L3 (I.list hq) λq n p hz=>aG (m it (by simp)) λf0 l E W U M=>?_;have L:=n.length;exact wpAny_pyNext_list_end (I.ok.hd r) f p.isList (by simp;lia) λh' F=>#[rfl,I.turned (λb o g e=>F b o g e) f0 l W U M]
 self:=λ_ _ _ _ _ f h=>wpAny_pyIter_listiter f h
theorem ZoD(a it:Addr):Turn P w K tg (Itt K a) [it] it (λi h=>h.IsTupleIter it a i) where
 mem:=by simp
 obj:=λi h f b g=>by
  have e:=by simpa using g
  subst e;apply L3 f;intro o e c d;simp_all
 keep:=λi h h' f k=>f.at λo e=>k it (by simp) o e
 item:=by
  intro X B A C r i Y s O H G I m f hg;subst B A C;refine L0 hg λxs x hq y=>L3 (I.tuple hq) λq n p hz=>At (n.get y) λu D v=>aG (m it (by simp)) λf0 l E W U M=>wpAny_pyNext_tuple_item f (p) (by simpa using D) λh' j t=>?_;apply L3 (id j);intro o e c d
  exact#[u,rfl,Gx e c d (by decide) #[x,H,I.turned (t':=s.toks) (λb o g e=>(t.2 b g).trans e) f0 l W U M,v,#[rfl,λys z=>by rw[I.tuple_inj z hq];exact y],j,λb g=>(m b g).1]]
 done:=by
  intro X B A C r i Y s O H G I m f hg;subst B A C;refine At hg λxs hq y=>L3 (I.tuple hq) λq n p hz=>aG (m it (by simp)) λf0 l E W U M=>?_;have L:=n.length;exact wpAny_pyNext_tuple_end (I.ok.hd r) f (p) (by simp;lia) λh' F=>#[rfl,I.turned (λb o g e=>F b o g e) f0 l W U M]
 self:=λ_ _ _ _ _ f h=>wpAny_pyIter_tupleiter f h
theorem Zot(it:Addr)(lo:Int)(n:Nat):Turn P w K tg (Itr lo n) [it] it (λi h=>IsRangeIter h it (lo+(i:Nat)*1) ((n:Int)-(i:Nat)) 1) where
 mem:=by simp
 obj:=λi h c b f=>by
  simp_all
 keep:=λi h h' c k=>k it (by simp) _ c
 item:=by
  intro X M C U m i Y s O H r I j c hg;subst M C U;apply aG (j it (by simp));refine λf0 B l A y q=>(Walks.range (prog:=X.prog) (w:=X.w) (I.ok.hd m) it lo 1 n).item i s _ _ hg c λv h' tk d g a=>?_;obtain⟨t,rfl⟩:=d;refine#[_,rfl,Gx g rfl rfl (by decide) #[.int _,H,I.turned (λb o f e=>a b o (by simpa using f) e) f0 B A y q,#[t,?_],#[rfl,rfl],g,λb f=>(j b f).1]];rw[Int.mul_one]
 done:=by
  exact λX M C U m i Y s O H r I j c hg=>aG (j it (by simp)) λf0 B l A y q=>wpAny_pyNext_range_end (I.ok.hd m) c (by have:n<=i:=hg;lia) λh' p=>#[rfl,I.turned (λb o f e=>p b o f e) f0 B A y q]
 self:=λ_ _ _ _ _ c h=>wpAny_pyIter_rangeiter c h
end L2
namespace L2
def P3(K:W.Frag)(c:TE):TI:=λO H R=>c O H λx D=>∃a,x=.ref a/\(∃xs,SqL K D a xs)/\R (Itl K a) D
def S9(K:W.Frag)(c:TE):TI:=λO H R=>c O H λx D=>∃a,x=.ref a/\(∃xs,SqT K D a xs)/\R (Itt K a) D
def VV(n:PE X l tl):PI X tg l (P3 X.K tl):=by
 refine λY s O H R I h=>Q9 (n Y s O H _ I h) ?_;rintro v f ⟨x,D,c,g,i⟩;apply L3 i;rintro a e⟨xs,m⟩q;subst e;cases g;refine L3 (c.list m) λj A p B=>wpAny_pyIter_list p.isList<|#[f.heap.objs.size,[f.heap.objs.size],_,_,D,rfl,c.kept λb o e=>Xc _ e,Zqn a _,#[_,Xn _ rfl,rfl,rfl],λb y=>?_,q];have e:=by simpa using y
 subst e;exact c.fpOk (Xm _) (c.hok.fresh<|Xm _)
def B9(n:PE X l tl):PI X tg l (S9 X.K tl):=by
 refine λY s O H R I h=>Q9 (n Y s O H _ I h) ?_;rintro v f ⟨x,D,c,g,i⟩;apply L3 i;rintro a e⟨xs,m⟩q;subst e;cases g;refine L3 (c.tuple m) λj A p B=>wpAny_pyIter_tuple (p)<|#[f.heap.objs.size,[f.heap.objs.size],_,_,D,rfl,c.kept λb o e=>Xc _ e,ZoD a _,#[_,Xn _ rfl,rfl,rfl],λb y=>?_,q];have e:=by simpa using y
 subst e;exact c.fpOk (Xm _) (c.hok.fresh<|Xm _)
def Fw{O:St}{H:Hp}{R:It->Hp->Prop}{y:Qb}{lo c:Int}{t u v:Tok}{g:Nat}(I:Qt X Y O H s)(L : -(2^62)<=lo)(j:lo<2^62)(h3 : -(2^62)<=c)(i:c<2^62)
(q:R (Itr lo (c-lo).toNat) H):wpAny (model X.prog X.w) X.A (pyIter<|.ref s.heap.objs.size) (PIE X Y O tg R) y { s with heap:=s.heap.push { cls:=.type "range",data:=.fields (List.toArray [.int lo t,.int c u,.int 1 v]) },toks:=g }:=by
 refine wpAny_pyIter_range (IsRange.new ..) (small_one L j h3 i) ?_;have f:Qt X Y O H { s with heap:=s.heap.push { cls:=.type "range",data:=.fields (List.toArray [.int lo t,.int c u,.int 1 v]) },toks:=g }:=I.kept λb o e=>Xc _ e
 refine#[(s.heap.push { cls:=.type "range",data:=.fields (List.toArray [.int lo t,.int c u,.int 1 v]) }).objs.size,[(s.heap.push { cls:=.type "range",data:=.fields (List.toArray [.int lo t,.int c u,.int 1 v]) }).objs.size],_,_,H,rfl,
  f.kept λb o e=>Xc _ e,Zot _ lo (c-lo).toNat,?_,λb h=>?_,q]
 .have n:lo+((0:Nat))*1=lo:=by simp
  have m:(((c-lo).toNat))-((0:Nat))=Builtin.Range.rangeSize lo c 1:=by rw[rangeSize_one];split<;>lia
  rw[n,m];exact Xn _ rfl
 .have e:b=(s.heap.push { cls:=.type "range",data:=.fields (List.toArray [.int lo t,.int c u,.int 1 v]) }).objs.size:=by simpa using h
  subst e;exact f.fpOk (Xm _) (f.hok.fresh<|Xm _)
def Bo(ta:TA):TI:=λO H R=>ta O H λc D=>∃j:Int,c=[.int j] /\ -(2^62)<=j/\j<2^62/\R (Itr 0 j.toNat) D
def Py(ta:TA):TI:=λO H R=>ta O H λc D=>∃i j:Int,c=[.int i,.int j]/\(-(2^62)<=i/\i<2^62 /\ -(2^62)<=j/\j<2^62)/\R (Itr i (j-i).toNat) D
def VI{ta:TA}(hg:Gl X "range")(m:X.mg "range"=none)(n:PA X [a] ta)(hs:starEach [a] X.env=[(false,eval a X.env)]:=by rfl):PI X tg (.Call (.Name "range" p) [a] [] pos) (Bo ta):=by
 refine λY s O H R I h=>Call_ (WN I hg m boot_range<|PyProof.Rows.callWith_type1 (Q9 (n pos Y s O H _ I h) ?_) hs rfl);rintro B C ⟨A,D,y,g,c⟩;obtain⟨j,rfl,c,i,q⟩:=c;cases g with
 |cons r f=>
  cases f;obtain⟨t,rfl⟩:=r;exact call_range_1 (Fw y #[] #[] c i<|by simpa using q)
def Cj{a b:Expr}{ta:TA}{p:Pos}(hg:Gl X "range")(C:X.mg "range"=none)(K:PA X [a,b] ta)(hs:starEach [a,b] X.env=[(false,eval a X.env),(false,eval b X.env)]:=by rfl)(c:starEach [b] X.env=[(false,eval b X.env)]:=by rfl):
 PI X tg (.Call (.Name "range" p) [a,b] [] pos) (Py ta):=by
 refine λY s O H R I h=>Call_ (WN I hg C boot_range<|PyProof.Rows.callWith_type1 (Q9 (K pos Y s O H _ I h) ?_) (by rw[hs,c])<|by rw[c];rfl);rintro U d ⟨P,D,M,m,g⟩;obtain⟨i,j,rfl,⟨g,B,A,y⟩,q⟩:=g;cases m with
 |cons r f=>
  cases f with
  |cons n f=>
   cases f;obtain⟨t,rfl⟩:=r;obtain⟨W,rfl⟩:=n;exact call_range_2 (Fw M g B A y q)
def Gi(q:TI)(g:TG)(s:TS):TS:=λh O H=>q O H λj D=>∃W:Nat->Nat->St->Hp->Prop,(∃m,W 0 m O D)/\∀i m O H,W i m O H->
 (j.stop i H/\h.nx O H)\/(j.go i H/\∃N:St->Hp->Prop,(∀c J,N c J->∃n,n<m/\W (i+1) n c J)/\∀x J,j.yld i H x J->g x O J λf y=>s { h with nx:=N,ct:=N,bk:=h.nx } f y)
noncomputable def MU(c:Qg)(h:Heap):Qc:=c.filterMap λb=>(h.get? b).map λo=>(b,o)
def DQ{b:Addr}(c:b∈fp)(e:h.get? b=some o):(b,o)∈MU fp h:=List.mem_filterMap.mpr #[b,c,by rw[e];rfl]
def Zpi{p:Addr×Obj}(c:p∈MU fp h):p.1∈fp/\h.get? p.1=some p.2:=by
 apply At (List.mem_filterMap.mp c);intro b f e;cases q:h.get? b with
 |none=>rw[q]at e;cases e
 |some o=>
  rw[q]at e;have g:=Option.some.inj e;subst g;exact#[f,q]
def Qt.pinned{O:St}{H:Hp}{c:Qg}(I:Qt X Y O H s)(i:∀b∈c,Wb X Y H b)(h:∀b∈c,∃o,s.heap.get? b=some o/\∀v,o.data≠.cell v):Qt X (Y++MU c s.heap) O H s:=
 I.pins_of λp g=>(Xz.mp g).elim (λz=>I.pin p<|X7 _ z) λz=>by
  obtain⟨f,e⟩:=Zpi z;apply aJ (i p.1 f);intro f0 m j _;obtain _:=h p.1 f;simp_all
def Qt.unpinned{c:Qc}{O:St}{H:Hp}(I:Qt X (Y++c) O H s):Qt X Y O H s:=I.pins_of λp f=>I.pin p (X7 _<|GT _ f)
def Va{g:TG}(p:PassesOwn (model X.prog X.w) X.A X.env X.xe)(hc:X.calm=true)(hi:PI X tg iter wi)(hg:PG X tg g)(A:PSs X body tb)
(hs:∀x,foldedSetIterable iter X.env x=pure x:=by intro _;rfl):PS X (.For tg iter body [] pos) (Gi wi g tb):=by
 refine λY s O H H1 I h=>wpAny_For (Q9 (hi Y s O H _ I h) λv s1 L=>Q9 L λitv s2 h2=>?_) hs;apply aK h2;rintro it w S H' H2 e I2 T E f2⟨W,⟨m0,w0⟩,U⟩;subst e;have y:∀{J:Hp},(∀b∈w,J b=none)->∀b∈w,Wb X Y J b:=λhn b A=>#[hn b A,(f2 b A).2];refine codeAny_forLoop_any (λn s'=>∃i q J,Qt X Y q J s'/\S i s'.heap/\(∀b∈w,J b=none)/\W i n q J) ?_ m0 #[0,O,H2,I2,E,λb A=>(f2 b A).1,w0]
 rintro n Z ⟨i,j,z,I3,k,t,w3⟩;rcases U i n j z w3 with ⟨a,qn⟩|⟨go,N,hN,step⟩
 .refine wpAny_passesOwn p (Q9 (T.done X rfl rfl rfl hc i Y Z j z X.xe I3 (y t) k a) ?_);rintro r s4 ⟨rfl,I4⟩;exact wpAny_execs_nil #[j,z,I4,qn]
 .refine wpAny_passesOwn p (Q9 (T.item X rfl rfl rfl hc i Y Z j z X.xe I3 (y t) k go) ?_);rintro r s4 ⟨u,rfl,h4⟩;refine wpAny_passesOwn p (Q9 h4 ?_);rintro _ s5 ⟨x,H5,I5,r5,y5,P,Q⟩;refine wpAny_passesOwn p (Q9 (hg _ s5 j H5 x u _ (I5.pinned (y Q) (T.obj _ _ P)) r5<|step x H5 y5) ?_);rintro _ s6 ⟨D,H6,I6,q6⟩;refine wpAny_passesOwn p (Q9 (A _ s6 D H6 _ I6 q6) λf F M=>?_);have B:∀{c:St} {K:Hp},Qt X _ c K F->N c K->∃m,m<n/\∃i q J,Qt X Y q J F/\S i F.heap/\(∀b∈w,J b=none)/\W i m q J:=λ{c K} C l=>by
   exact At (hN c K l) λm' hm w7=>#[m',hm,i+1,c,K,C.unpinned,T.keep _ _ _ P λb A o e=>(C.pin (b,o)<|X7 _<|X7 _<|DQ A e).1,λb A=>At (T.obj _ _ P b A) λo e d=>(C.pin _<|X7 _<|X7 _<|DQ A e).2.1,w7]
  cases f with
  |next=>exact L0 M λc K C l=>B C l
  |cont=>exact L0 M λc K C l=>B C l
  |brk=>exact L0 M λc K C M=>#[c,K,C.unpinned,M]
  |ret v=>exact aA M λx7 c K C r7 M=>#[x7,c,K,C.unpinned,r7,M]
end L2
namespace L2
abbrev R2:=V->V->Hp->VK->Prop
def OpR(X:Cx)(f:Value->Value->Sem Value)(r:R2):Prop:=
 ∀(Y:Qc) (s:Shared) (O:St) (H:Hp) (x y:V) (v u:Value) (Q:VK),Qt X Y O H s->QO x v->QO y u->r x y H Q->
  wpAny (model X.prog X.w) X.A (f v u) (EP X Y O Q) X.xe s
def UnR(X:Cx)(f:Value->Sem Value)(r:V->Hp->VK->Prop):Prop:=
 ∀(Y:Qc) (s:Shared) (O:St) (H:Hp) (x:V) (v:Value) (Q:VK),Qt X Y O H s->QO x v->r x H Q->
  wpAny (model X.prog X.w) X.A (f v) (EP X Y O Q) X.xe s
def ZF(X:Cx)(f:Value)(r:List V->Hp->VK->Prop):Prop:=
 ∀(Y:Qc) (s:Shared) (O:St) (H:Hp) (xs:List V) (c:Qe) (Q:VK),Qt X Y O H s->QS xs c->r xs H Q->
  wpAny (model X.prog X.w) X.A (call f c) (EP X Y O Q) X.xe s
def Z0h(X:Cx)(r:V->Hp->(Bool->Hp->Prop)->Prop):Prop:=
 ∀(Y:Qc) (s:Shared) (O:St) (H:Hp) (x:V) (v:Value) (Q:Bool->Hp->Prop),Qt X Y O H s->QO x v->r x H Q->
  wpAny (model X.prog X.w) X.A (truthy v) (TP X Y O Q) X.xe s
def tOp(r:R2)(ta c:TE):TE:=λO H Q=>ta O H λx D=>c O D λy f=>r x y f Q
def tUn(r:V->Hp->VK->Prop)(ta:TE):TE:=λO H Q=>ta O H λx D=>r x D Q
def rI(C:Int->Int->Prop)(g:Int->Int->V):R2:=λx y H Q=>∃i j,x=.int i/\y=.int j/\C i j/\Q (g i j) H
def rI0(g:Int->Int->V):R2:=λx y H Q=>∃i j,x=.int i/\y=.int j/\Q (g i j) H
def rU(g:Int->V):V->Hp->VK->Prop:=λx H Q=>∃i,x=.int i/\Q (g i) H
section
variable {a b:Expr}{tb:TE}
def Hv(C:PE X a ta)(B:PE X b tb){O:St}{H:Hp}{R:V->V->Hp->Prop}(I:Qt X Y O H s)
(h:ta O H λx D=>tb O D λy c=>R x y c){Q:Qb}{f:Value->Value->Sem Value}
(A:∀v u g x y c,Qt X Y O c g->QO x v->QO y u->R x y c->wpAny (model X.prog X.w) X.A (f v u) Q X.xe g):
 wpAny (model X.prog X.w) X.A (eval a X.env) (λv M=>wpAny (model X.prog X.w) X.A (eval b X.env) (λu K=>wpAny (model X.prog X.w) X.A (f v u) Q X.xe K) X.xe M) X.xe s:=by
 refine Q9 (C Y s O H _ I h) ?_;rintro v i ⟨x,D,U,m,q⟩;refine Q9 (B Y i O D _ U q) ?_;rintro u g ⟨y,c,P,j,n⟩;exact A v u g x y c P m j n
def QX(i:OpR X (binaryOp op) r)(m:PE X a ta)(j:PE X b tb):PE X (.BinOp a op b pos) (tOp r ta tb):=by
 exact λY s O H Q I h=>wpAny_BinOp (Hv m j I h λv u c x y A n g f q=>i Y c O A x y v u Q n g f q)
def HL(g:UnR X (unaryOp op) r)(i:PE X a ta):PE X (.UnaryOp op a pos) (tUn r ta):=by
 refine λY s O H Q I h=>UnaryOp_ (Q9 (i Y s O H _ I h) ?_);rintro v b ⟨x,D,j,c,f⟩;exact g Y b O D x v Q j c f
def opI{f:Value->Value->Sem Value}{C:Int->Int->Prop}{g:Int->Int->Int}
(a:∀(i j:Int) (t u:Tok) (s:Shared) (Q:Qb) (A:Qb),C i j->Q (.int (g i j) s.toks) { s with toks:=s.toks+1 }->wpAny (model X.prog X.w) X.A (f (.int i t)<|.int j u) Q A s):
 OpR X f (rI C λi j=>.int<|g i j):=by
 intro Y s O H x y v u Q I m c h;apply aB h;rintro i j rfl rfl n q;obtain⟨t,rfl⟩:=m;obtain⟨b,rfl⟩:=c;exact a i j t b s _ _ n #[.int _,H,I.tok _,#[_,rfl],q]
def Hr{f:Value->Value->Sem Value}{g:Int->Int->Int}
(a:∀(i j:Int) (t u:Tok) (s:Shared) (Q:Qb) (n:Qb),Q (.int (g i j) s.toks) { s with toks:=s.toks+1 }->wpAny (model X.prog X.w) X.A (f (.int i t)<|.int j u) Q n s):
 OpR X f (rI0 λi j=>.int<|g i j):=by
 intro Y s O H x y v u Q I m c h;apply aF h;rintro i j rfl rfl q;obtain⟨t,rfl⟩:=m;obtain⟨b,rfl⟩:=c;exact a i j t b s _ _ #[.int _,H,I.tok _,#[_,rfl],q]
def Hw{f:Value->Value->Sem Value}{g:Int->Int->Bool}
(a:∀(i j:Int) (t u:Tok) (s:Shared) (Q:Qb) (n:Qb),Q (.bool<|g i j) s->wpAny (model X.prog X.w) X.A (f (.int i t)<|.int j u) Q n s):
 OpR X f (rI0 λi j=>.bl<|g i j):=by
 intro Y s O H x y v u Q I m c h;apply aF h;rintro i j rfl rfl q;obtain⟨t,rfl⟩:=m;obtain⟨b,rfl⟩:=c;exact a i j t b s _ _ #[.bl _,H,I,rfl,q]
def ST(i j:Int):Prop:=0<=j/\j<=1000000/\i.natAbs<2^64
def JC(i j:Int):Prop:=(-(2^64)<i/\i<2^64)\/(-(2^64)<j/\j<2^64)
def JC.ok{i j:Int}(h:JC i j):IntMulOk i j:=by
 rcases h with ⟨L,a⟩|⟨L,a⟩
 .exact .of_left (intBits_le_64 L a)
 .exact .of_right (intBits_le_64 L a)
def Zos(k:Nat):(0:Int)<=2^k:=Int.natCast_nonneg _
def Yp:OpR X (binaryOp .Add) (rI0 λi j=>.int<|i+j):=Hr λ_ _ _ _ _ _ _ q=>add_int q
def YD:OpR X (binaryOp .Sub) (rI0 λi j=>.int<|i-j):=Hr λ_ _ _ _ _ _ _ q=>sub_int q
def G1:OpR X (binaryOp .Mult) (rI JC λi j=>.int<|i*j):=opI λ_ _ _ _ _ _ _ a q=>mul_int q a.ok
def JX:OpR X (binaryOp .Mod) (rI (λ_ j=>0<j) λi j=>.int<|i%j):=opI λi j _ _ _ _ _ a q=>mod_int' #[] (by rw[Int.fmod_eq_emod_of_nonneg i<|#[]];exact q)
def Kt:OpR X (binaryOp .Pow) (rI ST λi j=>.int<|i^j.toNat):=opI λ_ _ _ _ _ _ _ a q=>pow_int_small a.1 a.2.1 a.2.2 q
def AW:OpR X (binaryOp .RShift) (rI (λ_ j=>0<=j) λi j=>.int<|i/2^j.toNat):=opI λi j _ _ _ _ _ a q=>
 rshift_int a (by rw[Int.fdiv_eq_ediv_of_nonneg i<|Zos _];exact q)
def Kl:OpR X (binaryOp .BitXor) (rI0 λi j=>.int<|Builtin.bitXor i j):=Hr λ_ _ _ _ _ _ _ q=>xor_int q
def unI{f:Value->Sem Value}{g:Int->Int}
(a:∀(i:Int) (t:Tok) (s:Shared) (Q:Qb) (c:Qb),Q (.int (g i) s.toks) { s with toks:=s.toks+1 }->wpAny (model X.prog X.w) X.A (f<|.int i t) Q c s):
 UnR X f (rU λi=>.int<|g i):=by
 intro Y s O H x v Q I b h;apply At h;rintro i rfl q;obtain⟨t,rfl⟩:=b;exact a i t s _ _ #[.int<|g i,H,I.tok _,#[_,rfl],q]
def Km:UnR X (unaryOp .USub) (rU λi=>.int (-i)):=unI λ_ _ _ _ _ q=>neg_int q
end
noncomputable def SE:V->V->Bool
 |.non,.non=>true|.non,.int _=>true|.int _,.non=>true|.non,.bl _=>true|.bl _,.non=>true|.non,.str _=>true|.str _,.non=>true
 |.int _,.int _=>true|.bl _,.bl _=>true|.str _,.str _=>true|.byt _,.byt _=>true
 |.int _,.str _=>true|.str _,.int _=>true|.bl _,.str _=>true|.str _,.bl _=>true
 |_,_=>false
def rEq:R2:=λx y H Q=>SE x y=true/\Q (.bl<|decide (x=y)) H
def rNe:R2:=λx y H Q=>SE x y=true/\Q (.bl<|!decide (x=y)) H
def Ll{i j:Int}:decide (V.int i=V.int j)=(i==j):=by
 rw[GW];simp
def Tu{i j:Bool}:decide (V.bl i=V.bl j)=(i==j):=by
 rw[GW];simp
def L8{i j:Str}:decide (V.str i=V.str j)=(i==j):=by
 rw[GW];simp
def Lg{i j:Array UInt8}:decide (V.byt i=V.byt j)=(i.toList==j.toList):=by
 rw[GW];simp_all
section
variable {a b c:Expr}{tb:TE}
def ZE{O:St}{H:Hp}{Q:VK}{k a:Bool}(I:Qt X Y O H s)(q:Q (.bl k) H)(e:k=a):EP X Y O Q (.bool a) s:=by
 subst e;exact#[.bl k,H,I,rfl,q]
def ZJ:OpR X (compareOp .Eq) rEq:=by
 intro Y s O H x y v u Q I f a h;obtain⟨c,q⟩:=h;cases x with
 |non=>
  cases f;cases y with
  |non=>cases a;exact PySem.EqNone.eq_none_none (ZE I q<|by simp)
  |bl j=>cases a;exact PySem.EqNone.eq_none_bool (ZE I q<|by simp)
  |int j=>obtain⟨b,rfl⟩:=a;exact PySem.EqNone.eq_none_int (ZE I q<|by simp)
  |str j=>obtain⟨b,rfl⟩:=a;exact PySem.EqNone.eq_none_str (ZE I q<|by simp)
  |_=>exact Xt (show false=true from c) Xy
 |bl i=>
  cases f;cases y with
  |non=>cases a;exact PySem.EqNone.eq_bool_none (ZE I q<|by simp)
  |bl j=>cases a;exact eq_bool (ZE I q Tu)
  |str j=>obtain⟨b,rfl⟩:=a;exact PySem.EqMixed.eq_bool_str (ZE I q<|by simp)
  |_=>exact Xt (show false=true from c) Xy
 |int i=>
  obtain⟨t,rfl⟩:=f;cases y with
  |non=>cases a;exact PySem.EqNone.eq_int_none (ZE I q<|by simp)
  |int j=>obtain⟨b,rfl⟩:=a;exact eq_int (ZE I q Ll)
  |str j=>obtain⟨b,rfl⟩:=a;exact PySem.EqMixed.eq_int_str (ZE I q<|by simp)
  |_=>exact Xt (show false=true from c) Xy
 |str i=>
  obtain⟨t,rfl⟩:=f;cases y with
  |non=>cases a;exact PySem.EqNone.eq_str_none (ZE I q<|by simp)
  |bl j=>cases a;exact PySem.EqMixed.eq_str_bool (ZE I q<|by simp)
  |int j=>obtain⟨b,rfl⟩:=a;exact PySem.EqMixed.eq_str_int (ZE I q<|by simp)
  |str j=>obtain⟨b,rfl⟩:=a;exact eq_str (ZE I q L8)
  |_=>exact Xt (show false=true from c) Xy
 |byt i=>
  obtain⟨t,rfl⟩:=f;cases y with
  |byt j=>obtain⟨b,rfl⟩:=a;exact W.eq_bytes (ZE I q Lg)
  |_=>exact Xt (show false=true from c) Xy
 |_=>cases y<;>exact Xt (show false=true from c) Xy
def MN:OpR X (compareOp .NotEq) rNe:=by
 intro Y s O H x y v u Q I f a h;obtain⟨c,q⟩:=h;cases x with
 |non=>
  cases f;cases y with
  |non=>cases a;exact PySem.EqNone.ne_none_none (ZE I q<|by simp)
  |bl j=>cases a;exact PySem.EqNone.ne_none_bool (ZE I q<|by simp)
  |int j=>obtain⟨b,rfl⟩:=a;exact PySem.EqNone.ne_none_int (ZE I q<|by simp)
  |str j=>obtain⟨b,rfl⟩:=a;exact PySem.EqNone.ne_none_str (ZE I q<|by simp)
  |_=>exact Xt (show false=true from c) Xy
 |bl i=>
  cases f;cases y with
  |non=>cases a;exact PySem.EqNone.ne_bool_none (ZE I q<|by simp)
  |bl j=>cases a;exact ne_bool (ZE I q<|XS not Tu)
  |str j=>obtain⟨b,rfl⟩:=a;exact PySem.EqMixed.ne_bool_str (ZE I q<|by simp)
  |_=>exact Xt (show false=true from c) Xy
 |int i=>
  obtain⟨t,rfl⟩:=f;cases y with
  |non=>cases a;exact PySem.EqNone.ne_int_none (ZE I q<|by simp)
  |int j=>obtain⟨b,rfl⟩:=a;exact ne_int (ZE I q<|XS not Ll)
  |str j=>obtain⟨b,rfl⟩:=a;exact PySem.EqMixed.ne_int_str (ZE I q<|by simp)
  |_=>exact Xt (show false=true from c) Xy
 |str i=>
  obtain⟨t,rfl⟩:=f;cases y with
  |non=>cases a;exact PySem.EqNone.ne_str_none (ZE I q<|by simp)
  |bl j=>cases a;exact PySem.EqMixed.ne_str_bool (ZE I q<|by simp)
  |int j=>obtain⟨b,rfl⟩:=a;exact PySem.EqMixed.ne_str_int (ZE I q<|by simp)
  |str j=>obtain⟨b,rfl⟩:=a;exact ne_str (ZE I q<|XS not L8)
  |_=>exact Xt (show false=true from c) Xy
 |byt i=>
  obtain⟨t,rfl⟩:=f;cases y with
  |byt j=>obtain⟨b,rfl⟩:=a;exact W.ne_bytes (ZE I q<|XS not Lg)
  |_=>exact Xt (show false=true from c) Xy
 |_=>cases y<;>exact Xt (show false=true from c) Xy
def Jt:OpR X (compareOp .Lt) (rI0 λi j=>.bl<|decide (i<j)):=Hw λ_ _ _ _ _ _ _ q=>lt_int q
def WF:OpR X (compareOp .LtE) (rI0 λi j=>.bl<|decide (i<=j)):=Hw λ_ _ _ _ _ _ _ q=>le_int q
def YL:OpR X (compareOp .Gt) (rI0 λi j=>.bl<|decide (j<i)):=Hw λ_ _ _ _ _ _ _ q=>gt_int q
def Zp8:OpR X (compareOp .In) (λx y H Q=>∃i j,x=.str i/\y=.str j/\Q (.bl<|!(Builtin.Str.occurrences j i 0 j.length 1).isEmpty) H):=by
 intro Y s O H x y v u Q I b a h;apply aF h;rintro i j rfl rfl q;obtain⟨t,rfl⟩:=b;obtain⟨c,rfl⟩:=a;exact in_str (ZE I q rfl)
def Tb(b:Expr)(h:op≠.In:=by decide)(a:op≠.NotIn:=by decide):behindInMarks op b=false:=by
 have f:(op==CmpOp.In)=false:=by cases op<;>first|rfl|exact Xt rfl h
 have c:(op==CmpOp.NotIn)=false:=by cases op<;>first|rfl|exact Xt rfl a
 cases b<;>simp[behindInMarks,f,c]
def YQ(i:OpR X (compareOp op) r)(n:PE X a ta)(m:PE X b tb)(j:behindInMarks op b=false:=by first|exact Tb _|rfl):PE X (.Compare a [op] [b] pos) (tOp r ta tb):=by
 exact λY s O H Q I h=>wpAny_Compare1 (Hv n m I h λv u c x y B A g f q=>i Y c O B x y v u Q A g f q) j
def WC(t:TE):TT:=λO H Q=>t O H λx J=>∃k,x=.bl k/\Q k J
def Zo(B:OpR X (compareOp op) r)(M:PE X a ta)(K:PE X b tb)(C:behindInMarks op b=false:=by first|exact Tb _|rfl):PT X (.Compare a [op] [b] pos) (WC<|tOp r ta tb):=by
 refine λY s O H Q I h=>wpAny_isTrue_Compare1 (Q9 (M Y s O H _ I h) λv g ⟨x,D,W,m,A⟩=>Q9 (K Y g O D _ W A) λu f ⟨y,l,U,j,q⟩=>
  Q9 (B Y f O l x y v u _ U m j q) λc o ⟨z,d,P,i,k,e,n⟩=>?_) C
 subst e;cases i;exact wpAny_truthy_bool #[d,P,n]
def Kf(r c:R2)(ta tb tc:TE):TE:=λO H Q=>ta O H λx D=>tb O D λy g=>r x y g λz a=>∃k,z=.bl k/\
 (if k=true then tc O a λb f=>c y b f Q else Q (.bl false) a)
noncomputable def Fp(p:OpR X (compareOp op) r)(f:OpR X (compareOp op') r')(F:PE X a ta)(E:PE X b tb)(w:PE X c tc)
(t:lastMarks [op,op'] [b,c]=false:=by with_unfolding_all rfl):PE X (.Compare a [op,op'] [b,c] pos) (Kf r r' ta tb tc):=by
 refine λY s O H Q I h=>Compare_chain (Q9 (F Y s O H _ I h) λv K ⟨x,D,L,U,o⟩=>chain_link (Q9 (E Y K O D _ L o) λu C ⟨y,R,J,g,l⟩=>
  Q9 (p Y C O R x y v u _ J U g l) λd B ⟨z,m,j,P,k,e,i⟩=>?_)) t
 subst e;cases P;refine wpAny_truthy_bool ?_;cases k with
 |false=>exact ite_ff #[.bl false,m,j,rfl,i]
 |true=>exact ite_tt (chain_last<|Q9 (w Y B O m _ j i)<|by rintro q A ⟨n,N,G,M,W⟩;exact f Y A O N y n u q Q G g M W)
def DB(E:OpR X (compareOp op) r)(f:OpR X (compareOp op') r')(L:PE X a ta)(J:PE X b tb)(G:PE X c tc)
(F:lastMarks [op,op'] [b,c]=false:=by with_unfolding_all rfl):PT X (.Compare a [op,op'] [b,c] pos) (WC<|Kf r r' ta tb tc):=by
 refine λY s O H Q I h=>isTrue_chain (Q9 (L Y s O H _ I h) λv K ⟨x,D,I1,W,t⟩=>test_link (Q9 (J Y K O D _ I1 t) λu C ⟨y,H2,Z,g,p⟩=>
  Q9 (E Y C O H2 x y v u _ Z W g p) λd B ⟨z,m,j,U,k,e,i⟩=>?_)) F
 subst e;cases U;refine wpAny_truthy_bool ?_;cases k with
 |false=>
  apply At i;intro k' R w;cases R;exact ite_ff #[m,j,w]
 |true=>
  refine ite_tt (test_last<|Q9 (G Y B O m _ j i) ?_);rintro q A ⟨n,H4,T,P,o⟩;refine Q9 (f Y A O H4 y n u q _ T g P o) ?_;rintro d' s5 ⟨z2,H5,S,M,k2,rfl,l⟩;cases M;exact wpAny_truthy_bool #[H5,S,l]
def Hn(K:W.Frag)(x:V)(H:Hp)(k:Bool):Prop:=
 match x with
 |.non=>k=false
 |.bl b=>k=b
 |.int i=>k=(i != 0)
 |.str y=>y.length<=sizeLine/\k=((y.length:Int) != 0)
 |.byt y=>y.size<=sizeLine/\k=((y.size:Int) != 0)
 |.ref p=>(∃xs,SqL K H p xs/\k = !xs.isEmpty)\/(∃xs,SqT K H p xs/\k = !xs.isEmpty)\/∃a,H p=some (.dK a)/\k = !a.isEmpty
 |_=>False
def ZoG{a:Type}{kvs:List (a×V)}{vs:List (a×Value)}(r:KV kvs vs):(!vs.isEmpty) = !kvs.isEmpty:=by
 cases r<;>rfl
def CG(r:QS xs its):(!its.toArray.isEmpty) = !xs.isEmpty:=by
 cases r<;>simp
def U9:(sizeLine:Nat)<2^63:=by rw[sizeLine_eq];decide
def EE:Z0h X (λx H Q=>∃k,Hn X.K x H k/\Q k H):=by
 intro Y s O H x v Q I f h;apply At h;intro k e q;have P:=sizeLine_eq;cases x with
 |non=>
  cases f;subst e;exact truthy_none #[H,I,q]
 |bl b=>
  cases f;have a:=e;subst e;exact wpAny_truthy_bool #[H,I,q]
 |int i=>
  obtain⟨t,rfl⟩:=f;have a:=e;subst e;exact PySem.P.truthy_int #[H,I,q]
 |str y=>
  obtain⟨t,rfl⟩:=f;obtain⟨C,rfl⟩:=e;exact PySem.P.truthy_str #[] #[H,I.tok _,q]
 |byt y=>
  obtain⟨t,rfl⟩:=f;obtain⟨C,rfl⟩:=e;exact W.truthy_bytes #[] #[H,I.tok _,q]
 |ref p=>
  cases f;have a:=e;rcases e with ⟨xs,g,rfl⟩|⟨xs,g,rfl⟩|⟨B,g,rfl⟩
  .apply L3 (I.list g);intro n r j A;have c:=r.length;exact wpAny_truthy_list j.isList (by simp only[Xu];lia) #[H,I.tok _,by rw[CG r];exact q]
  .apply L3 (I.tuple g);intro n r j A;have c:=r.length;exact truthy_tuple j (by simp only[Xu];lia) #[H,I.tok _,by rw[CG r];exact q]
  .apply aL (I.hok p _ g);intro A K M r m;have c:=Paired.length r;exact wpAny_truthy_dict K m #[] #[H,I.tok _,by rw[ZoG r];exact q]
 |_=>exact(e).elim
def Fy(i:PE X a ta)(he:∀b,isTrue a X.env b=(do let v <- b;standAt a.pos;holding [v] (truthy v))):
 PT X a (λO H Q=>ta O H λx J=>∃k,Hn X.K x J k/\Q k J):=by
 refine λY s O H Q I h=>isTrue_plain (Q9 (i Y s O H _ I h) ?_) (he _);rintro v c ⟨x,D,j,f,g⟩;exact EE Y c O D x v Q j f g
def Zou:OpR X (binaryOp .Add) (λx y H Q=>∃i j,x=.str i/\y=.str j/\i.length+j.length<=sizeLine/\Q (.str<|i++j) H):=by
 intro Y s O H x y v u Q I c b h;apply aB h;rintro i j rfl rfl f q;obtain⟨t,rfl⟩:=c;obtain⟨a,rfl⟩:=b;exact add_str (λa g=>#[.str<|i++j,H,I.tok _,#[_,rfl],q]) f
def VQ(r:QS [x] us):∃u,us=[u]/\QO x u:=by
 cases r with
 |cons b a=>cases a;exact#[_,rfl,b]
def Gw(r:QS [x,y] us):∃u a,us=[u,a]/\QO x u/\QO y a:=by
 cases r with
 |cons g f=>
  cases f with
  |cons c b=>cases b;exact#[_,_,rfl,g,c]
def Zrc(b:X.calm=true):ZF X (.builtin "max") (λxs H Q=>∃i j,xs=[.int i,.int j]/\Q (.int (if j > i then j else i)) H):=by
 intro Y s O H xs f Q I r h;apply L0 h;rintro i j rfl q;apply aF (Gw r);rintro u c rfl⟨t,rfl⟩⟨m,rfl⟩;refine max_two_ints (I.ok.hd b) λh' g k=>#[_,H,I.kept k,?_,q]
 by_cases a:j > i
 .rw[Xh a,Xh a];exact#[_,rfl]
 .rw[Xe a,Xe a];exact#[_,rfl]
def ZqW(b:X.calm=true):ZF X (.builtin "min") (λxs H Q=>∃i j,xs=[.int i,.int j]/\Q (.int (if j<i then j else i)) H):=by
 intro Y s O H xs f Q I r h;apply L0 h;rintro i j rfl q;apply aF (Gw r);rintro u c rfl⟨t,rfl⟩⟨m,rfl⟩;refine min_two_ints (I.ok.hd b) λh' g k=>#[_,H,I.kept k,?_,q]
 by_cases a:j<i
 .rw[Xh a,Xh a];exact#[_,rfl]
 .rw[Xe a,Xe a];exact#[_,rfl]
def ZqD:ZF X (.type "int") (λxs H Q=>(∃i,xs=[.int i]/\Q (.int i) H)\/∃k,xs=[.bl k]/\Q (.int (if k then 1 else 0)) H):=by
 intro Y s O H xs b Q I r h;rcases h with ⟨i,rfl,q⟩|⟨k,rfl,q⟩
 .obtain⟨u,rfl,t,rfl⟩:=VQ r;exact call_int_int #[.int i,H,I,#[_,rfl],q]
 .obtain⟨u,rfl,a⟩:=VQ r;cases a;exact call_int_bool #[.int _,H,I.tok _,#[_,rfl],q]
end
end L2
namespace L2
structure ObjM(h:Heap)(x E C:Addr)(mA:Str->Qf):Prop where
 obj:h.get? x=some (W.instObj C E)
 ns:h.Ns1 E mA
 ne:E≠x
def FA(n:h.Ns1 E mA):∃od,h.get? E=some od/\∀c,W.lookIn c od=some (mA c):=by
 refine aN n λo es A i s m _ j=>#[o,i,λc=>?_];have e:=j c;unfold nsFind findBy at e;rw[<- Array.find?_toList]at e;unfold W.lookIn;rw[s];dsimp only;split
 .rename_i y q;rw[q]at e;exact XS some e
 .rename_i q;rw[q]at e;have a:es.toList.any (·.refKey)=false:=by
   rw[List.any_eq_false];intro y g;apply aO (m y (Array.mem_toList_iff.mp g));intro z t f;simp[DictEntry.refKey,f]
  grind
def ObjM.look(I:ObjM h x E C mA):∃od,W.InstAt h x (W.instObj C E) C (some od)/\∀c,W.lookIn c od=some (mA c):=
 let ⟨od,ho,hl⟩:=FA I.ns
 #[od,#[I.obj,rfl,rfl,ho],hl]
section
variable {w:World}{dx:Qb}{x E f:Addr}{mA:Str->Qf}{name:Str}{v:Value}
def Oi(X:K.In s.heap)(I:ObjM s.heap x E C mA)(hg:W.plainGet K C name=true)(i:W.hasDictIn K C=true)
(j:W.findIn K (.ref C) name=some none)(f:mA name=some v)(c:W.handedIn v=true)(h:Q v { s with toks:=s.toks+1 }):
 wpAny (model prog w) A (getAttr (.ref x) name expr) Q dx s:=by
 exact At I.look λn m g=>W.get_value X m (W.plainGet_of hg).1 (W.findObj_own i j rfl (by rw[g,f])) c h
def ZtN(X:K.In s.heap)(I:ObjM s.heap x E C mA)(hg:W.plainGet K C name=true)
(m:W.findIn K (.ref C) name=some (some<|.ref f))(i:W.isFn K (.ref f)=true)(g:mA name=none)(h:Q (.ref f,[.ref x]) s):
 wpAny (model prog w) A (getMethod (.ref x) name pl) Q dx s:=by
 exact At I.look λc n j=>W.method_fn X n (W.plainGet_of hg).1 (W.plainGet_of hg).2 m (beq_iff_eq.mp i) (by show(W.lookIn name c).map _=some false;rw[j,g];rfl) h
def Ou(X:K.In s.heap)(I:ObjM s.heap x E C mA)
(hs:W.findIn K (.ref C) "__setattr__"=some (some<|.builtin "object.__setattr__"))(M:W.plainOver K C=true)(B:W.takerIn K C name=some none)(P:W.hasDictIn K C=true)
(hw:PySem.Within mA ns)(hsz:ns.length<=sizeLine)
(h:∀h',ObjM h' x E C (λy=>if y=name then some v else mA y)->Heap.SameBut E s.heap h'->Q () { s with heap:=h',toks:=s.toks+2 }):
 wpAny (model prog w) A (setAttr (.ref x) name v) Q dx s:=by
 refine At I.look λd n k=>W.set_plain X n hs (W.osa_open X n M B λb=>?_);apply At (W.any_some P);refine λcd U j=>Xa (Xl<|Xa<|Xa<|wpAny_loadPart I.obj<|Xa<|W.Looks.here (W.looks_clsIn X U) ?_);rw[j];exact Xl (Xa<|Xl<|Xa (wpAny_nsSet1 I.ns λh' f c=>aA (f.count (PySem.Within.cons name v hw)) λe Y a g i m=>Xa (wpAny_lookBehind g (by rw[i];exact pastItsLine_dict<|Xq m<|by rw[X4];lia) (Xl (h _ #[(c.2 _<|Ne.symm I.ne).trans I.obj,f,I.ne] c)))))
def Zs0(X:K.In s.heap)(g:W.makesIn K C=true)
(i:W.findIn K (.ref C) "__init__"=some (some<|.ref f))(j:W.typeIn K (.ref f)=some (.type "function"))
(h:codeAny (model prog w) (A.under<|.builtin "type.__call__" #[.ref C::vs,kw]) (.call (.ref f) #[.ref (s.heap.objs.size+1)::vs,kw]) (W.InitBack (s.heap.objs.size+1) R)
  { s with heap:=(s.heap.push W.emptyDict).push (W.instObj C s.heap.objs.size) }):
 codeAny (model prog w) A (.call (.ref C) #[vs,kw]) R s:=W.make_core (W.makes_of X g) (W.looks_findIn X i) (λc=>W.bind_fn X c j) (.inl rfl) h
end
noncomputable def Ye(f:Str)(v:V):List (Str×V)->List (Str×V)
 |[]=>[(f,v)]
 |(g,x)::r=>if g=f then (g,v)::r else (g,x)::Ye f v r
theorem CM(f g:Str)(v:V):∀j:List (Str×V),(Ye f v j).lookup g=if g=f then some v else j.lookup g
 |[]=>by
  show List.lookup g [_]=_
  by_cases h:g=f
  .have c:=beq_iff_eq.mpr h;simp only[List.lookup,c,Xh h]
  .have c:=beq_eq_false_iff_ne.mpr h;simp only[List.lookup,c,Xe h]
 |(k,x)::r=>by
  have m:=CM f g v r;rw[show Ye f v _=(if k=f then _::r else _::Ye f v r) from rfl];by_cases i:k=f
  .rw[Xh i]
   by_cases h:g=k
   .have c:=beq_iff_eq.mpr h;simp only[List.lookup,c,Xh<|h.trans i]
   .have c:=beq_eq_false_iff_ne.mpr h;simp only[List.lookup,c,Xe λe:g=f=>h<|e.trans i.symm]
  .rw[Xe i]
   by_cases h:g=k
   .have c:=beq_iff_eq.mpr h;simp only[List.lookup,c,Xe λe:g=f=>i<|h.symm.trans e]
   .have c:=beq_eq_false_iff_ne.mpr h;simp only[List.lookup,c];exact m
theorem NQ(f:Str)(v:V):∀c:List (Str×V),f∈(Ye f v c).map (·.1)/\∀g,g∈c.map (·.1)->g∈(Ye f v c).map (·.1)
 |[]=>⟨by simp[Ye],λg h=>by simp at h⟩
 |(k,x)::r=>by
  obtain _:=NQ f v r;rw[show Ye f v _=(if k=f then _::r else _::Ye f v r) from rfl];grind
theorem CK(f:Str)(v:V):∀c:List (Str×V),(Ye f v c).length<=c.length+1
 |[]=>by simp[Ye]
 |(k,x)::r=>by
  have g:=CK f v r;rw[show Ye f v _=(if k=f then _::r else _::Ye f v r) from rfl];by_cases h:k=f
  .simp_all
  .simp_all
def Vn.some_of(r:Vn (some v) o):∃u,o=some u/\QO v u:=by
 cases o with
 |none=>exact(r).elim
 |some u=>exact#[u,rfl,r]
def Vn.none_of(r:Vn none o):o=none:=by
 cases o with
 |none=>rfl
 |some u=>exact(r).elim
def Ck(r:QO v u):W.handedIn u=true:=by
 cases v with
 |non=>cases (r);rfl
 |bl b=>cases (r);rfl
 |int i=>obtain⟨t,e⟩:=(r);cases e;rfl
 |str x=>obtain⟨t,e⟩:=(r);cases e;rfl
 |byt b=>obtain⟨t,e⟩:=(r);cases e;rfl
 |flt b=>obtain⟨t,e⟩:=(r);cases e;rfl
 |ref a=>cases (r);rfl
 |ty n=>cases (r);rfl
section
variable {w:World}{H:Hp}{a E:Addr}{fs:List (Str×V)}
def KJ(g:HOk P w H h)(e:H a=some (.ins C E fs)):∃c,ObjM h a E C c/\(∀f,Vn (fs.lookup f)<|c f)/\PySem.Within c (fs.map (·.1))/\fs.length<=1000/\H E=some (.own a):=by
 apply JH ((g a _ e));rintro d z j i⟨c,n,r,q⟩
 exact#[c,#[i,n,j],r,q,z,d]
end
structure Cls(K:W.Frag)(C:Addr):Prop where
 pg:W.plainGet K C Str.empty=true
 hd:W.hasDictIn K C=true
 po:W.plainOver K C=true
 sa:W.findIn K (.ref C) "__setattr__"=some (some<|.builtin "object.__setattr__")
def Cls.get(c:Cls K C)(f:Str):W.plainGet K C f=true:=c.pg
def Vp(K:W.Frag)(C:Addr)(f:Str):Prop:=W.findIn K (.ref C) f=some none
def Vp.taker(n:Vp K C f):W.takerIn K C f=some none:=by
 unfold W.takerIn;rw[show W.findIn K _ f=some none from n];rfl
structure Meth(K:W.Frag)(C:Addr)(m:Str)(f:Addr):Prop where
 at_:W.findIn K (.ref C) m=some (some<|.ref f)
 fn:W.isFn K (.ref f)=true
 kp:W.keepIn K (.ref f)=true
section
variable {O:St}{H:Hp}{a E:Addr}{fs:List (Str×V)}{v:V}{dx:Qb}
def C8{b:Bool}(I:Qt X Y O H s)(e:H a=some (.ins C E fs))(c:Cls X.K C)(n:Vp X.K C f)(l:fs.lookup f=some v)
(h:∀u g,Qt X Y O H g->QO v u->Q u g):wpAny (model X.prog X.w) A (getAttr (.ref a) f b) Q dx s:=by
 apply aI (KJ I.hok e);rintro q j r _⟨_,_⟩;exact At (Vn.some_of (by exact l▸(r f))) λu m i=>Oi I.kIn j (c.get f) c.hd n m (Ck i) (h u _ (I.tok _) i)
def Rm{g:Addr}(I:Qt X Y O H s)(e:H a=some (.ins C E fs))(c:Cls X.K C)(k:Meth X.K C m g)(l:fs.lookup m=none)
(h:Q (.ref g,[.ref a]) s):wpAny (model X.prog X.w) A (getMethod (.ref a) m pl) Q dx s:=by
 apply aI (KJ I.hok e);rintro j f r _⟨_,_⟩;exact ZtN I.kIn f (c.get m) k.at_ k.fn (Vn.none_of (by exact l▸(r m))) h
def C1(I:Qt X Y O H s)(e:H a=some (.ins C E fs))(c:Cls X.K C)(n:Vp X.K C f)(l:fs.length<1000)(M:QO y u)
(h:∀v,Qt X Y O (upd H a<|.ins C E<|Ye f y fs) v->Q () v):wpAny (model X.prog X.w) A (setAttr (.ref a) f u) Q dx s:=by
 apply aI (KJ I.hok e);rintro k i r m⟨_,B⟩;have P:(fs.map (·.1)).length<=sizeLine:=by rw[Xg,sizeLine_eq];lia
 refine Ou I.kIn i c.sa c.po n.taker c.hd m P λh' j K=>h _ ?_;have W:∃o,h'.get? E=some o:=let ⟨o,_,_,e',_⟩:=j.ns;#[o,e'];refine I.write (by rw[e];exact True.intro) (.inr B) (λb q d z=>(K.2 b d).trans z) W<|#[by rw[Qv i.ne];exact B,?_,i.ne,j.obj,_,j.ns,λg=>?_,λg U=>?_]
 .have:=CK f y fs;lia
 .rw[CM]
  by_cases q:g=f
  .rw[Xh q,Xh q];exact M
  .simp_all
 .by_cases q:g=f
  .rw[q];exact(NQ f y fs).1
  .refine(NQ f y fs).2 g (m g λz=>U ?_);simp_all
def Qt.made(I:Qt X Y O H s):Qt X Y O (upd (upd H s.heap.objs.size<|.own<|s.heap.objs.size+1) (s.heap.objs.size+1)<|.ins C s.heap.objs.size [])
 { s with heap:=(s.heap.push W.emptyDict).push (W.instObj C s.heap.objs.size) }:=by
 have i:=by
  have:=Xn (s.heap.push W.emptyDict) (o:=W.instObj C s.heap.objs.size) rfl;rwa [Yt]at this
 refine (I.laid (o:=.own (s.heap.objs.size+1)) (t':=s.toks) (λb u q=>Xc _ q) (Xm _) #[_,Xn s.heap rfl]).laid (λb u q=>Xc _ q) (Nat.le_of_eq<|Yt _ _)<|#[by rw[Qv (Xp (J9 _)),QI],XH _,Xp (J9 _),i,λ_=>none,(Heap.Ns1.of_empty (#[W.emptyDict,(List.toArray []),_,Xn s.heap rfl,rfl,(λe g=>Xt g<|by simp),λ_=>rfl])).at λo q=>Xc _ q,λ_=>True.intro,λy f=>Xt rfl f]
def LE(a:attributeBase e f env (eval e env)=eval e env)
(h:wpAny (model prog w) A (eval e env) (λo c=>wpAny (model prog w) A (getAttr o f true) Q dx c) dx s):wpAny (model prog w) A (eval (.Attribute e f pos) env) Q dx s:=
 Attribute_any_ h (by rw[arm_eval_Attribute,a])
end
def ZW(K:W.Frag)(ta:TE)(f:Str):TE:=λO H Q=>ta O H λx D=>∃a C E c v,x=.ref a/\D a=some (.ins C E c)/\Cls K C/\Vp K C f/\c.lookup f=some v/\Q v D
def SC(K:W.Frag)(ta tv:TE)(f:Str):TS:=λh O H=>tv O H λy D=>ta O D λx g=>∃a C E c,x=.ref a/\g a=some (.ins C E c)/\Cls K C/\Vp K C f/\c.length<1000/\
 h.nx O (upd g a<|.ins C E<|Ye f y c)
def SU(X:Cx)(f:Operator)(c:V->V->Hp->VK->Prop):Prop:=
 ∀(Y:Qc) (s:Shared) (O:St) (H:Hp) (x y:V) (u v:Value) (Q:VK),Qt X Y O H s->QO x u->QO y v->c x y H Q->wpAny (model X.prog X.w) X.A (inplaceOp f u v) (EP X Y O Q) X.xe s
def TV(K:W.Frag)(ta tv:TE)(j:V->V->Hp->VK->Prop)(f:Str):TS:=λn O H=>ta O H λx D=>∃a C E h v,x=.ref a/\D a=some (.ins C E h)/\Cls K C/\Vp K C f/\h.lookup f=some v/\
 tv O D λy m=>j v y m λz i=>∃g c,i a=some (.ins C g c)/\c.length<1000/\n.nx O (upd i a<|.ins C g<|Ye f z c)
section
variable {o e value:Expr}{tpos:Pos}
def Zv(he:PE X e ta)(j:attributeBase e f X.env (eval e X.env)=eval e X.env:=by rfl):PE X (.Attribute e f pos) (ZW X.K ta f):=by
 refine λY s O H Q I h=>LE j (Q9 (he Y s O H _ I h) ?_);rintro u M ⟨x,D,A,g,a,C,E,P,v,rfl,o,c,n,l,q⟩;obtain rfl:=g;exact C8 A o c n l λB K y i=>#[v,D,y,i,q]
def Wr(A:PE X o ta)(m:PE X value tv)(hs:swapsWith value (some<|.Attribute o f pos') pos.line X.env=pure false):PS X (.Assign [.Attribute o f pos'] value pos) (SC X.K ta tv f):=by
 refine λY s O H r I h=>plainObj_wpAny_Assign_Attribute (Q9 (m Y s O H _ I h) ?_) hs;rintro u e ⟨y,D,U,g,q⟩;refine Q9 (A Y e O D _ U q) ?_;rintro d b ⟨x,p,P,i,a,C,E,k,rfl,K,c,n,l,j⟩;obtain rfl:=i;exact C1 P K c n l g λW M=>#[O,_,M,j]
def Zq1(d:PE X o ta)(b:PE X value tv)(e:SU X op rd):PS X (.AugAssign (.Attribute o f tpos) op value pos) (TV X.K ta tv rd f):=by
 refine λY s O H H1 I h=>wpAny_AugAssign_AttributeAny (Q9 (d Y s O H _ I h) ?_);rintro Z T ⟨x,D,L,K,a,C,E,fs,v,rfl,r,c,n,l,q⟩;obtain rfl:=K;refine C8 L r c n l λu m J M=>Q9 (b Y m O D _ J q) ?_;rintro i j ⟨y,N,G,B,U⟩;refine Q9 (e Y j O N v y u i _ G M B U) ?_;rintro Q S ⟨z,H3,F,A,t,k,g,W,P⟩;exact C1 F g c n W A λR w=>#[O,_,w,P]
def S8:V->V->Hp->VK->Prop:=λx y H Q=>∃i j,x=.int i/\y=.int j/\Q (.int<|i+j) H
def Ej:SU X .Add S8:=by
 rintro Y s O H x y u v Q I e c ⟨i,j,rfl,rfl,q⟩;obtain⟨t,rfl⟩:=(e);obtain⟨f,rfl⟩:=(c);exact PyProof.Rows.iadd_int #[.int _,H,I.tok _,#[_,rfl],q]
end
end L2
namespace L2
structure Room(k:Nat)(A:Around):Prop where
 hd:A.handled=none
 dp:A.depth+3*k+5<recursionLimit
 un:A.units+16*k+200<cLine
def Room.mono(r:Room k A)(h:j<=k):Room j A:=#[r.hd,by have:=r.dp;lia,by have:=r.un;lia]
def Room.deeper(r:Room (k+1) A)(env:Env):Room k (A.deeper env):=
 #[r.hd,by have:=r.dp;show A.depth+1+3*k+5<_;lia,by have:=r.un;show A.units+3+16*k+200<_;lia]
def ZnY   : (A.under<|.builtin "type.__call__" #[.ref C::us,kw]).depth=A.depth+1:=by
 first|rfl|simp[ guardIds]
def ZoH   : (A.under<|.builtin "type.__call__" #[.ref C::us,kw]).units=A.units+1:=by
 first|rfl|simp[Around.under]
def Room.make  (r:Room (k+1) A)(C:Addr)(us:Qe)(c:List (Str×Value)):Room k (A.under<|.builtin "type.__call__" #[.ref C::us,c]):=
 #[r.hd,by have:=r.dp;rw[ZnY];lia,by have:=r.un;rw[ZoH];lia]
def Room.depth(r:Room k A):A.depth<recursionLimit:=by have:=r.dp;lia
def Room.units(r:Room k A):A.units+64<cLine:=by have:=r.un;lia
def QL:TA:=λ_ H Q=>Q [] H
def Q4(ta:TE)(c:TA):TA:=λO H Q=>ta O H λx D=>c O D λxs f=>Q (x::xs) f
section
variable {e:Expr}{t:TA}
def Qq:PA X [] QL:=λ_ _ _ _ H Q I h=>Calls.spliced_nil #[[],H,I,.nil,h]
abbrev zs(X:Cx)(e:Expr)(es:List Expr):Prop:=starEach (e::es) X.env=(false,eval e X.env)::starEach es X.env
abbrev zb(X:Cx)(pos:Pos)(es:List Expr):Prop:=(backTo pos<|starEach es X.env).any (·.1)=false
def Qs(n:PE X e te)(m:PA X es t)(hs:zs X e es:=by rfl):PA X (e::es) (Q4 te t):=by
 intro pos Y s O H Q I h;rw[hs];show wpAny _ _ (spliced ((false,eval e X.env)::backTo pos _)) _ _ s;refine Calls.spliced_cons (Q9 (n Y s O H _ I h) ?_);rintro u c ⟨x,D,y,g,j⟩;refine Q9 (m pos Y c O D _ y j) ?_;rintro B C ⟨xs,A,q,f,i⟩;exact#[x::xs,A,q,.cons g f,i]
def UW(t:TA):TE:=λO H Q=>t O H λxs D=>xs.length<=sizeLine/\∀p,D p=none->Q (.ref p) (upd D p<|.tup xs)
def Y8(t:TA):TE:=λO H Q=>t O H λxs D=>xs.length<=sizeLine/\∀p,D p=none->Q (.ref p) (upd D p<|.lst xs)
def YN{x1}(h:PA X es t):PE X (.Tuple es x1 pos) (UW t):=by
 refine λY s O H Q I i=>wpAny_Tuple_spliced (Q9 (h pos Y s O H _ I i) ?_);rintro g c ⟨xs,D,f,r,z,q⟩;refine#[by rw[<- r.length];exact z,#[.ref c.heap.objs.size,upd D c.heap.objs.size _,f.laid (λb u e=>Xc _ e) (Xm _) ?_,rfl,q _ (f.hok.fresh (Xm _))]];exact#[z,g,r,#[_,Xn _ rfl,rfl,_,rfl]]
def Zz(h:PA X es t):PE X (.List es pos) (Y8 t):=by
 refine λY s O H Q I i=>wpAny_List_spliced (Q9 (h pos Y s O H _ I i) ?_);rintro g c ⟨xs,D,f,r,z,q⟩;refine#[by rw[<- r.length];exact z,#[.ref c.heap.objs.size,upd D c.heap.objs.size _,f.laid (λb u e=>Xc _ e) (Xm _) ?_,rfl,q _ (f.hok.fresh (Xm _))]];exact#[z,g,0,r,Xn _ rfl]
end
abbrev Sp:=List V->Hp->VK->XK->Prop
abbrev CXT:=List Env->Hp->Shared->XK->Qb
structure Env0(P:Program)(w:World)(K:W.Frag)(mg:Str->Qf)(base:Heap)(A:Around)(outer:List Env)(s:Shared)(H:Hp):Prop where
 frames:A.frames=some outer
 mod:Mod K mg base
 bs:∀b o,base.get? b=some o->s.heap.get? b=some o/\(H b=none\/∃xs,H b=some (.tup xs))
 bsz:base.objs.size<=s.heap.objs.size
 funs:s.heap.FunFrames base outer
 frf:∀b∈frs outer,H b=none
 hok:HOk P w H s.heap
 bare:AllBare s.gens
def CE(outer:List Env)(P:Program)(w:World)(H:Hp)(s:Shared)(Q:VK)(u:Value)(c:Shared):Prop:=
 ∃v J,c.os=s.os/\AllBare c.gens/\Un (frs outer) [] H J s.heap c.heap/\HOk P w J c.heap/\QO v u/\Q v J
def CR(g:CXT)(outer:List Env)(P:Program)(w:World)(H:Hp)(s:Shared)(Q:VK)(f:XK)(r:Result)(c:Shared):Prop:=
 match r with
 |.ok (.ret u)=>CE outer P w H s Q u c
 |.ok _=>False
 |.error e=>g outer H s f e c
structure FnOk(P:Program)(w:World)(K:W.Frag)(mg:Str->Qf)(base:Heap)(CX:CXT)(k:Nat)(f:Addr)(fd:FuncData)(ps:Qh)(sp:Sp):Prop where
 len:∀vs H Q dx,sp vs H Q dx->vs.length=ps.length
 run:∀(A:Around) (outer:List Env) (s:Shared) (H:Hp) (args:Args) (us:Qe) (vs:List V) (Q:VK) (dx:XK),Room k A->Env0 P w K mg base A outer s H->BindsTo s fd args (ps.zip us)->QS vs us->sp vs H Q dx->
  codeAny (model P w) A (.call (.ref f) args) (CR CX outer P w H s Q dx) s
def Env0.make(e:Env0 P w K mg base A outer s H)(C:Addr)(us:Qe)(c:List (Str×Value)):
 Env0 P w K mg base (A.under<|.builtin "type.__call__" #[.ref C::us,c]) outer s H:=#[by first|exact e.frames|(simpa [ pushEnvs] using e.frames),e.mod,e.bs,e.bsz,e.funs,e.frf,e.hok,e.bare]
section
variable {O:St}{H:Hp}{s':Shared}
def Qt.env0(I:Qt X Y O H s):Env0 X.prog X.w X.K X.mg X.base X.A X.stack s H:=
 #[I.ok.frames,I.ok.mod,I.bs,Xq I.ok.bsz I.sz,I.stack,I.stkFree,I.hok,I.bare]
def Qt.after(I:Qt X Y O H s)(h:CE X.stack X.prog X.w H s Q u s'):EP X Y O Q u s':=by
 apply aP h;intro v J m c i f r q;obtain⟨n,g,d,t,j⟩:=s';obtain rfl:=m;exact#[v,J,I.call i f c (λb z=>Xt z<|by simp),r,q]
end
def ZO(g:Sp)(c:List V)(h:XK)(t:TA):TE:=λO H Q=>t O H λf D=>g (f++c) D Q h
def ZU(C:Addr)(m:Str)(h:Sp)(c:List V)(i:XK)(ta:TE)(t:TA):TE:=λO H Q=>ta O H λx D=>∃a E f,x=.ref a/\D a=some (.ins C E f)/\f.lookup m=none/\
 t O D λg j=>h (x::(g++c)) j Q i
def Jp(C:Addr)(g:Sp)(c:List V)(h:XK)(t:TA):TE:=λO H Q=>t O H λf D=>∀x E,D x=none->D E=none->E≠x->
 g (.ref x::(f++c)) (upd (upd D E<|.own x) x<|.ins C E []) (λv i=>v=.non/\Q (.ref x) i) h
def ZY(K:W.Frag)(fd:FuncData)(ps:Qh)(ds:Qe):Prop:=
 ∀(s:Shared) (c:Qe),K.In s.heap->(c++ds).length=ps.length->BindsTo s fd #[c,[]] (ps.zip<|c++ds)
def ZY.all(h:∀us:Qe,us.length=ps.length->bindArgs fd #[us,[]]=pure (ps.zip us)):ZY K fd ps []:=λs us _ c=>by
 rw[Xr]at c ⊢;exact .of_eq (h us c)
def Yh(g:CXT)(X:Cx)(f:XK):Prop := ∀(Y:Qc) (O:St) (H:Hp) (s:Shared) (e:Value) (c:Shared),Qt X Y O H s->g X.stack H s f e c->X.xe e c
section
variable {CX:CXT}{k:Nat}{f:Addr}{sp:Sp}{dvs:List V}{ds:Qe}{dx:XK}{x:Str}{p:Pos}{e o:Expr}{t:TA}
def K1{O:St}{H:Hp}{Q:VK}{us:Qe}{vs:List V}(F:FnOk X.prog X.w X.K X.mg X.base CX k f fd ps sp)(m:Room k X.A)(p:ZY X.K fd ps ds)(o:QS dvs ds)(j:Yh CX X dx)
(I:Qt X Y O H s)(r:QS vs us)(h:sp (vs++dvs) H Q dx):wpAny (model X.prog X.w) X.A (call (.ref f) us) (EP X Y O Q) X.xe s:=by
 have g:=r.append o;have n:(us++ds).length=ps.length:=by rw[<- g.length];exact F.len _ _ _ _ h
 refine wpAny_call (codeAny_mono (F.run X.A X.stack s H _ _ _ Q dx m I.env0 (p s us I.kIn n) g h) λr i c=>?_);cases r with
 |error e=>exact j Y O H s e i I c
 |ok q=>
  cases q with
  |ret u=>exact I.after c
  |next=>exact False.elim c
  |brk=>exact False.elim c
  |cont=>exact False.elim c
def Lb(F:FnOk X.prog X.w X.K X.mg X.base CX k f fd ps sp)(j:Room k X.A)(hg:Gl X x)(m:X.mg x=some (.ref f))(n:W.keepIn X.K (.ref f)=true)(y:ZY X.K fd ps ds)(o:QS dvs ds)(i:Yh CX X dx)
(A:PA X (e::es) t)(c:(x==("__debug__" : Str))=false:=by decide)(he:zs X e es:=by rfl)(hpl:zb X pos es:=by rfl):
 PE X (.Call (.Name x p) (e::es) [] pos) (ZO sp dvs dx t):=by
 refine λY s O H Q I h=>wpAny_Call_Name_kw (WY I hg m (W.callWith_K I.ok.mod.kin n (Q9 (A pos Y s O H _ I h) ?_) he hpl) c);rintro C K ⟨B,D,g,r,q⟩;exact#[g.kIn,K1 F j y o i g r q]
def KL{B:Sem Bool}(he:PE X o ta)(c:Cls X.K C)(i:Meth X.K C m f)(F:FnOk X.prog X.w X.K X.mg X.base CX k f fd ps sp)(P:Room k X.A)(b:ZY X.K fd ps ds)(U:QS dvs ds)(K:Yh CX X dx)(d:PA X (e::es) t)
(g:zs X e es:=by rfl)(hpl:zb X pos es:=by rfl)
(M:eval (.Call (.Attribute o m XD) (e::es) [] pos) X.env=(do
  let ov <- eval o X.env
  standAt XD.atName
  let (f,first) <- holding [ov] (getMethod ov m B)
  callWith pos f first (backTo pos<|starEach (e::es) X.env)<|backToKw pos<|keywordEach [] X.env):=by rfl):
 PE X (.Call (.Attribute o m XD) (e::es) [] pos) (ZU C m sp dvs dx ta t):=by
 refine λY s O H Q I h=>W.methodCall_KW (Q9 (he Y s O H _ I h) ?_) M;rintro u p ⟨x,D,n,y,a,E,J,rfl,w,l,q⟩;obtain rfl:=y;refine Rm n w c i l<|W.callWith_K I.ok.mod.kin i.kp (Q9 (d pos Y p O D _ n q) ?_) g hpl;rintro z G ⟨vs,L,j,r,A⟩;exact#[j.kIn,K1 (vs:=.ref a::vs) F P b U K j (.cons rfl r) A]
def Fq{j:Sem Bool}(he:PE X o ta)(c:Cls X.K C)(g:Meth X.K C m f)(F:FnOk X.prog X.w X.K X.mg X.base CX k f fd ps sp)(t:Room k X.A)(A:ZY X.K fd ps ds)(y:QS dvs ds)(n:Yh CX X dx)
(p:eval (.Call (.Attribute o m XD) [] [] pos) X.env=(do
  let ov <- eval o X.env
  standAt XD.atName
  let (f,first) <- holding [ov] (getMethod ov m j)
  callWith pos f first (backTo pos<|starEach [] X.env)<|backToKw pos<|keywordEach [] X.env):=by rfl):
 PE X (.Call (.Attribute o m XD) [] [] pos) (ZU C m sp dvs dx ta QL):=by
 refine λY s O H Q I h=>W.methodCall_KW (Q9 (he Y s O H _ I h) ?_) p;rintro u M ⟨x,D,e,i,a,E,P,rfl,K,l,q⟩;obtain rfl:=i;exact Rm e K c g l<|W.callWith_K0 e.kIn g.kp (K1 (vs:=[.ref a]) F t A y n e (.cons rfl .nil) q)
structure Mk(K:W.Frag)(C f:Addr):Prop where
 makes:W.makesIn K C=true
 init:W.findIn K (.ref C) "__init__"=some (some<|.ref f)
 fn:W.isFn K (.ref f)=true
 kp:W.keepIn K (.ref C)=true
def Fu{O:St}{H:Hp}{Q:VK}{us:Qe}{vs:List V}(M:Mk X.K C f)(F:FnOk X.prog X.w X.K X.mg X.base CX k f fd ps sp)(q:Room (k+1) X.A)(A:ZY X.K fd ps ds)(y:QS dvs ds)
(p:Yh CX X dx)(I:Qt X Y O H s)(r:QS vs us)
(h:∀x E,H x=none->H E=none->E≠x->sp (.ref x::(vs++dvs)) (upd (upd H E<|.own x) x<|.ins C E []) (λv U=>v=.non/\Q (.ref x) U) dx):
 wpAny (model X.prog X.w) X.A (call (.ref C) us) (EP X Y O Q) X.xe s:=by
 have j:=h (s.heap.objs.size+1) s.heap.objs.size (I.hok.fresh<|UT _) (I.hok.fresh<|Xm _) (Xp<|J9 _);have g:=Qt.made (C:=C) I;have i:QS (V.ref (s.heap.objs.size+1)::_) _:=.cons rfl (r.append y);have t:=by
  have e:=i.length;rw[F.len _ _ _ _ j]at e;exact e.symm
 refine wpAny_call (Zs0 I.kIn M.makes M.init (beq_iff_eq.mp M.fn) (codeAny_mono (F.run _ X.stack _ _ _ _ _ _ dx (q.make C us [])
  (g.env0.make C us []) (A _ _ g.kIn t) i j) λr m c=>?_))
 cases r with
 |error e=>exact p Y O _ _ e m g c
 |ok B=>
  cases B with
  |ret u=>
   apply aB (g.after c);intro v J P n K o;subst K;exact#[n,#[V.ref _,J,P,rfl,o]]
  |next=>exact False.elim c
  |brk=>exact False.elim c
  |cont=>exact False.elim c
def TR(M:Mk X.K C f)(F:FnOk X.prog X.w X.K X.mg X.base CX k f fd ps sp)(j:Room (k+1) X.A)(hg:Gl X x)(m:X.mg x=some (.ref C))(o:ZY X.K fd ps ds)(n:QS dvs ds)(i:Yh CX X dx)
(y:PA X (e::es) t)(c:(x==("__debug__" : Str))=false:=by decide)(he:zs X e es:=by rfl)(hpl:zb X pos es:=by rfl):
 PE X (.Call (.Name x p) (e::es) [] pos) (Jp C sp dvs dx t):=by
 refine λY s O H Q I h=>wpAny_Call_Name_kw (WY I hg m (W.callWith_K I.ok.mod.kin M.kp (Q9 (y pos Y s O H _ I h) ?_) he hpl) c);rintro B K ⟨A,D,g,r,q⟩;exact#[g.kIn,Fu M F j o n i g r q]
def Zsv(M:Mk X.K C f)(F:FnOk X.prog X.w X.K X.mg X.base CX k f fd ps sp)(g:Room (k+1) X.A)(hg:Gl X x)(i:X.mg x=some (.ref C))(m:ZY X.K fd ps ds)(j:QS dvs ds)(e:Yh CX X dx)
(c:(x==("__debug__" : Str))=false:=by decide):PE X (.Call (.Name x p) [] [] pos) (Jp C sp dvs dx QL):=by
 exact λY s O H Q I h=>wpAny_Call_Name_kw (WY I hg i (W.callWith_K0 I.kIn M.kp (Fu (us:=[]) M F g m j e I .nil h)) c)
end
structure Qo(N P:Qh)(sc:Scope):Prop where
 kind:sc.kind=.function
 co:sc.isCoroutine=false
 gen:sc.isGenerator=false
 nd:N.Nodup
 pre:N.take P.length=P
 par:∀x∈P,sc.names.lookup x=some .local\/sc.names.lookup x=some .cell
 nofree:∀y∈sc.names,y.2≠.free
theorem FO{f:Str->Option NameKind}{x:Str}:∀{c:List (Str×Value)} {m:Str->Qf},(∀v,(x,v)∉c)->bindL f c m x=m x
 |[],_,_=>rfl
 |(n,v)::r,m,h=>by
  unfold bindL;rw[FO λw g=>h w<|Xf _ g];split
  .have:x≠n:=by rintro rfl;exact h v Xb
   simp[this]
  .rfl
theorem Ci{f:Str->Option NameKind}{x:Str}:∀{c:List (Str×Value)} {m:Str->Qf},(∀v,(x,v)∉c)->bindC f c m x=m x
 |[],_,_=>rfl
 |(n,v)::r,m,h=>by
  unfold bindC;rw[Ci λw g=>h w<|Xf _ g];split
  .rfl
  .have:x≠n:=by rintro rfl;exact h v Xb
   simp[this]
theorem FV{c:Str->Option NameKind}{x:Str}{v:Value}:∀{P:Qh} {vs:Qe} {i:Nat} {m:Str->Qf},P.Nodup->P[i]?=some x->vs[i]?=some v->c x=some .local->
 bindL c (P.zip vs) m x=some v
 |[],_,_,_,_,h,_,_=>by simp at h
 |_::_,[],_,_,_,_,h,_=>by simp at h
 |p::P,w::vs,0,m,g,L,f,j=>by
  simp at L f;subst L;subst f;show bindL c (_::P.zip vs) m p=_;unfold bindL;rw[FO λv n=>(XM.mp g).1 (List.of_mem_zip n).1,Xh j]
  simp
 |p::P,w::vs,i+1,m,g,L,f,j=>by
  unfold bindL;exact FV (XM.mp g).2 (by simpa using L) (by simpa using f) j
theorem FG{c:Str->Option NameKind}{x:Str}{v:Value}:∀{P:Qh} {vs:Qe} {i:Nat} {m:Str->Qf},P.Nodup->P[i]?=some x->vs[i]?=some v->c x≠some .local->
 bindC c (P.zip vs) m x=some v
 |[],_,_,_,_,h,_,_=>by simp at h
 |_::_,[],_,_,_,_,h,_=>by simp at h
 |p::P,w::vs,0,m,g,L,f,j=>by
  simp at L f;subst L;subst f;show bindC c (_::P.zip vs) m p=_;unfold bindC;rw[Ci λv n=>(XM.mp g).1 (List.of_mem_zip n).1,Xe j]
  simp
 |p::P,w::vs,i+1,m,g,L,f,j=>by
  unfold bindC;exact FG (XM.mp g).2 (by simpa using L) (by simpa using f) j
noncomputable def start(N:Qh)(vs:List V):St:=vs.map some++List.replicate (N.length-vs.length) none
noncomputable def Jg(h:CXT)(P:Program)(w:World)(K:W.Frag)(mg:Str->Qf)(base:Heap)(N:Qh)(qual:Str)(scope:Scope)(f:Addr)(cd:Value)(A:Around)(outer:List Env)(s:Shared)(H:Hp)(g:XK):Cx where
 prog:=P
 w:=w
 K:=K
 mg:=mg
 base:=base
 A:=A.deeper (envOfC qual scope s.heap.objs.size f cd)
 N:=N
 s₀:=s
 H₀:=H
 env:=envOfC qual scope s.heap.objs.size f cd
 outer:=outer
 stack:=envOfC qual scope s.heap.objs.size f cd::outer
 ex:=[]
 calm:=true
 fn:=λ_=>true
 pn:=[]
 xe:=λe i=>wpAny (model P w) (A.deeper<|envOfC qual scope s.heap.objs.size f cd) (leaving (envOfC qual scope s.heap.objs.size f cd) e) (λ_ c=>h outer H s g e c) (λj c=>h outer H s g j c) i
def Fz{sc:Scope}(h:sc.names.lookup x=some .cell):∃c,(cellsFrom n sc.names []).lookup x=some c:=by
 exact Option.isSome_iff_exists.mp (W.cellsFrom_some sc.names n [] (.inl h))
def Zpe{f:Addr}
(S:Qo N ps scope)(Y:A.handled=none)(e0:Env0 P w K mg base A outer s H)(l:vs.length=ps.length)(r:QS vs us)
(x:InCallC s s.heap.objs.size (bindL (envOfC qual scope s.heap.objs.size f cd).kindOf (ps.zip us) λ_=>none) (cellsFrom (s.heap.objs.size+1) scope.names []) (bindC (envOfC qual scope s.heap.objs.size f cd).kindOf (ps.zip us) λ_=>none) s1):
 Qt (Jg CX P w K mg base N qual scope f cd A outer s H dx) [] (start N vs) H s1:=by
 have X:ps.length<=N.length:=by have:=XS List.length S.pre;rw[Mu]at this;lia
 apply L0 x.done;rintro L d rfl U;have j:∀b:Addr,b∉(Jg CX P w K mg base N qual scope f cd A outer s H dx).ex:=λb z=>Xt (show b∈([]) from z) (by simp)
 refine#[#[e0.mod,S.kind,rfl,rfl,Xm _,λy z c L g=>?_,λy n=>?_,λy c _ h=>?_,λ_=>Y,Around.frames_deeper e0.frames,.inr #[rfl,rfl],λb z=>Xt z<|j b,e0.bs,e0.bsz,λb _ _=>j b,λb z=>Xt z<|j b,e0.funs,e0.frf],
  rfl,e0.bare,Un.kept U,#[_,x.toInCall.ns,λi y v L g o=>?_],λy c h=>#[_,x.cell y c h],e0.hok.fresh<|Xm _,λy c h=>?_,λp B=>Xt (show p∈([]) from B)<|by simp,e0.hok.kept U,?_]
 .exact name_of_addr x.apart (PySem.mem_of_lookup L) (PySem.mem_of_lookup g)
 .rcases n with n|n
  .exact Fz n
  .exact Xt rfl (S.nofree _<|PySem.mem_of_lookup n)
 .exact YV (x.above y c<|PySem.mem_of_lookup h)
 .have C:i<vs.length:=by
   unfold start at g;by_cases C:i<vs.length
   .exact C
   .rw[Mr<|by simpa using C]at g;rw[Hf]at g;split at g<;>cases g
  have a:vs[i]?=some v:=by
   unfold start at g;rw[GU<|by simpa using C]at g;simp_all
  apply At (r.get a);intro u M W;have B:ps[i]?=some y:=by
   rw[<- S.pre,List.getElem?_take_of_lt<|#[]];exact L
  have m:ps.Nodup:=by rw[<- S.pre];exact S.nd.sublist (List.take_sublist _ _)
  refine#[u,W,?_];rcases S.par y (List.mem_of_getElem? B) with k|k
  .exact .inl #[k,FV m B M k]
  .obtain⟨c,e⟩:=Fz k;refine .inr #[.inl k,c,e,?_];have q:=x.cell y c e;rw[FG m B M<|by show scope.names.lookup y≠_;rw[k];decide]at q;exact q
 .exact e0.hok.fresh (YV<|x.above y c<|PySem.mem_of_lookup h)
 .unfold start;show _=N.length;rw[Xs,Xg,Hd];lia
def Pr{d:CXT}{w:World}{base:Heap}{k:Nat}{f:Addr}{i:Str}{g:Arguments}{T kV a R c Z oc:Value}{an od:Qj}
{D:Array (Qf)}{N:Qh}{l:Sp}(lk:K.lookup f=some #[oc,od,.func<|W.fnOf i qual g body scope T kV a R an c Z,D])(G:W.codeIn K c qual=true)(S:Qo N ps scope)
(M:∀vs H Q j,l vs H Q j->vs.length=ps.length)
(L:∀(A:Around) (outer:List Env) (s:Shared) (H:Hp) (vs:List V) (Q:VK) (j:XK),Room k (A.deeper<|envOfC qual scope s.heap.objs.size f c)->l vs H Q j->
  ∃t,PSs (Jg d P w K mg base N qual scope f c A outer s H j) body t/\t { nx:=λ_ J=>Q .non J,rt:=Q } (start N vs) H):
 FnOk P w K mg base d (k+1) f (W.fnOf i qual g body scope T kV a R an c Z) ps l:=by
 refine#[M,λA outer s H args us vs Q j F Y hb r U=>?_];have KX:=Y.mod.kin.keeps λb o e=>(Y.bs b o e).1
 have B:∀y∈ps.zip us,scope.names.lookup y.1=some .local\/(scope.names.lookup y.1=some .cell/\((cellsFrom (s.heap.objs.size+1) scope.names []).lookup y.1).isSome=true):=λ⟨n,v⟩ hy=>by
  rcases S.par n (List.of_mem_zip hy).1 with q|q
  .exact .inl q
  .exact .inr #[q,W.cellsFrom_some _ _ _<|.inl q]
 refine codeAny_call_function F.depth (KX _ _ lk) rfl S.co S.gen rfl (W.codeRec_of KX G) (hb _ _ _ _ (wpAny_newFunctionEnv_cells S.kind B λenv he O x=>?_));subst he;refine#[(Y.mod.nolimit.keeps λb o e=>(Y.bs b o e).1).keeps x.toInCall.keep,codeAny_func ?_];apply At (L A outer s H vs Q j (F.deeper _) U);refine λt ht hq=>wpAny_mono (ht [] O _ H _ (Zpe S F.hd Y (M _ _ _ _ U) r x) hq) (λfl p C=>?_) λe p C=>C
 have X:∀{h:St} {J:Hp} {v:V} {u:Value},Qt (Jg d P w K mg base N qual scope f c A outer s H j) [] h J p->QO v u->Q v J->CE outer P w H s Q u p:=
  λ{h J v u} m z q=>#[v,J,m.os,m.bare,m.base,m.hok,z,q]
 cases fl with
 |ret u=>
  exact aA C λv h J m z q=>X m z q
 |next=>
  exact L0 C λh J m q=>X (v:=V.non) m rfl q
 |brk=>
  exact L0 C λ_ _ _ q=>False.elim q
 |cont=>
  exact L0 C λ_ _ _ q=>False.elim q
end L2
variable {sp:L2.Sp}
namespace L2
section
variable {x:Str}{p:Pos}{e:Expr}{t:TA}{id T:String}{r:List V->Hp->VK->Prop}
def tCB(r:List V->Hp->VK->Prop)(t:TA):TE:=λO H Q=>t O H λc D=>r c D Q
def Zk(y:ZF X (.builtin id) r)(q:X.mg x=none)(n:bootBuiltins x=some (.builtin id))(A:PA X (e::es) t)(hg:Gl X x:=by rfl)(hn:x ≠ "__name__" := by decide)(c:(x==("__debug__" : Str))=false:=by decide)
(he:zs X e es:=by rfl)(hpl:zb X pos es:=by rfl):PE X (.Call (.Name x p) (e::es) [] pos) (tCB r t):=by
 refine λY s O H Q I h=>wpAny_Call_Name_kw (WN I hg q n (PyProof.Rows.callWith_builtin1 (Q9 (A pos Y s O H _ I h) ?_) he hpl) hn c);rintro g i ⟨f,D,B,j,m⟩;exact y Y i O D f g Q B j m
def Vc(y:ZF X (.type T) r)(q:X.mg x=none)(n:bootBuiltins x=some (.type T))(A:PA X (e::es) t)(hg:Gl X x:=by rfl)(hn:x ≠ "__name__" := by decide)(c:(x==("__debug__" : Str))=false:=by decide)
(he:zs X e es:=by rfl)(hpl:zb X pos es:=by rfl):PE X (.Call (.Name x p) (e::es) [] pos) (tCB r t):=by
 refine λY s O H Q I h=>wpAny_Call_Name_kw (WN I hg q n (PyProof.Rows.callWith_type1 (Q9 (A pos Y s O H _ I h) ?_) he hpl) hn c);rintro g i ⟨f,D,B,j,m⟩;exact y Y i O D f g Q B j m
end
end L2
namespace HT
def sIx(n d:Nat):Option Int->Nat
 |none=>d
 |some v=>if v<0 then (v+(n:Int)).toNat else min v.toNat n
def sIx_nat(n d k:Nat):sIx n d (some (k:Int))=min k n:=by
 show(if (k)<0 then ((k:Int)+(n)).toNat else min (k:Int).toNat n)=min k n
 simp_all
end HT
namespace L2
abbrev TO:=St->Hp->(Option Int->Hp->Prop)->Prop
def PO(X:Cx)(e:Option Expr)(t:TO):Prop:=
 ∀(Y:Qc) (s:Shared) (O:St) (H:Hp) (Q:Option Int->Hp->Prop),Qt X Y O H s->t O H Q->
  wpAny (model X.prog X.w) X.A (evalPart e X.env) (λu c=>∃o J,Qt X Y O J c/\IsPart u o/\Q o J) X.xe s
def Le:TO:=λ_ H Q=>Q none H
def P1(t:TE):TO:=λO H Q=>t O H λx D=>∃i,x=.int i/\Q (some i) D
def DR:∀{us:Qe},QS (ns.map V.int) us->IntsAre us ns:=by
 induction ns with
 |nil=>intro us r; cases r;exact .nil
 |cons n ns g=>
  intro us r;cases r with
  |cons f c=>
   obtain⟨t,rfl⟩:=f;exact .cons n t (g c)
section
variable {e:Expr}{lo hi:Option Expr}{tl th:TO}{p2:Pos}
def J1:PO X none Le:=by
 exact λY s O H Q I h=>Xl #[none,H,I,.none,h]
def J4(h:PE X e te):PO X (some e) (P1 te):=by
 refine λY s O H Q I g=>Q9 (h Y s O H _ I g) ?_;rintro u m ⟨x,D,j,c,f⟩;apply At f;rintro i rfl q;obtain⟨t,rfl⟩:=c;exact#[some i,D,j,.int i t,q]
def SlR(X:Cx)(r:V->Option Int->Option Int->Hp->VK->Prop):Prop:=
 ∀(Y:Qc) (s:Shared) (O:St) (H:Hp) (x:V) (v e c:Value) (lo hi:Option Int) (f:Addr) (Q:VK),Qt X Y O H s->QO x v->s.heap.IsSliceOf f e c .none->IsPart e lo->IsPart c hi->r x lo hi H Q->
  ∃T g,typeLookup (.type T) "__getitem__"=pure (some<|.builtin g)/\s.TypeIs v T/\wpAny (model X.prog X.w) X.A (getItem v<|.ref f) (EP X Y O Q) X.xe s
def tSl(r:V->Option Int->Option Int->Hp->VK->Prop)(te:TE)(tl th:TO):TE:=λO H Q=>te O H λx D=>tl O D λl e=>th O e λu c=>r x l u c Q
def Jz(U:SlR X r)(he:PE X e te)(W:PO X lo tl)(M:PO X hi th):PE X (.Subscript e (.Slice lo hi none p2) pos) (tSl r te tl th):=by
 refine λY s O H Q I h=>Subscript_ (Q9 (he Y s O H _ I h) ?_);rintro v m ⟨x,D,p,n,B⟩;refine wpAny_Slice (Q9 (W Y m O D _ p B) ?_);rintro g j ⟨l,t,o,K,A⟩;refine Q9 (M Y j O t _ o A) ?_;rintro f c ⟨u,i,k,C,y⟩;exact Xl<|aF (U Y { c with heap:=c.heap.push { cls:=.type "slice",data:=.fields (List.toArray [g,f,.none]) } } O i x v g f l u c.heap.objs.size Q (k.kept λb w q=>Xc _ q) n (Heap.IsSliceOf.new ..) K C y) λT z hT P a=>tail_any P hT a (by with_unfolding_all rfl)
noncomputable def Ge(xs:List V)(lo hi:Option Int):List V:=(xs.drop<|HT.sIx xs.length 0 lo).take (HT.sIx xs.length xs.length hi-HT.sIx xs.length 0 lo)
def ZlE(xs:List V)(lo hi:Option Int):(Ge xs lo hi).length<=xs.length:=by
 unfold Ge;rw[Mu,List.length_drop];lia
end
end L2
namespace L2
noncomputable def ixN(n:Nat)(i:Int):Option Nat:=if 0<=i then (if i<n then some i.toNat else none) else if -(n:Int)<=i then some (i+n).toNat else none
noncomputable def atI{c:Type}(xs:List c)(i:Int):Option c:=(ixN xs.length i).bind λj=>xs[j]?
def L5{i:Int}(h:ixN n i=some j):seqIndex? i n=some j/\j<n /\ -(n:Int)<=i/\i<n:=by
 unfold ixN at h;by_cases c:0<=i
 .rw[Xh c]at h
  by_cases L:i<n
  .rw[Xh L]at h;exact#[by rw[seqIndex_of c L,Option.some.inj h],#[],#[],L]
  .simp_all
 .rw[Xe c]at h
  by_cases L : -(n)<=i
  .rw[Xh L]at h;exact#[by rw[seqIndex_neg #[] L,Option.some.inj h],#[],L,#[]]
  .simp_all
def KM{c:Type}{xs:List c}{i:Int}{v:c}(h:atI xs i=some v):∃j,seqIndex? i xs.length=some j/\xs[j]?=some v/\j<xs.length /\ -(xs.length:Int)<=i/\i<xs.length:=by
 unfold atI at h;cases e:ixN xs.length i with
 |none=>rw[e]at h;cases h
 |some j=>
  rw[e]at h;exact aJ (L5 e) λL m g f=>#[j,L,h,m,g,f]
def Z9{c:Type}{xs:List c}{v:c}(h:xs[j]?=some v):atI xs (j:Int)=some v:=by
 have f:=(Xi.mp h).1;have e:ixN xs.length (j)=some j:=by
  unfold ixN;simp_all
 unfold atI;exact e▸h
def EY(b:Expr):Prop := ∀o i,subscripted b false o i=operate [o,i] (getItem o i)
def IxR(X:Cx)(r:R2):Prop:=
 ∀(f c:Expr) (Y:Qc) (s:Shared) (O:St) (H:Hp) (x y:V) (v u:Value) (Q:VK),Qt X Y O H s->QO x v->QO y u->r x y H Q->
  subscripted c false v u=operate [v,u] (getItem v u)->wpAny (model X.prog X.w) X.A (subscriptTail f c v u) (EP X Y O Q) X.xe s
def MtR(X:Cx)(f:String)(r:V->List V->Hp->VK->Prop):Prop:=
 ∀(Y:Qc) (s:Shared) (O:St) (H:Hp) (x:V) (xs:List V) (v:Value) (c:Qe) (Q:VK),Qt X Y O H s->QO x v->QS xs c->r x xs H Q->
  wpAny (model X.prog X.w) X.A (call (.builtin f) (v::c)) (EP X Y O Q) X.xe s
section
variable {a b:Expr}{tb:TE}
def IxR.or(h:IxR X r)(h':IxR X r'):IxR X (λx y H Q=>r x y H Q\/r' x y H Q):=by
 intro a b Y s O H x y v u Q I f c q g;rcases q with q|q
 .exact h a b Y s O H x y v u Q I f c q g
 .exact h' a b Y s O H x y v u Q I f c q g
def QG(i:IxR X r)(m:PE X a ta)(j:PE X b tb)(hs:EY b:=by exact λ_ _=>rfl):PE X (.Subscript a b pos) (tOp r ta tb):=by
 exact λY s O H Q I h=>Subscript_ (Hv m j I h λv u c x y A n g f q=>i a b Y c O A x y v u Q n g f q<|hs _ _)
def S7(K:W.Frag):R2:=λx y H Q=>∃p xs i v,x=.ref p/\y=.int i/\SqL K H p xs/\atI xs i=some v/\Q v H
def SM(K:W.Frag):R2:=λx y H Q=>∃p xs i v,x=.ref p/\y=.int i/\SqT K H p xs/\atI xs i=some v/\Q v H
def Hq:R2:=λx y H Q=>∃z i c,x=.str z/\y=.int i/\z.length<=sizeLine/\atI z.cps.toList i=some c/\Q (.str #[(List.toArray [c])]) H
def Of:IxR X (S7 X.K):=by
 intro b c Y s O H x y v u Q I M K h A;apply aQ h;rintro p xs i z rfl rfl P W q;cases M;obtain⟨t,rfl⟩:=K;apply L3 (I.list P);intro m r g l;apply aI (KM W);rintro j L k D⟨e,d⟩;apply At (r.get k);intro w C f;have U:=r.length;have o:=U9
 by_cases B:0<=i
 .have n:=by
   rw[seqIndex_of B d]at L;exact Option.some.inj L
  exact item_listR g.isList B #[] (by rw[n];simpa using C) (#[z,H,I,f,q]) A
 .have n:(i+(m.toArray.size)).toNat=j:=by
   rw[seqIndex_neg #[] e]at L;rw[Xu,<- U];exact Option.some.inj L
  exact subscriptTail_builtinR g.isList.typeIs slot_list_getitem.lookup
   (wpAny_getItem_list_neg g.isList #[] (by rw[Xu]<;>lia) #[] (by rw[n];simpa using C) #[rfl,#[z,H,I,f,q]]) A
def Et:IxR X (SM X.K):=by
 intro a b Y s O H x y v u Q I n m h B;apply aQ h;rintro p xs i z rfl rfl C M q;cases n;obtain⟨t,rfl⟩:=m;apply L3 (I.tuple C);intro A r g W;apply aI (KM M);rintro j L P l⟨k,e⟩;apply At (r.get P);intro w U c;have d:=U9
 exact subscriptTail_builtinR g.typeIs slot_tuple_getitem.lookup
  (getItem_tuple g #[] #[] (by rw[Xu,<- r.length];exact L) (by simpa using U) #[rfl,#[z,H,I,c,q]]) B
def Tt:IxR X Hq:=by
 intro a b Y s O H x y v u Q I g f h m;apply aN h;rintro z i c rfl rfl W A q;obtain⟨t,rfl⟩:=g;obtain⟨U,rfl⟩:=f;apply aI (KM A);rintro j L K e⟨C,B⟩;have n:z.cps.toList.length=z.length:=by simp[Str.length]
 rw[n]at L C B;have d:=U9;exact tail_any (typeIs_str s z t) slot_str_getitem.lookup (getItem_str (by
  rw[XJ #[],XJ #[],Bool.or_false]) (by rw[L];simpa using K) #[.str _,H,I.tok _,#[_,rfl],q]) m
def rIx(K:W.Frag):R2:=λx y H Q=>S7 K x y H Q\/SM K x y H Q\/Hq x y H Q
def QH:IxR X (rIx X.K):=Of.or (Et.or Tt)
def ZoC(a:Qe)(n j:Nat)(u:Value):Obj.mapSeq (·.setIfInBounds j u) { cls:=.type "list",data:=.seq a.toArray n }={ cls:=.type "list",data:=.seq (a.set j u).toArray n }:=by
 simp[Obj.mapSeq]
def Qt.lst{O:St}{H:Hp}{p:Addr}(I:Qt X Y O H s)(h:H p=some (.lst xs)):
 ∃(a:Qe) (n:Nat),QS xs a/\s.heap.get? p=some { cls:=.type "list",data:=.seq a.toArray n }/\xs.length<=sizeLine:=by
 obtain⟨z,a,n,r,e⟩:=I.hok p _ h;exact#[a,n,r,e,z]
def Qt.lstUpd{O:St}{H:Hp}{p:Addr}{c a:Qe}{g:Nat}{f:Obj->Obj}(I:Qt X Y O H s)(h:H p=some (.lst xs))
(j:s.heap.get? p=some { cls:=.type "list",data:=.seq c.toArray n })(i:f { cls:=.type "list",data:=.seq c.toArray n }={ cls:=.type "list",data:=.seq a.toArray g })(r:QS ys a)(hz:ys.length<=sizeLine)(t:Nat):
 Qt X Y O (upd H p<|.lst ys) { s with heap:=s.heap.update p f,toks:=t }:=by
 have e:(s.heap.update p f).get? p=some { cls:=.type "list",data:=.seq a.toArray g }:=by
  rw[X9 f j<|by rw[i]<;>rfl,i]
 exact I.write (by rw[h];trivial) (.inl rfl) (λb u m q=>(XV _ _<|Ne.symm m).trans q) #[_,e]<|#[hz,a,g,r,e]
def Gr:V->V->V->Hp->(Hp->Prop)->Prop:=λo i v H Q=>∃p xs k j,o=.ref p/\i=.int k/\H p=some (.lst xs)/\ixN xs.length k=some j/\Q (upd H p<|.lst<|xs.set j v)
def Wv:Hz X Gr:=by
 intro Y s O H o i v d e u Q I K M C h;apply aQ h;rintro p xs k j rfl rfl g U q;cases K;obtain⟨t,rfl⟩:=M;refine aF (I.lst g) λa n r b P=>aJ (L5 U) λL w y m=>?_;have c:=r.length;have l:=U9;have B:=
  I.lstUpd g b (ZoC a n j u) (r.set C j) (by rw[List.length_set];exact P) s.toks
 by_cases A:0<=k
 .have f:=by
   rw[seqIndex_of A m]at L;exact Option.some.inj L
  exact W.ki_setAt b A #[] (by rw[Xu,<- c];exact m) (by rw[f];exact#[_,B,q])
 .have f:(k+(a.toArray.size)).toNat=j:=by
   rw[seqIndex_neg #[] y]at L;rw[Xu,<- c];exact Option.some.inj L
  exact W.ki_setBack b #[] (by rw[Xu,<- c];exact y) #[] (by rw[f];exact#[_,B,q])
def Zla(lo a:Option Int)(n:Nat):(sliceBounds lo a none n).1=((HT.sIx n 0 lo:Nat):Int)/\(sliceBounds lo a none n).2.1=((HT.sIx n n a:Nat):Int)/\(sliceBounds lo a none n).2.2=1:=by
 refine#[?_,?_,rfl]
 .cases lo with
  |none=>simp[sliceBounds,HT.sIx]
  |some i=>
   simp only[sliceBounds,HT.sIx,Option.getD_none,show(1:Int) > 0 by decide,if_true]
   by_cases h:i<0
   .simp only[h,if_true]<;>lia
   .simp only[h,if_false]<;>lia
 .cases a with
  |none=>simp[sliceBounds,HT.sIx]
  |some i=>
   simp only[sliceBounds,HT.sIx,Option.getD_none,show(1:Int) > 0 by decide,if_true]
   by_cases h:i<0
   .simp only[h,if_true]<;>lia
   .simp only[h,if_false]<;>lia
def Zj0(a:Qe)(lo b:Option Int):slicePick a.toArray lo b none=((a.drop<|HT.sIx a.length 0 lo).take (HT.sIx a.length a.length b-HT.sIx a.length 0 lo)).toArray:=by
 apply KE (Zla lo b a.toArray.size);intro L f c;unfold slicePick;rw[L,f,c];simp only[sliceRange_one,pick_run,Xu]<;>rfl
def Am(K:W.Frag):V->Option Int->Option Int->Hp->VK->Prop:=λx b c H Q=>∃a xs,x=.ref a/\SqL K H a xs/\∀p,H p=none->Q (.ref p) (upd H p<|.lst<|Ge xs b c)
def Jy:SlR X (Am X.K):=by
 intro Y s O H x v M K f g P Q I j C n m h;apply aF h;rintro a xs rfl B q;cases j;apply L3 (I.list B);intro y r i A;have c:=r.length;refine#["list",_,slot_list_getitem.lookup,i.isList.typeIs,wpAny_getItem_list_slice i.isList C n m .none (by simp) ?_ (by rw[Xu]<;>lia)];rw[Zj0,<- c];exact#[.ref s.heap.objs.size,_,I.laid (t':=s.toks) (o:=.lst (Ge xs f g)) (λb U q=>Xc _ q) (Xm _) (#[Xq (ZlE xs f g) A,_,0,(r.drop<|HT.sIx xs.length 0 f).take (HT.sIx xs.length xs.length g-HT.sIx xs.length 0 f),Xn _ rfl]),rfl,q _<|I.hok.fresh<|Xm _]
def Zlv:ZF X (.builtin "len") (λxs H Q=>∃p ys,xs=[.ref p]/\(SqL X.K H p ys\/SqT X.K H p ys)/\Q (.int ys.length) H):=by
 intro Y s O H xs m Q I r h;apply aF h;rintro p ys rfl b q;apply At (VQ r);rintro u rfl i;cases i;have n:=U9;rcases b with b|b
 .apply L3 (I.list b);intro g c f j;have a:=c.length;exact Calls.call_len_list f.isList (by simp only[Xu]<;>lia) #[.int ys.length,H,I.tok _,#[s.toks+1,by rw[Xu,a]],q]
 .apply L3 (I.tuple b);intro g c f j;have a:=c.length;exact len_tuple f (by simp only[Xu]<;>lia) #[.int ys.length,H,I.tok _,#[s.toks+1,by rw[Xu,a]],q]
def Zkp:ZF X (.builtin "len") (λxs H Q=>∃z,xs=[.str z]/\z.length<=sizeLine/\Q (.int z.length) H):=by
 intro Y s O H xs a Q I r h;apply L3 h;rintro z rfl b q;apply aM (VQ r);rintro u rfl t rfl;have c:=U9;exact len_str #[] #[.int z.length,H,I.tok _,#[_,rfl],q]
def ZkC:ZF X (.type "list") (λxs H Q=>∃p ys,xs=[.ref p]/\(SqL X.K H p ys\/SqT X.K H p ys)/\∀l,H l=none->Q (.ref l) (upd H l<|.lst ys)):=by
 intro Y s O H xs M Q I r h;apply aF h;rintro p ys rfl i q;apply At (VQ r);rintro u rfl K;cases K;have m:∀a,QS ys a->ys.length<=sizeLine->∀h' (c),_->
  h'.get? s.heap.objs.size=some { cls:=.type "list",dict:=none,data:=.seq a.toArray c,slots := (List.toArray []) }->EP X Y O Q _ { s with heap:=h' }:=λa b g h' c f e=>
  #[.ref s.heap.objs.size,_,I.laid f (Xm _) (show ZT X.prog X.w _ h' _ (.lst ys) from#[g,a,c,b,e]),rfl,q _<|I.hok.fresh<|Xm _]
 rcases i with i|i
 .apply L3 (I.list i);intro a b y g;have j:=b.length;exact aR y.isList λo A C n B=>call_list_seq p (.inl rfl) A C B (λh' c f e=>m a b g h' c f e) (by simp only[Xu]<;>lia)
 .apply L3 (I.tuple i);intro a b y g;have j:=b.length;exact aR y λo A C n B=>call_list_seq p (.inr rfl) A C B (λh' c f e=>m a b g h' c f e) (by simp only[Xu]<;>lia)
def ZjV:ZF X (.type "tuple") (λxs H Q=>∃p ys,xs=[.ref p]/\((SqL X.K H p ys/\∀l,H l=none->Q (.ref l) (upd H l<|.tup ys))\/(SqT X.K H p ys/\Q (.ref p) H))):=by
 intro Y s O H xs B Q I r h;apply L0 h;rintro p ys rfl h;apply At (VQ r);rintro u rfl n;cases n;rcases h with ⟨g,q⟩|⟨g,q⟩
 .apply L3 (I.list g);intro a c f i;have j:=c.length;refine call_tuple_list f.isList (λh' y=>?_) (by simp only[Xu]<;>lia);have m:=I.kept (t':=s.toks) y;have A:=
   m.laid (t':=s.toks) (λb o e=>Xc _ e) (Xm _) (show ZT X.prog X.w _ _ _ (.tup ys) from#[i,a,c,IsTup.new _ _])
  exact#[.ref h'.objs.size,_,A,rfl,q _<|m.hok.fresh<|Xm _]
 .exact L3 (I.tuple g) λa c f i=>call_tuple_same f #[.ref p,H,I,rfl,q]
def tyV(K:W.Frag)(T:String)(x:V)(H:Hp):Prop:=match x with
 |.str _=>T = "str"
 |.int _=>T = "int"
 | .ref p=>(T = "list" /\ ∃xs,SqL K H p xs)\/(T = "tuple" /\ ∃o,K.lookup p=some o/\o.cls=.type "tuple" /\ o.dict=none) \/
  (T = "dict" /\ ((∃a,H p=some (.dK a))\/∃a,H p=some (.dT a)))\/(T = "set" /\ ∃S n,H p=some (.set S n))
 |_=>False
def E7{O:St}{H:Hp}{T:String}{x:V}{v:Value}(I:Qt X Y O H s)(r:QO x v)(g:tyV X.K T x H):
 s.TypeIs v T/\∀a,v=.ref a->∃y,s.heap.get? a=some y/\y.dict=none:=by
 cases x with
 |str z=>
  obtain⟨t,rfl⟩:=r;cases (g);exact#[typeIs_str s z t,by rintro _ ⟨⟩]
 |int i=>
  obtain⟨t,rfl⟩:=r;cases (g);exact#[typeIs_int s i t,by rintro _ ⟨⟩]
 |ref p=>
  cases r;rcases g with ⟨rfl,xs,B⟩|⟨rfl,o,b,C,j⟩|⟨rfl,b⟩|⟨rfl,S,n,b⟩
  .refine L3 (I.list B) λA _ q _=>#[q.isList.typeIs,λa e=>?_];cases e;exact aB q λo n e c j _=>#[o,e,j]
  .refine#[#[o,I.kIn p o b,C],λa e=>?_];cases e;exact#[o,I.kIn _ o b,j]
  .have z:∃o,s.heap.get? p=some o/\o.ExactDict:=by
    rcases b with ⟨h,b⟩|⟨h,b⟩
    .apply Hs (I.hok p _ b);rintro _ _ _ _ o _ _ e⟨f,_⟩;exact#[o,e,f]
    .apply Hs (I.hok p _ b);rintro _ _ _ _ o _ _ e⟨f,_⟩;exact#[o,e,f]
   refine At z λo e f=>#[#[o,e,f.1],λa m=>?_];cases m;exact#[o,e,f.2.1]
  .refine aT (I.hok p _ b) λo _ _ _ e f _=>#[#[o,e,f.1],λa m=>?_];cases m;exact#[o,e,f.2.1]
 |_=>exact False.elim g
def tBM(K:W.Frag)(T:String)(r:V->List V->Hp->VK->Prop)(a:TE)(t:TA):TE:=λO H Q=>a O H λx D=>tyV K T x D/\t O D λxs b=>r x xs b Q
variable {o e:Expr}{to:TE}{t:TA}{name:Str}{T id:String}{r:V->List V->Hp->VK->Prop}
def ZK(U:PlainAttrs T)(f:Slot T name id)(i:typeOf (.builtin id)=pure (.type "method_descriptor"))(d:MtR X id r)(W:PE X o to)(k:PA X (e::es) t)
(c:attributeBase o name X.env (eval o X.env)=eval o X.env:=by rfl)
(g:((backTo UH<|starEach (e::es) X.env).all (λx => !x.1)&&(backToKw UH<|keywordEach [] X.env).all (λx=>x.1.isSome)
  && decide ((e::es).length+([]:List Keyword).length+(if ([]:List Keyword).isEmpty then 0 else 1)<30))=true:=by rfl)
(b:(XD.endLine==UH.line)=true:=by rfl)(hs:zs X e es:=by rfl)(a:(backTo UH<|starEach es X.env).any (·.1)=false:=by rfl):
 PE X (.Call (.Attribute o name XD) (e::es) [] UH) (tBM X.K T r to t):=by
 refine λY s O H Q I h=>wpAny_Call_method_late c g b rfl (Q9 (W Y s O H _ I h) ?_);rintro v C ⟨x,D,n,j,A,P⟩;obtain⟨L,l⟩:=E7 n j A;refine#[T,id,U,f,i,L,l,?_];have m:=k UH Y C O D _ n P;rw[hs]at m ⊢;refine Calls.callWith_builtin (by show(false||(backTo UH _).any _)=false;rw[a]<;>rfl) (Calls.evalArgs_plain (Q9 m ?_));rintro y B ⟨q,u,p,K,M⟩;exact d Y B O u x q v y Q p j K M
end
end L2
namespace L2
def MtM(X:Cx)(f:String)(r:V->List V->Hp->VK->Prop):Prop:=
 ∀(Y:Qc) (s:Shared) (O:St) (H:Hp) (x:V) (xs:List V) (v:Value) (c:Qe) (Q:VK),Qt X Y O H s->QO x v->QS xs c->r x xs H Q->
  wpAny (model X.prog X.w) X.A (call (.builtin f) (v::c)) (EP X Y O Q) X.xe s
theorem QS.one:∀{x:V} {us:Qe},QS [x] us->∃u,us=[u]/\QO x u
 |_,_,.cons r .nil=>⟨_,rfl,r⟩
theorem QS.rep{xs:List V}{us:Qe}(h:QS xs us):∀k:Nat,QS (List.replicate k xs).flatten (List.replicate k us).flatten
 |0=>.nil
 |k+1=>QS.append h (QS.rep h k)
theorem Cl(c:Qe):∀(k:Nat) (f:Qe),
 List.foldl (λh g=>h++g) f.toArray (List.replicate k c.toArray)=(f++(List.replicate k c).flatten).toArray
 |0,f=>by simp
 |k+1,f=>by
  have e:f.toArray++c.toArray=(f++c).toArray:=by simp
  have i:(f++c)++(List.replicate k c).flatten=f++(List.replicate (k+1) c).flatten:=by
   rw[Ha,List.flatten_cons,UR]
  rw[<- i,<- Cl c k _,<- e,Ha,List.foldl_cons]
section
variable {O:St}{H:Hp}{l:Addr}
def Qt.lset{c:Qe}{f:Array Value->Array Value}(I:Qt X Y O H s)(m:H l=some (.lst xs))
(e:s.heap.get? l=some { cls:=.type "list",data:=.seq c.toArray n })(i:f c.toArray=its'.toArray)(g:QS ys its')(hz:ys.length<=sizeLine):
 Qt X Y O (upd H l<|.lst ys) { s with heap:=s.heap.update l (Obj.mapSeq f),toks:=t' }:=by
 have q:=PySem.IsL.update e f;rw[i]at q;exact I.write (by exact m▸trivial) (.inl rfl) (λy u j h=>(XV s.heap _<|Ne.symm j).trans h) #[_,q]<|#[hz,its',_,g,q]
def Qt.lnew(I:Qt X Y O H s)(c:QS ys its)(hz:ys.length<=sizeLine):
 Qt X Y O (upd H s.heap.objs.size<|.lst ys) { s with heap:=s.heap.push { cls:=.type "list",data:=.seq its.toArray },toks:=t' }:=
 I.laid (λ_ _ q=>Xc _ q) (Xm _) #[hz,its,0,c,Xn _ rfl]
def Qt.fresh(I:Qt X Y O H s):H s.heap.objs.size=none:=I.hok.fresh (Xm _)
def Qt.lstM(I:Qt X Y O H s)(f:H l=some (.lst xs)):xs.length<=sizeLine/\∃(c:Qe) (n:Nat),QS xs c/\xs.length=c.length/\s.heap.get? l=some { cls:=.type "list",data:=.seq c.toArray n }:=by
 exact By (I.hok l _ f) λz c n r e=>#[z,c,n,r,r.length,e]
def Zt9(h:n<=sizeLine):Builtin.List.listTooLong n=false:=XJ #[]
end
def Yr:V->List V->Hp->VK->Prop:=λx c H Q=>∃l xs y,x=.ref l/\c=[y]/\H l=some (.lst xs)/\xs.length<sizeLine/\Q .non (upd H l<|.lst<|xs++[y])
def VJ:MtM X "list.append" Yr:=by
 intro Y s O H x m v A Q I g i h;apply aN h;rintro l xs y rfl rfl f B q;cases g;apply At i.one;rintro u rfl j;apply By (I.lstM f);rintro z c n r⟨C,e⟩;refine call_meets F.slot_list_append #[_,e,rfl] F.entry_list_append (F.args_list_append_2 _ _) (PySem.list_append l c.toArray n u<|by rw[Xu];lia) #[e,#[.non,_,I.lset f e (by simp) (r.append<|.cons j .nil) ?_,rfl,q]];rw[Xs,Hc];lia
def Bc:R2:=λx y H Q=>∃l b xs c,x=.ref l/\y=.ref b/\H l=some (.lst xs)/\H b=some (.lst c)/\xs.length+c.length<=sizeLine/\∀p,H p=none->Q (.ref p) (upd H p<|.lst<|xs++c)
def Bw:OpR X (binaryOp .Add) Bc:=by
 intro Y s O H x y v u Q I i g h;apply aQ h;rintro l b xs M rfl rfl A B⟨W,q⟩;cases i;cases g;apply By (I.lstM A);rintro z f n r⟨a,e⟩;apply By (I.lstM B);rintro P c U j⟨m,K⟩;refine PySem.P.add_list e K ?_ (by rw[Xu,Xu];lia);have C:f.toArray++c.toArray=(f++c).toArray:=by simp
 exact C▸#[.ref _,_,I.lnew (r.append j)<|by rw[Xs];lia,rfl,q _ I.fresh]
def Ak:R2:=λx y H Q=>∃l k xs,x=.ref l/\y=.int k/\H l=some (.lst xs) /\ -(2^63)<=k/\k<2^63/\xs.length*k.toNat<=sizeLine/\
 ∀p,H p=none->Q (.ref p) (upd H p<|.lst (List.replicate k.toNat xs).flatten)
def Ic{c:Type}(xs:List c)(k:Nat):(List.replicate k xs).flatten.length=k*xs.length:=by
 simp_all
def Eh:OpR X (binaryOp .Mult) Ak:=by
 intro Y s O H x y v u Q I U P h;apply aN h;rintro l k xs rfl rfl b L⟨d,B,q⟩;cases U;obtain⟨t,rfl⟩:=P;apply By (I.lstM b);rintro z c n r⟨W,e⟩;have i:c.toArray.size*k.toNat<=sizeLine:=by rw[Xu,<- W];exact B
 have A:¬c.toArray.size*k.toNat > (2^63-1)/8:=by
  have:(sizeLine)<=(2^63-1)/8:=by decide
  lia
 have j:¬(!Builtin.List.listFitsIndex k)=true:=by
  rw[fitsIndex_both L d];exact Xy
 have f:¬Builtin.List.listTooLong (c.toArray.size*k.toNat)=true:=by
  rw[Zt9 i];exact Xy
 have g:List.foldl (λK C=>K++C) (List.toArray []) (List.replicate (if c.toArray.isEmpty=true then 0 else k.toNat) c.toArray)=(List.replicate k.toNat c).flatten.toArray:=by
  have f0:=λm=>by
   have:=Cl c m [];rwa[Mt]at this
  rw[f0];cases c with
  |nil=>simp
  |cons a o=>rw[Xe<|by simp]
 refine wpAny_binaryOp_repeat_ref (by decide) #[_,e,rfl] (λM=>typeIs_int M k t) noFill_list_mul F.fills_int_mul F.slot_int_rmul repeat_list F.slot_int_index.lookup
  (call_meets F.slot_int_rmul (typeIs_int s k t) F.entry_int_rmul (F.args_int_rmul_2 _ _) (int___rmul___int_list k t l c.toArray n)
   #[e,rfl,#[_,e,rfl],call_meets F.slot_list_mul #[_,e,rfl] F.entry_list_mul (F.args_list_mul_2 _ _) (AutoListH.list___mul___list_int_3 l c.toArray n k t j A f) #[e,?_]])
 exact g▸#[.ref _,_,I.lnew (r.rep k.toNat)<|by rw[Ic,Nat.mul_comm];exact B,rfl,q _ I.fresh]
end L2
namespace Att
open PySem PySem.W PySem.Calls PyProof.Rows
def Zh9{P:Params}:∀(ns:Ql) (vs:Qe),WellAll P h vs (ns.map WData.int)->IntsAre vs ns:=by
 intro ns;induction ns with
 |nil=>
  intro vs w;cases w;exact .nil
 |cons n ns c=>
  intro vs w;cases w with
  |cons a b=>
   cases a;exact .cons _ _ (c _ b)
def Zr6{l:OpenLaw}(hn:l.most=some n){P:Params}
(c:l.row.toRowW.claim.pre args=true)(j:WellAll P h vals args):
 ∃a vs ns,vals=[Value.ref a]/\args=[WData.list<|ns.map WData.int]/\h.get? a=some { cls:=.type "list",data:=.seq vs.toArray }/\IntsAre vs ns/\ns.length<=n:=by
 apply aF (hasAllW_cons ((pre_splitW c).1));rintro d r rfl L K;obtain rfl:=hasAllW_nil K;apply At (hasW_list L);rintro xs rfl C;obtain⟨ns,rfl⟩:=items_int C;have f:ns.length<=n:=by
  have i:=by
   have i:=(holds_andW ((pre_splitW c).2)).1;rwa[hn]at i
  have q:=condW_of i (w_not<|w_lt w_lit<|w_len_list<|w_arg rfl)
  first
   |(exact Xt q _)
   |(simp at q;lia)
 cases j with
 |cons y s=>
  cases s;cases y with
  |list A g=>exact#[_,_,ns,rfl,rfl,A,Zh9 ns _ g,f]
def ZqX(l:OpenLaw)(c:List WData):l.row.toRowW.claim.post c (.bool true) c=true:=
 postW_of
  (show WShape.has [] _ .bool=true by first|rfl|decide|simp[WShape.has])
  (w_eq_bool (w_res rfl) w_lit) rfl
end Att
namespace L2
theorem Ct:∀{vs:Qe} {ns:Ql},IntsAre vs ns->QS (ns.map V.int) vs
 |_,_,.nil=>.nil
 |_,_,.cons n t h=>.cons #[t,rfl] (Ct h)
def Z0l(H:Hp):Prop := ∀b,H b=none\/∃o xs,H b=some (.frz o<|.lst xs)
end L2
namespace L2
abbrev KOf{K:W.Frag}{h:Heap}(_:K.In h):W.Frag:=K
end L2
namespace L2
noncomputable def Vw(s:Stmt)(j:Nat):Stmt:=match s with
 |.ClassDef _ _ _ body _ _ _ _ _ _ _=>body.getD j (.Pass #[0,0,0,0])
 |_=>.Pass #[0,0,0,0]
noncomputable def Y0(s:Stmt):Arguments:=match s with
 |.FunctionDef _ a _ _ _ _ _ _ _ _=>a
 |_=>{ posonlyargs:=[],args:=[],vararg:=none,kwonlyargs:=[],kw_defaults:=[],kwarg:=none,defaults:=[] }
noncomputable def VU(s:Stmt):List Stmt:=match s with
 |.FunctionDef _ _ b _ _ _ _ _ _ _=>b
 |_=>[]
noncomputable def QD(s:Stmt):Scope:=match s with
 |.FunctionDef _ _ _ _ _ _ c _ _ _=>c
 |_=>{ kind:=.function,names:=[],isGenerator:=false,isCoroutine:=false }
abbrev CX0:CXT:=λ_ _ _ _ _ _=>False
abbrev E0:XK:=λ_ _ _=>False
def Jq:Yh CX0 X E0:=λ_ _ _ _ _ _ _ h=>h.elim
structure Fun(K:W.Frag)(x qual:Str)(st:Stmt)(f:Addr)(fd:FuncData):Prop where
 ex:∃(oc:Value) (od:Qj) (kV doc pm:Value) (an:Qj) (cdv ct:Value) (osl:Array (Qf)),
  fd=W.fnOf x qual (Y0 st) (VU st) (QD st) .none kV doc pm an cdv ct/\K.lookup f=some #[oc,od,.func fd,osl]/\W.codeIn K cdv qual=true
 kp:W.keepIn K (.ref f)=true
def B0(P:Program)(w:World)(K:W.Frag)(mg:Str->Qf)(base:Heap)(N:Qh)(q:Str)(st:Stmt)(k:Nat)(f:Addr)(H:Hp)(g:XK)(G:TS->Prop):Prop := ∀(c:Value) (A:Around) (outer:List Env) (s:Shared),Room k (A.deeper<|envOfC q (QD st) s.heap.objs.size f c)->∃t,PSs (Jg CX0 P w K mg base N q (QD st) f c A outer s H g).nox (VU st) t/\G t
abbrev Rn(N:Qh)(vs:List V)(H:Hp)(Q:VK)(t:TS):Prop:=t { nx:=λ_ J=>Q .non J,rt:=Q } (start N vs) H
section
variable {w:World}{base:Heap}
def Fun.ok{x:Str}{st:Stmt}{f:Addr}{N:Qh}{k:Nat}(F:Fun K x qual st f fd)(S:Qo N ps (QD st))(g:∀vs H Q c,sp vs H Q c->vs.length=ps.length)
(n:∀vs H Q c,sp vs H Q c->B0 P w K mg base N qual st k f H c (Rn N vs H Q)):FnOk P w K mg base CX0 (k+1) f fd ps sp:=by
 apply aU F.ex;rintro W U kV C M Y m X q rfl y j;exact Pr y j S g λA outer s H vs Q c B i=>(n vs H Q c i m A outer s B).imp λ_ h=>h.imp PSs.nox id
def Fun.binds{x:Str}{st:Stmt}{f:Addr}(F:Fun K x qual st f fd)
(h:∀(kV c i:Value) (m:Qj) (g j:Value) (us:Qe),us.length=ps.length->bindArgs (W.fnOf x qual (Y0 st) (VU st) (QD st) .none kV c i m g j) #[us,[]]=pure (ps.zip us)):ZY K fd ps []:=by
 apply aU F.ex;rintro w s kV c i m g j n rfl y q;exact .all (h kV c i m g j)
def WO{x:Str}{st:Stmt}{f:Addr}{q:Value}{od n:Qj}{i:Array (Qf)}{kV h j g m:Value}(l:K.lookup f=some #[q,od,.func<|W.fnOf x qual (Y0 st) (VU st) (QD st) .none kV h j n g m,i])
(c:W.codeIn K g qual=true)(k:W.keepIn K (.ref f)=true):Fun K x qual st f (W.fnOf x qual (Y0 st) (VU st) (QD st) .none kV h j n g m):=#[#[q,od,kV,h,j,n,g,m,i,rfl,l,c],k]
end
def Wn(c:Room k A):A.units+1<cLine:=Mx (Nat.add_le_add_left (by decide) _) c.units
def V9(h:n<=1000):n<sizeLine:=Mx h (by decide)
def pv(i:Nat)  (h:X.N[i]?=some x:=by rfl)(f:Vis X.env.scope x:=by first|exact Or.inl rfl|exact Or.inr Qa|exact Or.inr<|Or.inr rfl)(g:(x==("__debug__" : Str))=false:=by decide)
(c:(x==("__classdict__" : Str))=false:=by decide):PE X (.Name x pos) (Q8 i):=Tc h f g c
def av(i:Nat)   (g:PA X es t)(j:X.N[i]?=some x:=by rfl)(f:Vis X.env.scope x:=by first|exact Or.inl rfl|exact Or.inr Qa|exact Or.inr<|Or.inr rfl)(h:(x==("__debug__" : Str))=false:=by decide)
(c:(x==("__classdict__" : Str))=false:=by decide)(hs:starEach (.Name x pos::es) X.env=(false,eval (.Name x pos) X.env)::starEach es X.env:=by rfl):PA X (.Name x pos::es) (Q4 (Q8 i) t):=Qs (pv i j f h c) g hs
def y0{pos X x}:=@av pos [] X _ x 0 Qq
def va1{pos X x}:=@av pos [] X _ x 1 Qq
def y2{pos X x}:=@av pos [] X _ x 2 Qq
def v3{pos X x}:=@av pos [] X _ x 3 Qq
def g0{pos X x}:=@pv pos X x 0
def vb1{pos X x}:=@pv pos X x 1
def va2{pos X x}:=@pv pos X x 2
def y3{pos X x}:=@pv pos X x 3
def g4{pos X x}:=@pv pos X x 4
def Q6(H J:Hp):Prop := ∀b o,H b=some o->J b=some o
def Q6.refl(H:Hp):Q6 H H:=λ_ _ h=>h
def Q6.trans(a:Q6 H D)(b:Q6 D H2):Q6 H H2:=λc o h=>b c o (a c o h)
def Q6.free(e:Q6 H J)(h:J l=Option.none):H l=Option.none:=by
 cases q:H l with
 |none=>rfl
 |some o=>
  rw[e l o q]at h;cases h
def Q6.seq(e:Q6 H J)(h:SqL K H a xs):SqL K J a xs:=by
 rcases h with (h|⟨o,h⟩)|h
 .exact .inl (.inl<|e _ _ h)
 .exact .inl (.inr #[o,e _ _ h])
 .exact .inr h
end L2
namespace L2
theorem NU{env:Env}{F:Str×NameKind->List (Str×Addr)->Sem (ForInStep<|List<|Str×Addr)}
(L:∀n c f,env.cells.lookup n=some c->F (n,NameKind.free) f=pure (.yield ((n,c)::f)))
(C:∀n k f,k≠NameKind.free->F (n,k) f=pure (.yield f)):
 ∀(l:List (Str×NameKind)) (f:List (Str×Addr)),(∀p∈l,p.2=NameKind.free->∃c,env.cells.lookup p.1=some c)->(∀x c,f.lookup x=some c->env.cells.lookup x=some c)->
  ∃i,forIn l f F=pure i/\(∀x c,i.lookup x=some c->env.cells.lookup x=some c)/\(∀x c,f.lookup x=some c->∃b,i.lookup x=some b)/\∀p∈l,p.2=NameKind.free->∃c,i.lookup p.1=some c
 |[],f,_,y=>⟨f,by rw[List.forIn_nil],y,λx c h=>#[c,h],λp g=>Xt g<|by simp⟩
 |(n,k)::l,f,X,y=>by
  have j:=λp g=>X p (Xf _ g)
  by_cases A:k=NameKind.free
  .subst A;obtain⟨c,e⟩:=X (n,NameKind.free) Xb rfl;have B:∀x d,((n,c)::f).lookup x=some d->env.cells.lookup x=some d:=λx d q=>by
    cases m:x==n with
    |true=>
     simp_all
    |false=>
     simp only[X5,m]at q;exact y x d q
   obtain⟨i,W,U,P,M⟩:=NU L C l ((n,c)::f) j B;have Y:∀x d,f.lookup x=some d->∃K,((n,c)::f).lookup x=some K:=λx d q=>by
    cases m:x==n with
    |true=>exact#[c,by simp only[X5,m]]
    |false=>exact#[d,by simp only[X5,m];exact q]
   refine#[i,by rw[List.forIn_cons,L n c f e];exact W,U,λx d q=>?_,λp g s=>?_]
   .obtain⟨K,a⟩:=Y x d q;exact P x K a
   .rcases Xd.mp g with rfl|g
    .simp_all
    .exact M p g s
  .obtain⟨i,W,U,P,M⟩:=NU L C l f j y;refine#[i,by rw[List.forIn_cons,C n k f A];exact W,U,P,λp g s=>?_];rcases Xd.mp g with rfl|g
   .exact Xt s A
   .exact M p g s
def C0(h:∀p∈scope.names,p.2=NameKind.free->∃c,env.cells.lookup p.1=some c):
 ∃f,closureFor scope env=pure f/\(∀x c,f.lookup x=some c->env.cells.lookup x=some c)/\∀p∈scope.names,p.2=NameKind.free->∃c,f.lookup p.1=some c:=by
 simp only[closureFor];obtain⟨f,g,s,_,m⟩:=NU (F:=λx r=>match x with|(name,kind)=>if (kind==NameKind.free)=true then do let a <- cellOf env name;pure (ForInStep.yield ((name,a)::r)) else pure<|ForInStep.yield r)
  (λn c j e=>by
   show(if _=true then _ else _)=_
   unfold cellOf;rw[e];rfl)
  (λn k j i=>by
   have:(k==NameKind.free)=false:=by simpa using i
   show(if _=true then _ else _)=_
   rw[this,Xe Xy]) scope.names [] h (λx c q=>by simp at q)
 refine#[f,?_,s,m]
 first
  |exact g
  |(rw[bind_pure];exact g)
  |(exact g)
  |(exact g)
theorem Ah{env:Env}:∀{c:List (Str×NameKind)} {x:Str},c.lookup x=some .free->
 (c.map λ(n,k)=>if (k==NameKind.free&&env.scope.kind==.function&&env.kindOf n==some .cell) then (n,NameKind.cell) else (n,k)).lookup x=some .cell \/
 (c.map λ(n,k)=>if (k==NameKind.free&&env.scope.kind==.function&&env.kindOf n==some .cell) then (n,NameKind.cell) else (n,k)).lookup x=some .free
 |[],_,h=>by simp at h
 |(n,k)::r,x,h=>by
  have i:=@Ah env r x;show List.lookup x ((if _=true then _ else _)::_)=_\/List.lookup x ((if _=true then _ else _)::_)=_
  cases f:x==n with
  |true=>
   simp only[X5,f]at h;cases h
   by_cases g:(NameKind.free==NameKind.free&&env.scope.kind==.function&&env.kindOf n==some .cell)=true
   .rw[Xh g];left;simp only[X5,f]
   .rw[Xe g];right;simp only[X5,f]
  |false=>
   simp only[X5,f]at h;by_cases g:(k==NameKind.free&&env.scope.kind==.function&&env.kindOf n==some .cell)=true
   .rw[Xh g];simp only[X5,f];exact i h
   .rw[Xe g];simp only[X5,f];exact i h
theorem Ag{env:Env}:∀{c:List (Str×NameKind)} {x:Str},((c.map λ(n,k)=>if (k==NameKind.free&&env.scope.kind==.function&&env.kindOf n==some .cell) then (n,NameKind.cell) else (n,k)).lookup x=some .cell \/
 (c.map λ(n,k)=>if (k==NameKind.free&&env.scope.kind==.function&&env.kindOf n==some .cell) then (n,NameKind.cell) else (n,k)).lookup x=some .free)->c.lookup x=some .free\/c.lookup x=some .cell
 |[],_,h=>by simp at h
 |(n,k)::r,x,h=>by
  have i:=@Ag env r x;have h:List.lookup x ((if _=true then _ else _)::_)=_\/List.lookup x ((if _=true then _ else _)::_)=_:=h;cases g:x==n with
  |true=>
   simp only[X5,g];by_cases f:(k==NameKind.free&&env.scope.kind==.function&&env.kindOf n==some .cell)=true
   .have:=by
     rw[W4,W4]at f;exact eq_of_beq f.1.1
    left;rw[this]
   .rw[Xe f]at h;simp only[X5,g]at h;exact h.symm
  |false=>
   simp only[X5,g];by_cases f:(k==NameKind.free&&env.scope.kind==.function&&env.kindOf n==some .cell)=true
   .rw[Xh f]at h;simp only[X5,g]at h;exact i h
   .rw[Xe f]at h;simp only[X5,g]at h;exact i h
structure CIn where
 cl:List (Str×Addr)
 C:Addr
 s₀:Shared
 H₀:Hp
 ex:Qg
 pn:Qc
noncomputable def Vk(X:Cx)(N:Qh)(scope:Scope)(c:CIn):Cx where
 prog:=X.prog
 w:=X.w
 K:=X.K
 mg:=X.mg
 base:=X.base
 A:=X.A
 N:=N
 s₀:=c.s₀
 H₀:=c.H₀
 env:=compEnvC scope c.cl c.C X.env
 outer:=X.stack
 stack:=X.stack
 ex:=c.ex
 fn:=λ_=>false
 calm:=X.calm
 pn:=c.pn
 xe:=λ_ _=>False
def YK(f:List (Option Nat))(O:St):St:=f.map λo=>match o with|some i=>(O[i]?).join|none=>none
structure CompOk(NX:Qh)(sc:Scope)(N:Qh)(f:List (Option Nat))(scope:Scope):Prop where
 kind:scope.kind=.function
 nocell:∀y∈scope.names,y.2≠NameKind.cell
 names:∀y∈scope.names,y.2=NameKind.local->scope.names.lookup y.1=some .local
 free:∀y∈scope.names,y.2=NameKind.free->sc.names.lookup y.1=some .cell\/sc.names.lookup y.1=some .free
 len:f.length=N.length
 ix:∀(j i:Nat),f[j]?=some (some i)->∃x,N[j]?=some x/\NX[i]?=some x/\scope.names.lookup x=some .free
noncomputable def G7(NX:Qh)(sc:Scope)(N:Qh)(f:List (Option Nat))(scope:Scope):Bool:=
 decide (scope.kind=.function)&&(scope.names.all λy=>decide (y.2≠NameKind.cell)&&(decide (y.2≠NameKind.local)||decide (scope.names.lookup y.1=some .local)) &&
  (decide (y.2≠NameKind.free)||decide (sc.names.lookup y.1=some .cell)||decide (sc.names.lookup y.1=some .free)))&&decide (f.length=N.length) &&
 (List.range f.length).all λj=>match f[j]? with
  | some (some i)=>(match N[j]? with
    |some x=>decide (NX[i]?=some x)&&decide (scope.names.lookup x=some .free)
    |none=>false)
  |_=>true
def Cc{f:List (Option Nat)}(h:G7 NX sc N f scope=true):CompOk NX sc N f scope:=by
 unfold G7 at h;simp only[W4,Us,decide_eq_true_eq,Bool.or_eq_true]at h;obtain⟨⟨⟨L,g⟩,A⟩,s⟩:=h;refine#[L,λy c=>(g y c).1.1,λy c e=>?_,λy c e=>?_,A,λj i e=>?_]
 .rcases(g y c).1.2 with z|z
  .simp_all
  .exact z
 .rcases(g y c).2 with (z|z)|z
  .simp_all
  .exact .inl z
  .exact .inr z
 .have q:=s j (XY.mpr ((Xi.mp e).1));rw[e]at q;cases m:N[j]? with
  |none=>rw[m]at q;simp at q
  |some x=>
   rw[m]at q;simp only[W4,decide_eq_true_eq]at q;exact#[x,rfl,q.1,q.2]
def Pa(f:List (Option Nat))(O c:St):Prop:=c.length=O.length/\∀(i j:Nat),f[i]?=some (some j)->c[i]?=O[i]?
structure TgOk(f:List (Option Nat))(g:TG):Prop where
 keep:∀x O H Q,g x O H Q->g x O H λσ2 H2=>Pa f O σ2/\Q σ2 H2
 mono:∀x O H Q Q',(∀O H,Q O H->Q' O H)->g x O H Q->g x O H Q'
structure TgsOk(f:List (Option Nat))(g:TGs):Prop where
 keep:∀xs O H Q,g xs O H Q->g xs O H λσ2 H2=>Pa f O σ2/\Q σ2 H2
 mono:∀xs O H Q Q',(∀O H,Q O H->Q' O H)->g xs O H Q->g xs O H Q'
theorem JZ{f:List (Option Nat)}(h:f[j]?=some none:=by rfl):TgOk f (Vs j) where
 keep:=λx O H Q q=>#[#[List.length_set ..,λi k e=>XX<|#[]],q]
 mono:=λx O H Q c m q=>m _ _ q
theorem TW{f:List (Option Nat)}:TgsOk f HH where
 keep:=by rintro xs O H Q ⟨e,q⟩;exact#[e,#[rfl,λ_ _ _=>rfl],q]
 mono:=by rintro xs O H Q c m ⟨e,q⟩;exact#[e,m _ _ q]
theorem DI{f:List (Option Nat)}(L:TgOk f t)(g:TgsOk f u):TgsOk f (HK t u) where
 keep:=by rintro xs O H Q ⟨v,r,e,q⟩;exact#[v,r,e,L.mono _ _ _ _ _ (λc D z=>g.mono _ _ _ _ _ (λn A y=>#[#[y.1.1.trans z.1.1,λi j h=>(y.1.2 i j h).trans (z.1.2 i j h)],y.2])<|g.keep _ _ _ _ z.2)<|L.keep _ _ _ _ q]
 mono:=by rintro xs O H Q s m ⟨v,r,e,q⟩;exact#[v,r,e,L.mono _ _ _ _ _ (λc D z=>g.mono _ _ _ _ _ m z) q]
theorem PU{f:List (Option Nat)}(h:TgsOk f t):TgOk f (Hy K n t) where
 keep:=by rintro x O H Q ⟨a,xs,e,q,l,z⟩;exact#[a,xs,e,q,l,h.keep _ _ _ _ z]
 mono:=by rintro x O H Q c m ⟨a,xs,e,q,l,z⟩;exact#[a,xs,e,q,l,h.mono _ _ _ _ _ m z]
def PCs(X:Cx)(f:Qi)(tc:TT):Prop:=
 ∀(Y:Qc) (s:Shared) (O:St) (H:Hp) (Q:Bool->Hp->Prop),Qt X Y O H s->tc O H Q->
  wpAny (model X.prog X.w) X.A (forIn f true λc r=>if r=true then do let g <- isTrue c X.env (eval c X.env);pure (ForInStep.yield g) else pure<|ForInStep.yield r) (TP X Y O Q) X.xe s
def Ga:TT:=λ_ H Q=>Q true H
def L7:PCs X [] Ga:=λ_ _ _ H _ I h=>wpAny_tests_nil #[H,I,h]
def Uc{c:Expr}{tc:TT}(h:PT X c tc):PCs X [c] tc:=λY s O H Q I q=>wpAny_tests_one (h Y s O H Q I q)
def Zl2(I:Nat->Shared->Prop)
(i:∀n s,I n s->wpAny (model prog w) A (pyNext it) (λr y=>match r with
  |none=>R (.ok .next) y
  | some v=>wpAny (model prog w) A (letOwnedTupleGo target it v) (λ_ f=>wpAny (model prog w) A (assign target env v) (λ_ P=>
   wpAny (model prog w) A (forIn ifs true λc r=>if r=true then do let j <- isTrue c env (eval c env);pure (ForInStep.yield j) else pure<|ForInStep.yield r) (λj q=>
    if j=true then wpAny (model prog w) A (eval elt env) (λx K=>
     wpAny (model prog w) A (call (.builtin "list.append") [acc,x]) (λ_ B => ∃m,m<n/\I m B) (λ_ _=>False) K) (λ_ _=>False) q
    else ∃m,m<n/\I m q) (λ_ _=>False) P) (λ_ _=>False) f) (λ_ _=>False) y) (λ_ _=>False) s)
(n:Nat)(h:I n s):
 codeAny (model prog w) A (.compLoop (.ListComp elt [#[target,iter,ifs,0]] scope pos) 0 it acc env) R s:=by
 refine codeAny_loop rfl I (λn s U=>?_) n h;show wpAny _ A _ _ _ s;refine wpAny_noted ?_;rw[compTurn_list];refine Xa (wpAny_standAt<|Xa<|wpAny_mono (i n s U) (λr y M=>?_) λ_ _ h'=>h'.elim)
 cases r with
 |none=>exact Xl M
 |some v=>
  refine Xa (wpAny_mono M (λ_ f g=>Xa (wpAny_mono g (λ_ P Y=>Xa<|wpAny_mono Y (λj q C=>?_) λ_ _ h'=>h'.elim) λ_ _ h'=>h'.elim)) λ_ _ h'=>h'.elim);cases j with
  |false=>exact Xl #[rfl,C]
  |true=>
   exact Xa (Xa<|wpAny_mono C (λx K X=>Xa<|wpAny_mono X (λ_ B W=>Xl<|Xl #[rfl,W]) λ_ _ h'=>h'.elim) λ_ _ h'=>h'.elim)
theorem Qt.track{O:St}{H:Hp}{a:Addr}{o:HO}(I:Qt X Y O H s)(hn:H a=none)(h0:X.s₀.heap.objs.size<=a)(y:a≠X.env.locals)(A:∀x c,X.env.cells.lookup x=some c->c≠a)
(m:∀p∈X.pn++Y,p.1≠a)(new:ZT X.prog X.w (upd H a o) s.heap a o):Qt X Y O (upd H a o) s where
 ok:=I.ok
 os:=I.os
 bare:=I.bare
 base:=
  { keep:=I.base.keep
    slot:=I.base.slot
    free:=λb i q n j=>by rw[Qv<|Xp<|XG (Xk q) h0];exact I.base.free b i q n j
    there:=I.base.there
    tups:=λb xs q=>by have z:=I.base.tups b xs q;rw[Qv<|Z1 z hn];exact z
    tupo:=I.base.tupo
    frzs:=λb u xs q=>by have z:=I.base.frzs b u xs q;rw[Qv<|Z1 z hn];exact z
    tbls:=λb ps q=>by obtain⟨f,z⟩:=I.base.tbls b ps q;exact#[f,by rw[Qv<|Z1 z hn];exact z] }
 loc:=I.loc
 cell:=I.cell
 free:=by rw[Qv y.symm];exact I.free
 freeC:=λx c e=>by rw[Qv<|A x c e];exact I.freeC x c e
 pin:=λp g=>by exact KE (I.pin p g) λe n r=>#[e,by rw[Qv<|m p g];exact n,r]
 hok:=λb u e=>by
  by_cases h:b=a
  .subst h;rw[QI]at e;cases e;exact new
  .rw[Qv h]at e;exact(I.hok b u e).stay (λ_ _ _ q=>q) (λc q=>by rw[Qv<|Z1 q hn];exact q) λc xs q=>by rw[Qv<|Z1 q hn];exact q
 len:=I.len
def LCw(f:List (Option Nat))(g:TG)(tc:TT)(te:TE)(O:St)(j:It)(Q:VK)(D:Hp):Prop:=
 ∃W:Nat->Nat->List V->Hp->Prop,(∃m,W 0 m [] D)/\∀i m ys H,W i m ys H->
  (j.stop i H/\∀p,H p=none->Q (.ref p) (upd H p<|.lst ys)) \/
  (j.go i H/\∀x J,j.yld i H x J->g x (YK f O) J λc s=>tc c s λb n=>
   if b=true then te c n λy q=>ys.length<sizeLine/\∃h,h<m/\W (i+1) h (ys++[y]) q
   else ∃h,h<m/\W (i+1) h ys n)
def tLC(f:List (Option Nat))(h:TI)(g:CIn->TG)(tc:CIn->TT)(te:CIn->TE):TE:=λO H Q=>h O H λi D=>∀c:CIn,LCw f (g c) (tc c) (te c) O i Q D
abbrev W9(its:Qe)(k:Nat):Obj:={ cls:=.type "list",data:=.seq its.toArray k }
structure TurnX(X:Cx)(tg:Expr)(H':It)(fp:Qg)(it:Addr)(tn:Nat->Heap->Prop):Prop where
 mem:it∈fp
 obj:∀i h,tn i h->∀b∈fp,∃o,h.get? b=some o/\∀v,o.data≠.cell v
 keep:∀i h h',tn i h->(∀b∈fp,∀o,h.get? b=some o->h'.get? b=some o)->tn i h'
 item:∀(X':Cx),X'.prog=X.prog->X'.w=X.w->X'.K=X.K->X'.A=X.A->X'.calm=X.calm->∀(i:Nat) (Y:Qc) (s:Shared) (O:St) (H:Hp) (dx:Qb),Qt X' Y O H s->(∀b∈fp,Wb X' Y H b)->tn i s.heap->H'.go i H->
  wpAny (model X.prog X.w) X'.A (pyNext<|.ref it) (λr s1=>∃u,r=some u/\
   wpAny (model X.prog X.w) X'.A (letOwnedTupleGo tg (.ref it) u) (λ_ s2=>∃x J,Qt X' Y O J s2/\QO x u/\H'.yld i H x J/\tn (i+1) s2.heap/\∀b∈fp,J b=none) dx s1) dx s
 done:∀(X':Cx),X'.prog=X.prog->X'.w=X.w->X'.K=X.K->X'.A=X.A->X'.calm=X.calm->∀(i:Nat) (Y:Qc) (s:Shared) (O:St) (H:Hp) (dx:Qb),Qt X' Y O H s->(∀b∈fp,Wb X' Y H b)->tn i s.heap->H'.stop i H->
  wpAny (model X.prog X.w) X'.A (pyNext<|.ref it) (λr s1=>r=none/\Qt X' Y O H s1) dx s
 self:∀(A:Around) (i:Nat) (s:Shared) (Q:Qb) (dx:Qb),tn i s.heap->Q (.ref it) s->wpAny (model X.prog X.w) A (pyIter<|.ref it) Q dx s
def Pb(X:Cx)(Y:Qc)(O:St)(tg:Expr)(R:It->Hp->Prop)(c:Value)(g:Shared):Prop:=
 ∃(h:Addr) (i:Qg) (f:Nat->Heap->Prop) (j:It) (J:Hp),c=.ref h/\Qt X Y O J g/\TurnX X tg j i h f/\f 0 g.heap/\(∀b∈i,Wb X Y J b)/\R j J
def PIH(X:Cx)(tg iter:Expr)(c:TI):Prop:=
 ∀(Y:Qc) (s:Shared) (O:St) (H:Hp) (R:It->Hp->Prop),Qt X Y O H s->c O H R->
  wpAny (model X.prog X.w) X.A (eval iter X.env) (λv f=>wpAny (model X.prog X.w) X.A (pyIter v) (Pb X Y O tg R) X.xe f) X.xe s
def Turn.x(T:Turn X.prog X.w X.K tg H' fp it tn)(j:X.calm=true):TurnX X tg H' fp it tn:=
 #[T.mem,T.obj,T.keep,λi f c g _ h=>T.item i f c g<|h.trans j,λi f c g _ h=>T.done i f c g<|h.trans j,T.self]
def PI.x(h:PI X tg iter wi)(g:X.calm=true):PIH X tg iter wi:=λY s O H R I q=>Q9 (h Y s O H R I q) λv y L=>Q9 L<|by rintro v n ⟨f,i,c,m,J,e,j,T,r⟩;exact#[f,i,c,m,J,e,j,T.x g,r]
section
variable {O:St}{H2:Hp}{b7:Shared}
def TM{f:List (Option Nat)}{g:CIn->TG}{tc:CIn->TT}{te:CIn->TE}
(ck:CompOk X.N X.env.scope N f scope)
(hg:∀c,PG (Vk X N scope c) tg<|g c)(ht:∀c,TgOk f<|g c)(hcs:∀c,PCs (Vk X N scope c) ifs<|tc c)(he:∀c,PE (Vk X N scope c) elt<|te c)
(U:Qt X Y O H2 b7)(T:TurnX X tg H' fp it tn)(st:tn 0 b7.heap)(H:∀b∈fp,Wb X Y H2 b)
(hq:∀c:CIn,LCw f (g c) (tc c) (te c) O H' Q H2)
(K:∀x c,cl.lookup x=some c->X.env.cells.lookup x=some c)(hcl2:∀p∈scope.names,p.2=NameKind.free->∃c,cl.lookup p.1=some c)
{RR:Value->Addr->Result->Shared->Prop}
(hRR:∀(E C:Addr) (J:Hp) (G:Shared) (m':Str->Qf),G.heap.Ns C m'->Qt X Y O J G->J C=none->C≠X.env.locals->X.s₀.heap.objs.size<=C->(∀x c,X.env.cells.lookup x=some c->c≠C)->
  (∀p∈X.pn++Y,p.1≠C)->Q (.ref E) J->RR (.ref E) C (.ok .next) G):
 wpAny (model X.prog X.w) X.A (newList []) (λE P=>wpAny (model X.prog X.w) X.A (newFunctionEnv scope X.env.globals cl [] X.env.qual none .none<|some X.env) (λcenv bv=>
  codeAny (model X.prog X.w) X.A (.compStart (.ListComp elt [#[tg,iter,ifs,0]] scope pos) 0 (.ref it) E { cenv with scope:=relabel scope X.env }) (RR E cenv.locals) bv) dx P) dx b7:=by
 refine wpAny_newObj_type (wpAny_newFunctionEnv ck.nocell (by intro y hy;simp at hy) (λb8 bz c5=>?_) ck.kind);dsimp only at bz c5 ⊢;have A:Qt X Y O H2 { b7 with heap:=b7.heap.push (W9 [] 0) }:=U.kept (t':=b7.toks) λb u e=>Xc _ e;have hD:(b7.heap.push<|W9 [] 0).get? b7.heap.objs.size=some (W9 [] 0):=Xn _ rfl;generalize hs3:({ b7 with heap:=b7.heap.push (W9 [] 0) }:Shared)=P at A bz c5 ⊢;have S:b7.heap.push (W9 [] 0)=P.heap:=by rw[<- hs3]
 rw[S]at hD;simp only[S]at bz c5 ⊢;have I:b7.heap.objs.size<P.heap.objs.size:=by rw[<- S,Yt];exact J9 _
 have k3:∀b u,b7.heap.get? b=some u->P.heap.get? b=some u:=λb u e=>by rw[<- S];exact Xc _ e
 have k1:=λb u e=>
  c5.extBut b u (Xp<|Xk e) (Xc _ e)
 have fpo:∀b∈fp,b<b7.heap.objs.size:=λb m=>by
  exact At (T.obj 0 _ st b m) λo e _=>Xk e
 have st1:tn 0 b8:=T.keep _ _ _ st λb m o e=>k1 b o (k3 b o e);have fneD:=λb m=>Xp (fpo b m)
 have D:∀x d,X.env.cells.lookup x=some d->d≠b7.heap.objs.size:=λx d e=>by
  obtain⟨v,z⟩:=U.cell x d e;exact Xp z.lt
 have t:=λp M=>Xp (Xk (U.pin p M).1)
 have stk:∀b,b≠X.env.locals->b∉X.fs->b∉frs X.stack:=λb L h2 m=>by
  rcases Xd.mp (A.stkSub b m) with z|z
  .exact L z
  .exact h2 z
 have Z:∀b,b∈b7.heap.objs.size::fp->b=b7.heap.objs.size\/b∈fp:=λb m=>Xd.mp m
 let c:CIn:=#[cl,P.heap.objs.size,P,H2,b7.heap.objs.size::fp,X.pn++Y]
 have w:(Vk X N scope c).Ok:=
  { mod:=A.ok.mod
    kind:=ck.kind
    glob:=A.ok.glob
    blt:=A.ok.blt
    above:=Xm _
    inj:=λx y d L h2=>A.ok.inj x y d (K x d L) (K y d h2)
    has:=λx hx=>by
     rcases Ag hx with z|z
     .exact hcl2 (x,.free) (PySem.mem_of_lookup z) rfl
     .exact Xt rfl (ck.nocell (x,.cell)<|PySem.mem_of_lookup z)
    cab:=λx d h=>Xt (h) Xy
    hd:=A.ok.hd
    frames:=A.ok.frames
    stk:=.inl rfl
    exf:=λb m=>by
     rcases Z b m with rfl|m
     .exact#[Xp I,λx d e=>D x d<|K x d e]
     .exact#[(λb m=>Xp (Nat.lt_trans (fpo b m) I)) b m,λx d e=>(H b m).2.2.2.2.1 x d (K x d e)]
    bs:=λb o e=>A.bs b o e
    bsz:=Xq A.ok.bsz A.sz
    noex:=λb o e m=>by
     rcases Z b m with rfl|m
     .exact Xt (Xk<|U.bk _ _ e) (Y5 _)
     .rcases(H b m).2.2.2.1 with z|z
      .exact A.ok.noex b o e z
      .exact Xt (XG (Xk (A.ok.bs b o e).1) z) (Y5 _)
    exfs:=λb m=>by
     rcases Z b m with rfl|m
     .exact stk _ (VY U.lt) (U.nofs<|Xm _)
     .exact stk b (H b m).2.1 (H b m).2.2.1
    funs:=A.stack
    frf:=A.stkFree }
 have I4:Qt (Vk X N scope c) [(b7.heap.objs.size,W9 [] 0)] (YK f O) H2 { P with heap:=b8,toks:=P.toks+([]:List (Str×Value)).length }:=
  { ok:=w
    os:=rfl
    bare:=A.bare
    base:=Un.kept k1
    loc:=#[_,bz,λi x v e1 e2 e3=>by
     have hfi:∃j,f[i]?=some (some j)/\O[j]?=some (some v):=by
      unfold YK at e2;rw[Xv]at e2;cases ef:f[i]? with
      |none=>rw[ef]at e2;cases e2
      |some o=>
        rw[ef]at e2;cases o with
        |none=>cases e2
        |some j=>
          refine#[j,rfl,?_];have e2':(O[j]?).join=some v:=Option.some.inj e2;cases es:O[j]? with
          |none=>rw[es]at e2';cases e2'
          |some o2=>
            rw[es]at e2';have:o2=some v:=e2';rw[this]
     refine At hfi λj ef es=>L3 (ck.ix i j ef) λx' n1 n2 n3=>?_;have:x'=x:=Option.some.inj (n1.symm.trans e1);subst this;have hfr:=ck.free (x',.free) (PySem.mem_of_lookup n3) rfl;refine At A.loc λm0 hm0 hl0=>At (hl0 j x' v n2 es (hfr.elim (λz=>.inr<|.inl z) λz=>.inr<|.inr z)) λu ru lk=>#[u,ru,.inr #[Ah n3,?_]];rcases lk with ⟨kl,_⟩|⟨_,d,ed,hd⟩
     .have kl':X.env.scope.names.lookup x'=some .local:=kl;rcases hfr with z|z
      .rw[kl']at z;cases z
      .rw[kl']at z;cases z
     .obtain⟨d',ed'⟩:=hcl2 (x',.free) (PySem.mem_of_lookup n3) rfl;have:d'=d:=Option.some.inj ((K x' d' ed').symm.trans ed);subst this;exact#[d',ed',hd.keeps k1]]
    cell:=λx d e=>by
     obtain⟨v,z⟩:=A.cell x d (K x d e);exact#[v,z.keeps k1]
    free:=A.fresh
    freeC:=λx d e=>A.freeC x d (K x d e)
    pin:=λp M=>by
     rcases Xz.mp (M) with hp'|hp'
     .exact JH (A.pin p hp') λe n ne nf d=>#[k1 _ _ e,n,Xp<|Xk e,stk p.1 ne nf,d]
     .have z:=Xj.mp hp';subst z;exact#[k1 _ _ hD,U.fresh,Xp I,stk _ (VY U.lt)<|U.nofs<|Xm _,λv z=>nomatch (show Data.seq _ _=Data.cell v from z)]
    hok:=A.hok.kept k1
    len:=by
     unfold YK;rw[Xg];exact ck.len }
 have back:∀{σ':St} {J:Hp} {G:Shared} {ps:Qc},Qt (Vk X N scope c) ps σ' J G->Qt X Y O J G:=λ{σ' J G ps} J'=>
  A.call' J'.os J'.base J'.hok J'.bare λb m=>by
   rcases Z b m with rfl|m
   .exact#[.inr U.sz,VY U.lt,D,t]
   .exact#[(H b m).2.2.2.1,(H b m).2.1,(H b m).2.2.2.2.1,(H b m).2.2.2.2.2]
 have fpX:∀{J:Hp} {ob:Obj},(∀b∈fp,J b=none)->∀b∈fp,Wb (Vk X N scope c) [(b7.heap.objs.size,ob)] J b:=λ{J ob} hn b m=>
  #[hn b m,(w.exf b<|Xf _ m).1,w.exfs b<|Xf _ m,.inl<|Xf _ m,(w.exf b<|Xf _ m).2,λp M=>by
   rcases Xz.mp (M) with z|z
   .exact(H b m).2.2.2.2.2 p z
   .have z:p=(b7.heap.objs.size,ob):=Xj.mp z;subst z;exact(fneD b m).symm]
 apply At (hq c);rintro W⟨m0,w0⟩turn;have loop:∀s,s=({ P with heap:=b8,toks:=P.toks+([]:List (Str×Value)).length }:Shared)->
  codeAny (model X.prog X.w) X.A (.compLoop (.ListComp elt [#[tg,iter,ifs,0]] scope pos) 0 (.ref it) (.ref b7.heap.objs.size)<|compEnvC scope cl P.heap.objs.size X.env) (RR (.ref b7.heap.objs.size) P.heap.objs.size) s:=by
  rintro s rfl;refine Zl2 (λn G=>∃i J ys B k,Qt (Vk X N scope c) [(b7.heap.objs.size,W9 B k)] (YK f O) J G/\QS ys B/\ys.length<=sizeLine/\tn i G.heap/\(∀b∈fp,J b=none)/\W i n ys J) ?_ m0 #[0,_,[],[],0,I4,.nil,XH _,st1,λb m=>(H b m).1,w0];rintro n s5 ⟨i,H5,ys,B,k,I5,R,hz5,st5,fr5,w5⟩;rcases turn i n ys H5 w5 with ⟨stop,qn⟩|⟨go,step⟩
  .refine Q9 (T.done (Vk X N scope c) rfl rfl rfl rfl rfl i _ s5 (YK f O) H5 _ I5 (fpX fr5) st5 stop) ?_;rintro r s6 ⟨rfl,I6⟩;refine At (id I6.loc) λm6 hn6 _=>KE (I6.pin (b7.heap.objs.size,W9 B k) (X7 _<|Xj.mpr rfl)) λeD nD _=>?_;have I7:Qt X Y O (upd H5 b7.heap.objs.size<|.lst ys) s6:=(back I6).track nD U.sz (VY U.lt) D t #[hz5,B,k,R,eD];refine hRR _ _ _ s6 m6 hn6 I7 (by rw[Qv<|VY I];exact I6.free) (VY A.lt) A.sz (λx d e=>?_) (λp M=>?_) (qn _ nD)
   .obtain⟨v,z⟩:=A.cell x d e;exact Xp z.lt
   .exact Xp (Xk (A.pin p M).1)
  .refine Q9 (T.item (Vk X N scope c) rfl rfl rfl rfl rfl i _ s5 (YK f O) H5 _ I5 (fpX fr5) st5 go) ?_;rintro r s6 ⟨u,rfl,h6⟩;refine Q9 h6 ?_;rintro _ s7 ⟨x,H7,I7,r7,y7,st7,fr7⟩;have I7':=I7.pinned (fpX fr7) (T.obj _ _ st7);refine Q9 (hg c _ s7 (YK f O) H7 x u _ I7' r7<|(ht c).keep _ _ _ _ (step x H7 y7)) ?_;rintro _ s8 ⟨a,H8,I8,kp8,q8⟩;have wk:∀(j:Nat) v,(YK f O)[j]?=some (some v)->a[j]?=some (some v):=λj v e=>by
    have ef:∃k,f[j]?=some (some k):=by
     unfold YK at e;rw[Xv]at e;cases q:f[j]? with
     |none=>rw[q]at e;cases e
     |some o=>
      cases o with
      |none=>rw[q]at e;cases e
      |some k=>exact#[k,rfl]
    obtain⟨k,ef⟩:=ef;rw[kp8.2 j k ef];exact e
   have recs:∀{H9:Hp} {s9:Shared} {ob:Obj},Qt (Vk X N scope c) ([(b7.heap.objs.size,ob)]++MU fp s7.heap) a H9 s9->tn (i+1) s9.heap/\∀b∈fp,H9 b=none:=λ{H9 s9 ob} I9=>
    #[T.keep _ _ _ st7 λb m o e=>(I9.pin (b,o)<|X7 _<|X7 _<|DQ m e).1,λb m=>by
     exact At (T.obj _ _ st7 b m) λo e d=>(I9.pin (b,o)<|X7 _<|X7 _<|DQ m e).2.1]
   refine Q9 (hcs c _ s8 a H8 _ I8 q8) ?_;rintro ok s9 ⟨H9,I9,q9⟩;cases ok with
   |false=>
    apply At ((q9));intro m' hm w9;obtain⟨z1,z2⟩:=recs I9;exact#[m',hm,i+1,H9,ys,B,k,(I9.unpinned).weak kp8.1.symm wk,R,hz5,z1,z2,w9]
   |true=>
    refine Q9 (he c _ s9 a H9 _ I9<|q9) ?_;rintro v l ⟨y,H10,I10,r10,hlen,m',hm,w10⟩;apply JH (I10.pin (b7.heap.objs.size,W9 B k) (X7 _<|GT _<|Xj.mpr rfl));intro eD nD neD nfD dD;obtain⟨z1,z2⟩:=recs I10;have lv:=R.length;refine call_meets F.slot_list_append #[_,eD,rfl] F.entry_list_append (F.args_list_append_2 _ _) (PySem.list_append b7.heap.objs.size B.toArray k v<|by rw[Xu];lia) #[eD,?_];have q:=PySem.IsL.update eD (·.push v);have hf:B.toArray.push v=(B++[v]).toArray:=by simp
    rw[hf]at q;have I11:=
     (I10.pins_of (pins':=[]) λp M=>Xt M<|by simp).turned (t':=l.toks) (it:=b7.heap.objs.size) (λb o m e=>(XV l.heap (Obj.mapSeq (·.push v))<|Ne.symm m).trans e) nD neD (.inl Xb) (w.exf _ Xb).2 λp M=>by
      rw[Xr]at M;exact t p M
    have I12:Qt (Vk X N scope c) [(b7.heap.objs.size,W9 (B++[v]) _)] a H10 { l with heap:=l.heap.update b7.heap.objs.size (Obj.mapSeq (·.push v)) }:=
     I11.pins_of λp M=>by
      have M:p=(b7.heap.objs.size,_):=Xj.mp M;subst M;exact#[q,nD,neD,nfD,λv M=>nomatch (show Data.seq _ _=Data.cell v from M)]
    exact#[m',hm,i+1,H10,ys++[y],B++[v],_,I12.weak kp8.1.symm wk,R.append<|.cons r10 .nil,by rw[Xs,Hc];lia,T.keep _ _ _ z1 λb m o e=>(XV l.heap (Obj.mapSeq (·.push v)) (fneD b m).symm).trans e,z2,w10]
 exact codeAny_compStart_list (loop _<|by rw[<- hs3]) (T.self _ 0 _ _ _ st1<|loop _<|by rw[<- hs3])
def Io{f:List (Option Nat)}{g:CIn->TG}{tc:CIn->TT}{te:CIn->TE}
(G:G7 NX sc N f scope=true)(K:X.N=NX)(A:X.env.scope=sc)(r:PIH X tg iter wi)
(hg:∀c,PG (Vk X N scope c) tg<|g c)(a:∀c,TgOk f<|g c)(B:∀c,PCs (Vk X N scope c) ifs<|tc c)(he:∀c,PE (Vk X N scope c) elt<|te c)
(hs:∀x,foldedSetIterable iter X.env x=pure x:=by intro _;rfl):PE X (.ListComp elt [#[tg,iter,ifs,0]] scope pos) (tLC f wi g tc te):=by
 subst K A;intro Y s O H Q I h;have i:=Cc G;refine L3 (C0 λp k t=>I.ok.has p.1 (i.free p k t)) λcl j y n=>wpAny_comprehension_free rfl hs j i.kind i.names (Q9 (r Y s O H _ I h) λxv b6 S=>Q9 S λW b7 R=>?_);apply aK R;intro it fp tn H' H2 e Z T P F d;subst e;exact TM i hg a B he Z T P F d y n<|λM C J s' U l I' w v D L z q=>#[U,l,λE m=>#[.ref M,J,I'.turned (λb o u e=>(m.2 b u).trans e) w v (.inr D) L z,rfl,q]]
noncomputable def N8{m:Pos}{f:List (Option Nat)}{g:CIn->TG}{tc:CIn->TT}{te:CIn->TE}
(hN:X.N.Nodup)(U:X.N[i]?=some x)(r:X.env.scope.names.lookup x=some .local)
(ck:G7 NX sc N f scope=true)(d:X.N=NX)(M:X.env.scope=sc)(hi:PIH X tg iter wi)
(hg:∀c,PG (Vk X N scope c) tg<|g c)(R:∀c,TgOk f<|g c)(W:∀c,PCs (Vk X N scope c) ifs<|tc c)(he:∀c,PE (Vk X N scope c) elt<|te c)
(K:swapsWith (.ListComp elt [#[tg,iter,ifs,0]] scope pos) (some<|.Name x px) m.line X.env=pure true)
(hs:∀x,foldedSetIterable iter X.env x=pure x:=by intro _;rfl):PS X (.Assign [.Name x px] (.ListComp elt [#[tg,iter,ifs,0]] scope pos) m) (ZN (tLC f wi g tc te)<|Vs i):=by
 subst d M;intro Y s O H H1 I h;have j:=Cc ck;apply L3 (C0 λp S hf=>I.ok.has p.1 (j.free p S hf));intro cl n B A;rw[exec_Assign_Name_used _ _ _ _ K];refine Xa (wpAny_standAt<|Xa ?_)
 refine Xa (wpAny_mono (wpAny_comprehension_free rfl hs n j.kind j.names
  (Q9 (hi Y s O H _ I h) λxv b6 b8=>Q9 b8 λQ b7 bj=>?_)) (λ_ E P=>Xl<|Xl P) λ_ _ e=>e)
 apply aK bj;intro it fp tn H' H2 e I2 T u f2 P;subst e;refine TM j hg R W he I2 T u f2 P B A<|λk C J E G Z I' hC t h0 L h2 q=>wpAny_assign_Name (Cg I' hN U (.inl r) (v:=.ref k) rfl ?_<|.inr r);rintro D l ⟨a,w,ha⟩;have F:C≠a:=by
  rcases ha with z|z
  .exact z▸t
  .exact(L _ _ z).symm
 exact#[G,Z.sameBut w F,λh'' y=>#[_,J,l.turned (λb o hb e=>(y.2 b hb).trans e) hC t (.inr h0) L h2,q]]
noncomputable def V3{g:CIn->TG}{tc:CIn->TT}{te:CIn->TE}(S:Qo NX Ps sc)(N:Qh)(f:List (Option Nat))(s:PI X tg iter wi)(he:∀c,PE (Vk X N scope c) elt<|te c)
(j:∀c,PCs (Vk X N scope c) ifs (tc c):=by exact λ_=>L7)(hg:N.Nodup->∀c,PG (Vk X N scope c) tg (g c):=by exact λh _=>by first|exact Zy 0 h|exact UG (n:=2) rfl (VG (Zy 0 h)<|VG (Zy 1 h) Ue))
(q:∀c,TgOk f (g c):=by exact λ_=>by first|exact JZ|exact PU<|DI JZ<|DI JZ TW)(A:G7 NX sc N f scope=true:=by decide +kernel)(hn:N.Nodup:=by decide +kernel)
(y:X.calm=true:=by rfl)(m:X.N=NX:=by rfl)(i:X.env.scope=sc:=by rfl)(hs:∀x,foldedSetIterable iter X.env x=pure x:=by intro _;rfl):PE X (.ListComp elt [#[tg,iter,ifs,0]] scope pos) (tLC f wi g tc te):=
 Io A m i (s.x y) (hg hn) q j he hs
noncomputable def Me(i:Nat){x:Str}{M j:Pos}{iter q:Expr}{m:Qi}{NX a:Qh}{sc:Scope}{K:TI}{g:CIn->TG}{tc:CIn->TT}{te:CIn->TE}(S:Qo NX a sc)(N:Qh)(f:List (Option Nat))(U:PI X tg iter K)(he:∀c,PE (Vk X N scope c) q<|te c)
(C:∀c,PCs (Vk X N scope c) m (tc c):=by exact λ_=>L7)(hg:N.Nodup->∀c,PG (Vk X N scope c) tg (g c):=by exact λh _=>by first|exact Zy 0 h|exact UG (n:=2) rfl (VG (Zy 0 h)<|VG (Zy 1 h) Ue))
(P:∀c,TgOk f (g c):=by exact λ_=>by first|exact JZ|exact PU<|DI JZ<|DI JZ TW)(Y:G7 NX sc N f scope=true:=by decide +kernel)(hn:N.Nodup:=by decide +kernel)
(W:X.calm=true:=by rfl)(s:X.N=NX:=by rfl)(A:X.env.scope=sc:=by rfl)(B:X.N[i]?=some x:=by rfl)(O:X.env.scope.names.lookup x=some .local:=by rfl)
(y:swapsWith (.ListComp q [#[tg,iter,m,0]] scope pos) (some<|.Name x M) j.line X.env=pure true:=by rfl)(hs:∀x,foldedSetIterable iter X.env x=pure x:=by intro _;rfl):
 PS X (.Assign [.Name x M] (.ListComp q [#[tg,iter,m,0]] scope pos) j) (ZN (tLC f K g tc te)<|Vs i):=
 N8 (by exact s▸S.nd) B O Y s A (U.x W) (hg hn) P C he y hs
end
end L2
namespace L2
mutual
inductive Rep(H:Hp):V->PyData->Prop
 |non:Rep H .non .none
 |bl (b:Bool):Rep H (.bl b) (.bool b)
 |int (i:Int):Rep H (.int i) (.int i)
 |str (x:Str):Rep H (.str x) (.str x)
 |lst {a:Addr}{xs:List V}{ds:Qd}:H a=some (.lst xs)->Qx H xs ds->Rep H (.ref a) (.list ds)
 |tup {a:Addr}{xs:List V}{ds:Qd}:H a=some (.tup xs)->Qx H xs ds->Rep H (.ref a) (.tuple ds)
 |dct {a:Addr}:H a=some (.dK [])->Rep H (.ref a) (.dict [])
inductive Qx(H:Hp):List V->Qd->Prop
 |nil:Qx H [] []
 |cons {x:V}{xs:List V}{d:PyData}{ds:Qd}:Rep H x d->Qx H xs ds->Qx H (x::xs) (d::ds)
end
mutual
theorem Rep.mono{H J:Hp}(s:Q6 H J):∀{v:V} {d:PyData},Rep H v d->Rep J v d
 |_,_,.non=>.non
 |_,_,.bl b=>.bl b
 |_,_,.int i=>.int i
 |_,_,.str x=>.str x
 |_,_,.lst h r=>.lst (s _ _ h) (Qx.mono s r)
 |_,_,.tup h r=>.tup (s _ _ h) (Qx.mono s r)
 |_,_,.dct h=>.dct (s _ _ h)
theorem Qx.mono{H J:Hp}(s:Q6 H J):∀{vs:List V} {ds:Qd},Qx H vs ds->Qx J vs ds
 |_,_,.nil=>.nil
 |_,_,.cons r t=>.cons (Rep.mono s r) (Qx.mono s t)
end
theorem Qx.length{H:Hp}:∀{vs:List V} {ds:Qd},Qx H vs ds->vs.length=ds.length
 |_,_,.nil=>rfl
 |_,_,.cons _ t=>by simp[Qx.length t]
theorem Qx.get{H:Hp}:∀{vs:List V} {ds:Qd} {i:Nat} {d:PyData},Qx H vs ds->ds[i]?=some d->∃v,vs[i]?=some v/\Rep H v d
 |_,_,_,_,.nil,e=>by simp at e
 |_,_,0,_,.cons r _,e=>by simp at e;subst e;exact#[_,rfl,r]
 |_,_,i+1,d,.cons _ t,e=>by
  obtain⟨u,L,c⟩:=Qx.get (i:=i) (d:=d) t (by simpa using e);exact#[u,by simpa using L,c]
theorem Qx.snoc{H:Hp}{v:V}{d:PyData}:∀{vs:List V} {ds:Qd},Qx H vs ds->Rep H v d->Qx H (vs++[v]) (ds++[d])
 |_,_,.nil,h=>.cons h .nil
 |_,_,.cons r t,h=>.cons r (Qx.snoc t h)
theorem Qx.append{H:Hp}:∀{vs ws:List V} {ds es:Qd},Qx H vs ds->Qx H ws es->Qx H (vs++ws) (ds++es)
 |_,_,_,_,.nil,s=>s
 |_,_,_,_,.cons r t,s=>.cons r (Qx.append t s)
theorem Qx.set{H:Hp}{v:V}{d:PyData}(r:Rep H v d):∀{vs:List V} {ds:Qd} (i:Nat),Qx H vs ds->Qx H (vs.set i v) (ds.set i d)
 |_,_,_,.nil=>.nil
 |_,_,0,.cons _ t=>.cons r t
 |_,_,i+1,.cons q t=>.cons q (Qx.set r i t)
theorem BZ{H:Hp}:∀{vs:List V} {l:Ql},Qx H vs (l.map PyData.int)->vs=l.map V.int
 |_,[],.nil=>rfl
 |_,i::l,.cons (.int _) t=>by rw[Xw,BZ t]
section
variable {O:St}{H:Hp}
mutual
theorem Rep.reads(I:Qt X Y O H s):∀{v:V} {d:PyData} {u:Value},Rep H v d->QO v u->∃as,Reads s.heap u d as
 |_,_,_,.non,r=>by cases r;exact#[_,.none]
 |_,_,_,.bl b,r=>by cases r;exact#[_,.bool b]
 |_,_,_,.int i,r=>by obtain⟨t,rfl⟩:=r;exact#[_,.int i t]
 |_,_,_,.str x,r=>by obtain⟨t,rfl⟩:=r;exact#[_,.str x t]
 |_,_,_,.lst h q,r=>by
  cases r;obtain⟨z,j,n,f,e⟩:=I.hok _ _ h;obtain⟨as,g⟩:=Qx.reads I q f;exact#[_,.list e rfl rfl (by simpa using g)]
 |_,_,_,.tup h q,r=>by
  cases r;obtain⟨z,j,f,o,e,c,n,dd⟩:=I.hok _ _ h;obtain⟨as,g⟩:=Qx.reads I q f;exact#[_,.tuple e c dd<|by simpa using g]
 |_,_,_,.dct h,r=>by
  cases r;obtain⟨z,y,C,B,K,es,M,e,c,dd,_,A,_⟩:=I.hok _ _ h;cases B;have m:es.toList=[]:=List.eq_nil_of_length_eq_zero A.length;exact#[_,.dict (kvs:=[]) e c.1 dd (by rw[m];exact .nil)<|by rw[m];exact .nil]
theorem Qx.reads(I:Qt X Y O H s):∀{vs:List V} {ds:Qd} {us:Qe},Qx H vs ds->QS vs us->∃as,ReadsAll s.heap us ds as
 |_,_,_,.nil,r=>by cases r;exact#[_,.nil]
 |_,_,_,.cons q t,r=>by
  cases r with
  |cons h g=>
   obtain⟨as,f⟩:=Rep.reads I q h;obtain⟨i,c⟩:=Qx.reads I t g;exact#[_,.cons f c]
end
def Yl(d:PyData):Prop:=d.canLay0=true/\d.depth<=60
def Ht:R2:=λx y H Q=>∃d e,Rep H x d/\Rep H y e/\Yl d/\Yl e/\Q (.bl<|PyData.eqv d e) H
def HG:R2:=λx y H Q=>∃d e,Rep H x d/\Rep H y e/\Yl d/\Yl e/\Q (.bl<|!PyData.eqv d e) H
def G2(A:X.A.units+64<cLine):OpR X (compareOp .Eq) Ht:=by
 intro Y s O H x y v u Q I f c h;apply aW h;intro d e m j fd n q;obtain⟨K,i⟩:=m.reads I f;obtain⟨C,g⟩:=j.reads I c;refine SeqAt.compareEq_reads i g fd.1 n.1 ?_ #[.bl<|PyData.eqv d e,H,I,rfl,q];have L:=fd.2;have B:min d.depth e.depth<=d.depth:=Nat.min_le_left _ _;lia
def G0(A:X.A.units+64<cLine):OpR X (compareOp .NotEq) HG:=by
 intro Y s O H x y v u Q I f c h;apply aW h;intro d e m j fd n q;obtain⟨K,i⟩:=m.reads I f;obtain⟨C,g⟩:=j.reads I c;refine SeqAt.compareNe_reads i g fd.1 n.1 ?_ #[.bl<|!PyData.eqv d e,H,I,rfl,q];have L:=fd.2;have B:min d.depth e.depth<=d.depth:=Nat.min_le_left _ _;lia
end
def Ny(f:Yl d):PyData.eqv d d=true:=SeqAt.eqv_refl d f.1
def T7{c:Type}{xs:List c}{i:Int}{v:c}(h:atI xs i=some v):∃j:Nat,xs[j]?=some v/\ixN xs.length i=some j:=by
 unfold atI at h;cases e:ixN xs.length i with
 |none=>rw[e]at h;cases h
 |some j=>rw[e]at h;exact#[j,h,rfl]
inductive TyN(H:Hp):V->String->Prop
 |non:TyN H .non "NoneType"
 |bl (b:Bool):TyN H (.bl b) "bool"
 |int (i:Int):TyN H (.int i) "int"
 |str (x:Str):TyN H (.str x) "str"
 |lst {a:Addr}{xs:List V}:H a=some (.lst xs)->TyN H (.ref a) "list"
 |tup {a:Addr}{xs:List V}:H a=some (.tup xs)->TyN H (.ref a) "tuple"
 |dct {a:Addr}:H a=some (.dK [])->TyN H (.ref a) "dict"
noncomputable def tyD:PyData->String
 |.none => "NoneType"
 |.bool _ => "bool"
 |.int _ => "int"
 |.str _ => "str"
 |.list _ => "list"
 |.tuple _ => "tuple"
 |.dict _ => "dict"
def Rep.ty(r:Rep H v d):TyN H v (tyD d):=by
 cases r with
 |non=>exact .non
 |bl b=>exact .bl b
 |int i=>exact .int i
 |str x=>exact .str x
 |lst h _=>exact .lst h
 |tup h _=>exact .tup h
 |dct h=>exact .dct h
noncomputable def U1(T c:String):Option Bool:=
 if T = "int" /\ c = "int" then some true else if T = "int" /\ c = "bool" then some false else if T = "list" /\ c = "list" then some true else if T = "tuple" /\ c = "tuple" then some true else none
def Zsh:ZF X (.builtin "isinstance") (λxs H Q=>∃x T c b,xs=[x,.ty c]/\TyN H x T/\U1 T c=some b/\Q (.bl b) H):=by
 intro Y s O H xs U Q I r h;apply aT h;rintro x T c b rfl B⟨e,q⟩;apply aF (Gw r);rintro u P rfl g K;cases (K);have f:∀t,EP X Y O Q _ { s with toks:=t }:=λt=>#[.bl b,H,I.tok t,rfl,q]
 cases B with
 |int i=>
  obtain⟨t,rfl⟩:=g
  by_cases z:c = "int"
  .subst z;cases e;exact IsiPair.int_int (f _)
  .by_cases A:c = "bool"
   .subst A;cases e;exact IsiPair.int_bool (f _)
   .simp[U1,z,A]at e
 |lst m=>
  by_cases z:c = "list"
  .subst z;cases e;cases g;exact By (I.hok _ _ m) λz j n C y=>IsiPair.list_list y rfl (f _)
  .simp[U1,z]at e
 |tup m=>
  by_cases z:c = "tuple"
  .subst z;cases e;cases g;exact aV (I.hok _ _ m) λz j C o y M n dd=>IsiPair.tuple_tuple y M (f _)
  .simp[U1,z]at e
 |_=>simp[U1]at e
def Gq(_ j:Int):Prop:=0<j/\j<2^8000
def Iy{j:Int}(h:Gq 0 j):j.natAbs.log2<9000:=by
 have c:j.natAbs≠0:=by have:=h.1;lia
 have L:j.natAbs<2^8000:=by have:=h.2;have:=h.1;lia
 have:=(Nat.log2_lt c).mpr L;lia
def DG:OpR X (binaryOp .FloorDiv) (rI Gq λi j=>.int<|i/j):=opI λi j _ _ _ _ _ c q=>by
 refine floordiv_int (Int.ne_of_gt c.1) ?_ (.inl<|PyProof.noPylong_of_log2<|Iy c);rw[Int.fdiv_eq_ediv_of_nonneg _ (Int.le_of_lt c.1)];exact q
def SN(i j:Int):Prop:=0<=j/\(Builtin.Int.intBits i:Int)+j<=2^27
def Ob:OpR X (binaryOp .LShift) (rI SN λi j=>.int<|i*2^j.toNat):=opI λ_ _ _ _ _ _ _ c q=>lshift_int c.1 c.2 q
def Q6.upd(s:Q6 H J)(h:H a=none):Q6 H (L2.upd J a o):=λb u e=>by
 rw[Qv<|Z1 e h];exact s b u e
def Q6.new(h:H a=none):Q6 H (L2.upd H a o):=(Q6.refl H).upd h
end L2
namespace Att
open PySem PySem.W PySem.Calls PyProof.Rows
theorem CB:∀(ns:Ql) (i:Int),i∈ns->Builtin.Int.intBits i<=WData.weightAll (ns.map WData.int)
 |[],i,h=>by simp at h
 |n::ns,i,h=>by
  rw[Xw,WData.weightAll];rcases Xd.mp h with rfl|h
  .have:WData.weight (.int i)=Builtin.Int.intBits i:=by rw[WData.weight];rfl
   lia
  .have:=CB ns i h;lia
def Ox{ns:Ql}(h:WData.layableAll [WData.list<|ns.map WData.int]=true):∀i∈ns,Builtin.Int.intBits i<=2^20:=λi c=>by
 exact KE (layableW_iff.mp (layableW_arg h _ (Xj.mpr rfl))) λ_ _ f=>Xq (CB ns i c) f
def attach_callW{l:OpenLaw}{q:Program}
(hn:l.most=some n)(W:d.params.defaults=[])
(call:∀(w:World) (c g:Shared) (mg M:Str->Qf) (B:Addr) (o:Obj) (K cd j:Value) (a:Addr) (vs:Qe) (ns:Ql),
  Ground q loose [] XP w c mg M g.heap->YP w g.heap->
  g.heap.get? B=some o->o.data=.func (docDef d.name d.params d.body d.scope K cd j)->g.heap.CodeRec cd d.name->mg d.name=some (.ref B)->
  g.heap.get? a=some { cls:=.type "list",data:=.seq vs.toArray }->IntsAre vs ns->ns.length<=n->(∀i∈ns,Builtin.Int.intBits i<=2^20)->g.gens=(List.toArray [])->
  codeAny (model l.prog w) callerA (.call (.ref B) #[[.ref a],[]]) (λr C=>r=.ok (.ret<|.bool true)/\OldK g.heap C.heap/\C.os=g.os/\AllBare C.gens) g):
 WalkO q loose XP YP l.row.toRowW d [] (λf vs=>PySem.call f vs):=by
 intro w c g mg M G Xa4 B o K cd j H kV t z X b U x e Y I m A k P v;obtain rfl:=Dflts.none b W;obtain rfl:=Dflts.noKw b;apply aN (Zr6 hn m P);rintro a vs ns rfl rfl s h y;refine enter_call (codeAny_mono (call w c g mg M B o K cd j a vs ns G Xa4 t (fd_plain z) X U s h y (Ox A) x) λr C p=>?_);apply aJ p;rintro rfl F E D;exact#[.inl #[.bool true,.bool true,[],rfl,λ_=>rfl,.bool true,ZqX l _,λ_=>#[List.Pairwise.nil,λ_ u=>(nomatch u)]],F,E,D]
end Att
namespace L2
structure Scr(K:W.Frag)(H:Hp)(a:Addr)(ns:Ql):Prop where
 sq:SqL K H a (ns.map V.int)
 len:ns.length<=63
 bits:∀i∈ns,Builtin.Int.intBits i<=2^20
def Scr.mono(h:Scr K H a ns)(s:Q6 H J):Scr K J a ns:=#[s.seq h.sq,h.len,h.bits]
structure Df(K:W.Frag)(mg:Str->Qf)(x:Str)(st:Stmt)(ps:Qh):Prop where
 ex:∃f fd,Fun K x x st f fd/\mg x=some (.ref f)/\ZY K fd ps []
def Q2(P:Program)(w:World)(K:W.Frag)(mg:Str->Qf)(base:Heap)(x:Str)(ps:Qh)(k:Nat)(sp:Sp):Prop:=
 ∃f fd,mg x=some (.ref f)/\W.keepIn K (.ref f)=true/\ZY K fd ps []/\FnOk P w K mg base CX0 k f fd ps sp
def Df.go{c:CXT}{w:World}{base:Heap}{x:Str}{st:Stmt}{k:Nat}(j:Df K mg x st ps)(h:∀f fd,Fun K x x st f fd->FnOk P w K mg base c k f fd ps sp):∃f fd,mg x=some (.ref f)/\W.keepIn K (.ref f)=true/\ZY K fd ps []/\FnOk P w K mg base c k f fd ps sp:=by
 exact aF j.ex λf fd F g i=>#[f,fd,g,F.kp,i,h f fd F]
def Q7{x:Str}{p:Pos}{e:Expr}{t:TA}{k:Nat}(C:Q2 X.prog X.w X.K X.mg X.base x ps j sp)(g:Room k X.A)(q:PA X (e::es) t)(m:j<=k:=by walk_at"j")(hg:Gl X x:=by rfl)
(c:(x==("__debug__" : Str))=false:=by decide +kernel)
(he:zs X e es:=by rfl)(hpl:zb X pos es:=by rfl):PE X (.Call (.Name x p) (e::es) [] pos) (ZO sp [] E0 t):=by
 exact aB C λf fd h i n F=>Lb F (g.mono m) hg h i n .nil Jq q c he hpl
def ZD:bootBuiltins "len"=some (.builtin "len"):=by decide +kernel
def Kg:bootBuiltins "max"=some (.builtin "max"):=by decide +kernel
def Bx:bootBuiltins "min"=some (.builtin "min"):=by decide +kernel
def Kh:bootBuiltins "sum"=some (.builtin "sum"):=by decide +kernel
def Bs:bootBuiltins "all"=some (.builtin "all"):=by decide +kernel
def JV:bootBuiltins "isinstance"=some (.builtin "isinstance"):=by decide +kernel
def B3:bootBuiltins "int"=some (.type "int"):=by decide +kernel
def IZ:bootBuiltins "bool"=some (.type "bool"):=by decide +kernel
def KB:bootBuiltins "list"=some (.type "list"):=by decide +kernel
def GE:bootBuiltins "tuple"=some (.type "tuple"):=by decide +kernel
end L2
namespace L2
mutual
theorem Rep.uniq{H:Hp}:∀{v:V} {d e:PyData},Rep H v d->Rep H v e->d=e
 |_,_,_,.non,.non=>rfl
 |_,_,_,.bl b,.bl _=>rfl
 |_,_,_,.int b,.int _=>rfl
 |_,_,_,.str b,.str _=>rfl
 |_,_,_,.lst h r,.lst h' c=>by
  rw[h]at h';cases h';rw[Qx.uniq r c]
 |_,_,_,.tup h r,.tup h' c=>by
  rw[h]at h';cases h';rw[Qx.uniq r c]
 |_,_,_,.lst h r,.tup h' c=>by rw[h]at h';cases h'
 |_,_,_,.tup h r,.lst h' c=>by rw[h]at h';cases h'
 |_,_,_,.dct h,.dct h'=>rfl
 |_,_,_,.lst h r,.dct h'=>by rw[h]at h';cases h'
 |_,_,_,.tup h r,.dct h'=>by rw[h]at h';cases h'
 |_,_,_,.dct h,.lst h' c=>by rw[h]at h';cases h'
 |_,_,_,.dct h,.tup h' c=>by rw[h]at h';cases h'
theorem Qx.uniq{H:Hp}:∀{vs:List V} {ds es:Qd},Qx H vs ds->Qx H vs es->ds=es
 |_,_,_,.nil,.nil=>rfl
 |_,_,_,.cons r t,.cons f c=>by rw[Rep.uniq r f,Qx.uniq t c]
end
mutual
def noL:PyData->Bool
 |.none=>true
 |.bool _=>true
 |.int _=>true
 |.str _=>true
 |.list _=>false
 |.dict _=>false
 |.tuple ds=>noLs ds
def noLs:Qd->Bool
 |[]=>true
 |d::ds=>noL d&&noLs ds
end
mutual
theorem Rep.updL{H:Hp}{l:Addr}{us za:List V}(c:H l=some (.lst us)):∀{v:V} {d:PyData},noL d=true->Rep H v d->Rep (L2.upd H l<|.lst za) v d
 |_,_,_,.non=>.non
 |_,_,_,.bl b=>.bl b
 |_,_,_,.int i=>.int i
 |_,_,_,.str x=>.str x
 |_,_,h,.lst _ _=>by simp[noL]at h
 |_,_,h,.tup f r=>.tup (by rw[Qv<|Pw f c<|by intro z;cases z];exact f) (Qx.updL c (by simpa [noL] using h) r)
theorem Qx.updL{H:Hp}{l:Addr}{us za:List V}(c:H l=some (.lst us)):∀{vs:List V} {ds:Qd},noLs ds=true->Qx H vs ds->Qx (L2.upd H l<|.lst za) vs ds
 |_,_,_,.nil=>.nil
 |_,_,h,.cons r t=>.cons (Rep.updL c (by simp[noLs]at h;exact h.1) r) (Qx.updL c (by simp[noLs]at h;exact h.2) t)
end
end L2
namespace L2
def C5(a b:Int):Builtin.Range.rangeSize a b (-1)=((a-b).toNat:Int):=by
 unfold Builtin.Range.rangeSize;split<;>lia
def ZmG{b:Int}(ha : -(2^62)<=a)(f:a<2^62)(hb : -(2^62)<=b)(c:b<2^62):Builtin.Range.small a b (-1)=true:=by
 unfold Builtin.Range.small;rw[C5];simp only[Builtin.Range.rangeFitsLong,W4,Bool.or_eq_true,decide_eq_true_eq,beq_iff_eq,show ¬((-1) > 0) by decide,if_false];lia
def Hu(c:Int)(n:Nat):It:=#[λi _=>i<n,λi H x J=>J=H/\x=.int (c-i),λi _=>n<=i]
theorem ZlR(it:Addr)(hi:Int)(n:Nat):Turn P w K tg (Hu hi n) [it] it (λi h=>IsRangeIter h it (hi+(i:Nat)*(-1)) ((n:Int)-(i:Nat)) (-1)) where
 mem:=by simp
 obj:=λi h c b f=>by
  simp_all
 keep:=λi h h' c k=>k it (by simp) _ c
 item:=by
  intro X M C U m i Y s O H r I j c hg;subst M C U;apply aG (j it (by simp));refine λf0 B l A y q=>(Walks.range (prog:=X.prog) (w:=X.w) (I.ok.hd m) it hi (-1) n).item i s _ _ hg c λv h' tk d g a=>?_;obtain⟨t,rfl⟩:=d;refine#[_,rfl,Gx g rfl rfl (by decide) #[.int<|hi-i,H,I.turned (λb o f e=>a b o (by simpa using f) e) f0 B A y q,#[t,?_],#[rfl,rfl],g,λb f=>(j b f).1]]
  grind
 done:=by
  exact λX M C U m i Y s O H r I j c hg=>aG (j it (by simp)) λf0 B l A y q=>wpAny_pyNext_range_end (I.ok.hd m) c (by have:n<=i:=hg;lia) λh' p=>#[rfl,I.turned (λb o f e=>p b o f e) f0 B A y q]
 self:=λ_ _ _ _ _ c h=>wpAny_pyIter_rangeiter c h
def ZrM{O:St}{H:Hp}{R:It->Hp->Prop}{y:Qb}{lo c:Int}{t u v:Tok}{g:Nat}(I:Qt X Y O H s)(L : -(2^62)<=c)(j:c<2^62)(h3 : -(2^62)<=lo)(i:lo<2^62)
(q:R (Hu c (c-lo).toNat) H):wpAny (model X.prog X.w) X.A (pyIter<|.ref s.heap.objs.size) (PIE X Y O tg R) y { s with heap:=s.heap.push { cls:=.type "range",data:=.fields (List.toArray [.int c t,.int lo u,.int (-1) v]) },toks:=g }:=by
 refine wpAny_pyIter_range (IsRange.new ..) (ZmG L j h3 i) ?_;have f:Qt X Y O H { s with heap:=s.heap.push { cls:=.type "range",data:=.fields (List.toArray [.int c t,.int lo u,.int (-1) v]) },toks:=g }:=I.kept λb o e=>Xc _ e
 refine#[(s.heap.push { cls:=.type "range",data:=.fields (List.toArray [.int c t,.int lo u,.int (-1) v]) }).objs.size,[(s.heap.push { cls:=.type "range",data:=.fields (List.toArray [.int c t,.int lo u,.int (-1) v]) }).objs.size],_,_,H,rfl,
  f.kept λb o e=>Xc _ e,ZlR _ c (c-lo).toNat,?_,λb h=>?_,q]
 .have n:c+((0:Nat))*(-1)=c:=by simp
  have m:(((c-lo).toNat))-((0:Nat))=Builtin.Range.rangeSize c lo (-1):=by rw[C5];lia
  rw[n,m];exact Xn _ rfl
 .have e:b=(s.heap.push { cls:=.type "range",data:=.fields (List.toArray [.int c t,.int lo u,.int (-1) v]) }).objs.size:=by simpa using h
  subst e;exact f.fpOk (Xm _) (f.hok.fresh<|Xm _)
def P7(ta:TA):TI:=λO H R=>ta O H λc D=>∃i j:Int,c=[.int i,.int j,.int (-1)]/\(-(2^62)<=i/\i<2^62 /\ -(2^62)<=j/\j<2^62)/\R (Hu i (i-j).toNat) D
def FQ{a b c:Expr}{ta:TA}{p:Pos}(hg:Gl X "range")(M:X.mg "range"=none)(P:PA X [a,b,c] ta)(hs:starEach [a,b,c] X.env=[(false,eval a X.env),(false,eval b X.env),(false,eval c X.env)]:=by rfl)
(g:starEach [b,c] X.env=[(false,eval b X.env),(false,eval c X.env)]:=by rfl):PI X tg (.Call (.Name "range" p) [a,b,c] [] pos) (P7 ta):=by
 refine λY s O H R I h=>Call_ (WN I hg M boot_range<|PyProof.Rows.callWith_type1 (Q9 (P pos Y s O H _ I h) ?_) (by rw[hs,g])<|by rw[g];rfl);rintro d o ⟨W,D,U,y,m⟩;obtain⟨i,j,rfl,⟨m,K,C,B⟩,q⟩:=m;cases y with
 |cons r f=>
  cases f with
  |cons A f=>
   cases f with
   |cons n f=>
    cases f;obtain⟨t,rfl⟩:=r;obtain⟨l,rfl⟩:=A;obtain⟨k,rfl⟩:=n;exact call_range_3 (by decide) (ZrM U m K C B q) (.inl<|PyProof.noPylong_small<|by decide)
def MM(K:W.Frag):V->V->Hp->VK->Prop:=λo i H Q=>∃p xs k v,o=.ref p/\i=.int k/\SqL K H p xs/\0<=k/\xs[k.toNat]?=some v/\Q v H
def Zm4(ns:Ql):preSum (λi=>ns.getD i 0) ns.length=ns.sum:=by
 have c:∀k,k<=ns.length->preSum (λi=>ns.getD i 0) k=(ns.take k).sum:=by
  intro k;induction k with
  |zero=>intro _;simp[preSum]
  |succ k f=>
   intro g;have L:k<ns.length:=#[]
   rw[Jf,List.sum_append,<- f #[]];simp[preSum,L]
 rw[c ns.length<|Xm _,W3]
theorem Uf:∀{vs:Qe} {ns:Ql} {i:Nat} {v:Value},IntsAre vs ns->vs[i]?=some v->∃t,v=.int (ns.getD i 0) t
 |_,_,_,_,.nil,e=>by simp at e
 |_,_,0,_,.cons n t h,e=>by simp at e;exact#[t,by simp[<- e]]
 |_,_,i+1,v,.cons n t h,e=>by
  obtain⟨c,z⟩:=Uf h (by simpa using e);exact#[c,by simpa using z]
def Zlb(M:A.handled=none)(q:s.heap.IsList l vs.toArray)(B:IntsAre vs ns)
(h:∀h' C t',(∀b o,s.heap.get? b=some o->h'.get? b=some o)->Q (.int ns.sum t') { s with heap:=h',toks:=C }):wpAny (model prog w) A (call (.builtin "sum") [.ref l]) Q dx s:=by
 apply aR (id q);refine λo y p n k=>call_sum_walkAnyS (wpAny_pyIter_list q (#[s.heap.objs.size,_,_,_,_,_,_,λi=>ns.getD i 0,rfl,(Walks.list (prog:=prog) (w:=w) (A:=A.in1) M s.heap.objs.size l (Xp (Xk y)) vs.toArray).toS,#[#[_,Xn _ rfl,rfl,rfl],q.at λo e=>Xc _ e],λb c=>?_,λi v P=>Uf B<|by simpa using P,λK t' f=>?_]))
 .rcases Xd.mp c with rfl|c
  .exact Xk (Xn _ rfl)
  .obtain rfl:=Xj.mp c;exact Xk (Xc _ y)
 .obtain⟨h',U,d,g,j⟩:=K;have a:U=s.gens:=f.gens;have Y:d=s.drawn:=f.drawn;have X:j=s.os:=f.os;subst a Y X;have es:vs.toArray.size=ns.length:=by rw[Xu,B.length]
  rw[es,Zm4];exact h h' g t' λb o e=>f.heap b o (λc=>Xt (Xk e)<|(Xj.mp c)▸Y5 _) (Xc _ e)
def BQ:SR X (MM X.K):=by
 intro Y s O H o i K M Q I g j h;apply aQ h;rintro p xs k v rfl rfl y B⟨f,q⟩;cases g;obtain⟨t,rfl⟩:=j;refine L3 (I.list y) λn r m P=>At (r.get f) λw C c=>?_;have U:=U9;have A:=(Xi.mp f).1;exact wpAny_getItem_list m.isList B #[] (by simpa using C) #[v,H,I,c,q]
def Zpz:ZF X (.builtin "sum") (λxs H Q=>X.calm=true/\∃(x:V) (ns:Ql),xs=[x]/\Rep H x (.list<|ns.map PyData.int)/\Q (.int ns.sum) H):=by
 intro Y s O H xs A Q I r h;obtain⟨m,x,ns,rfl,j,q⟩:=h;apply At (VQ r);rintro u rfl c;cases j with
 |lst n g=>
  cases c;have y:=BZ g;subst y;exact L3 (I.list (SqL.of n)) λi f p K=>Zlb (I.ok.hd m) p.isList (DR f) λh' B C k=>#[.int ns.sum,H,I.kept k,#[_,rfl],q]
end L2
namespace L2
def Qt.turnedL{O:St}{H:Hp}{t':Nat}{ch:Qg}(I:Qt X Y O H s)(k:∀b o,b∉ch->s.heap.get? b=some o->h'.get? b=some o)(g:∀b∈ch,Wb X Y H b):Qt X Y O H { s with heap:=h',toks:=t' }:=by
 refine I.step (λb j=>?_) (λb o _ _ f e _=>k b o f e) (λb o _ _ f e _=>#[o.slots,k b o f e]) (λ_ _ _ _ n=>n)
  (λb o f e=>#[o,k b o f e]) (λ_ _ e=>e) (λ_ _ _ e=>e) (λb ps e=>#[(List.toArray []),by rw[e];simp]) (λm i=>?_) (λb u e=>?_) I.bare (λb _ o f _ e=>k b o f e)
 .exact aG (g b j) λf0 C P B A y=>#[B,C,A,y]
 .exact L1 i λo es K h r=>#[o,es,K,k _ o (λz=>(g _ z).2.1 rfl) h,r]
 .refine(I.hok b u e).stay (λc v f q=>k c v (λz=>?_) q) (λ_ q=>q) λ_ _ q=>q
  have M:=(g c z).1
  grind
def Qt.trackTup{O:St}{H:Hp}{T:Addr}{x:V}{u v:Value}(f:Qt X Y O H s0)(I:Qt X Y O H s)(hT:s0.heap.objs.size<=T)(i:QO x u)(h:QO y v)(g:s.heap.IsTuple T (List.toArray [u,v])):Qt X Y O (upd H T<|.tup [x,y]) s:=by
 refine I.track (f.hok.fresh hT) (Xq f.sz hT) (VY<|XG f.lt hT) (λz c e q=>?_) (λp m q=>?_) #[by show 2<=sizeLine;decide,[u,v],.cons i<|.cons h .nil,g]
 .obtain⟨w,j⟩:=f.cell z c e;exact Xt (XG j.lt<|by exact q▸hT) (Y5 _)
 .exact Xt (XG (Xk (f.pin p m).1)<|by exact q▸hT) (Y5 _)
def Ite(K:W.Frag)(a:Addr):It:=
 #[λi H=>∃xs x,SqL K H a xs/\xs[i]?=some x,
  λi H v J=>∃p x,H p=none/\v=.ref p/\J=upd H p (.tup [.int (i:Int),x])/\∀xs,SqL K H a xs->xs[i]?=some x,
  λi H=>∃xs,SqL K H a xs/\i=xs.length]
theorem Zqi(l:e≠it)(d:a≠e)(b:a≠it):
 Turn P w K (.Tuple elts k pos) (Ite K a) [e,it] e (λi h=>(∃g,IsEnum h e it i g)/\h.IsListIter it a i) where
 mem:=by simp
 obj:=λi h m c r=>by
  apply aX m;rintro⟨g,j⟩o1 e1 c1 d1
  grind
 keep:=λi h h' m kk=>by
  obtain⟨⟨g,j⟩,L⟩:=m;exact#[#[g,kk e (by simp) _ j],L.at λo x=>kk it (by simp) o x]
 item:=by
  intro X N F Q r i Y s O H dx I p m hg;subst N F Q;refine L0 hg λxs x q hx=>L3 (I.list q) λf y D E=>At (y.get hx) λu1 U v=>?_;obtain⟨j,L⟩:=m;have W:=WalksT.enumerate (prog:=X.prog) (w:=X.w) (I.ok.hd r) e it a l d b f.toArray;have l1:=(Xi.mp U).1;refine W.item i s _ _ (by simp only[Xu];lia) #[j,L,D.isList] λT Z h' tk pt hT tup C kp=>?_;apply L0 pt;rintro t v1 e1 rfl
  have S:=by
   have:=by simpa using e1
   exact(Option.some.inj (U▸this)).symm
  subst S;have I1:Qt X Y O H { s with heap:=h',toks:=tk }:=I.turnedL kp p;refine#[.ref T,rfl,W.go elts k pos i T { s with heap:=h',toks:=tk } _ _ C λR u M=>?_];have B:R.IsTuple T (List.toArray [.int (i) t,v1]):=by
   exact aR tup λo ho J n hd=>#[o,M T o (W.apart i T h' C) ho,J,n,hd]
  refine KE u λs1 s2 _=>#[.ref T,_,I.trackTup (I1.turnedL (t':=tk) M p) hT (x:=.int (i)) #[t,rfl] v B,rfl,#[T,x,I.hok.fresh hT,rfl,rfl,λxs' h=>by rw[I.list_inj h q];exact hx],#[s1,s2],λc A=>?_];have G:c<s.heap.objs.size:=by
   simp only[Xd,XW,or_false]at A;obtain⟨g,j⟩:=j;rcases A with rfl|rfl
   .exact Xk j
   .exact At L λ_ z _=>Xk z
  rw[Qv<|Xp<|XG G hT];exact(p c A).1
 done:=by
  intro X N F Q r i Y s O H dx I p m hg;subst N F Q;apply At hg;rintro xs q rfl;apply L3 (I.list q);intro f y D E;obtain⟨j,L⟩:=m;have en:xs.length=f.toArray.size:=by simp[y.length]
  refine (WalksT.enumerate (prog:=X.prog) (w:=X.w) (I.ok.hd r) e it a l d b f.toArray).done s _ _ (by exact en▸#[j,L,D.isList]) λh' tk kp=>#[rfl,I.turnedL kp p]
 self:=λ_ _ _ _ _ m h=>by
  obtain⟨⟨g,j⟩,_⟩:=m;exact wpAny_pyIter_enum j h
def Pi(K:W.Frag)(ta:TA):TI:=λO H R=>ta O H λc D=>∃a,c=[.ref a]/\(∃xs,SqL K D a xs)/\R (Ite K a) D
def FZ:bootBuiltins "enumerate"=some (.type "enumerate"):=by decide +kernel
def DU{ta:TA}   (hg:Gl X "enumerate")(l:X.mg "enumerate"=none)(r:PA X [a] ta)(hs:starEach [a] X.env=[(false,eval a X.env)]:=by rfl):
 PI X (.Tuple elts k tpos) (.Call (.Name "enumerate" p) [a] [] pos) (Pi X.K ta):=by
 refine λY s O H R I h=>Call_ (WN I hg l FZ<|PyProof.Rows.callWith_type1 (Q9 (r pos Y s O H _ I h) ?_) hs rfl);rintro w f ⟨v,D,i,K,M⟩;apply L3 M;rintro x e⟨xs,W⟩q;subst e;apply At (VQ K);rintro u rfl B;cases B;refine L3 (i.list W) λn C j U=>call_enumerate_list j.isList λh' y L b P=>wpAny_pyIter_enum y ?_;have m:x<f.heap.objs.size:=by exact At j.isList λo d _=>Xk d
 refine#[_,[f.heap.objs.size+1,f.heap.objs.size],_,_,D,rfl,i.kept (t':=f.toks) P,Zqi (Nat.succ_ne_self _) (Xp<|JA m)<|Xp m,#[#[_,y],L],λc A=>?_,q];have g:f.heap.objs.size<=c:=by
  simp only[Xd,XW,or_false]at A;rcases A with rfl|rfl
  .exact Nat.le_add_right _ _
  .exact Xm _
 exact i.fpOk g (i.hok.fresh g)
end L2
namespace L2
def Dm(f:∀b x,b∉[s.heap.objs.size]->(s.heap.push o).get? b=some x->h'.get? b=some x):∀b x,s.heap.get? b=some x->h'.get? b=some x:=
 λb x e=>f b x (λc=>by rw[Xj.mp c]at e;exact Y5 _<|Xk e) (Xc _ e)
def Zo1(bs:List Bool):((List.range bs.length).all λi=>bs.getD i true)=bs.all id:=by
 rw[GW,Us,Us];constructor
 .intro h b g;obtain⟨i,f,rfl⟩:=US.mp g;have:=h i (XY.mpr f);simpa [f] using this
 .intro h i f;have c:=XY.mp f;have:=h bs[i] (X6 c);simpa [c] using this
def Zom{bs:List Bool}{us:Qe}(r:QS (bs.map V.bl) us)(e:us[i]?=some v)(d:Bool):v=.bool (bs.getD i d):=by
 have h:=r.length;have j:i<us.length:=(Xi.mp e).1;rw[Xg]at h;have g:(bs.map V.bl)[i]?=some (.bl<|bs.getD i d):=by
  have:i<bs.length:=#[]
  simp[this]
 apply At (r.get g);intro u c f;rw[e]at c;cases c;exact f
noncomputable def Wa:Ql->Int
 |[]=>0
 |[a]=>a
 |a::b::r=>min a (Wa (b::r))
theorem ND:∀{ns:Ql},ns≠[]->Wa ns∈ns/\∀a∈ns,Wa ns<=a
 |[],h=>Xt rfl h
 |[a],_=>by simp[Wa]
 |a::b::r,_=>by
  obtain⟨L,g⟩:=ND (ns:=b::r) (by simp);simp only[Wa];refine#[?_,λc f=>?_]
  .grind
  .grind
def Iz{M:Int}(L:M∈ns)(c:∀a∈ns,M<=a):M=Wa ns:=by
 obtain⟨g,f⟩:=ND (ns:=ns) (λz=>by rw[z]at L;cases L);have:=c _ g;have:=f _ L;lia
def SG(X:Cx):List V->Hp->VK->Prop:=λxs H Q=>X.calm=true/\∃(x:V) (c:List Bool),xs=[x]/\Rep H x (.list<|c.map PyData.bool)/\Q (.bl<|c.all id) H
def Pd(X:Cx):List V->Hp->VK->Prop:=λxs H Q=>X.calm=true/\∃(x:V) (c:Ql),xs=[x]/\Rep H x (.list<|c.map PyData.int)/\c≠[]/\Q (.int<|Wa c) H
theorem C4{H:Hp}:∀{vs:List V} {l:List Bool},Qx H vs (l.map PyData.bool)->vs=l.map V.bl
 |_,[],.nil=>rfl
 |_,i::l,.cons (.bl _) t=>by rw[Xw,C4 t]
def B5:ZF X (.builtin "all") (SG X):=by
 intro Y s O H xs b Q I r h;apply By h;rintro M x f rfl⟨B,q⟩;apply At (VQ r);rintro u rfl n;cases B with
 |@lst l ys _ P y=>
  cases n;have a:=C4 y;subst a;apply L3 (I.list (SqL.of (K:=X.K) P));intro c m p o;have j:=p.isList
  refine call_all_walk (wpAny_pyIter_list j (#[s.heap.objs.size,[s.heap.objs.size,l],[s.heap.objs.size],c.toArray.size,_,_,λi=>f.getD i true,rfl,Walks.list (A:=X.A.in1) (I.ok.hd M) _ l (Xp (by exact At j λ_ e _=>Xk e)) c.toArray,
   #[#[_,Xn _ rfl,rfl,rfl],j.push _],λi v k t E' W U=>?_,λh' d C=>?_]))
  .rw[Zom m (show c[i]?=some v by simpa using W) true];exact wpAny_truthy_bool U
  .have e:((List.range c.toArray.size).all λi=>f.getD i true)=f.all id:=by
    have:=m.length;rw[Xg]at this;rw[Xu,<- this];exact Zo1 f
   exact e▸#[.bl _,H,I.kept<|Dm C,rfl,q]
def Oz:ZF X (.builtin "min") (Pd X):=by
 intro Y s O H xs R Q I r h;apply By h;rintro F x f rfl⟨w,y,q⟩;apply At (VQ r);rintro u rfl W;cases w with
 |@lst l ys _ G o=>
  cases W;have L:=BZ o;subst L;apply L3 (I.list (SqL.of G));intro c d p T;have B:=p.isList;have K:=DR d;have P:=K.length;have hpos:=M3.mpr y;have g:l<s.heap.objs.size:=by exact At B λ_ e _=>Xk e
  refine call_min_walk (wpAny_pyIter_list B (#[s.heap.objs.size,[s.heap.objs.size,l],[s.heap.objs.size],c.toArray.size,_,_,_,rfl,Walks.list (A:=X.A.in1) (I.ok.hd F) _ l (Xp g) c.toArray,
   #[#[_,Xn _ rfl,rfl,rfl],B.push _],λb m=>?_,by simp only[Xu];lia,CmpOf.ints_lt (λi=>f.getD i 0) (λi v n=>Uf K<|by simpa using n),λv h' S n D=>?_]))
  .rw[Yt];rcases Xd.mp m with rfl|m
   .exact J9 _
   .rcases Xd.mp m with rfl|m
    .exact JA g
    .cases m
  .rw[List.getElem?_toArray]at n;obtain⟨t,rfl⟩:=Uf K n;obtain⟨J,U⟩:=argBest_lt (λi=>f.getD i 0) (c.toArray.size-1);have z:c.toArray.size=c.length:=by simp
   generalize argBest _ (c.toArray.size-1)=k at J U ⊢;have C:k<f.length:=#[]
   have N:f.getD k 0=Wa f:=by
    refine Iz (by simp[C]) λa M=>?_;obtain⟨j,E,rfl⟩:=US.mp M
    have:=U j #[];simpa [E] using this
   exact#[.int<|Wa f,H,I.kept<|Dm D,#[t,by rw[N]],q]
end L2
namespace Mir
def WE(ns:Ql)(k:Int):Int:=ns.getD k.toNat 0
noncomputable def Ax(x:Int):Nat:=if x==0 then 0 else x.natAbs.log2+1
def SK(i:Int):Int:=if i<0 then -i else i
noncomputable def mix(head k:Int):Nat->Int×Int×Int
 |0=>(head%2147483629+7919*k,69621*k+5,0)
 |i+1=>
  ((((mix head k i).1*48271+11+(i:Int)*k)%2147483647),
   (((mix head k i).2.1*16807+((mix head k i).1*48271+11+(i:Int)*k)%2147483647)%2147483629),
   (mix head k i).2.2*2147483629+(((mix head k i).2.1*16807+((mix head k i).1*48271+11+(i:Int)*k)%2147483647)%2147483629*(((mix head k i).2.1*16807+((mix head k i).1*48271+11+(i:Int)*k)%2147483647)%2147483629)+((mix head k i).1*48271+11+(i:Int)*k)%2147483647)%2147483587)
noncomputable def AE(ns:Ql)(k:Int):Int:=
 if WE ns 0/720%2=1 then (mix (WE ns 0) k 30).2.2 else SK (WE ns k)+(mix (WE ns 0) k 30).2.2*2^Ax (SK<|WE ns k)
structure Ln where
 up:Option Nat
 bs:Ql
structure Yd where
 T:Nat
 ls:List Ln
noncomputable def Zq(y:Yd)(k:Nat):Option Nat:=(y.ls[k]?).bind (·.up)
structure Yd.Ok(y:Yd):Prop where
 t1:1<=y.T
 t8:y.T<=8
 l1:1<=y.ls.length
 l5:y.ls.length<=5
 up0:Zq y 0=none
 ups:∀k,0<k->k<y.ls.length->∃a,Zq y k=some a/\a<k
 bl:∀l∈y.ls,l.bs.length=y.T
 bb:∀l∈y.ls,∀b∈l.bs,0<=b/\b<10^300
def KO{b:Int}(h:b<10^30):b<10^300:=GV h (by decide +kernel)
noncomputable def upF9(y:Yd):Nat->Nat->Qk
 |0,k=>[k]
 |n+1,k=>k::match Zq y k with
  |none=>[]
  |some a=>if a<k then upF9 y n a else []
theorem upE9(y:Yd):∀n k m,k<=n->k<=m->upF9 y n k=upF9 y m k
 |0,k,0,_,_=>rfl
 |0,k,m+1,h,_=>by
  cases Nat.le_zero.mp h;unfold upF9;cases Zq y 0<;>simp
 |n+1,k,0,_,h=>by
  cases Nat.le_zero.mp h;unfold upF9;cases Zq y 0<;>simp
 |n+1,k,m+1,h,g=>by
  unfold upF9;cases Zq y k with
  |none=>rfl
  |some a=>
   by_cases l:a<k
   .simp only[l,if_true,upE9 y n a m (by omega)<|by omega]
   .simp only[l,if_false]
def upL(y:Yd)(k:Nat):Qk:=upF9 y k k
theorem upD9(y:Yd)(k:Nat):upL y k=k::match Zq y k with|none=>[]|some a=>if a<k then upL y a else []:=by
 unfold upL;rw[upE9 y k k (k+1) (Nat.le_refl _)<|by omega];show k::_=_
 cases Zq y k with
 |none=>rfl
 |some a=>
  by_cases l:a<k
  .simp only[l,if_true,upE9 y k a a (by omega)<|Nat.le_refl _]
  .simp only[l,if_false]
def PK{y:Yd}(c:y.Ok)(f:k<y.ls.length):upL y k=if k=0 then [0] else k::upL y ((Zq y k).getD 0):=by
 rw[upD9];by_cases g:k=0
 .subst g;simp[c.up0]
 .apply At (c.ups k #[] f);intro a e l;simp_all
def T2(y:Yd):∀k,∀j∈upL y k,j<=k:=by
 intro k;induction k using Nat.strongRecOn with
 |ind k g=>
  intro j c;rw[upD9]at c;rcases Xd.mp c with rfl|c
  .exact Xm _
  .cases e:Zq y k with
   |none=>rw[e]at c;simp at c
   |some a=>
    rw[e]at c;by_cases f:a<k
    .simp only[f]at c;have:=g a f j c;lia
    .simp only[f,if_false]at c;simp at c
def NG(y:Yd)(k:Nat):k∈upL y k:=by rw[upD9];exact Xb
def Ki{y:Yd}(c:y.Ok)(h0:0<k)(f:k<y.ls.length)(e:Zq y k=some a)(l:Nat)(g:l≠k):l∈upL y k↔l∈upL y a:=by
 rw[PK c f,Xe<|#[]];grind
end Mir
namespace Mir
structure Gs where
 line:Nat
 first:Nat
 last:Nat
 want:Int
 most:Int
structure Gs.Ok(y:Yd)(g:Gs):Prop where
 ln:g.line<y.ls.length
 fl:g.first<=g.last
 lt:g.last<y.T
 w1:1<=g.want
 w2:g.want<10^300
 m1:1<=g.most
 m2:g.most<10^300
def gn0(ns:Ql)(k:Nat):Int:=AE ns (6+(k:Int))
def gn1(ns:Ql)(y:Yd)(k:Nat):Int:=gn0 ns k/(y.ls.length:Int)
def gn2(ns:Ql)(y:Yd)(k:Nat):Int:=gn1 ns y k/(y.T:Int)
def gf(ns:Ql)(y:Yd)(k:Nat):Int:=gn1 ns y k%(y.T:Int)
noncomputable def gl(ns:Ql)(y:Yd)(k:Nat):Int:=gf ns y k+gn2 ns y k%((y.T:Int)-gf ns y k)
noncomputable def VW(g:Gs)(t:Int):Bool:=decide ((g.first:Int)<=t)&&decide (t<=(g.last:Int))
noncomputable def Z7(y:Yd)(l:Nat)(t:Nat):Int:=(((y.ls[l]?).map (·.bs)).getD []).getD t 0
noncomputable def ZG(c:List Gs)(t:Int)(l:Nat):Qk->Int
 |[]=>0
 |k::r=>(match c[k]? with|some g=>if g.line=l/\VW g t=true then g.most else 0|none=>0)+ZG c t l r
def UQ(c:List Gs)(t:Int)(l:Nat)(a b:Qk):ZG c t l (a++b)=ZG c t l a+ZG c t l b:=by
 induction a with
 |nil=>simp[ZG]
 |cons k r f=>simp only[Ur,ZG,f];lia
noncomputable def WG(y:Yd)(b:Qn)(st:Qn)(j:Nat):Qn:=λl=>st l+(if Zq y j=some l then min (st j) (b j) else 0)
noncomputable def Vj(y:Yd)(b own:Qn):Nat->Qn
 |0=>own
 |i+1=>WG y b (Vj y b own i) (y.ls.length-1-i)
def VC(y:Yd)(b own:Qn)(l:Nat):Int:=Vj y b own (y.ls.length-1) l
def passes(y:Yd)(b own:Qn)(l:Nat):Int:=min (VC y b own l) (b l)
noncomputable def Um(y:Yd)(b own:Qn)(l:Nat):Qn
 |0=>0
 |n+1=>Um y b own l n+(if Zq y (l+1+n)=some l then passes y b own (l+1+n) else 0)
theorem C6(y:Yd)(c:y.Ok)(b own:Qn)(l:Nat):∀i,i<=y.ls.length-1->y.ls.length-1-i<=l->∀d,i+d<=y.ls.length-1->Vj y b own (i+d) l=Vj y b own i l
 |i,g,f,0,_=>rfl
 |i,g,f,d+1,q=>by
  have h:=C6 y c b own l i g f d #[];show WG y b (Vj y b own<|i+d) (y.ls.length-1-(i+d)) l=_;unfold WG;rw[h];by_cases j:0<y.ls.length-1-(i+d)
  .obtain⟨a,m,n⟩:=c.ups _ j #[];rw[m];have:¬some a=some l:=by
    intro z;lia
   simp_all
  .lia
def CA{y:Yd}(c:y.Ok)(b own:Qn)(f:j<y.ls.length):Vj y b own (y.ls.length-1-j) j=VC y b own j:=by
 have:=C6 y c b own j (y.ls.length-1-j) #[] #[] j #[];exact ((show y.ls.length-1-j+j=y.ls.length-1 by lia)▸this).symm
theorem FE{y:Yd}(c:y.Ok)(b own:Qn)(l:Nat):∀i,i<=y.ls.length-1->Vj y b own i l+Um y b own l (y.ls.length-1-i-l)=own l+Um y b own l (y.ls.length-1-l)
 |0,_=>by simp[Vj]
 |i+1,B=>by
  have h:=FE c b own l i #[];have e:Vj y b own (i+1) l=Vj y b own i l+(if Zq y (y.ls.length-1-i)=some l then passes y b own (y.ls.length-1-i) else 0):=by
   show WG y b (Vj y b own i) _ l=_;unfold WG passes;have j:y.ls.length-1-i<y.ls.length:=by have:=c.l1;lia
   have g:=CA c b own j;rw[show y.ls.length-1-_=i by lia]at g;rw[g]
  rw[e];by_cases A:l<y.ls.length-1-i
  .obtain⟨d,n⟩:∃d,y.ls.length-1-i-l=d+1:=⟨y.ls.length-1-i-l-1,#[]⟩
   rw[n]at h;have f:y.ls.length-1-(i+1)-l=d:=#[]
   rw[f];have q:l+1+d=y.ls.length-1-i:=#[]
   simp only[Um,q]at h;lia
  .have K:y.ls.length-1-i-l=0:=#[]
   have f:y.ls.length-1-(i+1)-l=0:=#[]
   rw[f];have:¬Zq y (y.ls.length-1-i)=some l:=by
    intro z;have m:0<y.ls.length-1-i:=#[]
    obtain⟨a,C,s⟩:=c.ups _ m #[];lia
   simp_all
def ON{y:Yd}(c:y.Ok)(b own:Qn)(l:Nat):VC y b own l=own l+Um y b own l (y.ls.length-1-l):=by
 have h:=FE c b own l _ (Xm _);rw[show y.ls.length-1-_-l=0 by lia]at h;simp only[Um]at h;unfold VC;lia
end Mir
namespace Mir
noncomputable def Q5(f:Qn):Qn
 |0=>0
 |n+1=>Q5 f n+f n
theorem Zs{f g:Qn}:∀{n:Nat},(∀k,k<n->f k=g k)->Q5 f n=Q5 g n
 |0,_=>rfl
 |n+1,h=>by
  simp only[Q5];rw[Zs λk c=>h k<|#[],h n<|#[]]
theorem Wt{f g:Qn}:∀{n:Nat},(∀k,k<n->f k<=g k)->Q5 f n<=Q5 g n
 |0,_=>Uv _
 |n+1,h=>by
  simp only[Q5];have:=Wt (n:=n) λk c=>h k #[]
  have:=h n #[];lia
theorem BT(f g:Qn):∀n,Q5 (λk=>f k+g k) n=Q5 f n+Q5 g n
 |0=>rfl
 |n+1=>by simp only[Q5];rw[BT f g n];lia
theorem DK(c:Int)(f:Qn):∀n,Q5 (λk=>c*f k) n=c*Q5 f n
 |0=>by simp[Q5]
 |n+1=>by simp only[Q5];rw[DK c f n,Int.mul_add]
theorem Vq:∀n,Q5 (λ_=>0) n=0
 |0=>rfl
 |n+1=>by simp only[Q5];rw[Vq n];rfl
theorem G6{a:Nat}{v:Int}:∀{n:Nat},Q5 (λl=>if l=a then v else 0) n=if a<n then v else 0
 |0=>by simp[Q5]
 |n+1=>by
  simp only[Q5];rw[G6];by_cases h:n=a
  .subst h;simp
  .by_cases c:a<n
   .simp[h,c];lia
   .have:¬a<n+1:=#[]
    simp[h,c,this]
def KD{f:Qn}(h:∀k,k<n->0<=f k):0<=Q5 f n:=by
 have:=Wt h;rwa[Vq]at this
def DN(f:Qn)(n:Nat):((List.range n).map f).sum=Q5 f n:=by
 induction n with
 |zero=>rfl
 |succ n c=>rw[YY,Xx,List.sum_append,c];simp[Q5]
noncomputable def wgt(c:List Gs)(t:Int)(l k:Nat):Int:=match c[k]? with|some g=>if g.line=l/\VW g t=true then g.most else 0|none=>0
def IW(c:List Gs)(t:Int)(l k:Nat):ZG c t l [k]=wgt c t l k:=by
 simp only[ZG,wgt];cases c[k]? with
 |none=>rfl
 |some g=>simp
def Zox(c:List Gs)(t:Int)(l:Nat)(p:Qm)(m:Nat):ZG c t l ((List.range m).filter p)=Q5 (λk=>if p k=true then wgt c t l k else 0) m:=by
 induction m with
 |zero=>rfl
 |succ m f=>
  rw[YY,GZ,UQ,f];simp only[Q5];cases e:p m with
  |true=>simp only[Hh,e,if_true,List.filter_nil,IW]
  |false=>simp only[Hh,e,List.filter_nil,ZG,DZ,if_false]
theorem BU(f:Nat->Qn)(n:Nat):∀m,Q5 (λl=>Q5 (λk=>f l k) m) n=Q5 (λk=>Q5 (λl=>f l k) n) m
 |0=>by simp only[Q5];exact Vq n
 |m+1=>by
  simp only[Q5];rw[BT,BU f n m]
end Mir
namespace L2
structure Q3(F H F' J:Hp):Prop where
 hh:Q6 H J
 ff:Q6 F F'
 fh:Q6 F' J
 fr:∀a,F' a≠none->F a≠none\/H a=none
def Q3.refl(s:Q6 F H):Q3 F H F H:=#[Q6.refl _,Q6.refl _,s,λ_ h=>.inl h]
def Q3.trans(a:Q3 F H F1 D)(b:Q3 F1 D F2 H2):Q3 F H F2 H2:=
 #[a.hh.trans b.hh,a.ff.trans b.ff,b.fh,λp h=>by
  rcases b.fr p h with z|z
  .exact a.fr p z
  .exact .inr (a.hh.free z)]
def Z8{H:Hp}{a:Addr}{o:HO}(h:H a=some o):H a≠none:=by rw[h];rintro⟨⟩
def K9{H:Hp}{a:Addr}(h:H a≠none):∃o,H a=some o:=by
 cases e:H a with
 |none=>exact Xt e h
 |some o=>exact#[o,rfl]
def Zsf(s:Q6 F H):Q6 (upd F p o) (upd H p o):=λb u e=>by
 by_cases h:b=p
 .subst h;rw[QI]at e ⊢;exact e
 .rw[Qv h]at e ⊢;exact s b u e
def Q3.new(s:Q6 F H)(c:H p=none):Q3 F H (upd F p o) (upd H p o):=
 #[Q6.new c,Q6.new<|s.free c,Zsf s,λa h=>by
  by_cases e:a=p
  .subst e;exact .inr c
  .rw[Qv e]at h;exact .inl h]
def Q3.own(s:Q6 F H)(c:H p=none):Q3 F H F (upd H p o):=
 #[Q6.new c,Q6.refl _,s.upd<|s.free c,λ_ h=>.inl h]
def Q3.freeze(x:Q3 F0 U F H)(f:F a=none)(c:H a=some o)(h0:U a=none):Q3 F0 U (upd F a o) H:=
 #[x.hh,x.ff.trans<|Q6.new f,λb u e=>by
  by_cases h:b=a
  .subst h;rw[QI]at e;rw[c];exact e
  .rw[Qv h]at e;exact x.fh b u e,λb h=>by
  by_cases e:b=a
  .subst e;exact .inr h0
  .rw[Qv e]at h;exact x.fr b h]
def Q3.free(x:Q3 F H F' J)(f:F a=none)(c:H a≠none):F' a=none:=by
 cases e:F' a with
 |none=>rfl
 |some o=>
  rcases x.fr a (Z8 e) with z|z
  .exact Xt f z
  .exact Xt z c
structure OwnP where
 ok:W.Frag->Hp->Hp->V->Qg->Prop
 there:∀{K:W.Frag} {F H:Hp} {v:V} {p:Qg},ok K F H v p->∀a∈p,F a=none/\H a≠none
 mono:∀{K:W.Frag} {F F' H J:Hp} {v:V} {p:Qg},Q6 F F'->(∀a∈p,F' a=none)->(∀a∈p,J a=H a)->ok K F H v p->ok K F' J v p
 uniq:∀{K:W.Frag} {F H:Hp} {v:V} {p q:Qg},ok K F H v p->ok K F H v q->∀a∈q,a∈p
structure ZP where
 ok:W.Frag->Hp->V->Prop
 mono:∀{K:W.Frag} {F F':Hp} {v:V},Q6 F F'->ok K F v->ok K F' v
inductive OT where
 |zow (Ψ:ZP)
 |fz (d:PyData)
 |ol (ds:Qd)
 |oll (SF:List (Qd))
 |scr (ns:Ql)
 |own (v:V)(Φ:OwnP)
abbrev ZbI:=List (Option OT)
abbrev zi(n:Int):Option OT:=some (.fz (.int n))
abbrev zf(d:PyData):Option OT:=some (.fz d)
abbrev zo(v:V)(d:OwnP):Option OT:=some (.own v d)
abbrev zz(d:ZP):Option OT:=some (.zow d)
abbrev zr(N:List Str)(ts:List OT):ZbI:=ts.map some++List.replicate (N.length-ts.length) none
abbrev zg(r:ZbI)(i:Nat)(t:Option OT):Prop:=r[i]?=some t
def Yu(F H:Hp)(a:Addr)(ds:Qd):Prop:=F a=none/\∃xs,H a=some (.lst xs)/\Qx F xs ds
def Vb(F H:Hp):Qg->List (Qd)->Prop
 |[],[]=>True
 |a::f,ds::c=>Yu F H a ds/\Vb F H f c
 |_,_=>False
def Zx(K:W.Frag)(F H:Hp)(v:V):OT->Qg->Prop
 |.fz d,p=>p=[]/\Rep F v d
 |.ol ds,p=>∃a,v=.ref a/\p=[a]/\Yu F H a ds
 |.oll f,p=>∃a c,v=.ref a/\p=a::c/\(a::c).Nodup/\F a=none/\H a=some (.lst<|c.map V.ref)/\Vb F H c f
 |.scr j,p=>p=[]/\∃a,v=.ref a/\Scr K F a j
 |.own i h,p=>v=i/\h.ok K F H v p
 |.zow g,p=>p=[]/\g.ok K F v
def Q6.at_eq(s:Q6 H J)(h:H a≠none):J a=H a:=by
 cases e:H a with
 |none=>exact Xt e h
 |some o=>exact s _ _ e
def Yu.ext(h:Yu F H a ds)(x:Q3 F H F' J):Yu F' J a ds:=by
 exact Do h λL xs c f=>#[x.free L<|Z8 c,xs,x.hh _ _ c,f.mono x.ff]
theorem Vb.mem{F H:Hp}:∀{as:Qg} {f:List (Qd)},Vb F H as f->∀a∈as,F a=none/\H a≠none
 |[],[],_,a,c=>by cases c
 |b::as,_::_,h,a,c=>by
  rcases Xd.mp c with rfl|c
  .obtain⟨L,xs,g,_⟩:=h.1;exact#[L,Z8 g]
  .exact Vb.mem h.2 a c
 |[],_::_,h,_,_=>False.elim h
 |_::_,[],h,_,_=>False.elim h
def Zx.there(h:Zx K F H v t p):∀a∈p,F a=none/\H a≠none:=by
 cases t with
 |fz d=>obtain⟨rfl,_⟩:=h;intro a f;cases f
 |zow s=>obtain⟨rfl,_⟩:=h;intro a f;cases f
 |ol ds=>
  obtain⟨a,L,rfl,i,xs,g,_⟩:=h;intro b c;have e:=by simpa using c
  subst e;exact#[i,Z8 g]
 |oll q=>
  obtain⟨a,B,L,rfl,i,g,n,m⟩:=h;intro b c;rcases Xd.mp c with rfl|c
  .exact#[g,Z8 n]
  .exact m.mem b c
 |scr A=>obtain⟨rfl,_⟩:=h;intro a f;cases f
 |own y j=>exact j.there h.2
theorem Vb.move{F g H J:Hp}(s:Q6 F g):∀{as:Qg} {c:List (Qd)},(∀a∈as,g a=none)->(∀a∈as,J a=H a)->Vb F H as c->Vb g J as c
 |[],[],_,_,_=>trivial
 |a::as,_::_,j,i,o=>by
  obtain⟨⟨L,xs,q,n⟩,m⟩:=o;exact#[#[j a Xb,xs,by rw[i a Xb];exact q,n.mono s],Vb.move s (λb f=>j b<|Xf _ f) (λb f=>i b<|Xf _ f) m]
 |[],_::_,_,_,h=>False.elim h
 |_::_,[],_,_,h=>False.elim h
def Zx.move(s:Q6 F F')(g:∀a∈p,F' a=none)(f:∀a∈p,J a=H a)(h:Zx K F H v t p):Zx K F' J v t p:=by
 cases t with
 |fz d=>exact#[h.1,h.2.mono s]
 |zow m=>exact#[h.1,m.mono s h.2]
 |ol ds=>
  obtain⟨a,rfl,rfl,L,xs,i,c⟩:=h;exact#[a,rfl,rfl,g a Xb,xs,by rw[f a Xb];exact i,c.mono s]
 |oll y=>
  obtain⟨a,A,rfl,rfl,L,i,c,q⟩:=h;exact#[a,A,rfl,rfl,L,g a Xb,by rw[f a Xb];exact c,q.move s (λb j=>g b<|Xf _ j) λb j=>f b<|Xf _ j]
 |scr C=>obtain⟨L,a,i,c⟩:=h;exact#[L,a,i,c.mono s]
 |own B n=>exact#[h.1,n.mono s g f h.2]
theorem KZ:∀{as bs:Qg},as.map V.ref=bs.map V.ref->as=bs
 |[],[],_=>rfl
 |a::as,b::bs,h=>by
  injection h with L c;cases L;rw[KZ c]
 |[],_::_,h=>by cases h
 |_::_,[],h=>by cases h
def UO{w:V}{q:Qg}(h:Zx K F H w t p)(h':Zx K F H w t q):∀b∈q,b∈p:=by
 cases t with
 |fz d=>rw[h'.1];intro b c;cases c
 |zow C=>rw[h'.1];intro b c;cases c
 |ol ds=>
  refine L3 h' λX m j i=>L3 h λW g n f=>?_
  grind
 |oll B=>
  refine aP h' λa Y m j _ _ i _=>aP h λb U g n _ _ f _=>?_;rw[m]at g;cases g;rw[i]at f;injection f with A;injection A with y;rw[j,n,KZ y];exact λ_ z=>z
 |scr P=>rw[h'.1];intro b c;cases c
 |own M s=>exact s.uniq h.2 h'.2
def Vb.ext(x:Q3 F H F' J)(h:Vb F H as SF):Vb F' J as SF:=h.move x.ff (λa c=>x.free (h.mem a c).1 (h.mem a c).2) λa c=>x.hh.at_eq (h.mem a c).2
def Zx.ext(h:Zx K F H v t p)(x:Q3 F H F' J):Zx K F' J v t p:=h.move x.ff (λa c=>x.free (h.there a c).1 (h.there a c).2) λa c=>x.hh.at_eq (h.there a c).2
def Vb.other{b:Addr}(h:Vb F H as SF)(n:b∉as):Vb F (upd H b o) as SF:=h.move (Q6.refl _) (λa c=>(h.mem a c).1) λa c=>Qv λz=>n (z▸c)
def KTs(K:W.Frag)(F:Hp):Prop:=W.nsIn K mainGlobals "START"=some none\/∃c f,W.nsIn K mainGlobals "START"=some (some<|.ref c)/\W.nsIn K mainGlobals "END"=some (some<|.ref f)/\F c=some (.tup [.str "start"])/\F f=some (.tup [.str "end"])
def KTs.mono(h:KTs K F)(s:Q6 F F'):KTs K F':=
 h.imp id<|by rintro⟨i,j,L,g,f,c⟩;exact#[i,j,L,g,s _ _ f,s _ _ c]
structure QF(K:W.Frag)(U F:Hp)(Z:ZbI)(O:St)(H:Hp):Prop where
 kt:KTs K F
 sub:Q6 F H
 len:O.length=Z.length
 fp:∃fp:Nat->Qg,(∀(i:Nat) (t:OT),Z[i]?=some (some t)->∃v,O[i]?=some (some v)/\Zx K F H v t (fp i))/\
  (∀(i j:Nat) (a:Addr),a∈fp i->a∈fp j->i=j)/\∀(i:Nat) (a:Addr),a∈fp i->U a=none/\H a≠none
def QF.ext(s:QF K U F Z O H)(x:Q3 F H F' J):QF K U F' Z O J:=by
 obtain⟨g,L,q,y,n,m,j⟩:=s;refine#[g.mono x.ff,x.fh,q,y,λi t e=>?_,m,λi a h=>?_]
 .obtain⟨v,f,c⟩:=n i t e;exact#[v,f,c.ext x]
 .obtain⟨f,c⟩:=j i a h;obtain⟨o,A⟩:=K9 c;exact#[f,Z8<|x.hh _ _ A]
def Fgt:ZbI->ZbI->Prop
 |[],[]=>True
 |_::r,none::c=>Fgt r c
 |s::r,some x::c=>s=some x/\Fgt r c
 |_,_=>False
theorem Fgt.len:∀{Z c:ZbI},Fgt Z c->Z.length=c.length
 |[],[],_=>rfl
 |_::r,none::f,h=>by
  have h':Fgt r f:=h;simp[Fgt.len h']
 |s::r,some x::f,h=>by
  have h':=h;simp[Fgt.len h'.2]
 |[],none::_,h=>False.elim h
 |[],some _::_,h=>False.elim h
 |_::_,[],h=>False.elim h
theorem Fgt.get:∀{Z c:ZbI},Fgt Z c->∀(i:Nat) (t:OT),c[i]?=some (some t)->Z[i]?=some (some t)
 |[],[],_,i,t,e=>by simp at e
 |_::r,none::f,h,0,t,e=>by simp at e
 |_::r,none::f,h,i+1,t,e=>by
  have h':Fgt r f:=h;have:=Fgt.get h' i t (by simpa using e);simpa using this
 |s::r,some x::f,h,0,t,e=>by
  have h':=h;simp at e;subst e;simp[h'.1]
 |s::r,some x::f,h,i+1,t,e=>by
  have h':=h;have:=Fgt.get h'.2 i t (by simpa using e);simpa using this
 |[],none::_,h,_,_,_=>False.elim h
 |[],some _::_,h,_,_,_=>False.elim h
 |_::_,[],h,_,_,_=>False.elim h
def QF.fgt(s:QF K U F Z O H)(f:Fgt Z ρ'):QF K U F ρ' O H:=by
 obtain⟨c,L,m,n,j,h,g⟩:=s;exact#[c,L,m.trans f.len,n,λi t e=>j i t<|f.get i t e,h,g]
def QF.set(s:QF K U F Z O H)(Y:Zx K F H v t p)
(o:∀(a:Addr),a∈p->U a=none)
(hn:∀(a:Addr),a∈p->∀(j:Nat) (u:V) (t':OT) (q:Qg),Z[j]?=some (some t')->O[j]?=some (some u)->Zx K F H u t' q->a∉q):
 QF K U F (Z.set i<|some t) (O.set i<|some v) H:=by
 obtain⟨l,L,x,B,b,r,I⟩:=s;refine#[l,L,by simp[x],λj=>if j=i then p else if (Z[j]?).join.isSome then B j else [],λj t' e=>?_,λj k a y W=>?_,λj a y=>?_]
 .by_cases c:j=i
  .subst c;have M:=by
    have:=(Xi.mp e).1;simpa using this
   rw[XI M]at e;cases e;refine#[v,XI<|#[],?_];dsimp only;rw[Xh rfl];exact Y
  .rw[XX<|Ne.symm c]at e;obtain⟨u,m,h⟩:=b j t' e;refine#[u,by rw[XX<|Ne.symm c];exact m,?_];dsimp only;rw[Xe c,e];exact h
 .have g:∀(j:Nat),j≠i->a∈(if j=i then p else if (Z[j]?).join.isSome then B j else [])->∃t' u,Z[j]?=some (some t')/\O[j]?=some (some u)/\Zx K F H u t' (B j)/\a∈B j:=λj c n=>by
   rw[Xe c]at n;cases e:(Z[j]?).join with
   |none=>rw[e]at n;simp at n
   |some t'=>
    rw[e]at n;have d:Z[j]?=some (some t'):=by
     cases z:Z[j]? with
     |none=>rw[z]at e;simp at e
     |some w=>rw[z]at e;simp at e;rw[e]
    obtain⟨u,m,h⟩:=b j t' d;exact#[t',u,d,m,h,by simpa using n]
  by_cases c:j=i
  .by_cases A:k=i
   .lia
   .obtain⟨t',u,m,h,X,C⟩:=g k A W;have f:=by simpa [c] using y
    exact Xt C (hn a f k u t' _ m h X)
  .obtain⟨t',u,m,h,X,C⟩:=g j c y
   by_cases A:k=i
   .have P:=by simpa [A] using W
    exact Xt C (hn a P j u t' _ m h X)
   .obtain⟨G,E,Q,N,J,D⟩:=g k A W;exact r j k a C D
 .by_cases c:j=i
  .have f:=by simpa [c] using y
   exact#[o a f,(Y.there a f).2]
  .simp only[Xe c]at y
   grind
def QF.setF(s:QF K U F Z O H)(r:Rep F v d):QF K U F (Z.set i<|zf d) (O.set i<|some v) H:=
 s.set #[rfl,r] (by rintro a ⟨⟩) (hn:=λa c=>nomatch c)
def QF.chg(s:QF K U F Z O H)(e:Z[i]?=some (some t)):
 ∃v p,O[i]?=some (some v)/\Zx K F H v t p/\(∀b∈p,U b=none/\F b=none/\H b≠none)/\∀n J t' P,Q6 F n->Q6 n J->(∀b,b∉p->H b≠none->J b=H b)->(∀b,n b≠none->F b≠none\/H b=none\/b∈p)->Zx K n J v t' P->(∀b∈P,b∈p\/(H b=none/\U b=none))->
  QF K U n (Z.set i<|some t') O J/\∀j u g q,j≠i->Z[j]?=some (some g)->O[j]?=some (some u)->Zx K n J u g q->∀b∈q,b∉p/\H b≠none:=by
 obtain⟨R,L,T,A,d,I,m⟩:=s;apply At (d i _ e);intro v e1 w;have a:=(Xi.mp e).1;refine#[v,A i,e1,w,λb c=>#[(m i b c).1,w.there b c],λn J t' P r N S fr Y M=>?_];have h:∀j,j≠i->∀b∈A j,b∉A i:=λj f b c z=>f (I j i b c z);have G:=λj f b c=>S b (h j f b c) (m j b c).2
 have D:∀j g u,j≠i->Zx K F H u g (A j)->Zx K n J u g (A j):=λj g u f C=>C.move r (λb c=>Classical.byContradiction λz=>by
  rcases fr b z with y|y|y
  .exact y (C.there b c).1
  .exact(m j b c).2 y
  .exact h j f b c y) (G j f)
 have x:∀j,j≠i->∀b∈A j,b∉P:=λj f b c z=>by
  rcases M b z with y|y
  .exact h j f b c y
  .exact(m j b c).2 y.1
 refine#[#[R.mono r,N,by simp[T],λj=>if j=i then P else A j,λj g o=>?_,λj k b c B=>?_,λj b c=>?_],λj u g q f Q E X b c=>?_]
 .by_cases f:j=i
  .subst f;rw[XI a]at o;grind
  .rw[XX<|Ne.symm f]at o;exact At (d j g o) λu l C=>#[u,l,by simp only[Xe f];exact D j g u f C]
 .by_cases f:j=i<;>by_cases W:k=i
  .rw[f,W]
  .simp only[Xh f]at c;simp only[Xe W]at B;exact Xt c (x k W b B)
  .simp only[Xe f]at c;simp only[Xh W]at B;exact Xt B (x j f b c)
  .simp only[Xe f]at c;simp only[Xe W]at B;exact I j k b c B
 .by_cases f:j=i
  .simp only[Xh f]at c;exact#[(M b c).elim (λz=>(m i b z).1) λz=>z.2,(Y.there b c).2]
  .simp only[Xe f]at c;exact#[(m j b c).1,by rw[G j f b c];exact(m j b c).2]
 .apply At (d j g Q);intro u' l C;rw[l]at E;cases E;have z:=UO (D j g u f C) X b c;exact#[h j f b z,(m j b z).2]
def QF.write(s:QF K U F Z O H)(e:Z[i]?=some (some<|.ol ds)):
 ∃a xs,O[i]?=some (some<|.ref a)/\H a=some (.lst xs)/\Qx F xs ds/\U a=none/\F a=none/\∀c f,Qx F c f->QF K U F (Z.set i<|some<|.ol f) O (upd H a<|.lst c):=by
 apply aB (s.chg e);rintro v p q⟨a,rfl,rfl,f0,xs,n,r⟩m k;exact#[a,xs,q,n,r,(m a Xb).1,f0,λc f j=>(k F _ (.ol f) [a] (Q6.refl _) (s.sub.upd f0) (λb g _=>Qv λz=>g<|by exact z▸Xb) (λb h=>.inl h) #[a,rfl,rfl,f0,c,QI,j] λb g=>.inl g).1]
def QF.freeze(s:QF K U F Z O H)(e:Z[i]?=some (some<|.ol ds)):
 ∃a xs,F a=none/\H a=some (.lst xs)/\U a=none/\O[i]?=some (some<|.ref a)/\Qx F xs ds/\QF K U (upd F a<|.lst xs) (Z.set i<|zf<|.list ds) O H:=by
 apply aB (s.chg e);rintro v p j⟨a,rfl,rfl,f0,xs,g,r⟩h k;refine#[a,xs,f0,g,(h a Xb).1,j,r,(k _ H (.fz _) [] (Q6.new f0) (λb u c=>?_) (λ_ _ _=>rfl) (λb c=>?_) #[rfl,.lst QI<|r.mono (Q6.new f0)]<|by rintro b ⟨⟩).1]
 .by_cases z:b=a
  .subst z;rw[QI]at c;rw[g];exact c
  .rw[Qv z]at c;exact s.sub b u c
 .by_cases z:b=a
  .exact .inr (.inr<|by exact z▸Xb)
  .rw[Qv z]at c;exact .inl c
inductive Args(K:W.Frag)(F:Hp):List V->List OT->Prop
 |nil:Args K F [] []
 |fz {v:V}{d:PyData}{vs:List V}{ts:List OT}:Rep F v d->Args K F vs ts->Args K F (v::vs) (.fz d::ts)
 |zow {v:V}{Ψ:ZP}{vs:List V}{ts:List OT}:Ψ.ok K F v->Args K F vs ts->Args K F (v::vs) (.zow Ψ::ts)
 |scr {a:Addr}{ns:Ql}{vs:List V}{ts:List OT}:Scr K F a ns->Args K F vs ts->Args K F (.ref a::vs) (.scr ns::ts)
theorem Args.mono{K:W.Frag}{F c:Hp}(s:Q6 F c):∀{vs:List V} {ts:List OT},Args K F vs ts->Args K c vs ts
 |_,_,.nil=>.nil
 |_,_,.fz r t=>.fz (r.mono s) (Args.mono s t)
 |_,_,.scr r t=>.scr (r.mono s) (Args.mono s t)
 |_,_,.zow (Ψ:=Ψ) r t=>.zow (Ψ.mono s r) (Args.mono s t)
theorem Args.length{K:W.Frag}{F:Hp}:∀{vs:List V} {ts:List OT},Args K F vs ts->vs.length=ts.length
 |_,_,.nil=>rfl
 |_,_,.fz _ t=>by simp[Args.length t]
 |_,_,.scr _ t=>by simp[Args.length t]
 |_,_,.zow _ t=>by simp[Args.length t]
theorem Args.get{K:W.Frag}{F H:Hp}:∀{vs:List V} {ts:List OT},Args K F vs ts->∀(i:Nat) (t:OT),ts[i]?=some t->∃v,vs[i]?=some v/\Zx K F H v t []
 |_,_,.nil,i,t,e=>by simp at e
 |_,_,.fz r _,0,t,e=>by simp at e;subst e;exact#[_,rfl,rfl,r]
 |_,_,.scr r _,0,t,e=>by simp at e;subst e;exact#[_,rfl,rfl,_,rfl,r]
 |_,_,.zow r _,0,t,e=>by simp at e;subst e;exact#[_,rfl,rfl,r]
 |_,_,.zow _ q,i+1,t,e=>by
  obtain⟨v,L,c⟩:=Args.get q i t (by simpa using e);exact#[v,by simpa using L,c]
 |_,_,.fz _ q,i+1,t,e=>by
  obtain⟨v,L,c⟩:=Args.get q i t (by simpa using e);exact#[v,by simpa using L,c]
 |_,_,.scr _ q,i+1,t,e=>by
  obtain⟨v,L,c⟩:=Args.get q i t (by simpa using e);exact#[v,by simpa using L,c]
section
variable (K:W.Frag)
def Qr(t:TE)(Z:ZbI)(d:PyData):Prop := ∀(U F:Hp) (O:St) (H:Hp) (Q:VK),QF K U F Z O H->(∀c J v,Q3 F H c J->Rep c v d->Q v J)->t O H Q
def EvO(t:TE)(Z:ZbI)(r:OT):Prop := ∀(U F:Hp) (O:St) (H:Hp) (Q:VK),QF K U F Z O H->(∀c J v p,Q3 F H c J->(∀a∈p,H a=none)->Zx K c J v r p->Q v J)->t O H Q
def QM(t:TT)(Z:ZbI)(b:Bool):Prop := ∀(U F:Hp) (O:St) (H:Hp) (Q:Bool->Hp->Prop),QF K U F Z O H->(∀c J,Q3 F H c J->Q b J)->t O H Q
def Zm(t:TA)(Z:ZbI)(ts:List OT):Prop := ∀(U F:Hp) (O:St) (H:Hp) (Q:List V->Hp->Prop),QF K U F Z O H->(∀f J c,Q3 F H f J->Args K f c ts->Q c J)->t O H Q
def Te(m:Hp)(g:It)(ds:Qd):Prop := ∀(f c:Hp),Q6 m f->Q6 f c->g.stop ds.length c/\
 ∀(i:Nat) (d:PyData),ds[i]?=some d->g.go i c/\∀x h,g.yld i c x h->∃j,Q3 f c j h/\Rep j x d
def EvI(g:TI)(Z:ZbI)(ds:Qd):Prop := ∀(U F:Hp) (O:St) (H:Hp) (R:It->Hp->Prop),QF K U F Z O H->(∀f J c,Q3 F H f J->Te f c ds->R c J)->g O H R
def GTo(g:TG)(d:PyData)(Z f:ZbI):Prop := ∀(U F:Hp) (O:St) (H:Hp) (x:V) (Q:St->Hp->Prop),QF K U F Z O H->Rep F x d->(∀c,QF K U F f c H->Q c H)->g x O H Q
def Bd(g:TGs)(ds:Qd)(Z f:ZbI):Prop := ∀(U F:Hp) (O:St) (H:Hp) (xs:List V) (Q:St->Hp->Prop),QF K U F Z O H->Qx F xs ds->(∀c,QF K U F f c H->Q c H)->g xs O H Q
structure PEnds where
 nx:ZbI->Prop
 rt:OT->Prop
 bk:ZbI->Prop:=λ_=>False
 ct:ZbI->Prop:=λ_=>False
structure Cnv(F0 U:Hp)(H1:PEnds)(dx:Ends):Prop where
 nx:∀F O H Z,Q3 F0 U F H->QF K U F Z O H->H1.nx Z->dx.nx O H
 rt:∀F H v r p,Q3 F0 U F H->(∀a∈p,U a=none)->Zx K F H v r p->H1.rt r->dx.rt v H
 bk:∀F O H Z,Q3 F0 U F H->QF K U F Z O H->H1.bk Z->dx.bk O H
 ct:∀F O H Z,Q3 F0 U F H->QF K U F Z O H->H1.ct Z->dx.ct O H
def QJ(t:TS)(Z:ZbI)(f:PEnds):Prop := ∀(F0 U F:Hp) (O:St) (H:Hp) (c:Ends),Q3 F0 U F H->QF K U F Z O H->Cnv K F0 U f c->t c O H
end
section
variable {Z:ZbI}{tb:TE}
def Qr.o(h:Qr K t Z d):EvO K t Z (.fz d):=λU F O H Q S q=>h U F O H Q S λc J v x r=>q c J v [] x (by rintro _ ⟨⟩) #[rfl,r]
def EvO.e(h:EvO K t Z (.fz d)):Qr K t Z d:=λU F O H Q S q=>h U F O H Q S λc J v p x _ r=>q c J v x r.2
def EvO.fz(h:EvO K t Z (.ol ds)):Qr K t Z (.list ds):=λU F O H Q S q=>h U F O H Q S λj J v p x i r=>by
 apply aY r;rintro a rfl rfl c xs g f;refine q _ J _ (x.freeze c g<|i a Xb) (.lst QI<|f.mono<|Q6.new c)
def nf{p:Prop}(h:false=true):p:=nomatch h
def nt{p:Prop}(h:true=false):p:=nomatch h
def Qp(e:Z[i]?=some (zf d):=by rfl):Qr K (Q8 i) Z d:=λU F O H Q S q=>by
 exact At S.fp λg h _=>At (h i _ e) λv f c=>#[v,f,q F H v (Q3.refl S.sub) c.2]
def Q0{i:Int}:Qr K (tC<|.int i) Z (.int i):=λU F O H Q S q=>q F H _ (Q3.refl S.sub) (.int i)
def U2{b:Bool}:Qr K (tC<|.bl b) Z (.bool b):=λU F O H Q S q=>q F H _ (Q3.refl S.sub) (.bl b)
def Wq:Qr K (tC .non) Z .none:=λU F O H Q S q=>q F H _ (Q3.refl S.sub) .non
def QT:Qr K (tC<|.str x) Z (.str x):=λU F O H Q S q=>q F H _ (Q3.refl S.sub) (.str x)
def YC{b:PyData}(n:Qr K ta Z a)(m:Qr K tb Z b)(S:QF K U F Z O H)
(h:∀c J x y,Q3 F H c J->Rep c x a->Rep c y b->r x y J Q):tOp r ta tb O H Q:=
 n U F O H _ S λA D x g j=>m U A O D _ (S.ext g) λs q y f i=>h s q x y (g.trans f) (j.mono f.ff) i
def ZB{g:Int->Int->Int}{y:Int}(m:Qr K ta Z (.int x))(h:Qr K tb Z (.int y)):Qr K (tOp (rI0 λi j=>.int<|g i j) ta tb) Z (.int<|g x y):=λU F O H Q S q=>
 YC m h S λn J u v e f c=>by cases f;cases c;exact#[x,y,rfl,rfl,q n J _ e<|.int _]
def V8{g:Int->Int->Bool}{y:Int}(m:Qr K ta Z (.int x))(h:Qr K tb Z (.int y)):Qr K (tOp (rI0 λi j=>.bl<|g i j) ta tb) Z (.bool<|g x y):=λU F O H Q S q=>
 YC m h S λn J u v e f c=>by cases f;cases c;exact#[x,y,rfl,rfl,q n J _ e<|.bl _]
def Vo{C:Int->Int->Prop}{g:Int->Int->Int}{y:Int}(n:Qr K ta Z (.int x))(m:Qr K tb Z (.int y))(h:C x y):Qr K (tOp (rI C λi j=>.int<|g i j) ta tb) Z (.int<|g x y):=λU F O H Q S q=>
 YC n m S λs J u v e f c=>by cases f;cases c;exact#[x,y,rfl,rfl,h,q s J _ e<|.int _]
def Z0m{g:Int->Int}(h:Qr K ta Z (.int x)):Qr K (tUn (rU λi=>.int<|g i) ta) Z (.int<|g x):=λU F O H Q S q=>
 h U F O H _ S λj D v c f=>by cases f;exact#[x,rfl,q j D _ c<|.int _]
noncomputable def Vf:PyData->Option V
 |.none=>some .non
 |.bool b=>some (.bl b)
 |.int i=>some (.int i)
 |.str x=>some (.str x)
 |_=>Option.none
def Rep.flat(r:Rep H x d)(e:Vf d=some v):x=v:=by
 cases r<;>simp[Vf]at e<;>exact e
def Tz{b:PyData}{w:V}(h:Qr K ta Z a)(g:Qr K tb Z b)(e1:Vf a=some v)(i:Vf b=some w)(hs:∀(H:Hp) (Q:VK),Q (.bl<|decide (v=w)) H->rEq v w H Q):
 Qr K (tOp rEq ta tb) Z (.bool<|decide (v=w)):=λU F O H Q S q=>
 YC h g S λj J x y e f c=>by rw[f.flat e1,c.flat i];exact hs _ _ (q j J _ e<|.bl _)
def Tm{b:PyData}{w:V}(h:Qr K ta Z a)(g:Qr K tb Z b)(e1:Vf a=some v)(i:Vf b=some w)(hs:∀(H:Hp) (Q:VK),Q (.bl<|!decide (v=w)) H->rNe v w H Q):
 Qr K (tOp rNe ta tb) Z (.bool<|!decide (v=w)):=λU F O H Q S q=>
 YC h g S λj J x y e f c=>by rw[f.flat e1,c.flat i];exact hs _ _ (q j J _ e<|.bl _)
def Fg{y:Int}:decide (V.int x=V.int y)=decide (x=y):=by
 simp_all
def WS{y:Int}(f:Qr K ta Z (.int x))(c:Qr K tb Z (.int y)):Qr K (tOp rEq ta tb) Z (.bool<|decide (x=y)):=by
 exact Fg▸(Tz f c rfl rfl λH Q q=>#[rfl,q])
def P0{y:Int}(f:Qr K ta Z (.int x))(c:Qr K tb Z (.int y)):Qr K (tOp rNe ta tb) Z (.bool<|!decide (x=y)):=by
 exact Fg▸(Tm f c rfl rfl λH Q q=>#[rfl,q])
def MR{b:PyData}(h:Qr K ta Z a)(g:Qr K tb Z b)(j:Yl a)(i:Yl b):Qr K (tOp Ht ta tb) Z (.bool<|PyData.eqv a b):=λU F O H Q S q=>
 YC h g S λm J x y e f c=>#[a,b,f.mono e.fh,c.mono e.fh,j,i,q m J _ e<|.bl _]
def Bp{b:PyData}(h:Qr K ta Z a)(g:Qr K tb Z b)(j:Yl a)(i:Yl b):Qr K (tOp HG ta tb) Z (.bool<|!PyData.eqv a b):=λU F O H Q S q=>
 YC h g S λm J x y e f c=>#[a,b,f.mono e.fh,c.mono e.fh,j,i,q m J _ e<|.bl _]
def Kd:PyData->Bool
 |.none=>true
 |_=>false
def Rep.isNon(r:Rep H x d):decide (x=.non)=Kd d:=by cases r<;>rfl
def P5(g:Qr K ta Z a):Qr K (SW ta) Z (.bool<|Kd a):=λU F O H Q S q=>
 g U F O H _ S λh D v c f=>by rw[f.isNon];exact q h D _ c (.bl _)
def Dl(g:Qr K ta Z a):Qr K (HJ ta) Z (.bool<|!Kd a):=λU F O H Q S q=>
 g U F O H _ S λh D v c f=>by rw[f.isNon];exact q h D _ c (.bl _)
def Zn{b:Bool}(h:Qr K ta Z (.bool b)):QM K (WC ta) Z b:=λU F O H Q S q=>h U F O H _ S λg D v c f=>by cases f;exact#[b,rfl,q g D c]
def Z3{b:Bool}(h:Qr K ta Z (.bool b)):QM K (tB ta) Z b:=λU F O H Q S q=>h U F O H _ S λg D v c f=>by cases f;exact#[b,rfl,q g D c]
def Po:QM K Ga Z true:=λU F O H Q S q=>q F H (Q3.refl S.sub)
def Br{b c:Bool}(L:QM K tA Z b)(i:b=true->QM K tB' Z c):QM K (HB tA tB') Z (b&&c):=λU F O H Q S q=>L U F O H _ S λg D f=>by
 cases b with
 |true=>rw[Xh rfl];exact i rfl U g O D Q (S.ext f) λm j h=>by simpa using q m j (f.trans h)
 |false=>rw[Xe Xy];simpa using q g D f
def Wd{b c:Bool}(L:QM K tA Z b)(i:b=false->QM K tB' Z c):QM K (tOr tA tB') Z (b||c):=λU F O H Q S q=>L U F O H _ S λg D f=>by
 cases b with
 |false=>rw[Xe Xy];exact i rfl U g O D Q (S.ext f) λm j h=>by simpa using q m j (f.trans h)
 |true=>rw[Xh rfl];simpa using q g D f
def Vg{b:Bool}(L:QM K tA Z b):QM K (SZ tA) Z (!b):=λU F O H Q S q=>L U F O H _ S λf D c=>q f D c
def VE{b c:Bool}(L:Qr K ta Z (.bool b))(m:b=true->Qr K tb Z (.bool c)):Qr K (Pq ta tb) Z (.bool<|b&&c):=λU F O H Q S q=>L U F O H _ S λg D v f j=>by
 cases j;refine#[b,rfl,?_];cases b with
 |true=>rw[Xh rfl];exact m rfl U g O D Q (S.ext f) λs n v h i=>by simpa using q s n v (f.trans h) (by simpa using i)
 |false=>rw[Xe Xy];exact q g D _ f (.bl _)
def ME{c:Bool}(L:Qr K ta Z (.bool b))(m:b=false->Qr K tb Z (.bool c)):Qr K (Aj ta tb) Z (.bool<|b||c):=λU F O H Q S q=>L U F O H _ S λg D v f j=>by
 cases j;refine#[b,rfl,?_];cases b with
 |false=>rw[Xe Xy];exact m rfl U g O D Q (S.ext f) λs n v h i=>by simpa using q s n v (f.trans h) (by simpa using i)
 |true=>rw[Xh rfl];exact q g D _ f (.bl _)
def HZ{b:Bool}(L:Qr K ta Z (.bool b)):Qr K (Px ta) Z (.bool<|!b):=λU F O H Q S q=>L U F O H _ S λg D v c f=>by cases f;exact#[b,rfl,q g D _ c<|.bl _]
def Uk{g g':Int->Int->Bool}{x y z:Int}(P:Qr K ta Z (.int x))(M:Qr K tb Z (.int y))(C:Qr K tc Z (.int z)):
 Qr K (Kf (rI0 λi j=>.bl<|g i j) (rI0 λi j=>.bl<|g' i j) ta tb tc) Z (.bool<|g x y&&g' y z):=λU F O H Q S q=>
 P U F O H _ S λY D v c B=>M U Y O D _ (S.ext c) λm h w f A=>by
  cases B;cases A;refine#[x,y,rfl,rfl,g x y,rfl,?_];cases e:g x y with
  |true=>rw[Xh rfl];exact C U m O h _ (S.ext<|c.trans f) λX W u n s=>by cases s;exact#[y,z,rfl,rfl,by simpa [e] using q X W _ ((c.trans f).trans n)<|by rw[e];exact .bl _]
  |false=>rw[Xe Xy];simpa [e] using q m h _ (c.trans f) (by rw[e];exact .bl _)
def Au(L:QM K tA Z b)(n:b=true->Qr K ta Z d)(m:b=false->Qr K tb Z d):Qr K (tIf tA ta tb) Z d:=λU F O H Q S q=>L U F O H _ S λj D c=>by
 cases b with
 |true=>rw[Xh rfl];exact n rfl U j O D Q (S.ext c) λi h v f g=>q i h v (c.trans f) g
 |false=>rw[Xe Xy];exact m rfl U j O D Q (S.ext c) λi h v f g=>q i h v (c.trans f) g
def Q1:Zm K QL Z []:=λU F O H Q S q=>q F H [] (Q3.refl S.sub) .nil
def Qu(L:Qr K ta Z d)(i:Zm K t Z ts):Zm K (Q4 ta t) Z (.fz d::ts):=λU F O H Q S q=>
 L U F O H _ S λn D v f h=>i U n O D _ (S.ext f) λm j s c g=>q m j _ (f.trans c) (.fz (h.mono c.ff) g)
def P4(e:Z[i]?=some (some<|.scr ns))(g:Zm K t Z ts):Zm K (Q4 (Q8 i) t) Z (.scr ns::ts):=λU F O H Q S q=>by
 apply At S.fp;intro A h _;apply aR (h i _ e);rintro v m _ a⟨rfl,j⟩;exact#[_,m,g U F O H _ S λs n y c f=>q s n _ c<|.scr (j.mono c.ff) f]
def G3(e:zg Z i<|zz Ψ)(g:Zm K t Z ts):Zm K (Q4 (Q8 i) t) Z (.zow Ψ::ts):=λU F O H Q S q=>by
 exact At S.fp λA h _=>L3 (h i _ e) λv m _ j=>#[_,m,g U F O H _ S λs n y c f=>q s n _ c<|.zow (Ψ.mono c.ff j) f]
def fzs(ds:Qd):List OT:=ds.map OT.fz
theorem Args.reps{F:Hp}:∀{vs:List V} {ds:Qd},Args K F vs (fzs ds)->Qx F vs ds
 |_,[],.nil=>.nil
 |_,_::_,.fz r t=>.cons r (Args.reps t)
def YM(h:Zm K t Z (fzs ds))(j:ds.length<=1000):Qr K (UW t) Z (.tuple ds):=λU F O H Q S q=>
 h U F O H _ S λn D m c g=>#[by rw[g.reps.length];exact YV<|V9 j,λp i=>by
  have f:=c.fh;exact q _ _ _ (c.trans<|Q3.new f i)<|.tup QI<|g.reps.mono<|Q6.new<|f.free i]
def UK(x:Q3 F0 U F H)(c:H p=none)(r:Qx F xs ds):Q3 F0 U F (upd H p<|.lst xs)/\(∀a∈[p],U a=none)/\Zx K F (upd H p<|.lst xs) (.ref p) (.ol ds) [p]:=
 #[x.trans<|Q3.own x.fh c,λa f=>by
  have e:=by simpa using f
  subst e;exact x.hh.free c,p,rfl,rfl,x.fh.free c,xs,QI,r]
def Vh(h:Zm K t Z (fzs ds))(j:ds.length<=1000):EvO K (Y8 t) Z (.ol ds):=λU F O H Q S q=>
 h U F O H _ S λn D m g f=>#[by rw[f.reps.length];exact YV<|V9 j,λp i=>by
  exact KE (UK g i f.reps) λa b c=>q _ _ _ _ a b c]
def Jc(r:Rep F x (.list ds))(s:Q6 F H):∃a xs,x=.ref a/\SqL K H a xs/\Qx F xs ds/\H a=some (.lst xs):=by
 cases r with
 |lst c f=>exact#[_,_,rfl,SqL.of<|s _ _ c,f,s _ _ c]
def BS(r:Rep F x (.tuple ds))(s:Q6 F H):∃a xs,x=.ref a/\SqT K H a xs/\Qx F xs ds/\H a=some (.tup xs):=by
 cases r with
 |tup c f=>exact#[_,_,rfl,SqT.of<|s _ _ c,f,s _ _ c]
def GB{i:Int}(r:Qx F xs ds)(e:atI ds i=some d):∃z,atI xs i=some z/\Rep F z d:=by
 refine At (T7 e) λj h g=>At (r.get h) λz f c=>#[z,?_,c];unfold atI;rw[r.length,g];exact f
def Z2{i:Int}(n:Qr K ta Z (.list ds))(m:Qr K tb Z (.int i))(e:atI ds i=some d):Qr K (tOp (rIx K) ta tb) Z d:=λU F O H Q S q=>
 YC n m S λA J x y c j h=>by
  apply aB (Jc (K:=K) j c.fh);rintro a xs rfl L s _;apply At (GB s e);intro z g f;cases h;exact .inl #[a,xs,i,z,rfl,rfl,L,g,q A J z c f]
def Vt{i:Int}(n:Qr K ta Z (.tuple ds))(m:Qr K tb Z (.int i))(e:atI ds i=some d):Qr K (tOp (rIx K) ta tb) Z d:=λU F O H Q S q=>
 YC n m S λA J x y c j h=>by
  apply aB (BS (K:=K) j c.fh);rintro a xs rfl L s _;apply At (GB s e);intro z g f;cases h;exact .inr (.inl #[a,xs,i,z,rfl,rfl,L,g,q A J z c f])
def Gz(e0:Z[i]?=some (some<|.ol ds))(n:Qr K tb Z (.int k))(e:atI ds k=some d):Qr K (tOp (rIx K) (Q8 i) tb) Z d:=λU F O H Q S q=>by
 apply At S.fp;intro M h _;apply aM (h i _ e0);rintro v B a⟨rfl,_,m⟩;refine#[_,B,n U F O H _ S λC D y c j=>Do (m.ext c) λP xs A s=>At (GB s e) λz g f=>?_];cases j;exact .inl #[a,xs,k,z,rfl,rfl,SqL.of A,g,q C D z c f]
def A4{n:Int}(e0:Z[i]?=some (some<|.scr ns))(s:Qr K tb Z (.int k))(e:atI ns k=some n):Qr K (tOp (rIx K) (Q8 i) tb) Z (.int n):=λU F O H Q S q=>by
 apply At S.fp;intro P h _;apply aR (h i _ e0);rintro v A _ a⟨rfl,g⟩;refine#[_,A,s U F O H _ S λB D y c m=>?_];cases m;apply At (T7 e);intro j M C;have f:atI (ns.map V.int) k=some (.int n):=by
  unfold atI;simp_all
 exact .inl #[a,_,k,_,rfl,rfl,(c.ff.trans c.fh).seq g.sq,f,q B D _ c<|.int n]
def QC(R:List OT->OT->Prop):Sp:=λg H Q _=>∃F c r,KTs K F/\Q6 F H/\Args K F g c/\R c r/\∀f J v p,Q3 F H f J->(∀a∈p,H a=none)->Zx K f J v r p->Q v J
def BC(h:Zm K t Z ts)(n:R ts r):EvO K (ZO (QC (K:=K) R) [] dx t) Z r:=λU F O H Q S q=>
 h U F O H _ S λA D B c g=>by
  refine#[A,ts,r,(S.ext c).kt,c.fh,by rw[Xr];exact g,n,λy s v p f j i=>q y s v p (c.trans f) (λa m=>c.hh.free<|j a m) i]
def QN(h:Zm K t Z ts)(c:R ts (.fz d)):Qr K (ZO (QC (K:=K) R) [] dx t) Z d:=(BC h c).e
def AS(h:Zm K t Z ts)(c:R ts (.ol ds)):Qr K (ZO (QC (K:=K) R) [] dx t) Z (.list ds):=(BC h c).fz
end
def LF{ts:List OT}(G:Nat->Qg)(m:KTs K F)(g:Q6 F H)(c:vs.length=ts.length)(h:∀i t,ts[i]?=some t->∃v,vs[i]?=some v/\Zx K F H v t (G i))(A:∀i j b,b∈G i->b∈G j->i=j)(n:∀i b,b∈G i->U b=none/\H b≠none):
 QF K U F (ts.map some++List.replicate (N.length-ts.length) none) (start N vs) H:=by
 refine#[m,g,by unfold start;simp[c],G,λi f e=>?_,A,n]
 by_cases z:i<ts.length
 .rw[GU<|by simpa using z]at e;refine At (h i f (by cases y:ts[i]?<;>simp[y]at e ⊢;exact e)) λv s q=>#[v,?_,q];unfold start;rw[GU<|by simpa [c] using z,Xv,s];rfl
 .rw[Mr<|by simpa using z]at e;have:=List.mem_of_getElem? e;simp at this
def Md(g:KTs K F)(f:Q6 F H)(c:Args K F vs ts):QF K H F (zr N ts) (start N vs) H:=
 LF _ g f c.length (λi t e=>c.get i t e) (λi j a h=>(nomatch h)) λi a h=>(nomatch h)
noncomputable abbrev ini(N:Qh)(ts:List OT):ZbI:=ts.map some++List.replicate (N.length-ts.length) none
def Df.ev{w:World}{base:Heap}{x:Str}{st:Stmt}{N:Qh}{k:Nat}{R:List OT->OT->Prop}(o:Df K mg x st ps)(S:Qo N ps (QD st))
(y:∀f ts r,R ts r->∀H c,B0 P w K mg base N x st k f H c λt=>QJ K t (ini N ts) { nx:=λ_=>r=.fz .none,rt:=λM=>M=r })(i:∀ts r,R ts r->ts.length=ps.length:=by intro _ _ h;cases h<;>rfl):Q2 P w K mg base x ps (k+1) (QC (K:=K) R):=by
 refine o.go λf fd F=>F.ok S (by rintro X H Q c ⟨F,ts,r,_,_,j,m,_⟩;exact j.length.trans<|i ts r m) ?_;rintro X H Q c ⟨F,ts,r,a,C,j,m,q⟩ n A outer s b;refine At (y f ts r m H c n A outer s b) λt L l=>#[t,L,l F H F _ H _ (Q3.refl C) (Md a C j) #[λB U J W g _ e=>?_,λB J v M p g d Y e=>?_,λ_ _ _ _ _ _ z=>False.elim z,λ_ _ _ _ _ _ z=>False.elim z]]
 .subst e;exact q B J _ [] g (by rintro _ ⟨⟩) #[rfl,.non]
 .subst e;exact q B J v p g d Y
end L2
variable {Z:L2.ZbI}{H1:L2.PEnds}{ts:List L2.OT}{Θ:Int->L2.OT->Prop}
namespace L2
theorem CN:∀{as bs:Qg},as.map V.ref=bs.map V.ref->as=bs
 |[],[],_=>rfl
 |[],_::_,h=>by simp at h
 |_::_,[],h=>by simp at h
 |a::as,b::bs,h=>by
  simp only[Xw,List.cons.injEq]at h;obtain⟨L,c⟩:=h;injection L with L;rw[L,CN c]
section
variable {tb:TE}{t u:TS}
def Zf(h:H1.nx Z):QJ K Gk Z H1:=λF0 U F O H c x S C=>C.nx F O H Z x S h
def QB(h:QJ K t Z { H1 with nx:=λc=>QJ K u c H1 }):QJ K (V6 t u) Z H1:=λF0 U F O H g x S C=>
 h F0 U F O H { g with nx:=u g } x S #[λm f J c i j q=>q F0 U m f J g i j C,C.rt,C.bk,C.ct]
def JU(f:Fgt Z ρ')(h:QJ K t ρ' H1):QJ K t Z H1:=λF0 U F O H c x S C=>h F0 U F O H c x (S.fgt f) C
def We(i:Nat)(e:Z[i]?=some (some<|.ol ds))(h:QJ K t (Z.set i<|zf<|.list ds) H1):QJ K t Z H1:=λF0 U F O H j x S C=>by
 exact aP (S.freeze e) λa xs g f c _ _ m=>h F0 U _ O H j (x.freeze g f c) m C
def JR(h:EvO K te Z r)(g:H1.rt r):QJ K (VN te) Z H1:=λF0 U F O H n x S C=>
 h U F O H _ S λm J v p c i f=>C.rt m J v r p (x.trans c) (λa j=>x.hh.free<|i a j) f g
def Zj(h:Qr K te Z d)(c:H1.rt (.fz d)):QJ K (VN te) Z H1:=JR h.o c
def UJ(e:Z[i]?=some (some<|.ol ds))(f:H1.rt (.ol ds)):QJ K (VN<|Q8 i) Z H1:=λF0 U F O H q x S C=>by
 exact L3 S.fp λn h _ j=>At (h i _ e) λv m c=>#[v,m,C.rt F H v _ _ x (λa g=>(j i a g).1) c f]
def Zb{b:Bool}(h:QM K tA Z b)(L:b=true->QJ K t Z H1)(i:b=false->QJ K u Z H1):QJ K (Jj tA t u) Z H1:=λF0 U F O H f x S C=>
 h U F O H _ S λg J c=>by
  cases b with
  |true=>rw[Xh rfl];exact L rfl F0 U g O J f (x.trans c) (S.ext c) C
  |false=>rw[Xe Xy];exact i rfl F0 U g O J f (x.trans c) (S.ext c) C
def Vi(h:EvO K te Z r)(hn:H1.nx (Z.set i<|some r)):QJ K (ZN te<|Vs i) Z H1:=λF0 U F O H dx x S C=>
 h U F O H _ S λF' J v p n P D=>by
  refine C.nx F' _ J _ (x.trans n) ((S.ext n).set D (λa s=>x.hh.free<|P a s) (hn:=λa s j w M q T R c=>L3 S.fp λL I g2 G=>At (I j M T) λw' W N=>?_)) hn;intro E;have t:=N.ext n;rw[R]at W;cases W;have g:∀b∈q,b∈L j:=by
   cases M with
   |fz d=>rw[c.1];intro b f;cases f
   |zow Ψ=>rw[c.1];intro b f;cases f
   |ol ds=>
    refine L3 c λb1 A k e=>L3 t λb2 m o l=>?_
    grind
   |oll SF=>
    refine aP c λb1 y A k e z4 Y z6=>aP t λb2 u m o l y4 B y6=>?_;rw[A]at m;cases m;rw[Y]at B;have Q:y.map V.ref=u.map V.ref:=by injection B with z;injection z
    have e6:=CN Q
    grind
   |scr ns=>rw[c.1];intro b f;cases f
   |own v0 X=>exact λb f=>X.uniq t.2 c.2 b f
  exact(G j a<|g a E).2 (P a s)
def Z6(h:Qr K te Z d)(hn:H1.nx (Z.set i<|zf d)):QJ K (ZN te<|Vs i) Z H1:=Vi h.o hn
def Zg : GTo K (Vs i) d Z (Z.set i<|zf d):=λU F O H x Q S r q=>q _ (S.setF r)
def WT:Bd K HH [] Z Z:=λU F O H xs Q S r q=>by cases r;exact#[rfl,q _ S]
def Vv{g:TG}(L:GTo K g d Z ρ1)(i:Bd K gs ds ρ1 ρ2):Bd K (HK g gs) (d::ds) Z ρ2:=λU F O H xs Q S r q=>by
 cases r with
 |cons h f=>exact#[_,_,rfl,L U F O H _ _ S h λc j=>i U F c H _ _ j f q]
def WA(h:Bd K gs ds Z ρ1)(hn:ds.length=n):GTo K (Hy K n gs) (.tuple ds) Z ρ1:=λU F O H x Q S r q=>by
 apply aB (BS (K:=K) r S.sub);rintro a xs rfl L c _;exact#[a,xs,rfl,L,by rw[c.length,hn],h U F O H xs Q S c q]
def HY{g:TG}(h:Qr K te Z d)(hg:GTo K g d Z ρ')(hn:H1.nx ρ'):QJ K (ZN te g) Z H1:=λF0 U F O H m x S C=>
 h U F O H _ S λi J v f r=>hg U i O J v _ (S.ext f) r λc j=>C.nx i c J ρ' (x.trans f) j hn
def Q3.wr(x:Q3 F0 U F H)(h0:U a=none)(c:F a=none):Q3 F0 U F (upd H a o):=
 #[x.hh.upd h0,x.ff,x.fh.upd c,x.fr]
def Wx(e:Z[i]?=some (some<|.ol ds))(h:Qr K te Z d)(B:ds.length<1000)(hn:H1.nx (Z.set i<|some<|.ol<|ds++[d])):
 QJ K (V2<|tBM K "list" Yr (Q8 i)<|Q4 te QL) Z H1:=λF0 U F O H P x S C=>by
 refine aB (S.write e) λa xs m y M _=>#[_,m,.inl #[rfl,_,SqL.of y],h U F O H _ S λA D v f n=>?_];apply aP ((S.ext f).write e);intro W c j u g t s q;rw[m]at j;cases j;exact#[a,c,v,rfl,rfl,u,by rw[g.length];exact V9<|#[],C.nx A O _ _ ((x.trans f).wr t s) (q _ _<|g.snoc n) hn]
def Dv(e:Z[i]?=some (some<|.ol ds))(h:Qr K te Z d)(A:Qr K tb Z (.int k))(u:ixN ds.length k=some j)(hn:H1.nx (Z.set i<|some<|.ol<|ds.set j d)):
 QJ K (ZN te<|Hx (Q8 i) tb Gr) Z H1:=λF0 U F O H o x S C=>
 h U F O H _ S λY D v c t=>by
  refine aB ((S.ext c).write e) λa xs q l b _=>#[_,q,A U Y O D _ (S.ext c) λX r y g s=>?_];apply aP ((S.ext<|c.trans g).write e);intro p f n W m P M B;rw[q]at n;cases n;cases s;exact#[a,f,k,j,rfl,rfl,W,by rw[m.length];exact u,C.nx X O _ _ ((x.trans<|c.trans g).wr P M) (B _ _<|m.set (t.mono g.ff) j) hn]
def Ld{f:Int->Int->Int}{m n:Int}(e:Z[i]?=some (some<|.ol ds))(b:Qr K tb Z (.int k))(h0:0<=k)(t:ds[k.toNat]?=some (.int m))(h:Qr K te Z (.int n))
(hn:H1.nx (Z.set i<|some<|.ol<|ds.set k.toNat<|.int<|f m n)):QJ K (MO (Q8 i) tb te (MM K) (ipI f) Gr) Z H1:=λF0 U F O H L x S C=>by
 refine aB (S.write e) λa xs q J I _=>#[_,q,b U F O H _ S λG D y c X=>?_];cases X;apply aB ((S.ext c).write e);intro Q j B v r _;rw[q]at B;cases B;refine At (r.get t) λz P M=>#[a,j,k,z,rfl,rfl,SqL.of v,h0,P,h U G O D _ (S.ext c) λE R w s W=>?_];cases W;cases M;refine#[m,n,rfl,rfl,?_];apply aP ((S.ext<|c.trans s).write e);intro N g A p u o l d;rw[q]at A;cases A;have Y:=(Xi.mp t).1;refine#[a,g,k,k.toNat,rfl,rfl,p,?_,?_]
 .rw[u.length];unfold ixN;rw[Xh h0,Xh<|#[]]
 .exact C.nx E O _ _ ((x.trans<|c.trans s).wr o l) (d _ _<|u.set (.int _) _) hn
def Q3.base(x:Q3 F0 U F H):Q3 F U F H:=#[x.hh,Q6.refl _,x.fh,λ_ h=>.inl h]
def Q3.rebase(x:Q3 F0 U F H)(y:Q3 F U F' J):Q3 F0 U F' J:=
 #[y.hh,x.ff.trans y.ff,y.fh,λa h=>(y.fr a h).elim (λz=>x.fr a z) .inr]
def VF{g:TG}(P:Nat->ZbI->Prop)(hi:EvI K wi Z ds)(h0:P 0 Z)
(hs:∀(i:Nat) (d:PyData) (c:ZbI),ds[i]?=some d->P i c->∃f,GTo K g d c f/\QJ K tbd f { nx:=P (i+1),ct:=P (i+1),bk:=H1.nx,rt:=H1.rt })(hd:∀c,P ds.length c->H1.nx c):QJ K (Gi wi g tbd) Z H1:=λF0 U F O H dx x S C=>
 hi U F O H _ S λz D H' E W=>by
  refine#[λi m O H=>m=ds.length-i/\i<=ds.length/\∃F c,Q3 F0 U F H/\Q6 z F/\QF K U F c O H/\P i c,#[ds.length,by simp,XH _,z,Z,x.trans E,Q6.refl _,S.ext E,h0],?_];rintro i m A J ⟨rfl,hle,L,c,G,I,k,p⟩;obtain⟨R,Q⟩:=W L J I k.sub
  by_cases M:i<ds.length
  .have e:ds[i]?=some ds[i]:=by simp[M]
   obtain⟨go,N⟩:=Q i _ e;refine .inr #[go,λn o=>∃w f,Q3 F0 U w o/\Q6 z w/\QF K U w f n o/\P _ f,λn o q=>#[ds.length-_,#[],rfl,M,q],λv l y=>At (N v l y) λr Y r3=>At (hs i _ c e p) λf hg hb=>hg U r A l v _ (k.ext Y) r3 λn S2=>?_];have j:=G.trans Y;have B:=I.trans Y.ff
   exact hb r U r n l _ j.base S2 #[λu t X h s b a=>#[u,h,j.rebase s,B.trans s.ff,b,a],λu X T r4 p4 s=>C.rt u X T r4 p4<|j.rebase s,
    λu t X h s=>C.nx u t X h<|j.rebase s,λu t X h s b a=>#[u,h,j.rebase s,B.trans s.ff,b,a]]
  .have e:i=ds.length:=#[]
   subst e;exact .inl #[R,C.nx L A J c G k<|hd c p]
def Ud{g:TG}(R:Nat->ZbI)(j:EvI K wi Z ds)(h0:Fgt Z (R 0))
(hs:∀(i:Nat) (d:PyData),ds[i]?=some d->∃h,GTo K g d (R i) h/\QJ K tbd h { nx:=λc=>Fgt c<|R<|i+1,ct:=λc=>Fgt c<|R<|i+1,bk:=H1.nx,rt:=H1.rt })(m:∀c,Fgt c (R ds.length)->H1.nx c):QJ K (Gi wi g tbd) Z H1:=by
 exact VF (λi c=>Fgt c<|R i) j h0 (λi d c e f=>At (hs i d e) λh L n=>#[h,λU F O H x Q S r q=>L U F O H x Q (S.fgt f) r q,n]) m
def N0{c:TT}(P:Nat->ZbI->Prop)(M:Nat)(h0:P M Z)
(hs:∀(m:Nat) (f:ZbI),P m f->∃b,QM K c f b/\(b=true->QJ K tbd f { nx:=λg=>∃i,i<m/\P i g,ct:=λg=>∃i,i<m/\P i g,bk:=H1.nx,rt:=H1.rt })/\(b=false->H1.nx f)):QJ K (T9 c tbd) Z H1:=λF0 U F O H E x S C=>by
 refine#[λm O H=>∃F f,Q3 F0 U F H/\QF K U F f O H/\P m f,#[M,F,Z,x,S,h0],?_];rintro m q J ⟨z,f,k,a,p⟩;refine L3 (hs m f p) λb L v r=>L U z q J _ a λd D B=>?_;have X:=k.trans B;have Y:=a.ext B
 cases b with
 |false=>rw[Xe Xy];exact C.nx d q D f X Y (r rfl)
 |true=>
  exact#[λs A=>∃i,i<m/\∃u g,Q3 F0 U u A/\QF K U u g s A/\P i g,λs A h=>h,v rfl F0 U d q D _ X Y #[λy n t j e w ⟨i,o,l⟩=>#[i,o,y,j,e,w,l],C.rt,C.nx,λy n t j e w ⟨i,o,l⟩=>#[i,o,y,j,e,w,l]]]
def Yi(h:Qr K ta Z (.list ds)):EvI K (P3 K ta) Z ds:=λU F O H R S q=>
 h U F O H _ S λA D v c s=>by
  apply aB (Jc (K:=K) s c.fh);rintro a xs rfl L t Y;have M:A a=some (.lst xs):=by
   cases s with
   |lst C X=>
    have:=c.fh _ _ C
    grind
  refine#[a,rfl,#[xs,L],q A D _ c λW P n m=>?_];have g:SqL K P a xs:=SqL.of (m _ _<|n _ _ M);refine#[#[xs,g,by rw[t.length];exact Xm _],λi d e=>At (t.get e) λz j B=>#[#[xs,z,g,j],λy b f=>?_]];obtain⟨rfl,f⟩:=f;have u:=f xs g;rw[j]at u;cases u;exact#[W,Q3.refl m,B.mono n]
def Gy(h:Qr K ta Z (.tuple ds)):EvI K (S9 K ta) Z ds:=λU F O H R S q=>
 h U F O H _ S λA D v c s=>by
  apply aB (BS (K:=K) s c.fh);rintro a xs rfl L t Y;have M:A a=some (.tup xs):=by
   cases s with
   |tup C X=>
    have:=c.fh _ _ C
    grind
  refine#[a,rfl,#[xs,L],q A D _ c λW P n m=>?_];have g:SqT K P a xs:=SqT.of (m _ _<|n _ _ M);refine#[#[xs,g,by rw[t.length];exact Xm _],λi d e=>At (t.get e) λz j B=>#[#[xs,z,g,j],λy b f=>?_]];obtain⟨rfl,f⟩:=f;have u:=f xs g;rw[j]at u;cases u;exact#[W,Q3.refl m,B.mono n]
def ZM(lo:Int)(n:Nat):Qd:=(List.range n).map λ(i:Nat)=>PyData.int (lo+(i:Int))
def Yq{lo:Int}(e:(ZM lo n)[i]?=some d):i<n/\d=.int (lo+(i:Int)):=by
 unfold ZM at e;rw[Xv]at e;by_cases h:i<n
 .simp[h]at e;exact#[h,e.symm]
 .simp[h]at e
def Wh{lo:Int}:(ZM lo n).length=n:=by simp[ZM]
def Cm{lo:Int}:Te F (Itr lo n) (ZM lo n):=λg m h c=>by
 refine#[by show n<=_;rw[Wh];exact Xm _,λi d e=>?_];obtain⟨L,rfl⟩:=Yq e;refine#[L,λx j f=>?_];obtain⟨rfl,rfl⟩:=f;exact#[g,Q3.refl c,.int _]
def VS{t:TA}{n:Int}(h:Zm K t Z [.fz<|.int n])(L : -(2^62)<=n)(g:n<2^62):EvI K (Bo t) Z (ZM 0 n.toNat):=λU F O H R S q=>
 h U F O H _ S λi D j f c=>by
  cases c with
  |fz r c=>cases c;cases r;exact#[n,rfl,L,g,q i D _ f Cm]
def KU{t:TA}{m n:Int}(h:Zm K t Z [.fz<|.int m,.fz<|.int n])(L : -(2^62)<=m/\m<2^62 /\ -(2^62)<=n/\n<2^62):EvI K (Py t) Z (ZM m (n-m).toNat):=λU F O H R S q=>
 h U F O H _ S λi D j f c=>by
  cases c with
  |fz r c=>
   cases c with
   |fz g c=>cases c;cases r;cases g;exact#[m,n,rfl,L,q i D _ f Cm]
def Jh(c:Int)(n:Nat):Qd:=(List.range n).map λ(i:Nat)=>PyData.int (c-(i:Int))
def Nf(e:(Jh hi n)[i]?=some d):i<n/\d=.int (hi-(i:Int)):=by
 unfold Jh at e;rw[Xv]at e;by_cases h:i<n
 .simp[h]at e;exact#[h,e.symm]
 .simp[h]at e
def Ng : (Jh hi n).length=n:=by simp[Jh]
def AO{t:TA}{m n:Int}(h:Zm K t Z [.fz<|.int m,.fz<|.int n,.fz<|.int (-1)])(L : -(2^62)<=m/\m<2^62 /\ -(2^62)<=n/\n<2^62):EvI K (P7 t) Z (Jh m (m-n).toNat):=λU F O H R S q=>
 h U F O H _ S λA D B f c=>by
  cases c with
  |fz r c=>
   cases c with
   |fz s c=>
    cases c with
    |fz j c=>
     cases c;cases r;cases s;cases j;refine#[m,n,rfl,L,q A D _ f λy P C g=>#[by show _<=_;rw[Ng];exact Xm _,λi d e=>?_]];obtain⟨L,rfl⟩:=Nf e;refine#[L,λx M u=>?_];obtain⟨rfl,rfl⟩:=u;exact#[y,Q3.refl g,.int _]
noncomputable def WL:Option OT->Option OT
 |some (.fz d)=>some (.fz d)
 |some (.scr f)=>some (.scr f)
 |some (.zow c)=>some (.zow c)
 |_=>none
def JO(f:List (Option Nat))(Z:ZbI):ZbI:=f.map λo=>match o with|some i=>WL (Z[i]?).join|none=>none
def QF.inner(f:List (Option Nat))(S:QF K U F Z O H):QF K U F (JO f Z) (YK f O) H:=by
 obtain⟨q,L,M,P,s,C,B⟩:=S;refine#[q,L,by simp[JO,YK],λ_=>[],λi t e=>?_,λi j a h=>(nomatch h),λi a h=>(nomatch h)];unfold JO at e;rw[Xv]at e;cases z:f[i]? with
 |none=>rw[z]at e;simp at e
 |some o=>
  rw[z]at e;simp only[YX,Option.some.injEq]at e;cases o with
  |none=>cases e
  |some k=>
   simp only at e;have n:Z[k]?=some (some t)/\((∃d,t=.fz d)\/(∃g,t=.scr g)\/∃c,t=.zow c):=by
    cases y:Z[k]? with
    |none=>rw[y]at e;simp[WL]at e
    |some w=>
     rw[y]at e;simp only[Option.join_some]at e;cases w with
     |none=>simp[WL]at e
     |some w=>
      cases w with
      |fz d=>simp[WL]at e;subst e;exact#[rfl,.inl #[_,rfl]]
      |scr g=>simp[WL]at e;subst e;exact#[rfl,.inr<|.inl #[_,rfl]]
      |zow c=>simp[WL]at e;subst e;exact#[rfl,.inr<|.inr #[_,rfl]]
      |ol ds=>simp[WL]at e
      |oll ds=>simp[WL]at e
      |own A u=>simp[WL]at e
   refine At (s k t n.1) λv W m=>#[v,?_,?_]
   .unfold YK;simp_all
   .rcases n.2 with ⟨d,rfl⟩|⟨g,rfl⟩|⟨c,rfl⟩
    .exact#[rfl,m.2]
    .exact#[rfl,m.2]
    .exact#[rfl,m.2]
def JY{X:Type}{f:List (Option Nat)}{l:TI}{g:CIn->TG}{C:CIn->TT}{B:CIn->TE}{xs:List X}{enc h:X->PyData}{p:X->Bool}(hi:EvI K l Z (xs.map enc))(hl:xs.length<=1000)
(hs:∀x∈xs,∀c,∃n,GTo K (g c) (enc x) (JO f Z) n/\QM K (C c) n (p x)/\(p x=true->Qr K (B c) n (h x))):EvO K (tLC f l g C B) Z (.ol<|(xs.filter p).map h):=λU F O H Q S q=>
 hi U F O H _ S λG D H' Y W c=>by
  have hn:=YV (V9 hl);refine#[λi m ys H=>m=xs.length-i/\i<=xs.length/\∃P,Q3 G D P H/\Qx P ys (((xs.take i).filter p).map h),#[xs.length,by simp,XH _,G,Q3.refl Y.fh,.nil],?_];rintro i m ys J ⟨rfl,hle,P,s,M⟩;obtain⟨w1,T⟩:=W P J s.ff s.fh
  by_cases j:i<xs.length
  .have e:(xs.map enc)[i]?=some (enc xs[i]):=by simp[j]
   obtain⟨go,R⟩:=T i _ e;refine .inr #[go,λv d y=>At (R v d y) λE A r3=>L3 (hs xs[i] (X6 j) c) λn k1 k2 k3=>?_];have o:xs.take (i+1)=xs.take i++[xs[i]]:=by rw[Jf];simp[j]
   have ly2:ys.length<=i:=by
    rw[M.length,Xg];refine Xq (M4 _ _) ?_;rw[Mu];lia
   refine k1 U E _ d v _ ((S.ext<|Y.trans<|s.trans A).inner f) r3 λt r=>k2 U E t d _ r λw H4 u=>?_
   cases b:p xs[i] with
   |true=>
    refine k3 b U w t H4 _ (r.ext u) λF5 H5 z k r5=>#[#[],xs.length-(i+1),#[],rfl,j,F5,s.trans<|A.trans<|u.trans k,?_];rw[o,GZ,Xx];simp only[Hh,b,if_true,List.filter_nil];exact(M.mono (A.trans<|u.trans k).ff).snoc r5
   |false=>
    refine#[xs.length-(i+1),#[],rfl,j,w,s.trans<|A.trans u,?_];rw[o,GZ];simp only[Hh,b,List.filter_nil,List.map_nil,Xr,DZ,if_false];exact M.mono (A.trans u).ff
  .have e:i=xs.length:=#[]
   subst e;refine .inl #[by simpa using w1,λa ha=>?_];rw[W3]at M;exact KE (UK (Y.trans s) ha M) λN L I=>q _ _ _ _ N L I
def Yy{m:Type}{f:List (Option Nat)}{n:TI}{g:CIn->TG}{j:CIn->TE}{xs:List m}{enc h:m->PyData}(t:EvI K n Z (xs.map enc))(s:xs.length<=1000)
(hs:∀x∈xs,∀c,∃i,GTo K (g c) (enc x) (JO f Z) i/\Qr K (j c) i (h x)):EvO K (tLC f n g (λ_=>Ga) j) Z (.ol<|xs.map h):=by
 have:=JY t s λx q c=>by
  exact At (hs x q c) λi L u=>#[i,L,Po,λ_=>u]
 have e:xs.filter _=xs:=M0.mpr λ_ _=>rfl
 simp_all
def HV:List V->Hp->VK->Prop:=λxs H Q=>∃i j,xs=[.int i,.int j]/\Q (.int (if j > i then j else i)) H
def HW:List V->Hp->VK->Prop:=λxs H Q=>∃i j,xs=[.int i,.int j]/\Q (.int (if j<i then j else i)) H
def P2:List V->Hp->VK->Prop:=λxs H Q=>(∃i,xs=[.int i]/\Q (.int i) H)\/∃k,xs=[.bl k]/\Q (.int (if k then 1 else 0)) H
def SH:List V->Hp->VK->Prop:=λxs H Q=>∃x T c b,xs=[x,.ty c]/\TyN H x T/\U1 T c=some b/\Q (.bl b) H
def Jm(K:W.Frag):List V->Hp->VK->Prop:=λxs H Q=>∃p ys,xs=[.ref p]/\(SqL K H p ys\/SqT K H p ys)/\Q (.int ys.length) H
def Dr(K:W.Frag):List V->Hp->VK->Prop:=λxs H Q=>∃p ys,xs=[.ref p]/\(SqL K H p ys\/SqT K H p ys)/\∀l,H l=none->Q (.ref l) (upd H l<|.lst ys)
def Kp(K:W.Frag):List V->Hp->VK->Prop:=λxs H Q=>∃p ys,xs=[.ref p]/\((SqL K H p ys/\∀l,H l=none->Q (.ref l) (upd H l<|.tup ys))\/(SqT K H p ys/\Q (.ref p) H))
def SQ(X:Cx):List V->Hp->VK->Prop:=λxs H Q=>X.calm=true/\∃(x:V) (c:Ql),xs=[x]/\Rep H x (.list<|c.map PyData.int)/\Q (.int c.sum) H
def Eg(h:X.calm=true):ZF X (.builtin "max") HV:=Zrc h
def MZ(h:X.calm=true):ZF X (.builtin "min") HW:=ZqW h
def Ec:ZF X (.type "int") P2:=ZqD
def Da:ZF X (.builtin "isinstance") SH:=Zsh
def ZH:ZF X (.builtin "len") (Jm X.K):=Zlv
def KS:ZF X (.type "list") (Dr X.K):=ZkC
def DC:ZF X (.type "tuple") (Kp X.K):=ZjV
def Kq:ZF X (.builtin "sum") (SQ X):=Zpz
def PM{y:Int}(m:Qr K ta Z (.int x))(j:Qr K tb Z (.int y))(S:QF K U F Z O H)(h:∀t J,Q3 F H t J->r [.int x,.int y] J Q):tCB r (Q4 ta<|Q4 tb QL) O H Q:=
 m U F O H _ S λs D v c i=>j U s O D _ (S.ext c) λq n w f g=>by cases i;cases g;exact h q n (c.trans f)
def Ev{y:Int}(f:Qr K ta Z (.int x))(c:Qr K tb Z (.int y)):Qr K (tCB HV<|Q4 ta<|Q4 tb QL) Z (.int (if y > x then y else x)):=λU F O H Q S q=>
 PM f c S λg J e=>#[x,y,rfl,q g J _ e<|.int _]
def AM{y:Int}(f:Qr K ta Z (.int x))(c:Qr K tb Z (.int y)):Qr K (tCB HW<|Q4 ta<|Q4 tb QL) Z (.int (if y<x then y else x)):=λU F O H Q S q=>
 PM f c S λg J e=>#[x,y,rfl,q g J _ e<|.int _]
def PB{b:Bool}(h:Qr K ta Z (.bool b)):Qr K (tCB P2<|Q4 ta QL) Z (.int (if b then 1 else 0)):=λU F O H Q S q=>
 h U F O H _ S λg D v c f=>by cases f;exact .inr #[b,rfl,q g D _ c<|.int _]
def Bq{c:String}{b:Bool}(h:Qr K ta Z a)(i:U1 (tyD a) c=some b):Qr K (tCB SH<|Q4 ta<|Q4 (tC<|.ty c) QL) Z (.bool b):=λU F O H Q S q=>
 h U F O H _ S λj D v f g=>#[v,_,c,b,rfl,(g.mono f.fh).ty,i,q j D _ f<|.bl _]
def VT(h:Qr K ta Z (.list ds)):Qr K (tCB (Jm K)<|Q4 ta QL) Z (.int (ds.length:Int)):=λU F O H Q S q=>
 h U F O H _ S λi D v c f=>by
  apply aB (Jc (K:=K) f c.fh);rintro a xs rfl L g _;exact#[a,xs,rfl,.inl L,by rw[g.length];exact q i D _ c<|.int _]
def BA(h:Qr K ta Z (.tuple ds)):Qr K (tCB (Jm K)<|Q4 ta QL) Z (.int (ds.length:Int)):=λU F O H Q S q=>
 h U F O H _ S λi D v c f=>by
  apply aB (BS (K:=K) f c.fh);rintro a xs rfl L g _;exact#[a,xs,rfl,.inr L,by rw[g.length];exact q i D _ c<|.int _]
def AR(e0:Z[i]?=some (some<|.scr ns)):Qr K (tCB (Jm K)<|Q4 (Q8 i) QL) Z (.int (ns.length:Int)):=λU F O H Q S q=>by
 apply At S.fp;intro g h _;apply aR (h i _ e0);rintro v f _ a⟨rfl,c⟩;exact#[_,f,a,ns.map V.int,rfl,.inl<|S.sub.seq c.sq,by rw[Xg];exact q F H _ (Q3.refl S.sub)<|.int _]
def PF(e0:Z[i]?=some (some<|.ol ds)):Qr K (tCB (Jm K)<|Q4 (Q8 i) QL) Z (.int (ds.length:Int)):=λU F O H Q S q=>by
 apply At S.fp;intro j h _;apply aZ (h i _ e0);rintro v g a rfl _ _ xs f c;exact#[_,g,a,xs,rfl,.inl<|SqL.of f,by rw[c.length];exact q F H _ (Q3.refl S.sub)<|.int _]
def K4(h:Qr K ta Z (.tuple ds)):EvO K (tCB (Dr K)<|Q4 ta QL) Z (.ol ds):=λU F O H Q S q=>
 h U F O H _ S λs D v c j=>by
  apply aB (BS (K:=K) j c.fh);rintro a xs rfl L n _;exact#[a,xs,rfl,.inr L,λp m=>KE (UK c m n) λi g f=>q _ _ _ _ i g f]
def PJ(h:Qr K ta Z (.list ds)):Qr K (tCB (Kp K)<|Q4 ta QL) Z (.tuple ds):=λU F O H Q S q=>
 h U F O H _ S λm D v c i=>by
  apply aB (Jc (K:=K) i c.fh);rintro a xs rfl L j _;exact#[a,xs,rfl,.inl #[L,λp g=>q _ _ _ (c.trans<|Q3.new c.fh g) (.tup QI<|j.mono<|Q6.new<|c.fh.free g)]]
def Dd(e0:Z[i]?=some (some<|.ol ds)):Qr K (tCB (Kp K)<|Q4 (Q8 i) QL) Z (.tuple ds):=λU F O H Q S q=>by
 apply At S.fp;intro m h _;apply aZ (h i _ e0);rintro v j a rfl _ _ xs g f;exact#[_,j,a,xs,rfl,.inl #[SqL.of g,λp c=>q _ _ _ (Q3.new S.sub c) (.tup QI<|f.mono<|Q6.new<|S.sub.free c)]]
def MP{ns:Ql}(h:Qr K ta Z (.list<|ns.map PyData.int))(g:X.calm=true):Qr K (tCB (SQ X)<|Q4 ta QL) Z (.int ns.sum):=λU F O H Q S q=>
 h U F O H _ S λi D v c f=>#[g,v,ns,rfl,f.mono c.fh,q i D _ c<|.int _]
def MQ(u:Qr K ta Z (.list as))(t:Qr K tb Z (.list bs))(s:as.length+bs.length<=1000):EvO K (tOp Bc ta tb) Z (.ol<|as++bs):=λU F O H Q S q=>
 YC u t S λM J x y e m j=>by
  apply aB (Jc (K:=K) m e.fh);rintro a xs rfl L c A;apply aB (Jc (K:=K) j e.fh);rintro b ys rfl C f B;exact#[a,b,xs,ys,rfl,rfl,A,B,by rw[c.length,f.length];exact YV<|V9 s,λp n=>KE (UK e n (c.append f)) λi h g=>q _ _ _ _ i h g]
end
end L2
namespace L2
def QZ(L:Qr K ta Z d)(c:Zm K t Z (fzs ds)):Zm K (Q4 ta t) Z (fzs (d::ds)):=Qu L c
def EvI.cast(h:EvI K wi Z ds)(e:ds=ds'):EvI K wi Z ds':=e▸h
def YI{b:Int}{m:Nat}(h:a=b)(c:m=n):ZM a m=ZM b n:=by rw[h,c]
def FK{b:Int}{m:Nat}(h:a=b)(c:m=n):Jh a m=Jh b n:=by rw[h,c]
def PH{y:Int}(f:Qr K ta Z (.int x))(c:Qr K tb Z (.int y)):Qr K (tCB HV<|Q4 ta<|Q4 tb QL) Z (.int<|max x y):=by
 have e:max x y=if y > x then y else x:=by split<;>lia
 rw[e];exact Ev f c
def Kk{y:Int}(f:Qr K ta Z (.int x))(c:Qr K tb Z (.int y)):Qr K (tCB HW<|Q4 ta<|Q4 tb QL) Z (.int<|min x y):=by
 have e:min x y=if y<x then y else x:=by split<;>lia
 rw[e];exact AM f c
def Db{f:List (Option Nat)}{g:CIn->TG}{lo:Int}{h:Nat->PyData}(q:EvI K wi Z (ZM lo n))(m:n<=1000)
(hs:∀(x:Nat),x<n->∀c,∃i,GTo K (g c) (.int<|lo+(x:Int)) (JO f Z) i/\Qr K (tee c) i (h x)):EvO K (tLC f wi g (λ_=>Ga) tee) Z (.ol<|(List.range n).map h):=
 Yy q (by simpa using m) λx j c=>hs x (XY.mp j) c
def Qr.cast(h:Qr K t Z d)(e:d=d'):Qr K t Z d':=e▸h
def EvO.cast(h:EvO K t Z d)(e:d=d'):EvO K t Z d':=e▸h
def QM.cast(h:QM K t Z d)(e:d=d'):QM K t Z d':=e▸h
def Di(K:W.Frag):Sp:=λc H Q _=>∃(a:Addr) (f:Ql),c=[.ref a]/\KTs K H/\Scr K H a f/\∀J,Q (.bl true) J
def Fun.evLaw{w:World}{base:Heap}{x p:Str}{st:Stmt}{f:Addr}{N:Qh}{k:Nat}(F:Fun K x qual st f fd)(S:Qo N [p] (QD st))
(n:∀ns:Ql,ns.length<=63->(∀i∈ns,Builtin.Int.intBits i<=2^20)->∀H c,B0 P w K mg base N qual st k f H c λt=>QJ K t (some (.scr ns)::List.replicate (N.length-1) none) { nx:=λ_=>False,rt:=λr=>r=.fz (.bool true) }):FnOk P w K mg base CX0 (k+1) f fd [p] (Di K):=by
 refine F.ok S (by rintro M H Q c ⟨a,ns,e,_⟩;rw[e];rfl) ?_;rintro M H Q c ⟨a,ns,rfl,W,g,q⟩ m A outer s X;refine At (n ns g.len g.bits H c m A outer s X) λt L Y=>#[t,L,Y H H H _ H _ (Q3.refl<|Q6.refl _) #[W,Q6.refl _,?_,λ_=>[],λi b e=>?_,λi j a h=>(nomatch h),λi a h=>(nomatch h)] #[λZ y J B C _ e=>False.elim e,λZ J v d p C l U e=>?_,λ_ _ _ _ _ _ z=>False.elim z,λ_ _ _ _ _ _ z=>False.elim z]]
 .unfold start;simp
 .cases i with
  |zero=>
   simp at e;subst e;exact#[_,rfl,rfl,a,rfl,g]
  |succ i=>
   rw[List.getElem?_cons_succ]at e;have:=List.mem_of_getElem? e;simp at this
 .subst e;obtain⟨_,r⟩:=U;cases r;exact q J
def Z5 : Zm K QL Z (fzs []):=Q1
def z62:(2:Int)^62=4611686018427387904:=by decide
def ZV{f:Addr} : (Jg CX P w K mg base N q sc f cd A o s H dx).nox.K=K:=rfl
def OJ{c:CIn}:(Vk X N sc c).K=X.K:=rfl
end L2
namespace L2
def EvP(K:W.Frag)(t:TO)(Z:ZbI)(o:Option Int):Prop := ∀(U F:Hp) (O:St) (H:Hp) (Q:Option Int->Hp->Prop),QF K U F Z O H->(∀c J,Q3 F H c J->Q o J)->t O H Q
def WU:EvP K Le Z none:=λU F O H Q S q=>q F H (Q3.refl S.sub)
def WV{i:Int}(h:Qr K te Z (.int i)):EvP K (P1 te) Z (some i):=λU F O H Q S q=>h U F O H _ S λg D v c f=>by cases f;exact#[i,rfl,q g D c]
noncomputable def cut{c:Type}(xs:List c)(lo f:Option Int):List c:=(xs.drop<|HT.sIx xs.length 0 lo).take (HT.sIx xs.length xs.length f-HT.sIx xs.length 0 lo)
theorem Qx.drop{F:Hp}:∀{xs:List V} {ds:Qd} (n:Nat),Qx F xs ds->Qx F (xs.drop n) (ds.drop n)
 |_,_,0,r=>r
 |_,_,_+1,.nil=>.nil
 |_,_,n+1,.cons _ t=>Qx.drop n t
theorem Qx.take{F:Hp}:∀{xs:List V} {ds:Qd} (n:Nat),Qx F xs ds->Qx F (xs.take n) (ds.take n)
 |_,_,0,_=>.nil
 |_,_,_+1,.nil=>.nil
 |_,_,n+1,.cons r t=>.cons r (Qx.take n t)
def ZsB(r:Qx F xs ds)(lo c:Option Int):Qx F (Ge xs lo c) (cut ds lo c):=by
 unfold Ge cut;rw[r.length];exact(r.drop _).take _
def WI{th:TO}{lo g:Option Int}(h:Qr K te Z (.list ds))(L:EvP K tl Z lo)(A:EvP K th Z g):EvO K (tSl (Am K) te tl th) Z (.ol<|cut ds lo g):=λU F O H Q S q=>
 h U F O H _ S λW D v f s=>L U W O D _ (S.ext f) λP M c=>A U P O M _ (S.ext<|f.trans c) λb Y i=>by
  have x:=f.trans (c.trans i);apply aB (Jc (K:=K) (s.mono (c.trans i).ff) x.fh);rintro a xs rfl C B X;exact#[a,xs,rfl,C,λp y=>KE (UK (K:=K) x y (ZsB B lo g)) λn m j=>q _ _ _ _ n m j]
end L2
namespace L2
def U3(as:Qd):Qd:=as.zipIdx.map λp=>PyData.tuple [.int (p.2:Int),p.1]
def BV(as:Qd):(U3 as).length=as.length:=by simp[U3]
def Ma(e:(U3 as)[i]?=some d):∃a,as[i]?=some a/\d=.tuple [.int (i:Int),a]:=by
 unfold U3 at e;rw[Xv,List.getElem?_zipIdx]at e;cases z:as[i]? with
 |none=>rw[z]at e;cases e
 |some a=>rw[z]at e;simp at e;exact#[a,rfl,e.symm]
def ZpD{H:Hp}(r:Rep F x (.list ds)):∃a xs,x=.ref a/\F a=some (.lst xs)/\Qx F xs ds:=by
 cases r with
 |lst f c=>exact#[_,_,rfl,f,c]
def BB(h:Zm K t Z [.fz<|.list as]):EvI K (Pi K t) Z (U3 as):=λU F O H R S q=>
 h U F O H _ S λb D k m f=>by
  cases f with
  |fz r f=>
   cases f;apply aF (ZpD (H:=D) r);rintro a xs rfl A s;refine#[a,rfl,#[xs,SqL.of<|m.fh _ _ A],q b D _ m λM Y n c=>?_];have g:SqL K Y a xs:=SqL.of (c _ _<|n _ _ A);refine#[#[xs,g,by rw[BV,s.length]],λi d e=>?_];apply At (Ma e);rintro l X rfl;refine At (s.get X) λj B W=>#[#[xs,j,g,B],λv o P=>?_];apply aB P;rintro p x y rfl rfl k1;have C:=k1 xs g;rw[B]at C;cases C;exact#[_,Q3.new c y,.tup QI<|.cons (.int _)<|.cons ((W.mono n).mono (Q6.new (c.free y))) .nil]
def B4{bs:List Bool}(h:Qr K ta Z (.list<|bs.map PyData.bool))(g:X.calm=true):Qr K (tCB (SG X)<|Q4 ta QL) Z (.bool<|bs.all id):=λU F O H Q S q=>
 h U F O H _ S λi D v c f=>#[g,v,bs,rfl,f.mono c.fh,q i D _ c<|.bl _]
def EL(h:Qr K ta Z (.list<|ns.map PyData.int))(g:X.calm=true)(hn:ns≠[]):Qr K (tCB (Pd X)<|Q4 ta QL) Z (.int<|Wa ns):=λU F O H Q S q=>
 h U F O H _ S λi D v c f=>#[g,v,ns,rfl,f.mono c.fh,hn,q i D _ c<|.int _]
noncomputable def Bf:OT->Option PyData
 |.fz d=>some d
 |.ol ds=>some (.list ds)
 |.oll c=>some (.list<|c.map PyData.list)
 |.scr _=>none
 |.own _ _=>none
 |.zow _=>none
def frF(F H:Hp)(p:Qg):Hp:=λb=>if b∈p then H b else F b
def WM{b:Addr}(h:b∈p):frF F H p b=H b:=by unfold frF;rw[Xh h]
def J5{b:Addr}(h:b∉p):frF F H p b=F b:=by unfold frF;rw[Xe h]
def Wz(h:∀a∈p,F a=none):Q6 F (frF F H p):=λb u e=>by
 rw[J5 λz=>by rw[h b z]at e;cases e];exact e
def Dq(s:Q6 F H):Q6 (frF F H p) H:=λb u e=>by
 by_cases z:b∈p
 .rwa[WM z]at e
 .rw[J5 z]at e;exact s b u e
theorem LS{F f H:Hp}(g:Q6 F f):∀{as:Qg} {c:List (Qd)},Vb F H as c->(∀a∈as,f a=H a)->Qx f (as.map V.ref) (c.map PyData.list)
 |[],[],_,_=>.nil
 |a::as,ds::c,h,i=>by
  obtain⟨⟨L,xs,q,n⟩,m⟩:=h;exact .cons (.lst (by rw[i a Xb];exact q)<|n.mono g) (LS g m λb j=>i b<|Xf _ j)
 |[],_::_,h,_=>False.elim h
 |_::_,[],h,_=>False.elim h
def Zx.frz(c:Zx K F H v t p)(e:Bf t=some d):Rep (frF F H p) v d:=by
 have f:Q6 F (frF F H p):=Wz λa j=>(c.there a j).1
 cases t with
 |fz B=>cases e;exact c.2.mono f
 |ol ds=>
  cases e;apply aY c;rintro a rfl rfl L xs h g;exact .lst (by rw[WM Xb];exact h) (g.mono f)
 |oll m=>
  cases e;apply aP c;rintro a C rfl rfl A L h g;exact .lst (by rw[WM Xb];exact h) (LS f g λb i=>WM<|Xf _ i)
 |scr y=>cases e
 |own s q=>cases e
 |zow n=>cases e
def QF.frz(s:QF K U F Z O H)(e:Z[i]?=some (some t))(h:∀v p,Zx K F H v t p->Zx K (frF F H p) H v t' []):
 ∃p,(∀a∈p,F a=none/\H a≠none/\U a=none)/\QF K U (frF F H p) (Z.set i<|some t') O H:=by
 refine aB (s.chg e) λv p m j f k=>#[p,λa c=>#[(f a c).2.1,(f a c).2.2,(f a c).1],(k _ H t' [] (Wz λa c=>(f a c).2.1) (Dq s.sub) (λ_ _ _=>rfl) (λb g=>?_) (h v p j)<|by rintro b ⟨⟩).1]
 by_cases z:b∈p
 .exact .inr (.inr z)
 .rw[J5 z]at g;exact .inl g
def QF.freezeG(s:QF K U F Z O H)(e:Z[i]?=some (some t))(f:Bf t=some d):
 ∃p,(∀a∈p,F a=none/\H a≠none/\U a=none)/\QF K U (frF F H p) (Z.set i<|zf d) O H:=s.frz e λv p c=>#[rfl,c.frz f]
def E8(i:Nat)(e:Z[i]?=some (some r))(j:Bf r=some d)(h:QJ K t (Z.set i<|zf d) H1):QJ K t Z H1:=λF0 U F O H m x S C=>by
 refine At (S.freezeG e j) λp f g=>h F0 U _ O H m #[x.hh,x.ff.trans<|Wz λa c=>(f a c).1,g.sub,λa c=>?_] g C
 by_cases z:a∈p
 .exact .inr (f a z).2.2
 .rw[J5 z]at c;exact x.fr a c
def Ul(g:∀a∈p,F a=none/\H a≠none)(x:Q3 (frF F H p) H F' J):Q3 F H (λb=>if b∈p then none else F' b) J:=
 #[x.hh,λb u c=>by
  have f:b∉p:=λz=>by rw[(g b z).1]at c;cases c
  simp only[Xe f];exact x.ff b u<|by rw[J5 f];exact c,λb u c=>by
  by_cases z:b∈p
  .simp_all
  .simp only[Xe z]at c;exact x.fh b u c,λb c=>by
  by_cases z:b∈p
  .simp_all
  .simp only[Xe z]at c;rcases x.fr b c with y|y
   .rw[J5 z]at y;exact .inl y
   .exact .inr y]
def Np(i:Nat){b:Bool}(e:Z[i]?=some (some r))(g:Bf r=some d0)(h:QM K t (Z.set i<|zf d0) b):QM K t Z b:=λU F O H Q S q=>by
 exact At (S.freezeG e g) λp c j=>h U _ O H Q j λm J x=>q _ J (Ul (λa f=>#[(c a f).1,(c a f).2.1]) x)
def Jv(ds:Qd):Prop := ∀d∈ds,∃w,Vf d=some w
theorem Qx.flats{F g:Hp}:∀{xs:List V} {ds:Qd},Jv ds->Qx F xs ds->Qx g xs ds
 |_,_,_,.nil=>.nil
 |_::_,d::_,h,.cons r t=>by
  obtain⟨w,e⟩:=h d Xb;refine .cons ?_ (Qx.flats (λc f=>h c<|Xf _ f) t);cases r<;>simp[Vf]at e
  .exact .non
  .exact .bl _
  .exact .int _
  .exact .str _
end L2
namespace L2
section
variable {tb:TE}
theorem Vb.snoc{F H:Hp}{b:Addr}{ds:Qd}:∀{as:Qg} {c:List (Qd)},Vb F H as c->Yu F H b ds->Vb F H (as++[b]) (c++[ds])
 |[],[],_,h=>⟨h,trivial⟩
 |_::_,_::_,h,f=>⟨h.1,Vb.snoc h.2 f⟩
 |[],_::_,h,_=>False.elim h
 |_::_,[],h,_=>False.elim h
theorem Vb.length{F H:Hp}:∀{as:Qg} {c:List (Qd)},Vb F H as c->as.length=c.length
 |[],[],_=>rfl
 |_::_,_::_,h=>by simp[Vb.length h.2]
 |[],_::_,h=>False.elim h
 |_::_,[],h=>False.elim h
def Tg{w:Type}{f:List (Option Nat)}{L:TI}{g:CIn->TG}{k:CIn->TE}{xs:List w}{enc:w->PyData}{h:w->Qd}(hi:EvI K L Z (xs.map enc))(hl:xs.length<=1000)
(hs:∀x∈xs,∀c,∃B,GTo K (g c) (enc x) (JO f Z) B/\EvO K (k c) B (.ol<|h x)):EvO K (tLC f L g (λ_=>Ga) k) Z (.oll<|xs.map h):=λU F O H Q S q=>
 hi U F O H _ S λF1 D H' Y W c=>by
  have hn:=YV (V9 hl);refine#[λi m ys H=>m=xs.length-i/\i<=xs.length/\∃t A,Q3 F1 D t H/\ys=A.map V.ref/\A.Nodup/\(∀a∈A,D a=none)/\Vb t H A ((xs.take i).map h),#[xs.length,by simp,XH _,F1,[],Q3.refl Y.fh,rfl,by simp,λa P=>(nomatch P),trivial],?_];rintro i m ys J ⟨rfl,hle,t,A,n,rfl,N,l,C⟩;obtain⟨w1,w2⟩:=W t J n.ff n.fh
  by_cases s:i<xs.length
  .have e:(xs.map enc)[i]?=some (enc xs[i]):=by simp[s]
   obtain⟨go,yl⟩:=w2 i _ e;refine .inr #[go,λv G y=>At (yl v G y) λF3 X r3=>At (hs xs[i] (X6 s) c) λB k1 k2=>?_];have tk:xs.take (i+1)=xs.take i++[xs[i]]:=by rw[Jf];simp[s]
   refine k1 U F3 _ G v _ ((S.ext<|Y.trans<|n.trans X).inner f) r3 λu S4=>?_;dsimp only[Ga];refine k2 U F3 u G _ S4 λF5 H5 z p I T ok=>#[?_,xs.length-(i+1),#[],rfl,s,F5,A++[?_],n.trans<|X.trans I,?_,?_,?_,?_]
   .rw[Xg,C.length,Xg,Mu];lia
   .exact(match z with|.ref b=>b|_=>0)
   all_goals apply L3 ok;rintro b rfl rfl o1
   .simp
   .rw[Mv];refine#[N,by simp,λr j d hd=>?_];have E:=by simpa using hd
    subst E;intro z;subst z;have M:=T r Xb;have:=(C.mem r j).2;obtain⟨o,ho⟩:=K9 this;rw[X.hh _ _ ho]at M;cases M
   .intro r j;rcases Xz.mp j with j|j
    .exact l r j
    .have:=by simpa using j
     subst this;exact(n.trans X).hh.free (T r Xb)
   .rw[tk,Xx];exact(C.ext<|X.trans I).snoc o1
  .have e:i=xs.length:=#[]
   subst e;refine .inl #[by simpa using w1,λa P=>?_];rw[W3]at C;have R:=λz=>(C.mem a z).2 P;refine q t _ _ (a::A) ((Y.trans n).trans (Q3.own n.fh P)) (λb M=>?_) #[a,A,rfl,rfl,XM.mpr #[R,N],n.fh.free P,QI,C.other R]
   rcases Xd.mp M with rfl|M
   .exact(Y.trans n).hh.free P
   .exact Y.hh.free (l b M)
def E3(P:Qr K ta Z (.list ds))(M:Qr K tb Z (.int k))(h0:0<=k)(C:ds.length*k.toNat<=1000)(Y:k<=1000000):EvO K (tOp Ak ta tb) Z (.ol (List.replicate k.toNat ds).flatten):=λU F O H Q S q=>
 YC P M S λX J x y e s m=>by
  apply aB (Jc (K:=K) s e.fh);rintro a xs rfl L f W;cases m;have c:(2:Int)^63=9223372036854775808:=by decide
  refine#[a,k,xs,rfl,rfl,W,by rw[c];lia,by rw[c];lia,by rw[f.length];exact YV<|V9 C,λp B=>?_];have j:∀n:Nat,Qx X (List.replicate n xs).flatten (List.replicate n ds).flatten:=λn=>by
   induction n with
   |zero=>exact .nil
   |succ n A=>rw[Ha];exact f.append A
  exact KE (UK e B (j k.toNat)) λi h g=>q _ _ _ _ i h g
theorem Lc{c:Type}(d:c):∀n:Nat,(List.replicate n [d]).flatten=List.replicate n d
 |0=>rfl
 |n+1=>by rw[Ha,List.flatten_cons,Lc d n];rfl
end
end L2
namespace L2
def Ja{a b c}:starEach (.Constant a b c::es) env=(false,eval (.Constant a b c) env)::starEach es env:=by rfl
structure PAb(X:Cx)(es:Qi)(t:TA):Prop where
 h:PA X es t
section
variable {e:Expr}{t:TA}
def PN:PAb X [] QL:=#[Qq]
def WW(f:PE X e te)(c:PAb X es t)(hs:zs X e es):PAb X (e::es) (Q4 te t):=#[Qs f c.h hs]
def Ls(h:PAb X es t):PE X (.List es pos) (Y8 t):=Zz h.h
end
end L2
namespace PySem
section
variable {w:World}{K:Type} [DecidableEq K] (knd:KeyKind prog w K)
def Y3(h:Heap)(c:List K×List K)(a:Addr):Prop := ∃o n p q,h.get? a=some o/\o.cls=.type "tuple" /\ o.data=.seq (List.toArray [.ref p,.ref q]) n/\IsTupleKey knd h c.1 p/\IsTupleKey knd h c.2 q
variable {knd}
def Y3.typeIs  (x:Y3 knd s.heap ks a):s.TypeIs (.ref a) "tuple" := let ⟨o,_,_,_,ho,hc,_⟩:=x;#[o,ho,hc]
def Y3.inj{y:List K×List K}(s:Y3 knd h x a)(m:Y3 knd h y a):x=y:=by
 obtain⟨o,n,p,q,w,_,A,L,B⟩:=s;obtain⟨P,U,M,C,f,_,c,i,g⟩:=m;cases Option.some.inj (w.symm.trans f);rw[A]at c;injection c with z _;have j:=XS Array.toList z;simp at j;obtain⟨rfl,rfl⟩:=j;exact Prod.ext (L.inj i) (B.inj g)
def Y3.keeps{es ep}(x:Y3 knd h ks a)(i:h.get? d=some o)(j:o.data=.dict es ep)(hs:Heap.SameBut d h h'):Y3 knd h' ks a:=by
 obtain⟨m,n,p,q,c,s,g,L,w⟩:=x;have f:a≠d:=λz=>by
  grind
 exact#[m,n,p,q,(hs.2 a f).trans c,s,g,L.keeps i j hs,w.keeps i j hs]
noncomputable def Nn(knd:KeyKind prog w K)(c:List K×List K):Int:=reduceHash (Builtin.Tuple.tupleHashOf [tupleKeyHash knd c.1,tupleKeyHash knd c.2])
variable {dx:Qb}
def Zg8(M:A.units+5<cLine)(m:Y3 knd s.heap ks a)(h:Q (Nn knd ks) { s with toks:=s.toks+(ks.1.length+ks.2.length+3) }):
 wpAny (model prog w) A (pyHash<|.ref a) Q dx s:=by
 have hT:=m.typeIs;refine aQ m λo n p q y _ B L C=>Xa (wpAny_cRoomFor_or (.inr<|#[]) (Xa (wpAny_specialOf hT F.slot_tuple_hash.lookup (Xa (wpAny_specialOf hT F.slot_tuple_hash.lookup (Xa (wpAny_callSpecialIfBoundUnlessNone?_slot hT F.slot_tuple_hash<|wpAny_call_entry F.slot_tuple_hash hT F.entry_tuple_hash ?_<|F.args_tuple_hash_1 _)))))));show wpAny _ _ (Builtin.Tuple.tupleItemsOf (.ref a) >>= _) _ _ s;refine Xa (wpAny_tupleItemsOf y B (Xa ?_))
 rw[<- Array.forIn_toList];refine wpAny_forIn_list _
  (λrest (b) f=>(rest=[.ref p,.ref q]/\b.toList=[]/\f=s)\/(rest=[.ref q]/\b.toList=[tupleKeyHash knd ks.1]/\f={ s with toks:=s.toks+(ks.1.length+1) }) \/
   (rest=[]/\b.toList=[tupleKeyHash knd ks.1,tupleKeyHash knd ks.2]/\f={ s with toks:=s.toks+(ks.1.length+1)+(ks.2.length+1) }))
  _ ?_ ?_ _ _ (.inl #[rfl,rfl,rfl])
 .rintro x rest b f (⟨c,g,rfl⟩|⟨c,g,rfl⟩|⟨c,_⟩)
  .injection c with j i;subst j i;refine Xa (wpAny_pyHash_tuple ?hu1 L ?_)
   case hu1=>show A.units+1<cLine;lia
   exact Xl (.inr<|.inl #[rfl,by simp[g],rfl])
  .injection c with j i;subst j i;refine Xa (wpAny_pyHash_tuple ?hu2 C ?_)
   case hu2=>show A.units+1<cLine;lia
   exact Xl (.inr<|.inr #[rfl,by simp[g],rfl])
  .cases c
 .rintro b f (⟨c,_⟩|⟨c,_⟩|⟨_,g,rfl⟩)
  .cases c
  .cases c
  show wpAny _ _ (retInt<|Builtin.Tuple.tupleHashOf b.toList) _ _ _;rw[g];refine wpAny_ret_mkInt ?_;show wpAny _ _ (if _=true then _ else _) Q dx _;unfold Nn reduceHash at h;have K:s.toks+(ks.1.length+ks.2.length+3)=s.toks+(ks.1.length+1)+(ks.2.length+1)+1:=#[]
  rw[K]at h;split
  .rename_i c;rw[Xh c]at h;exact Xl h
  .rename_i c;rw[Xe c]at h;exact Xa (wpAny_rule<|Xl h)
def ZkT{y:List K×List K}{b:Addr}{P:Fin->Shared->Prop}(S:A.units+1<cLine)(D:Y3 knd s.heap x a)(l:Y3 knd s.heap y b)(h:P (.done<|.ret<|.bool<|decide (x=y)) s):
 wpAny (model prog w) A (Builtin.«tuple.__eq__» #[[.ref a,.ref b],[]]) P dx s:=by
 refine aQ D λO R p q C _ U Z Y=>aQ l λN Q z k B _ M X W=>?_;show wpAny _ _ (isInstance (.ref b) (.type "tuple") >>= _) _ _ s;refine Xa (wpAny_isInstance l.typeIs isSubtype_tuple_tuple (Xa (wpAny_tupleItemsOf C U (Xa (wpAny_tupleItemsOf B M (Xa ?_))))))
 have t:decide (x=y)=(decide (x.1=y.1)&&decide (x.2=y.2)):=by
  obtain⟨I,H⟩:=x;obtain⟨G,F⟩:=y;simp
 refine wpAny_forIn_list _
  (λrest r n=>r.1=none/\n=s/\((rest=[(.ref p,.ref z),(.ref q,.ref k)])\/(rest=[(.ref q,.ref k)]/\x.1=y.1)\/(rest=[]/\x=y)))
  _ ?_ ?_ _ _ #[rfl,rfl,.inl rfl]
 .rintro⟨u,v⟩ rest r n ⟨o,rfl,(c|⟨c,E⟩|⟨c,_⟩)⟩
  .injection c with m j;injection m with i g;subst j i g;refine Xa (wpAny_eqBool_tuple #[] Z X ?_)
   by_cases f:x.1=y.1
   .rw[XN f];simp only[ if_false];exact Xl #[rfl,rfl,.inr<|.inl #[trivial,f]]
   .rw[XJ f];rw[t,XJ f]at h;exact Xa (Xl<|Xl<|Xl h)
  .injection c with m j;injection m with i g;subst j i g;refine Xa (wpAny_eqBool_tuple #[] Y W ?_)
   by_cases f:x.2=y.2
   .rw[XN f];simp only[ if_false];exact Xl #[rfl,rfl,.inr<|.inr #[trivial,Prod.ext E f]]
   .rw[XJ f];rw[t,XJ f,Bool.and_false]at h;exact Xa (Xl<|Xl<|Xl h)
  .cases c
 .rintro⟨L,J⟩ n ⟨rfl,rfl,(c|⟨c,_⟩|⟨_,e⟩)⟩
  .cases c
  .cases c
  refine Xl ?_;rwa[XN e]at h
def Zgh{y:List K×List K}{b:Addr}(i:A.units+5<cLine)(f:Y3 knd s.heap x a)(g:Y3 knd s.heap y b)(h:Q (decide (x=y)) s):
 wpAny (model prog w) A (eqBool (.ref a)<|.ref b) Q dx s:=by
 unfold eqBool;try with_reducible refine wpAny_holding ?_
 by_cases c:(Value.ref a==Value.ref b)=true
 .rw[Xh c];have e:=by have:=eq_of_beq c;injection this
  subst e;cases f.inj g;exact Xa (wpAny_rule<|Xl<|by simpa using h)
 .rw[Xe c];exact Xa (wpAny_richCompare_same_room f.typeIs g.typeIs F.slot_tuple_eq
   (wpAny_call_entry F.slot_tuple_eq f.typeIs F.entry_tuple_eq (ZkT (by simp;lia) f g #[_,rfl,(by rintro⟨⟩),wpAny_truthy_bool h])<|F.args_tuple_eq_2 _ _) #[])
def Zmv(n:Nat)(q:IsTupleKey knd s.heap ks a)(h:Q true s):wpAny (model prog w) A (eqIsQuiet (n+1)<|.ref a) Q dx s:=by
 apply aA q;rintro o g m y _⟨C,B⟩;unfold eqIsQuiet;refine Xa (wpAny_specialOf q.typeIs F.slot_tuple_eq.lookup (Xa (wpAny_isInstance q.typeIs isSubtype_tuple_tuple (Xa (wpAny_seqItems y C (Xa ?_))))));rw[<- Array.forIn_toList];refine wpAny_forIn_list _ (λrest r f=>r.1=none/\f=s/\∀v∈rest,carriedByValue v=true) _ ?_ ?_ _ _ #[rfl,rfl,B.byValue]
 .rintro v rest r f ⟨j,rfl,c⟩;rw[eqIsQuiet_byValue _<|c v Xb];exact Xl #[rfl,rfl,λu i=>c u<|Xf _ i]
 .rintro⟨M,K⟩ f ⟨rfl,rfl,_⟩;exact Xl h
def ZeY(y:Y3 knd s.heap ks a)(h:Q true s):wpAny (model prog w) A (eqIsQuiet 8<|.ref a) Q dx s:=by
 apply aQ y;intro o n p q C _ K L M;unfold eqIsQuiet;refine Xa (wpAny_specialOf y.typeIs F.slot_tuple_eq.lookup (Xa (wpAny_isInstance y.typeIs isSubtype_tuple_tuple (Xa (wpAny_seqItems C K (Xa ?_))))));rw[<- Array.forIn_toList];refine wpAny_forIn_list _ (λrest r g=>r.1=none/\g=s/\∀v∈rest,∃z j,v=.ref z/\IsTupleKey knd s.heap j z) _ ?_ ?_ _ _ #[rfl,rfl,λv f=>?_]
 .rintro v rest r g ⟨m,rfl,c⟩;apply L0 (c v Xb);rintro z j rfl B;exact Xa (Zmv 6 B (Xl #[rfl,rfl,λu i=>c u<|Xf _ i]))
 .rintro⟨U,P⟩ g ⟨rfl,rfl,_⟩;exact Xl h
 .rcases Xd.mp f with rfl|f
  .exact#[p,_,rfl,L]
  .rcases Xd.mp f with rfl|f
   .exact#[q,_,rfl,M]
   .cases f
end
noncomputable def NH{prog:Program}{w:World}{K:Type}[DecidableEq K](c:KeyKind prog w K):HeapKind prog w (List K×List K) where
 is:=Y3 c
 hash:=Nn c
 draws:=λm=>m.1.length+m.2.length+3
 room:=λA=>A.units+5<cLine
 inj:=λg f=>g.inj f
 keeps:=λx q hd n=>x.keeps q hd n
 pyHash:=λi j h=>Zg8 i j h
 eqBool:=λi g f h=>Zgh i g f h
 quiet:=λj h=>ZeY j h
section
variable {w:World}{K:Type} [DecidableEq K] {knd:HeapKind prog w K}{dx:Qb}
def ZdA{d a:Addr}{xs:List (K×Addr×Value)}{k:K}{f:Value}{Q:Qb}(M:knd.room A)(c:knd.is s.heap k a)(W:s.heap.DictOfH knd d xs)
(g:∀p,atKey xs k=some p->Q p.2 { s with toks:=s.toks+knd.draws k })
(q:atKey xs k=none->∀h',h'.DictOfH knd d (xs++[(k,a,f)])->Heap.SameBut d s.heap h'->Q f { s with heap:=h',toks:=s.toks+knd.draws k })
(hsz:xs.length<=sizeLine):
 wpAny (model prog w) A (dictSetDefault d (.ref a) f) Q dx s:=by
 apply aN W;rintro o es Y m X h B⟨y,C⟩;unfold dictSetDefault;try with_reducible refine wpAny_holding ?_;refine Xa (knd.pyHash M c (Xa (wpAny_dictFind_heap M c m h B y C ?_ ?_)))
 .intro n;have P:=not_mem_keys_of_get n;refine Xa (wpAny_rule (Xa (wpAny_updateDictKeys (hz:=by have e:=size_of_entries B;lia) m h (Xl (q (atKey_none_of_get n) _ #[_,_,Y+1,X9 _ m<|Obj.isFreed_of_dict<|Obj.data_mapDictKeys h _,
   X.mapDictKeys _,Obj.data_mapDictKeys h _,?_,?_,?_]<|Heap.SameBut.update ..)))))
  .simp[B,entryOfKey]
  .intro x i;rcases Xz.mp i with i|i
   .exact knd.keeps (y x i) m h (Heap.SameBut.update ..)
   .simp only[Xj]at i;subst i;exact knd.keeps c m h (Heap.SameBut.update ..)
  .rw[Xx,Mv];refine#[C,by simp,?_]
   grind
 .refine λj p U=>Xa (wpAny_dictEntries m h ?_);rw[entry_at B j,U];exact Xa (wpAny_rule<|Xl<|g _<|atKey_of_get C U)
def Zem(knd:HeapKind prog w K)(d a:Addr)(y:(d==sysModules)=false)(c:Value):
 MeetsIn prog w (Builtin.«dict.setdefault» #[[.ref d,.ref a,c],[]]) (λA R s=>knd.room A.in1/\∃k xs,knd.is s.heap k a/\s.heap.DictOfH knd d xs/\xs.length<=sizeLine/\
  (∀p,atKey xs k=some p->R (.ok<|.ret p.2) { s with toks:=s.toks+knd.draws k })/\
  (atKey xs k=none->∀h',h'.DictOfH knd d (xs++[(k,a,c)])->Heap.SameBut d s.heap h'->R (.ok<|.ret c) { s with heap:=h',toks:=s.toks+knd.draws k })):=
 .of_wp λA R s ⟨m,k,xs,f,i,j,L,B⟩=>by
  refine Xa<|Xa (wpAny_notOrdered_dict i.typeIs (Xl ?_));show wpAny _ _ (if _=true then _ else _) _ _ s;rw[Xe<|by exact y▸Xy];exact Xa (ZdA m f i (λp n=>Xl #[p.2,rfl,L p n]) (λq h' h g=>Xl #[c,rfl,B q h' h g]) j)
end
end PySem
namespace L2
section
variable {κ:Type} [DecidableEq κ]
noncomputable def Z4(kvs:List (κ×V))(k:κ):Option V:=(kvs.find? λc=>decide (c.1=k)).map (·.2)
noncomputable def Yk(kvs:List (κ×V))(k:κ)(v:V):List (κ×V):=
 if (kvs.any λc=>decide (c.1=k))=true then kvs.map (λc=>if c.1=k then (c.1,v) else c) else kvs++[(k,v)]
def Wi{p:κ×V}(e:p.1=k):Z4 (p::r) k=some p.2:=by simp[Z4, e]
def Wg{p:κ×V}(e:¬p.1=k):Z4 (p::r) k=Z4 r k:=by simp[Z4, e]
theorem LW(k:κ):∀kvs:List (κ×V),(kvs.any λc=>decide (c.1=k))=(Z4 kvs k).isSome
 |[]=>rfl
 |p::r=>by
  rw[List.any_cons];by_cases e:p.1=k
  .simp only[Wi e,XN e,Bool.true_or,Option.isSome_some]
  .rw[Wg e,XJ e];exact LW k r
theorem Co(k j:κ)(y:V):∀kvs:List (κ×V),Z4 kvs k=none->Z4 (kvs++[(k,y)]) j=if j=k then some y else Z4 kvs j
 |[],_=>by
  by_cases e:k=j
  .rw[Xh e.symm];exact Wi e
  .rw[Xe λz=>e z.symm];exact Wg e
 |p::r,c=>by
  rw[Ur];have f:¬p.1=k:=λz=>by rw[Wi z]at c;cases c
  rw[Wg f]at c;have g:=Co k j y r c
  by_cases e:p.1=j
  .rw[Wi e,Wi e,Xe λz=>f<|e.trans z]
  .rw[Wg e,Wg e,g]
def CJ(kvs:List (κ×V))(k:κ)(v:V):(Yk kvs k v).length<=kvs.length+1:=by
 unfold Yk;split
 .simp_all
 .simp_all
def Vn.isSome_eq(r:Vn o u):o.isSome=u.isSome:=by
 cases o with
 |none=>cases u with
  |none=>rfl
  |some _=>exact(r).elim
 |some _=>cases u with
  |none=>exact(r).elim
  |some _=>rfl
def Vn.getD(r:Vn o u)(c:QO d d'):QO (o.getD d) (u.getD d'):=by
 cases o with
 |none=>cases u with
  |none=>exact c
  |some _=>exact(r).elim
 |some _=>cases u with
  |none=>exact(r).elim
  |some _=>exact r
def KV.val(r:KV kvs vs)(k:κ):Vn (Z4 kvs k) (valueAt vs k):=by
 induction r with
 |nil=>exact True.intro
 |@cons p q ps c h t g=>
  obtain⟨L,i⟩:=h
  by_cases e:p.1=k
  .have f:=L.symm.trans e;have b:valueAt (q::c) k=some q.2:=by simp[valueAt, f]
   rw[Wi e,b];exact i
  .have f:¬q.1=k:=λz=>e (L.trans z)
   have b:valueAt (q::c) k=valueAt c k:=by simp[valueAt, f]
   rw[Wg e,b];exact g
def KV.any(r:KV kvs vs)(k:κ):(kvs.any λc=>decide (c.1=k))=vs.any λc=>decide (c.1=k):=by
 induction r with
 |nil=>rfl
 |cons h t f=>rw[List.any_cons,List.any_cons,f,h.1]
def KV.repl(r:KV kvs vs)(k:κ)(f:QO y u):
 KV (kvs.map λc=>if c.1=k then (c.1,y) else c) (vs.map λc=>if c.1=k then (c.1,u) else c):=by
 induction r with
 |nil=>exact .nil
 |@cons p q ps j h t g=>
  rw[Xw,Xw];refine .cons ?_ g;obtain⟨L,i⟩:=h
  by_cases e:p.1=k
  .rw[Xh e,Xh<|L.symm.trans e];exact#[L,f]
  .rw[Xe e,Xe λz=>e<|L.trans z];exact#[L,i]
def KV.put(r:KV kvs vs)(k:κ)(c:QO y u):KV (Yk kvs k y) (stored vs k u):=by
 unfold Yk stored;rw[r.any k];by_cases e:(vs.any λf=>decide (f.1=k))=true
 .rw[Xh e,Xh e];exact r.repl k c
 .rw[Xe e,Xe e];exact Paired.snoc r #[rfl,c]
def KV.keys{kvs:List (κ×V)}{vs:List (κ×Value)}(r:KV kvs vs):kvs.map (·.1)=vs.map (·.1):=by
 induction r with
 |nil=>rfl
 |cons h t c=>rw[Xw,Xw,c,h.1]
def KV.length{kvs:List (κ×V)}{vs:List (κ×Value)}(r:KV kvs vs):kvs.length=vs.length:=Paired.length r
end
def Gn(r:QO (kV k) u):(VH P w).is k u=true:=by
 cases k with
 |inl i=>obtain⟨t,e⟩:=(r);subst e;exact ZlD P w i t
 |inr x=>obtain⟨t,e⟩:=(r);subst e;exact ZlW P w x t
theorem Cs{P:Program}{w:World}:∀{c:List Key} {us:Qe},QS (c.map kV) us->ItemsAre (VH P w) c us
 |[],_,r=>by rw[List.map_nil]at r;cases r;exact .nil
 |k::c,_,r=>by
  cases r with
  |cons h t=>exact .cons (Gn h) (Cs t)
abbrev KT(H:Hp):List (List Key×V)->List (List Key×Addr×Value)->Prop:=Paired λp q=>p.1=q.1/\H q.2.1=some (.tup<|p.1.map kV)/\QO p.2 q.2.2
def KT.val{xs:List (List Key×Addr×Value)}(r:KT H kvs xs)(k:List Key):Vn (Z4 kvs k) ((atKey xs k).map (·.2)):=by
 induction r with
 |nil=>exact True.intro
 |@cons p q ps c h t g=>
  apply KE h;intro L _ i
  by_cases e:p.1=k
  .have f:=L.symm.trans e;have b:atKey (q::c) k=some q.2:=by simp[atKey, f]
   rw[Wi e,b];exact i
  .have f:¬q.1=k:=λz=>e (L.trans z)
   have b:atKey (q::c) k=atKey c k:=by simp[atKey, f]
   rw[Wg e,b];exact g
def KT.repl{xs:List (List Key×Addr×Value)}(r:KT H kvs xs)(k:List Key)(g:QO y u):
 KT H (kvs.map λc=>if c.1=k then (c.1,y) else c) (xs.map<|putAt k u):=by
 induction r with
 |nil=>exact .nil
 |@cons p q ps m h t i=>
  rw[Xw];refine .cons ?_ i;apply KE h;intro L f j;unfold putAt;by_cases e:p.1=k
  .rw[Xh e,Xh<|L.symm.trans e];exact#[L,f,g]
  .rw[Xe e,Xe λz=>e<|L.trans z];exact#[L,f,j]
def KT.put{xs:List (List Key×Addr×Value)}(r:KT H kvs xs)(k:List Key){b:Addr}(g:H b=some (.tup<|k.map kV))(c:QO y u):
 KT H (Yk kvs k y) (storedH xs k b u):=by
 have e:(kvs.any λf=>decide (f.1=k))=(atKey xs k).isSome:=by
  rw[LW,(r.val k).isSome_eq,Uu]
 unfold Yk storedH;rw[e];by_cases q:(atKey xs k).isSome=true
 .rw[Xh q,Xh q];exact r.repl k c
 .rw[Xe q,Xe q];exact Paired.snoc r #[rfl,g,c]
def KT.keeps{xs:List (List Key×Addr×Value)}(r:KT H kvs xs)(c:∀b ys,H b=some (.tup ys)->J b=some (.tup ys)):KT J kvs xs:=
 Paired.mapP r λ_ _ z=>#[z.1,c _ _ z.2.1,z.2.2]
section
variable {w:World}{H:Hp}{a:Addr}
def Pg(c:HOk P w H h)(e:Rd H a u):ZT P w H h a u:=e.ok c
def JP(c:HOk P w H h)(e:Rd H a (.dK kvs)):kvs.length<=sizeLine/\(a==sysModules)=false/\∃vs,KV kvs vs/\h.DictOf (VH P w) a vs:=
 show ZT P w H h a _ from Pg c e
def As(c:HOk P w H h)(e:H a=some (.dK kvs)):kvs.length<=sizeLine/\(a==sysModules)=false/\∃vs,KV kvs vs/\h.DictOf (VH P w) a vs:=JP c (.inl e)
def WP(f:HOk P w H h)(e:H a=some (.tup<|ks.map kV)):(tupleKind<|VH P w).is h ks a:=by
 apply aV ((f a _ e));intro _ c r o L i n g
 exact#[o,c.toArray,n,L,i,g,by simpa using Cs r]
def U5(g:HOk P w H h)(e:Rd H a (.dT kvs)):kvs.length<=sizeLine/\(a==sysModules)=false/\
 ∃xs,KT H kvs xs/\h.DictOfH (tupleKind<|VH P w) a xs:=by
 apply Hs ((Pg g e));rintro z y xs r o es C L⟨B,A,s,n⟩;refine#[z,y,xs,r,o,es,C,L,B,A,s,λx c=>?_,n];have f:∀{l:List _} {m:List _},KT H l m->∀x∈m,(tupleKind<|VH P w).is h x.1 x.2.1:=by
  intro l m q;induction q with
  |nil=>intro x c;exact nomatch c
  |@cons p q ps K i t j=>
   intro x c;rcases Xd.mp c with e|c
   .subst e;exact WP g (by exact i.1▸i.2.1)
   .exact j x c
 exact f r x c
def Kb(c:HOk P w H h)(e:H a=some (.dT kvs)):kvs.length<=sizeLine/\(a==sysModules)=false/\
 ∃xs,KT H kvs xs/\h.DictOfH (tupleKind<|VH P w) a xs:=U5 c (.inl e)
end
def VA(H:Hp)(a:Addr)(y:V)(r:Option V):Prop:=
 (∃c k,Rd H a (.dK c)/\y=kV k/\r=Z4 c k)\/∃c k b,Rd H a (.dT c)/\y=.ref b/\H b=some (.tup<|k.map kV)/\r=Z4 c k
def JJ(H:Hp)(a:Addr)(y v:V)(J:Hp):Prop:=
 (∃c k,H a=some (.dK c)/\y=kV k/\c.length<sizeLine/\J=upd H a (.dK<|Yk c k v)) \/
 ∃c k b,H a=some (.dT c)/\y=.ref b/\H b=some (.tup<|k.map kV)/\c.length<sizeLine/\J=upd H a (.dT<|Yk c k v)
def VA.zk{H:Hp}{a:Addr}{kvs:List (Key×V)}{k:Key}(e:H a=some (.dK kvs)):VA H a (kV k) (Z4 kvs k):=.inl #[kvs,k,.inl e,rfl,rfl]
def VA.t{b:Addr}{kvs:List (List Key×V)}{k:List Key}(e:H a=some (.dT kvs))(c:H b=some (.tup<|k.map kV)):VA H a (.ref b) (Z4 kvs k):=.inr #[kvs,k,b,.inl e,rfl,c,rfl]
def JJ.k{H:Hp}{a:Addr}{kvs:List (Key×V)}{k:Key}{v:V}(e:H a=some (.dK kvs))(c:kvs.length<sizeLine):JJ H a (kV k) v (upd H a<|.dK<|Yk kvs k v):=.inl #[kvs,k,e,rfl,c,rfl]
def JJ.t{b:Addr}{kvs:List (List Key×V)}{k:List Key}(e:H a=some (.dT kvs))(f:H b=some (.tup<|k.map kV))(c:kvs.length<sizeLine):
 JJ H a (.ref b) v (upd H a<|.dT<|Yk kvs k v):=.inr #[kvs,k,b,e,rfl,f,c,rfl]
section
variable {O:St}{H:Hp}{a:Addr}{v:V}{u r:Value}{o:Option V}{dx:Qb}
def Qt.big(I:Qt X Y O H s):sysModules<s.heap.objs.size:=by
 exact Nat.lt_trans (by decide) ((I.mod.glob.keeps I.bk).lt)
def Zr8(B:A.units+1<cLine)(I:Qt X Y O H s)(g:VA H a y (some v))(r:QO y u)(h:∀i q,Qt X Y O H q->QO v i->Q i q):
 wpAny (model X.prog X.w) A (getItem (.ref a) u) Q dx s:=by
 rcases g with ⟨j,k,e,rfl,l⟩|⟨j,k,b,e,rfl,M,l⟩
 .exact aL (JP I.hok e) λz K P f dd=>At (Vn.some_of (by rw[l];exact f.val k)) λi m c=>wpAny_getItem_of (Gn r) dd.mapOf m (h i _ (I.tok _) c)
 .cases (r);refine aL (U5 I.hok e) λz K xs f dd=>At (Vn.some_of (by rw[l];exact f.val k)) λi m c=>At (Mq.mp m) λp C n=>wpAny_getItem_heap (tupleKind_room_in1 B) (WP I.hok M) dd C ?_;rw[n];exact h i _ (I.tok _) c
def Z0i(r:A.units+1<cLine)(I:Qt X Y O H s)(g:VA H a y o)(n:QO y u)(h:∀m,Qt X Y O H m->Q (.bool o.isSome) m):
 wpAny (model X.prog X.w) A (compareOp .In u<|.ref a) Q dx s:=by
 rcases g with ⟨f,k,e,rfl,l⟩|⟨f,k,b,e,rfl,v,l⟩
 .refine aL (JP I.hok e) λz i B c dd=>wpAny_in_of (Gn n) i dd.mapOf ?_;rw[<- (c.val k).isSome_eq,<- l];exact h _ (I.tok _)
 .cases (n);refine aL (U5 I.hok e) λz i xs c dd=>wpAny_in_heap (tupleKind_room_in1 r) (WP I.hok v) i dd ?_;have q:=(c.val k).isSome_eq;rw[Uu]at q;rw[<- q,<- l];exact h _ (I.tok _)
def IT(r:A.units+1<cLine)(I:Qt X Y O H s)(g:VA H a y o)(n:QO y u)(h:∀m,Qt X Y O H m->Q (.bool<|!o.isSome) m):
 wpAny (model X.prog X.w) A (compareOp .NotIn u<|.ref a) Q dx s:=by
 rcases g with ⟨f,k,e,rfl,l⟩|⟨f,k,b,e,rfl,v,l⟩
 .refine aL (JP I.hok e) λz i B c dd=>wpAny_notIn_of (Gn n) i dd.mapOf ?_;rw[<- (c.val k).isSome_eq,<- l];exact h _ (I.tok _)
 .cases (n);refine aL (U5 I.hok e) λz i xs c dd=>wpAny_notIn_heap (tupleKind_room_in1 r) (WP I.hok v) i dd ?_;have q:=(c.val k).isSome_eq;rw[Uu]at q;rw[<- q,<- l];exact h _ (I.tok _)
def BK(I:Qt X Y O H s)(f:Mut (H a))(hs:Heap.SameBut a s.heap h')(he:∃q,h'.get? a=some q)(c:ZT X.prog X.w (upd H a ob) h' a ob):
 Qt X Y O (upd H a ob) { s with heap:=h',toks:=t' }:=
 I.write f (.inl rfl) (λb q g z=>(hs.2 b g).trans z) he c
def Tv(z:kvs.length<=sizeLine)(f:(a==sysModules)=false)(c:KV kvs vs)(dd:h'.DictOf (VH P w) a vs):
 ZT P w J h' a (.dK kvs):=#[z,f,vs,c,dd]
def ZrA(t:A.units+1<cLine)(I:Qt X Y O H s)(g:JJ H a y v J)(P:QO y u)(U:QO v r)(h:∀M,Qt X Y O J M->Q () M):
 wpAny (model X.prog X.w) A (setItem (.ref a) u r) Q dx s:=by
 rcases g with ⟨i,k,e,C,l,K⟩|⟨i,k,b,e,C,Z,l,K⟩
 .subst C K;apply aL (As I.hok e);intro z B d f dd;have p:d.length<=sizeLine:=by rw[<- f.length];exact z
  have o:(Yk i k v).length<=sizeLine:=by have:=CJ i k v;lia
  refine wpAny_setItem_pairs (Gn P) dd λh' j n=>h _ ?_;have w:∃q,h'.get? a=some q:=let ⟨q,_,_,m,_⟩:=j;#[q,m];exact BK I (by rw[e];exact True.intro) n w (Tv o B (f.put k U) j)
 .subst C K;cases (P);apply aL (Kb I.hok e);intro z B xs f dd;have p:xs.length<=sizeLine:=by rw[<- Paired.length f];exact z
  have o:(Yk i k v).length<=sizeLine:=by have:=CJ i k v;lia
  refine wpAny_setItem_heap (tupleKind_room_in1 t) (WP I.hok Z) dd λh' j n=>h _ ?_;apply aN j;rintro q es G m F E D⟨_,x⟩;refine BK I (by rw[e];exact True.intro) n #[q,m] #[o,B,_,(f.put k Z U).keeps λc ys W=>?_,q,es,G,m,F,E,D,x];rw[Qv<|Pw W e λz=>nomatch z];exact W
end
def Hl(i:Expr):Prop := ∀c f,subscripted i false c f=operate [c,f] (getItem c f)
def TF{w:World}{g:Qb}{f c:Expr}{T B:String}{Q:Qb}
(C:typeLookup (.type T) "__getitem__"=pure (some<|.builtin B))(hs:Hl c)
(h:wpAny (model prog w) A (eval f env) (λo y=>wpAny (model prog w) A (eval c env) (λi m=>m.TypeIs o T/\wpAny (model prog w) A (getItem o i) Q g m) g y) g s):
 wpAny (model prog w) A (eval (.Subscript f c pos) env) Q g s:=by
 refine Subscript_ (wpAny_mono h (λo y M=>wpAny_mono M (λi m n=>Xa (Xa (wpAny_specialOf n.1 C ?_))) λ_ _ x=>x) λ_ _ x=>x);have j:wpAny (model prog w) A (subscripted c false o i) (λr q=>wpAny (model prog w) A (letTemporaryGo f o r >>= λ_=>pure r) Q g q) g m:=by
  rw[hs o i];exact wpAny_operating (wpAny_mono n.2 (λr q K=>Xa<|wpAny_letTemporaryGo<|Xl K) λ_ _ x=>x)
 first
  |exact Xl (Xa j)
  |exact Xa _
  |exact Xa j
def ZlX  {O:St}{H:Hp}{a:Addr}{o:Option V}(I:Qt X Y O H s)(g:VA H a y o):s.TypeIs (.ref a) "dict" := by
 rcases g with ⟨c,k,e,_,_⟩|⟨c,k,b,e,_,_,_⟩
 .exact aL (JP I.hok e) λ_ _ f _ dd=>dd.typeIs
 .exact aL (U5 I.hok e) λ_ _ xs _ dd=>dd.typeIs
def Pk(td f:TE):TE:=λO H Q=>td O H λx D=>f O D λy c=>∃a v,x=.ref a/\VA c a y (some v)/\Q v c
def MA(f td:TE):TE:=λO H Q=>f O H λy D=>td O D λx c=>∃a o,x=.ref a/\VA c a y o/\Q (.bl o.isSome) c
def Lh(f td:TE):TE:=λO H Q=>f O H λy D=>td O D λx c=>∃a o,x=.ref a/\VA c a y o/\Q (.bl<|!o.isSome) c
def HN(td f tv:TE):TS:=λH1 O H=>tv O H λv D=>td O D λx h=>f O h λy g=>∃a c,x=.ref a/\JJ g a y v c/\H1.nx O c
section
variable {o i value:Expr}{ty:TE}
def Lv(B:X.A.units+1<cLine)(C:PE X o td)(K:PE X i ty)(hs:Hl i):PE X (.Subscript o i pos) (Pk td ty):=by
 refine λY s O H Q I h=>TF PySem.F.slot_dict_getitem.lookup hs (Q9 (C Y s O H _ I h) ?_);rintro u j ⟨x,D,U,n,A⟩;refine Q9 (K Y j O D _ U A) ?_;rintro e d ⟨y,W,f,m,a,v,rfl,g,q⟩;obtain rfl:=n;exact#[ZlX f g,Zr8 B f g m λZ b P c=>#[v,W,P,c,q]]
def Kw(A:X.A.units+1<cLine)(C:PE X i ty)(B:PE X o td):PC X .In i o (MA ty td):=by
 refine λY s O H Q I h=>Q9 (C Y s O H _ I h) ?_;rintro d c ⟨y,D,U,f,n⟩;refine Q9 (B Y c O D _ U n) ?_;rintro u b ⟨x,W,P,j,a,q,rfl,g,m⟩;obtain rfl:=j;exact Z0i A P g f λZ M=>#[.bl q.isSome,W,M,rfl,m]
def Zqy(q:X.A.units+1<cLine)(B:PE X i ty)(A:PE X o td):PC X .NotIn i o (Lh ty td):=by
 refine λY s O H Q I h=>Q9 (B Y s O H _ I h) ?_;rintro d c ⟨y,D,P,f,n⟩;refine Q9 (A Y c O D _ P n) ?_;rintro u Z ⟨x,U,M,j,a,b,rfl,g,m⟩;obtain rfl:=j;exact IT q M g f λW K=>#[.bl _,U,K,rfl,m]
def TL(K:X.A.units+1<cLine)(M:PE X o td)(P:PE X i ty)(C:PE X value tv)(hs:swapsWith value (some<|.Subscript o i pos') pos.line X.env=pure false):
 PS X (.Assign [.Subscript o i pos'] value pos) (HN td ty tv):=by
 refine λY s O H H1 I h=>wpAny_Assign_Subscript (Q9 (C Y s O H _ I h) ?_) hs;rintro r f ⟨v,D,d,n,B⟩;refine Q9 (M Y f O D _ d B) ?_;rintro u c ⟨x,k,b,m,A⟩;refine Q9 (P Y c O k _ b A) ?_;rintro t p ⟨y,w,Z,j,a,e,rfl,g,q⟩;obtain rfl:=m;exact ZrA K Z g j n λl W=>#[O,e,W,q]
end
def Zt7  (h:Heap)(c:sysModules<h.objs.size):ZT P w H (h.push { cls:=.type "dict",data:=.dict (List.toArray []) }) h.objs.size (.dK []):=
 #[XH _,beq_eq_false_iff_ne.mpr<|Ne.symm<|Xp c,[],.nil,Heap.DictOf.new h]
def Ff  (h:Heap)(c:sysModules<h.objs.size):ZT P w H (h.push { cls:=.type "dict",data:=.dict (List.toArray []) }) h.objs.size (.dT []):=
 #[XH _,beq_eq_false_iff_ne.mpr<|Ne.symm<|Xp c,[],.nil,_,(List.toArray []),0,Xn _ rfl,#[rfl,rfl,rfl],rfl,rfl,Ms]
def PV:TE:=λ_ H Q=>∀p,H p=none->Q (.ref p) (upd H p<|.dK [])
def Em:TE:=λ_ H Q=>∀p,H p=none->Q (.ref p) (upd H p<|.dT [])
def F6:PE X (.Dict [] [] pos) PV:=λY s O H Q I h=>
 wpAny_Dict_empty #[.ref s.heap.objs.size,_,I.laid (λ_ _ q=>Xc _ q) (Xm _)<|Zt7 s.heap I.big,rfl,h _<|I.hok.fresh<|Xm _]
def Zss:PE X (.Dict [] [] pos) Em:=λY s O H Q I h=>
 wpAny_Dict_empty #[.ref s.heap.objs.size,_,I.laid (λ_ _ q=>Xc _ q) (Xm _)<|Ff s.heap I.big,rfl,h _<|I.hok.fresh<|Xm _]
structure M1(X:Cx)(o:Expr)(m:Str)(XD:Pos)(e:Expr)(UH:Pos):Prop where
 base:attributeBase o m X.env (eval o X.env)=eval o X.env
 few:((backTo UH<|starEach [e] X.env).all (λx => !x.1)&&(backToKw UH<|keywordEach [] X.env).all (λx=>x.1.isSome)
  && decide (([e]:Qi).length+([]:List Keyword).length+(if ([]:List Keyword).isEmpty then 0 else 1)<30))=true
 line:(XD.endLine==UH.line)=true
 trees:backTo UH (starEach [e] X.env)=[(false,eval e X.env)]
structure M2(X:Cx)(o:Expr)(m:Str)(XD:Pos)(e f:Expr)(UH:Pos):Prop where
 base:attributeBase o m X.env (eval o X.env)=eval o X.env
 few:((backTo UH<|starEach [e,f] X.env).all (λx => !x.1)&&(backToKw UH<|keywordEach [] X.env).all (λx=>x.1.isSome)
  && decide (([e,f]:Qi).length+([]:List Keyword).length+(if ([]:List Keyword).isEmpty then 0 else 1)<30))=true
 line:(XD.endLine==UH.line)=true
 trees:backTo UH (starEach [e,f] X.env)=[(false,eval e X.env),(false,eval f X.env)]
def IsD(H:Hp)(a:Addr):Prop:=(∃c,Rd H a<|.dK c)\/∃c,Rd H a (.dT c)
def T4{O:St}{H:Hp}{a:Addr}(I:Qt X Y O H s)(d:IsD H a):
 s.TypeIs (.ref a) "dict" /\ (∀b,Value.ref a=.ref b->∃c,s.heap.get? b=some c/\c.dict=none)/\(a==sysModules)=false:=by
 rcases d with ⟨f,e⟩|⟨f,e⟩
 .refine aL (JP I.hok e) λ_ g i _ dd=>#[dd.typeIs,λb q=>?_,g];cases q;exact aA dd λc _ _ L h _=>#[c,L,h.2.1]
 .refine aL (U5 I.hok e) λ_ g xs _ dd=>#[dd.typeIs,λb q=>?_,g];cases q;exact aA dd λc _ _ L h _=>#[c,L,h.2.1]
section
variable {O:St}{H:Hp}{a:Addr}{d:V}{u r:Value}{o:Option V}{dx:Qb}
def Ep(C:A.units+1<cLine)(I:Qt X Y O H s)(g:VA H a y o)(q:QO y u)(B:QO d r)(h:∀m n,Qt X Y O H n->QO (o.getD d) m->Q m n):
 wpAny (model X.prog X.w) A (call (.builtin "dict.get") [.ref a,u,r]) Q dx s:=by
 rcases g with ⟨f,k,e,rfl,l⟩|⟨f,k,b,e,rfl,K,l⟩
 .refine aL (JP I.hok e) λz i M c dd=>call_meetsIn PySem.F.slot_dict_get dd.typeIs PySem.F.entry_dict_get (PySem.F.args_dict_get_3 _ _ _) (meets_dict_get_default _ a (Gn q) i r) #[_,dd.mapOf,h _ _ (I.tok _) ?_];rw[l];exact(c.val k).getD B
 .cases (q);refine aL (U5 I.hok e) λz i xs c dd=>call_meetsIn PySem.F.slot_dict_get dd.typeIs PySem.F.entry_dict_get (PySem.F.args_dict_get_3 _ _ _) (meetsH_dict_get_default _ a b i r) #[tupleKind_room_in1 C,k,xs,WP I.hok K,dd,h _ _ (I.tok _) ?_];rw[l];exact(c.val k).getD B
end
def Ta(td f tx:TE):TE:=λO H Q=>td O H λx D=>∃a,x=.ref a/\IsD D a/\f O D λy g=>tx O g λz c=>∃o,VA c a y o/\Q (o.getD z) c
section
variable {o e f:Expr}{ty:TE}
def Zso(W:X.A.units+1<cLine)(Z:PE X o td)(he:PE X e ty)(b:PE X f tx)(m:M2 X o "get" XD e f UH):PE X (.Call (.Attribute o "get" XD) [e,f] [] UH) (Ta td ty tx):=by
 refine λY s O H Q I h=>wpAny_Call_method m.base m.few m.line PySem.F.plainAttrs_dict PySem.F.slot_dict_get PySem.F.type_dict_get (Q9 (Z Y s O H _ I h) ?_);rintro u A ⟨x,D,i,K,a,rfl,d,U⟩;obtain rfl:=K;refine KE (T4 i d) λn j _=>#[n,j,?_];rw[m.trees];refine Calls.callWith_builtin rfl (Calls.evalArgs_plain (Calls.spliced_cons (Q9 (he Y A O D _ i U) λJ q ⟨y,v,r,C,P⟩=>
  Calls.spliced_cons (Q9 (b Y q O v _ r P) λL F ⟨z,t,p,B,G,g,M⟩=>Calls.spliced_nil ?_))))
 exact Ep W p g C B λw E l c=>#[_,t,l,c,M]
end
section
variable {O:St}{H:Hp}{a:Addr}{kvs:List (Key×V)}{dx:Qb}
def ZtE(I:Qt X Y O H s)(e:Rd H a (.dK kvs))(h:∀p g,H p=none->Qt X Y O (upd H p<|.dK kvs) g->Q (.ref p) g):wpAny (model X.prog X.w) A (call (.type "dict") [.ref a]) Q dx s:=by
 refine aL (JP I.hok e) λz m n c dd=>kt_call_dict m dd (by exact c.length▸z) λh' f j=>h _ _ (I.hok.fresh<|Xm _) (I.laid (λb q i=>?_) (Xm _)<|Tv z (beq_eq_false_iff_ne.mpr<|Ne.symm<|Xp I.big) c f)
 exact(j.2 b<|Xp<|Xk i).trans (Xc _ i)
end
end L2
namespace L2
def Zx.keep(k:∀b∈p,J b=H b)(h:Zx K F H v t p):Zx K F J v t p:=h.move (Q6.refl _) (λa c=>(h.there a c).1) k
def QF.writeOwn(s:QF K U F Z O H)(e:zg Z i<|zo v Φ):
 O[i]?=some (some v)/\∃p,Φ.ok K F H v p/\(∀a∈p,U a=none/\F a=none/\H a≠none)/\
  ∀(J:Hp) (c:OwnP) (f:Qg),Q6 F J->(∀b,b∉p->H b≠none->J b=H b)->(∀b,H b≠none->J b≠none)->c.ok K F J v f->(∀a∈f,a∈p\/(H a=none/\U a=none))->
   QF K U F (Z.set i<|zo v c) O J:=by
 apply aB (s.chg e);rintro u p A⟨rfl,n⟩y k;exact#[A,p,n,y,λJ c f m q _ j g=>(k F J (.own _ c) f (Q6.refl _) m q (λb h=>.inl h) #[rfl,j] g).1]
end L2
namespace L2
noncomputable def JL:Key->PyData
 |.inl i=>.int i
 |.inr x=>.str x
def Zh(k:List Key):PyData:=.tuple (k.map JL)
def Na(r:Rep F y (JL k)):y=kV k:=by
 cases k with
 |inl i=>cases r;rfl
 |inr x=>cases r;rfl
theorem FW{F:Hp}:∀{ys:List V} {k:List Key},Qx F ys (k.map JL)->ys=k.map kV
 |_,[],.nil=>rfl
 |_,k::f,.cons r c=>by rw[Na r,FW c];rfl
def WX(r:Rep F y (Zh k)):∃b,y=.ref b/\F b=some (.tup<|k.map kV):=by
 cases r with
 |tup h c=>exact#[_,rfl,by rw[h,FW c]]
abbrev VZ:=List (List Key×PyData)
noncomputable def Yw(kvs:VZ)(k:List Key):Option PyData:=(kvs.find? λc=>decide (c.1=k)).map (·.2)
noncomputable def Bg(kvs:VZ)(k:List Key)(d:PyData):VZ:=if (kvs.any λc=>decide (c.1=k))=true then kvs.map (λc=>if c.1=k then (c.1,d) else c) else kvs++[(k,d)]
inductive PairD(F:Hp):List (List Key×V)->VZ->Prop
 |nil:PairD F [] []
 |cons {k:List Key}{x:V}{d:PyData}{xs:List (List Key×V)}{kvs:VZ}:Rep F x d->PairD F xs kvs->PairD F ((k,x)::xs) ((k,d)::kvs)
theorem PairD.mono{F c:Hp}(s:Q6 F c):∀{xs:List (List Key×V)} {kvs:VZ},PairD F xs kvs->PairD c xs kvs
 |_,_,.nil=>.nil
 |_,_,.cons r t=>.cons (r.mono s) (t.mono s)
theorem PairD.length{F:Hp}:∀{xs:List (List Key×V)} {kvs:VZ},PairD F xs kvs->xs.length=kvs.length
 |_,_,.nil=>rfl
 |_,_,.cons _ t=>by simp[t.length]
theorem PairD.val{F:Hp}(k:List Key):∀{xs:List (List Key×V)} {kvs:VZ},PairD F xs kvs->(Z4 xs k=none/\Yw kvs k=none)\/∃x d,Z4 xs k=some x/\Yw kvs k=some d/\Rep F x d
 |_,_,.nil=>.inl #[rfl,rfl]
 |_,_,.cons (k:=k') (x:=x) (d:=d) (kvs:=kvs) r t=>by
  by_cases e:k'=k
  .exact .inr #[x,d,Wi e,by simp[Yw, e],r]
  .have q:Yw ((k',d)::kvs) k=Yw kvs k:=by simp[Yw, e]
   rw[Wg e,q];exact t.val k
theorem PairD.any{F:Hp}(k:List Key):∀{xs:List (List Key×V)} {kvs:VZ},PairD F xs kvs->(xs.any λc=>decide (c.1=k))=(kvs.any λc=>decide (c.1=k))
 |_,_,.nil=>rfl
 |_,_,.cons _ t=>by simp[t.any k]
theorem PairD.mapP{F:Hp}(k:List Key){y:V}{d:PyData}(r:Rep F y d):∀{xs:List (List Key×V)} {kvs:VZ},PairD F xs kvs->PairD F (xs.map λc=>if c.1=k then (c.1,y) else c) (kvs.map λc=>if c.1=k then (c.1,d) else c)
 |_,_,.nil=>.nil
 |_,_,.cons (k:=k') f t=>by
  rw[Xw,Xw];by_cases e:k'=k
  .simp only[e];exact .cons r (t.mapP k r)
  .simp only[e];exact .cons f (t.mapP k r)
theorem PairD.snoc{F:Hp}(k:List Key){y:V}{d:PyData}(r:Rep F y d):∀{xs:List (List Key×V)} {kvs:VZ},PairD F xs kvs->PairD F (xs++[(k,y)]) (kvs++[(k,d)])
 |_,_,.nil=>.cons r .nil
 |_,_,.cons c t=>.cons c (t.snoc k r)
def PairD.put(k:List Key)(r:Rep F y d){xs:List (List Key×V)}(t:PairD F xs kvs):PairD F (Yk xs k y) (Bg kvs k d):=by
 unfold Yk Bg;rw[t.any k];split
 .exact t.mapP k r
 .exact t.snoc k r
def VL(kvs:VZ):OwnP where
 ok K F H v p := ∃a xs,v=.ref a/\p=[a]/\F a=none/\H a=some (.dT xs)/\PairD F xs kvs
 there:=by
  rintro K F H v p ⟨a,xs,rfl,rfl,L,f,g⟩ b i;cases Xj.mp i;exact#[L,Z8 f]
 mono:=by
  rintro K F n H J v p s m j ⟨a,xs,rfl,rfl,L,f,g⟩;exact#[a,xs,rfl,rfl,m a Xb,by rw[j a Xb];exact f,g.mono s]
 uniq:=by
  rintro K F H v p q ⟨a,xs,rfl,rfl,_⟩ ⟨b,ys,e,rfl,_⟩ c h;cases e;exact h
section
variable {ty:TE}{v:V}{kvs:VZ}{k:List Key}{d:PyData}
def QF.dct(S:QF K U F Z O H)(e:zg Z i<|zo v<|VL kvs):
 ∃a xs,v=.ref a/\O[i]?=some (some<|.ref a)/\F a=none/\U a=none/\H a=some (.dT xs)/\PairD F xs kvs:=by
 apply aX (S.writeOwn e);rintro g p⟨a,xs,rfl,rfl,L,f,d⟩c _;exact#[a,xs,rfl,g,L,(c a Xb).1,f,d]
def Rp{xs:List (List Key×V)}(t:PairD F xs kvs):(Z4 xs k).isSome=(Yw kvs k).isSome:=by
 rcases t.val k with ⟨d,c⟩|⟨x,f,d,c,_⟩<;>rw[d,c]<;>rfl
def Ov(f:Qr K ty Z (Zh k))(e:zg Z i<|zo v<|VL kvs):Qr K (MA ty<|Q8 i) Z (.bool (Yw kvs k).isSome):=λU F O H Q S q=>
 f U F O H _ S λn D y c d=>by
  apply aP ((S.ext c).dct e);rintro a xs rfl m _ _ j h;apply At (WX d);rintro b rfl g;exact#[_,m,a,_,rfl,VA.t j<|c.fh _ _ g,q n D _ c<|by rw[Rp h];exact .bl _]
def Zoh(f:Qr K ty Z (Zh k))(e:zg Z i<|zo v<|VL kvs):Qr K (Lh ty<|Q8 i) Z (.bool<|!(Yw kvs k).isSome):=λU F O H Q S q=>
 f U F O H _ S λn D y c d=>by
  apply aP ((S.ext c).dct e);rintro a xs rfl m _ _ j h;apply At (WX d);rintro b rfl g;exact#[_,m,a,_,rfl,VA.t j<|c.fh _ _ g,q n D _ c<|by rw[Rp h];exact .bl _]
def OE(e:zg Z i<|zo v<|VL kvs)(Y:Qr K tv Z d)(X:Qr K ty Z (Zh k))(hz:kvs.length<sizeLine)(hn:H1.nx (Z.set i<|zo v<|VL<|Bg kvs k d)):QJ K (HN (Q8 i) ty tv) Z H1:=λF0 U F O H N x S C=>
 Y U F O H _ S λI D u h P=>by
  apply aF ((S.ext h).dct e);rintro a xs rfl t _;refine#[_,t,X U I O D _ (S.ext h) λG R y g M=>?_];have n:=S.ext (h.trans g);apply aP (n.dct e);intro Q B m _ j r o A;cases m;apply At (WX M);rintro b rfl l;refine#[a,_,rfl,JJ.t o (g.fh _ _ l)<|by rw[A.length];exact hz,?_];apply aX (n.writeOwn e);intro _ p W J w;apply aW W;rintro E s m rfl _ L _;cases m;refine C.nx G O _ _ ((x.trans<|h.trans g).wr r j) (w _ (VL _) [a] (n.sub.upd j) (λc f _=>Qv λz=>f<|by exact z▸Xb) (λc f=>?_) #[a,_,rfl,rfl,j,QI,A.put k<|P.mono g.ff] λc f=>.inl f) hn
  by_cases z:c=a
  .subst z;rw[QI];rintro⟨⟩
  .rw[Qv z];exact f
def EvX(K:W.Frag)(t:TE)(Z:ZbI)(Φ:OwnP):Prop := ∀(U F:Hp) (O:St) (H:Hp) (Q:VK),QF K U F Z O H->(∀c J v p,Q3 F H c J->(∀a∈p,H a=none)->Φ.ok K c J v p->Q v J)->t O H Q
def KI(h:EvX K te Z Φ)(hn:∀v,H1.nx<|Z.set i<|zo v Φ):QJ K (ZN te<|Vs i) Z H1:=λF0 U F O H l x S C=>
 h U F O H _ S λX J v p c g n=>by
  refine C.nx X _ J _ (x.trans c) ((S.ext c).set (t:=.own v Φ) #[rfl,n] (λa f=>x.hh.free<|g a f) (hn:=λa f j w m q W P d=>L3 S.fp λe A b y=>At (A j m W) λY k M=>?_)) (hn v);intro s;rw[P]at k;cases k;exact(y j a<|UO (M.ext c) d a s).2 (g a f)
end
end L2
namespace Mir
theorem Cp{g:Qn}{l:Nat}(h:∀c,c<=l->g c=0):∀m,Q5 g (l+1+m)=Q5 (λj=>g<|l+1+j) m
 |0=>by
  show Q5 g _=0;rw[Zs λk f=>h k<|#[],Vq]
 |m+1=>by
  show Q5 g (l+1+m)+g _=_;rw[Cp h m];rfl
theorem CW(y:Yd)(b own:Qn)(l:Nat):∀m,Um y b own l m=Q5 (λj=>if Zq y (l+1+j)=some l then passes y b own (l+1+j) else 0) m
 |0=>rfl
 |m+1=>by simp only[Um,Q5];rw[CW y b own l m]
def Gj{y:Yd}(f:y.Ok){c:Nat}(g:c<y.ls.length)(e:Zq y c=some l):l<c:=by
 by_cases h:c=0
 .subst h;rw[f.up0]at e;cases e
 .obtain _:=f.ups c #[] g;simp_all
def FH{y:Yd}(f:y.Ok)(b own:Qn)(i:l<y.ls.length):VC y b own l=own l+Q5 (λc=>if Zq y c=some l then passes y b own c else 0) y.ls.length:=by
 rw[ON f,CW];have e:y.ls.length=l+1+(y.ls.length-1-l):=#[]
 have h:=Cp (g:=λc=>if Zq y c=some l then passes y b own c else 0) (l:=l) (λc j=>Xe λz=>by
  have:=Gj f #[] z;lia) (y.ls.length-1-l)
 rw[<- e]at h;rw[h]
section
variable {y:Yd}
def F8(c:y.Ok):upL y 0=[0]:=by
 have:=c.l1;rw[PK c<|#[],Xh rfl]
end
end Mir
namespace Mir
noncomputable def ind(p:Prop)[Decidable p]:Int:=if p then 1 else 0
theorem Fr{y:Yd}(f:y.Ok)(l:Nat)(C:l<y.ls.length):∀n j,j<n->j<y.ls.length->
 ind (l∈upL y j)=ind (j=l)+Q5 (λc=>if Zq y c=some l then ind (c∈upL y j) else 0) y.ls.length
 |0,j,h,_=>#[]
 |n+1,j,h,g=>by
  by_cases e:j=l
  .subst e;have z:Q5 (λc=>if Zq y c=some j then ind (c∈upL y j) else 0) y.ls.length=0:=by
    rw[Zs λc i=>?_,Vq]
    by_cases u:Zq y c=some j
    .have:=Gj f i u;have w:¬c∈upL y j:=λz=>by have:=T2 y j c z;lia
     simp[u,ind,w]
    .simp[u]
   rw[z];simp[ind,NG]
  .by_cases A:j=0
   .subst A;have w:¬l∈upL y 0:=λz=>by rw[F8 f]at z;simp at z;exact e z.symm
    have z:Q5 (λc=>if Zq y c=some l then ind (c∈upL y 0) else 0) y.ls.length=0:=by
     rw[Zs λc i=>?_,Vq]
     by_cases u:Zq y c=some l
     .have P:¬c∈upL y 0:=λz=>by
       rw[F8 f]at z;simp at z;subst z;rw[f.up0]at u;cases u
      simp[u,ind,P]
     .simp[u]
    rw[z];simp[ind,w,e]
   .obtain⟨a,m,W⟩:=f.ups j #[] g;have B:=Fr f l C n a #[] #[];have s:=Ki f #[] g m l (λz=>e z.symm);have M:ind (l∈upL y j)=ind (l∈upL y a):=by unfold ind;simp only[s]
    have K:∀c,c<y.ls.length->(if Zq y c=some l then ind (c∈upL y j) else 0)=(if Zq y c=some l then ind (c∈upL y a) else 0)+(if c=j then ind (a=l) else 0):=by
     intro c i;by_cases z:c=j
     .subst z;have w:¬c∈upL y a:=λq=>by have:=T2 y a c q;lia
      rw[m];by_cases q:a=l
      . simp[ind,NG,w]
      .simp[ind,q]
     .have U:=Ki f #[] g m c z;simp_all
    rw[M,B,Zs K,BT,G6,Xh g];have:ind (j=l)=0:=by unfold ind;rw[Xe e]
    lia
noncomputable def V1(y:Yd)(m:Nat)(ln:Nat->Nat)(f:Qn)(l:Nat):Int:=Q5 (λk=>f k*ind (l∈upL y (ln k))) m
def Mc{y:Yd}(h:y.Ok){m:Nat}(g:∀k,k<m->ln k<y.ls.length)(f:Qn)(i:l<y.ls.length):
 V1 y m ln f l=Q5 (λk=>f k*ind (ln k=l)) m+Q5 (λc=>if Zq y c=some l then V1 y m ln f c else 0) y.ls.length:=by
 unfold V1;have L:∀k,k<m->f k*ind (l∈upL y (ln k))=f k*ind (ln k=l)+Q5 (λc=>if Zq y c=some l then f k*ind (c∈upL y (ln k)) else 0) y.ls.length:=by
  intro k j;rw[Fr h l i _ (ln k) (J9 _)<|g k j,Int.mul_add,<- DK];congr 1;refine Zs λc _=>?_
  by_cases u:Zq y c=some l
  .rw[Xh u,Xh u]
  .simp_all
 rw[Zs L,BT,BU];congr 1;refine Zs λc _=>?_
 by_cases u:Zq y c=some l
 .simp_all
 .simp only[Xe u];rw[Vq]
theorem no_more{y:Yd}(j:y.Ok){m:Nat}{ln:Nat->Nat}(g:∀k,k<m->ln k<y.ls.length){f:Qn}{b own:Qn}(q:∀l,l<y.ls.length->Q5 (λk=>f k*ind (ln k=l)) m<=own l)(A:∀l,l<y.ls.length->V1 y m ln f l<=b l):
 ∀n l,y.ls.length<=l+n->l<y.ls.length->V1 y m ln f l<=passes y b own l
 |0,l,h,i=>#[]
 |n+1,l,h,i=>by
  have L:V1 y m ln f l<=VC y b own l:=by
   rw[Mc j g f i,FH j b own i];refine Int.add_le_add (q l i) (Wt λc s=>?_)
   by_cases u:Zq y c=some l
   .rw[Xh u,Xh u];have:=Gj j s u;exact no_more j g q A n c #[] s
   .simp_all
  have B:=A l i;unfold passes;lia
end Mir
namespace Mir
def TK{y:Yd}{m:Nat}{f g:Qn}(h:∀k,k<m->f k<=g k)(l:Nat):V1 y m ln f l<=V1 y m ln g l:=
 Wt λk c=>by
  unfold ind;split
  .simp_all
  .lia
def EX{y:Yd}{m:Nat}{f:Qn}(h:∀k,k<m->0<=f k)(l:Nat):0<=V1 y m ln f l:=
 KD λk c=>by
  unfold ind;split
  .simp_all
  .lia
structure Shut(y:Yd)(m:Nat)(ln:Nat->Nat)(f mo:Qn)(b:Qn)(S R:Qm):Prop where
 nn:∀k,k<m->0<=f k
 full:∀k,k<m->S k=true->R (ln k)=false->f k=mo k
 none:∀k,k<m->S k=false->R (ln k)=true->f k=0
 top:R 0=true->V1 y m ln f 0=b 0
 out:∀c a,c<y.ls.length->Zq y c=some a->R c=true->R a=false->V1 y m ln f c=b c
 inn:∀c a,c<y.ls.length->Zq y c=some a->R c=false->R a=true->V1 y m ln f c=0
def Zl(S:Qm)(f:Qn):Qn:=λk=>if S k=true then f k else 0
def Nk{f:Qn}(h:0<=f k):Zl S f k<=f k:=by
 unfold Zl;split<;>lia
def OI{f:Qn}(h:0<=f k):0<=Zl S f k:=by
 unfold Zl;split<;>lia
theorem Shut.alike{y:Yd}(j:y.Ok){m:Nat}{ln:Nat->Nat}(g:∀k,k<m->ln k<y.ls.length){f C b:Qn}{S R:Qm}(h:Shut y m ln f C b S R):
 ∀n l,y.ls.length<=l+n->l<y.ls.length->R l=true->V1 y m ln f l=V1 y m ln (Zl S f) l
 |0,l,K,q,_=>#[]
 |n+1,l,K,q,B=>by
  rw[Mc j g f q,Mc j g _ q];congr 1
  .refine Zs λk i=>?_
   by_cases e:ln k=l
   .have:f k=Zl S f k:=by
     unfold Zl;cases s:S k with
     |true=>simp
     |false=>simp;exact h.none k i s (by rw[e];exact B)
    rw[this]
   .simp[ind,e]
  .refine Zs λc A=>?_
   by_cases u:Zq y c=some l
   .rw[Xh u,Xh u];have:=Gj j A u;cases r:R c with
    |true=>exact Shut.alike j g h n c #[] A r
    |false=>
     have e:=h.inn c l A u r B;have P:=TK (y:=y) (ln:=ln) (f:=Zl S f) (λk i=>Nk<|h.nn k i) c;have M:=EX (y:=y) (ln:=ln) (f:=Zl S f) (λk i=>OI<|h.nn k i) c;lia
   .simp_all
theorem Shut.all{y:Yd}(j:y.Ok){m:Nat}{ln:Nat->Nat}(g:∀k,k<m->ln k<y.ls.length){f q b own:Qn}{S R:Qm}(h:Shut y m ln f q b S R)
(A:∀l,l<y.ls.length->own l=Q5 (λk=>Zl S q k*ind (ln k=l)) m):
 ∀n l,y.ls.length<=l+n->l<y.ls.length->(R l=true->l=0\/∃a,Zq y l=some a/\R a=false)->passes y b own l<=V1 y m ln (Zl S f) l
 |0,l,C,i,_=>#[]
 |n+1,l,C,i,P=>by
  cases r:R l with
  |true=>
   have e:V1 y m ln f l=b l:=by
    rcases P r with z|⟨a,u,K⟩
    .subst z;exact h.top r
    .exact h.out l a i u r K
   rw[<- h.alike j g (n+1) l C i r,e];unfold passes;lia
  |false=>
   have L:VC y b own l<=V1 y m ln (Zl S f) l:=by
    rw[Mc j g _ i,FH j b own i];refine Int.add_le_add ?_ (Wt λc B=>?_)
    .rw[A l i];refine Wt λk M=>?_
     by_cases e:ln k=l
     .have:Zl S q k=Zl S f k:=by
       unfold Zl;cases s:S k with
       |true=>simp;exact(h.full k M s<|by rw[e];exact r).symm
       |false=>simp
      rw[this];exact Uv _
     .simp[ind,e]
    .by_cases u:Zq y c=some l
     .rw[Xh u,Xh u];have:=Gj j B u;exact Shut.all j g h A n c #[] B (λ_=>.inr #[l,u,r])
     .simp_all
   unfold passes;lia
end Mir
namespace Mir
section
variable {ν:Type} [DecidableEq ν]
abbrev Lay(ν:Type):=List (ν×ν×Int)
abbrev Zp(ν:Type):=ν->ν->Int
def WH(c:Lay ν):List ν:=c.flatMap λx=>[x.2.1,x.1]
def Yg(c:Lay ν)(φ:Zp ν):Ql:=c.flatMap λx=>[x.2.2-φ x.1 x.2.1,φ x.1 x.2.1]
def Dis(c:Lay ν):Prop:=(c.map λx=>(x.1,x.2.1)).Nodup
noncomputable def Yc(φ:Zp ν)(s e:ν)(a:Int):Zp ν:=λp q=>if p=s/\q=e then φ p q+a else φ p q
theorem Kr{i j:Type}(f g:i->j):∀(c:List i) (e:Nat),(c.flatMap λx=>[f x,g x])[e]?=c[e/2]?.map (if e%2=0 then f else g)
 |[],e=>by simp
 |x::c,0=>by simp
 |x::c,1=>by simp
 |x::c,e+2=>by
  have h:=Kr f g c e;simpa using h
noncomputable def hdE(c:Lay ν)(e:Nat):Option ν:=c[e/2]?.map λx=>if e%2=0 then x.2.1 else x.1
noncomputable def tlE(c:Lay ν)(e:Nat):Option ν:=c[e/2]?.map λx=>if e%2=0 then x.1 else x.2.1
noncomputable def rmE(c:Lay ν)(φ:Zp ν)(e:Nat):Option Int:=c[e/2]?.map λx=>if e%2=0 then x.2.2-φ x.1 x.2.1 else φ x.1 x.2.1
def KA(c:Lay ν)(e:Nat):(WH c)[e]?=hdE c e:=by
 unfold WH hdE;rw[Kr];congr 1;split<;>rfl
def GA(c:Lay ν)(φ:Zp ν)(e:Nat):(Yg c φ)[e]?=rmE c φ e:=by
 unfold Yg rmE;rw[Kr];congr 1;split<;>rfl
noncomputable def Zhh(e:Nat):Nat:=if e%2=0 then e+1 else e-1
def ZpK(c:Lay ν)(e:Nat):(WH c)[Zhh e]?=tlE c e:=by
 rw[KA];unfold hdE tlE Zhh;by_cases h:e%2=0
 .have L:(e+1)/2=e/2:=#[]
  have f:¬(e+1)%2=0:=#[]
  simp_all
 .have L:(e-1)/2=e/2:=#[]
  have f:(e-1)%2=0:=#[]
  simp_all
def Vu(c:Lay ν)(F:ν->ν->Int):Int:=(c.map λx=>F x.1 x.2.1).sum
noncomputable def VM(c:Lay ν)(φ:Zp ν)(n:ν):Int:=Vu c λs e=>φ s e*(ind (s=n)-ind (e=n))
def ZnV{s:ν}(h:(s,e)∉h1.map λx=>(x.1,x.2.1))(G:Int->ν->ν->Int):
 Vu h1 (λp q=>G (Yc φ s e a p q) p q)=Vu h1 λp q=>G (φ p q) p q:=by
 unfold Vu;congr 1;refine W6 λx g=>?_
 have:¬(x.1=s/\x.2.1=e):=by rintro⟨f,c⟩;exact h (Xo.mpr #[x,g,by rw[f,c]])
 unfold Yc;dsimp only;rw[Xe this]
theorem Cq{φ:Zp ν}{a:Int}(G:Int->ν->ν->Int):∀{f:Lay ν},Dis f->∀{x:ν×ν×Int},x∈f->
 Vu f (λp q=>G (Yc φ x.1 x.2.1 a p q) p q)=Vu f (λp q=>G (φ p q) p q)-G (φ x.1 x.2.1) x.1 x.2.1+G (φ x.1 x.2.1+a) x.1 x.2.1
 |[],_,_,h=>by cases h
 |y::f,c,x,h=>by
  unfold Dis at c;rw[Xw,XM]at c;rcases Xd.mp h with rfl|h
  .have:=ZnV (φ:=φ) (a:=a) c.1 G;have e:Yc φ x.1 x.2.1 a x.1 x.2.1=φ x.1 x.2.1+a:=by unfold Yc;rw[Xh #[rfl,rfl]]
   unfold Vu at this ⊢;rw[Xw,UU,Xw,UU,this];dsimp only;rw[e];lia
  .have g:=Cq (φ:=φ) (a:=a) G c.2 h;have m:¬(y.1=x.1/\y.2.1=x.2.1):=λ⟨j,i⟩=>c.1 (Xo.mpr #[x,h,by rw[j,i]]);have e:Yc φ x.1 x.2.1 a y.1 y.2.1=φ y.1 y.2.1:=by unfold Yc;rw[Xe m]
   unfold Vu at g ⊢;rw[Xw,UU,Xw,UU,g];dsimp only;rw[e];lia
noncomputable def Y9(c:Lay ν)(a:Int)(φ:Zp ν)(e:Nat):Zp ν:=
 match c[e/2]? with
 |some x=>Yc φ x.1 x.2.1 (if e%2=0 then a else -a)
 |none=>φ
def ZpZ(i:Dis h1){s:ν}(c:hdE h1 e=some t)(hs:tlE h1 e=some s)(n:ν):
 VM h1 (Y9 h1 a φ e) n=VM h1 φ n+a*(ind (s=n)-ind (t=n)):=by
 unfold hdE at c;unfold tlE at hs;cases f:h1[e/2]? with
 |none=>rw[f]at c;cases c
 |some x=>
  rw[f]at c hs;have h:Y9 h1 a φ e=Yc φ x.1 x.2.1 (if e%2=0 then a else -a):=by unfold Y9;rw[f]
  rw[h];unfold VM;rw[Cq (λv p q=>v*(ind (p=n)-ind (q=n))) i (List.mem_of_getElem? f)];simp only[YX,Option.some.injEq]at c hs;by_cases z:e%2=0
  .rw[Xh z]at c hs ⊢;subst c hs;rw[Int.add_mul];lia
  .rw[Xe z]at c hs ⊢;subst c hs;rw[Int.add_mul,Int.neg_mul,Ba a,Ba a];lia
inductive Chain(h1:Lay ν)(s:ν):ν->Qk->Prop
 |nil:Chain h1 s s []
 |cons {n m:ν}{e:Nat}{w:Qk}(h:hdE h1 e=some n)(t:tlE h1 e=some m)(c:Chain h1 s m w):Chain h1 s n (e::w)
noncomputable def Wp(c:Lay ν)(a:Int)(φ:Zp ν)(w:Qk):Zp ν:=w.foldl (Y9 c a) φ
theorem Nl{f:Lay ν}(g:Dis f){s:ν}{a:Int}(p:ν):∀{w:Qk} {n:ν} {φ:Zp ν},Chain f s n w->VM f (Wp f a φ w) p=VM f φ p+a*(ind (s=p)-ind (n=p))
 |_,_,φ,.nil=>by
  show VM f φ p=_
  simp_all
 |e::w,n,φ,.cons h t c=>by
  show VM f (Wp f a _ w) p=_;rw[Nl g p c,ZpZ g h t,Ba,Ba,Ba];lia
def Within(c:Lay ν)(φ:Zp ν):Prop := ∀x∈c,0<=φ x.1 x.2.1/\φ x.1 x.2.1<=x.2.2
def KN:∀{c:Lay ν},Dis c->∀{i j:Nat} {x y:ν×ν×Int},c[i]?=some x->c[j]?=some y->x.1=y.1->x.2.1=y.2.1->i=j:=λ{c} m {i j x y} h g q n=>by
 have a:(c.map λx=>(x.1,x.2.1))[i]?=some (x.1,x.2.1):=by rw[Xv,h];rfl
 have b:(c.map λx=>(x.1,x.2.1))[j]?=some (x.1,x.2.1):=by rw[Xv,g,q,n];rfl
 exact(List.getElem?_inj ((Xi.mp a).1) m).mp (a.trans b.symm)
def Zm1{c:Lay ν}(A:Dis c){φ:Zp ν}(h:Within c φ){a:Int}(C:0<=a){e:Nat}{r:Int}(he:rmE c φ e=some r)(B:a<=r):Within c (Y9 c a φ e):=by
 unfold rmE at he;cases f:c[e/2]? with
 |none=>rw[f]at he;cases he
 |some x=>
  rw[f]at he;simp only[YX,Option.some.injEq]at he;intro y m;have g:=h y m;have s:Y9 c a φ e=Yc φ x.1 x.2.1 (if e%2=0 then a else -a):=by unfold Y9;rw[f]
  rw[s];unfold Yc;by_cases z:y.1=x.1/\y.2.1=x.2.1
  .rw[Xh z];obtain⟨j,i⟩:=List.mem_iff_getElem?.mp m;have n:=KN A i f z.1 z.2;subst n;rw[f]at i;cases i
   by_cases q:e%2=0
   .rw[Xh q]at he ⊢;lia
   .rw[Xe q]at he ⊢;lia
  .rw[Xe z];exact g
def Zpx{c:Lay ν}(j:Dis c){φ:Zp ν}{a:Int}(A:0<=a){e f:Nat}(n:f≠e){r:Int}(he:rmE c φ f=some r):∃i,rmE c (Y9 c a φ e) f=some i/\r<=i:=by
 unfold rmE at he ⊢;cases h:c[f/2]? with
 |none=>rw[h]at he;cases he
 |some y=>
  rw[h]at he;simp only[YX]at he ⊢;refine#[_,rfl,?_];unfold Y9;cases m:c[e/2]? with
  |none=>simp only[];lia
  |some x=>
   simp only[];unfold Yc;by_cases z:y.1=x.1/\y.2.1=x.2.1
   .rw[Xh z];have s:=KN j h m z.1 z.2
    by_cases q:e%2=0
    .have g:¬f%2=0:=#[]
     rw[Xe g]at he ⊢;rw[Xh q];lia
    .have g:f%2=0:=#[]
     rw[Xh g]at he ⊢;rw[Xe q];lia
   .rw[Xe z];lia
theorem C2{c:Lay ν}(g:Dis c){a:Int}(i:0<=a):∀{w:Qk} {φ:Zp ν},Within c φ->w.Nodup->(∀e∈w,∃r,rmE c φ e=some r/\a<=r)->Within c (Wp c a φ w)
 |[],_,h,_,_=>h
 |e::w,φ,h,y,m=>by
  obtain⟨L,A⟩:=XM.mp y;obtain⟨r,B,s⟩:=m e Xb;show Within c (Wp c a _ w);refine C2 g i (Zm1 g h i B s) A λK f=>?_;obtain⟨M,j,n⟩:=m K (Xf _ f);obtain⟨q,C,P⟩:=Zpx g i (e:=e) (λz=>L<|z▸f) j
  exact#[q,C,#[]]
abbrev Got(ν:Type):=List (ν×Option Nat)
def Zc(es:Got ν):List ν:=es.map (·.1)
inductive Tree(h1:Lay ν)(φ:Zp ν)(s:ν):Got ν->Prop
 |root:Tree h1 φ s [(s,none)]
 |add {es:Got ν}{e:Nat}{n m:ν}{r:Int}(t:Tree h1 φ s es)(hn:n∉Zc es)(hh:hdE h1 e=some n)(ht:tlE h1 e=some m)(hm:m∈Zc es)(hr:rmE h1 φ e=some r)(h0:0<r):Tree h1 φ s (es++[(n,some e)])
noncomputable def JN(es:Got ν)(n:ν):Option (Option Nat):=es.lookup n
def Zmb{es:Got ν}{n:ν}:n∉Zc es->es.lookup n=none:=by
 induction es with
 |nil=>intro _;rfl
 |cons p es c=>
  intro h;rw[X5];have:(n==p.1)=false:=by rw[beq_eq_false_iff_ne];exact (λz=>h (by exact z▸Xb))
  rw[this];exact c (λz=>h (Xf _ z))
def Ri{es c:Got ν}{n:ν}:(es++c).lookup n=(es.lookup n).or (c.lookup n):=by
 grind
inductive Back(h1:Lay ν)(es:Got ν):ν->Qk->Prop
 |nil {n:ν}(h:JN es n=some none):Back h1 es n []
 |cons {n m:ν}{e:Nat}{w:Qk}(h:JN es n=some (some e))(t:tlE h1 e=some m)(b:Back h1 es m w):Back h1 es n (e::w)
theorem Back.app{c:Lay ν}{es f:Got ν}:∀{w:Qk} {n:ν},Back c es n w->Back c (es++f) n w
 |_,_,.nil h=>.nil (by unfold JN at h ⊢;rw[Ri,h];rfl)
 |_,_,.cons h t b=>.cons (by unfold JN at h ⊢;rw[Ri,h];rfl) t b.app
structure WayOk(h1:Lay ν)(φ:Zp ν)(s:ν)(es:Got ν)(n:ν)(w:Qk):Prop where
 back:Back h1 es n w
 chain:Chain h1 s n w
 nodup:w.Nodup
 room:∀e∈w,∃r,rmE h1 φ e=some r/\0<r
 heads:∀e∈w,∃m,hdE h1 e=some m/\m∈Zc es
theorem Tree.way{M:Lay ν}{φ:Zp ν}{s:ν}:∀{es:Got ν},Tree M φ s es->∀n∈Zc es,∃w,WayOk M φ s es n w
 |_,.root,n,y=>by
  have e:=by simpa [Zc] using y
  subst e;exact#[[],.nil<|by simp[JN],.nil,Ms,(by rintro e ⟨⟩),(by rintro e ⟨⟩)]
 |_,.add (es:=es) (e:=e) (n:=k) (m:=m) t K A B U P W,n,y=>by
  have f:n∈Zc es\/n=k:=by simpa [Zc] using y
  have g:∀p,p∈Zc es->p∈Zc (es++[(k,some e)]):=λp C=>by
   unfold Zc at C ⊢;rw[Xx];exact GT _ C
  rcases f with f|rfl
  .obtain⟨w,q⟩:=t.way n f;exact#[w,q.back.app,q.chain,q.nodup,q.room,λi c=>let ⟨j,a,b⟩:=q.heads i c;#[j,a,g _ b]]
  .obtain⟨w,q⟩:=t.way m U;refine#[e::w,.cons ?_ B q.back.app,.cons A B q.chain,XM.mpr #[λz=>?_,q.nodup],λi c=>?_,λi c=>?_]
   .unfold JN;rw[Ri,Zmb K];simp
   .obtain⟨j,a,b⟩:=q.heads e z;rw[A]at a;cases a;exact K b
   .rcases Xd.mp c with rfl|c
    .exact#[_,P,W]
    .exact q.room i c
   .rcases Xd.mp c with rfl|c
    .exact#[n,A,by simp[Zc]]
    .obtain⟨j,a,b⟩:=q.heads i c;exact#[j,a,g _ b]
theorem Tree.nodup{h:Lay ν}{φ:Zp ν}{s:ν}:∀{es:Got ν},Tree h φ s es->(Zc es).Nodup
 |_,.root=>by simp[Zc]
 |_,.add (n:=k) t c _ _ _ _ _=>by
  have:=t.nodup;unfold Zc at this c ⊢;rw[Xx,Mv];refine#[this,by simp,λa g b f=>?_];have e:=by simpa using f
  exact λz=>c (e▸z▸g)
theorem Tree.start{c:Lay ν}{φ:Zp ν}{s:ν}:∀{es:Got ν},Tree c φ s es->s∈Zc es
 |_,.root=>by simp[Zc]
 |_,.add t _ _ _ _ _ _=>by
  have:=t.start;unfold Zc at this ⊢;rw[Xx];exact GT _ this
theorem Tree.sub{g:Lay ν}{φ:Zp ν}{s:ν}:∀{es:Got ν},Tree g φ s es->∀n∈Zc es,n∈s::WH g
 |_,.root,n,f=>by
  have e:=by simpa [Zc] using f
  rw[e];exact Xb
 |_,.add (es:=es) (n:=k) t i h _ _ _ _,n,f=>by
  have c:n∈Zc es\/n=k:=by simpa [Zc] using f
  rcases c with c|rfl
  .exact t.sub n c
  .exact Xf _ (List.mem_of_getElem?<|(KA g _).trans h)
theorem NR{c:Type}[DecidableEq c]:∀{xs ys:List c},xs.Nodup->(∀x∈xs,x∈ys)->xs.length<=ys.length
 |[],_,_,_=>XH _
 |x::xs,ys,j,h=>by
  obtain⟨L,m⟩:=XM.mp j;have g:=h x Xb;have:=NR m λz f=>by
   have i:z≠x:=λq=>L (q▸f)
   exact(List.mem_erase_of_ne i).mpr (h z<|Xf _ f)
  rw[List.length_erase_of_mem g]at this;have:=List.length_pos_of_mem g;rw[X4];lia
def Tree.len{s:ν}{es:Got ν}(t:Tree h1 φ s es):es.length<=(WH h1).length+1:=by
 have:=NR t.nodup t.sub;simpa [Zc] using this
def Yz(c:Lay ν)(φ:Zp ν)(es:Got ν):Prop := ∀e m n r,tlE c e=some m->hdE c e=some n->rmE c φ e=some r->0<r->m∈Zc es->n∈Zc es
end
end Mir
namespace Mir
inductive Nd where
 |start|fin
 |guest (k:Nat)
 |line (l t:Nat)
deriving DecidableEq
structure Gv where
 m:Nat
 ln:Nat->Nat
 wa:Qn
 mo:Qn
 th:Nat->Qm
noncomputable def upN(y:Yd)(l:Nat):Nat:=(Zq y l).getD 0
noncomputable def Vr(y:Yd)(G:Gv)(k:Nat):Lay Nd:=(.start,.guest k,G.wa k)::(List.range y.T).flatMap λt=>if G.th k t=true then [(.guest k,.line (G.ln k) t,G.mo k)] else []
noncomputable def Yb(y:Yd)(t:Nat):Lay Nd:=(.line 0 t,.fin,Z7 y 0 t)::(List.range<|y.ls.length-1).flatMap λi=>[(.line (i+1) t,.line (upN y<|i+1) t,Z7 y (i+1) t)]
noncomputable def Zu(y:Yd)(G:Gv):Lay Nd:=(List.range G.m).flatMap (Vr y G)++(List.range y.T).flatMap (Yb y)
def Fi(A B:Lay Nd)(F:Nd->Nd->Int):Vu (A++B) F=Vu A F+Vu B F:=by
 unfold Vu;simp_all
theorem Mg(f:Nat->Lay Nd)(F:Nd->Nd->Int):∀n,Vu ((List.range n).flatMap f) F=Q5 (λk=>Vu (f k) F) n
 |0=>rfl
 |n+1=>by
  rw[YY,Mz,Fi,Mg f F n];simp[Q5]
def LG(x:Nd×Nd×Int)(F:Nd->Nd->Int):Vu [x] F=F x.1 x.2.1:=by simp[Vu]
def Cr(x:Nd×Nd×Int)(c:Lay Nd)(F:Nd->Nd->Int):Vu (x::c) F=F x.1 x.2.1+Vu c F:=by simp[Vu]
def Zpg(y:Yd)(G:Gv)(F:Nd->Nd->Int)(k:Nat):Vu (Vr y G k) F=F .start (.guest k)+Q5 (λt=>if G.th k t=true then F (.guest k) (.line (G.ln k) t) else 0) y.T:=by
 unfold Vr;rw[Cr,Mg];congr 1;refine Zs λt _=>?_
 split
 .rw[LG]
 .rfl
def Zqf(y:Yd)(F:Nd->Nd->Int)(t:Nat):Vu (Yb y t) F=F (.line 0 t) .fin+Q5 (λi=>F (.line (i+1) t)<|.line (upN y<|i+1) t) (y.ls.length-1):=by
 unfold Yb;rw[Cr,Mg];congr 1;refine Zs λt _=>?_;rw[LG]
def NB(y:Yd)(G:Gv)(F:Nd->Nd->Int):Vu (Zu y G) F =
 Q5 (λk=>F .start (.guest k)+Q5 (λt=>if G.th k t=true then F (.guest k) (.line (G.ln k) t) else 0) y.T) G.m +
 Q5 (λt=>F (.line 0 t) .fin+Q5 (λi=>F (.line (i+1) t)<|.line (upN y<|i+1) t) (y.ls.length-1)) y.T:=by
 unfold Zu;rw[Fi,Mg,Mg];congr 1
 .exact Zs λk _=>Zpg y G F k
 .exact Zs λt _=>Zqf y F t
def Ww{y:Yd} : x∈Vr y G k↔x=(.start,.guest k,G.wa k)\/∃t,t<y.T/\G.th k t=true/\x=(.guest k,.line (G.ln k) t,G.mo k):=by
 unfold Vr;simp_all
def J0{y:Yd} : x∈Yb y t↔x=(.line 0 t,.fin,Z7 y 0 t)\/∃i,i<y.ls.length-1/\x=(.line (i+1) t,.line (upN y<|i+1) t,Z7 y (i+1) t):=by
 unfold Yb;simp_all
def GF{y:Yd} : x∈Zu y G↔(∃k,k<G.m/\x∈Vr y G k)\/∃t,t<y.T/\x∈Yb y t:=by
 unfold Zu;simp_all
def DA(n:Nat):(List.range n).Pairwise (· ≠ ·):=List.nodup_range
def DL(y:Yd)(G:Gv):Dis (Zu y G):=by
 unfold Dis List.Nodup;rw[List.pairwise_map];unfold Zu;rw[List.pairwise_append];refine#[?_,?_,?_]
 .rw[Hb];refine#[λk _=>?_,(DA _).imp λ{k j} h x c z f=>?_]
  .unfold Vr;rw[List.pairwise_cons];refine#[λx c=>?_,?_]
   .grind
   .rw[Hb];refine#[λt _=>?_,(DA _).imp λ{t u} g x c z f=>?_]
    .split
     .exact List.pairwise_singleton _ _
     .exact List.Pairwise.nil
    .split at c
     .split at f
      .rw[Xj.mp c,Xj.mp f];intro q;simp at q;exact g q
      .cases f
     .cases c
  .rcases Ww.mp c with rfl|⟨t,_,_,rfl⟩<;>rcases Ww.mp f with rfl|⟨u,_,_,rfl⟩<;>intro q<;>simp at q
   .exact h q
   .exact h q.1
 .rw[Hb];refine#[λt _=>?_,(DA _).imp λ{t u} g x c z f=>?_]
  .unfold Yb;rw[List.pairwise_cons];refine#[λx c=>?_,?_]
   .grind
   .rw[Hb];refine#[λt _=>List.pairwise_singleton _ _,(DA _).imp λ{i j} m x c z f=>?_];rw[Xj.mp c,Xj.mp f];intro q;simp at q;exact m q.1
  .rcases J0.mp c with rfl|⟨i,_,rfl⟩<;>rcases J0.mp f with rfl|⟨j,_,rfl⟩<;>intro q<;>simp at q
   .exact g q
   .exact g q.1.2
 .refine λx c z f=>At (Hg.mp c) λk _ c=>At (Hg.mp f) λt _ f=>?_;rcases Ww.mp c with rfl|⟨n,_,_,rfl⟩<;>rcases J0.mp f with rfl|⟨j,_,rfl⟩<;>intro q<;>simp at q
end Mir
namespace Mir
noncomputable def Ze(G:Gv)(φ:Zp Nd)(t k:Nat):Int:=if G.th k t=true then φ (.guest k) (.line (G.ln k) t) else 0
noncomputable def upF(y:Yd)(φ:Zp Nd)(t l:Nat):Int:=if l=0 then φ (.line 0 t) .fin else φ (.line l t) (.line (upN y l) t)
theorem NE(f:Qn):∀n,Q5 f (n+1)=f 0+Q5 (λi=>f<|i+1) n
 |0=>by simp[Q5]
 |n+1=>by
  show Q5 f _+f _=_;rw[NE f n];simp[Q5]
  lia
def VD[Decidable p](h:¬p):ind p=0:=Xe h
def KQ{q:Prop}[Decidable p][Decidable q](h:p↔q):ind p=ind q:=by unfold ind;simp only[h]
def Zov(y:Yd)(G:Gv)(φ:Zp Nd){k0:Nat}(f:k0<G.m):VM (Zu y G) φ (.guest k0)=Q5 (λt=>Ze G φ t k0) y.T-φ .start (.guest k0):=by
 unfold VM;rw[NB];have g:Q5 (λt=>φ (.line 0 t) .fin*(ind (Nd.line 0 t=.guest k0)-ind (Nd.fin=.guest k0))+Q5 (λi=>φ (.line (i+1) t) (.line (upN y<|i+1) t)*(ind (Nd.line (i+1) t=.guest k0)-ind (Nd.line (upN y<|i+1) t=.guest k0))) (y.ls.length-1)) y.T=0:=by
  rw[Zs λt _=>?_,Vq];rw[VD (by rintro⟨⟩),VD (by rintro⟨⟩),Zs λi _=>?_,Vq]
  .simp
  . simp
 rw[g,Int.add_zero];rw[Zs λk _=>?_,G6,Xh f];rw[VD λz=>nomatch z]
 by_cases e:k=k0
 .subst e;have:Q5 (λt=>if G.th k t=true then φ (.guest k) (.line (G.ln k) t)*(ind (Nd.guest k=.guest k)-ind (Nd.line (G.ln k) t=.guest k)) else 0) y.T=Q5 (λt=>Ze G φ t k) y.T:=by
   refine Zs λt _=>?_;unfold Ze;split
   .simp[ind]
   .rfl
  rw[this];simp[ind];lia
 .have c:¬Nd.guest k=.guest k0:=λz=>e (by injection z)
  rw[Xe e,VD c,Zs λt _=>?_,Vq]
  .simp
  .rw[VD λz=>nomatch z];simp
def KY{y:Yd}(f:y.Ok){c:Nat}(h0:0<c)(g:c<y.ls.length):upN y c=l↔Zq y c=some l:=by
 apply At (f.ups c h0 g);intro a h _;unfold upN;rw[h];simp
def Zp3{y:Yd}(f:y.Ok)(G:Gv)(φ:Zp Nd)(n:l<y.ls.length)(h:t0<y.T):VM (Zu y G) φ (.line l t0) =
 upF y φ t0 l-Q5 (λk=>Ze G φ t0 k*ind (G.ln k=l)) G.m-Q5 (λc=>if Zq y c=some l then upF y φ t0 c else 0) y.ls.length:=by
 unfold VM;rw[NB];have L:Q5 (λk=>φ .start (.guest k)*(ind (Nd.start=.line l t0)-ind (Nd.guest k=.line l t0))+Q5 (λt=>if G.th k t=true then φ (.guest k) (.line (G.ln k) t)*(ind (Nd.guest k=.line l t0)-ind (Nd.line (G.ln k) t=.line l t0)) else 0) y.T) G.m = - Q5 (λk=>Ze G φ t0 k*ind (G.ln k=l)) G.m:=by
  rw[show-Q5 (λk=>Ze G φ t0 k*ind (G.ln k=l)) G.m=(-1)*Q5 (λk=>Ze G φ t0 k*ind (G.ln k=l)) G.m by lia,<- DK];refine Zs λk _=>?_;rw[VD (by rintro⟨⟩),VD λz=>nomatch z];rw[Zs (g:=λt=>if t=t0 then-(Ze G φ t0 k*ind (G.ln k=l)) else 0) λt _=>?_,G6,Xh h]
  .simp
  .by_cases e:t=t0
   .subst e;rw[Xh rfl,KQ (q:=G.ln k=l)<|by simp];unfold Ze;split
    .rw[Int.zero_sub,Int.mul_neg]
    .simp
   .rw[Xe e,VD λz=>e<|by injection z];simp
 rw[L];have s:Q5 (λt=>φ (.line 0 t) .fin*(ind (Nd.line 0 t=.line l t0)-ind (Nd.fin=.line l t0))+Q5 (λi=>φ (.line (i+1) t) (.line (upN y<|i+1) t)*(ind (Nd.line (i+1) t=.line l t0)-ind (Nd.line (upN y<|i+1) t=.line l t0))) (y.ls.length-1)) y.T
  = upF y φ t0 l-Q5 (λc=>if Zq y c=some l then upF y φ t0 c else 0) y.ls.length:=by
  rw[Zs λt _=>?_,G6,Xh h];rw[VD (p:=Nd.fin=.line l t0) λz=>nomatch z]
  by_cases e:t=t0
  .subst e;rw[Xh rfl,KQ (q:=0=l)<|by simp];have j:y.ls.length=(y.ls.length-1)+1:=#[]
   have C:upF y φ t l=Q5 (λc=>if c=l then upF y φ t l else 0) y.ls.length:=by rw[G6,Xh n]
   have B:∀c,c<y.ls.length->(if c=l then upF y φ t l else 0)=upF y φ t c*ind (c=l):=λc _=>by
    by_cases q:c=l
    .subst q;simp[ind]
    .simp[ind,q]
   rw[C,Zs B,j,NE,NE];have m:¬Zq y 0=some l:=λz=>by rw[f.up0]at z;cases z
   have f0:upF y φ t 0=φ (.line 0 t) .fin:=by unfold upF;rw[Xh rfl]
   rw[Xe m,f0,<- j];have A:Q5 (λi=>φ (.line (i+1) t) (.line (upN y<|i+1) t)*(ind (Nd.line (i+1) t=.line l t)-ind (Nd.line (upN y<|i+1) t=.line l t))) (y.ls.length-1)
    = Q5 (λi=>upF y φ t (i+1)*ind (i+1=l)) (y.ls.length-1)+Q5 (λi => -1*(if Zq y (i+1)=some l then upF y φ t (i+1) else 0)) (y.ls.length-1):=by
    rw[<- BT];refine Zs λi K=>?_;rw[ KQ (p:=Nd.line (upN y<|i+1) t=.line l t) (q:=Zq y (i+1)=some l) (by rw[<- KY f #[] #[]];simp)]
    have:upF y φ t (i+1)=φ (.line (i+1) t) (.line (upN y<|i+1) t):=by unfold upF;rw[Xe<|#[]]
    rw[this,Ba];by_cases q:Zq y (i+1)=some l
    . simp[ind,q];lia
    . simp[ind,q]
   rw[A,DK];simp only[Int.sub_zero];lia
  .rw[Xe e,VD (λz=>e<|by injection z),Zs λi _=>?_,Vq]
   .simp
   .rw[VD (λz=>e<|by injection z),VD λz=>e<|by injection z];simp
 rw[s];lia
end Mir
namespace Mir
section
variable {ν:Type} [DecidableEq ν]
def Yz.fwd(hw:Within h1 φ){es:Got ν}(h:Yz h1 φ es){x:ν×ν×Int}(g:x∈h1)(L:x.1∈Zc es)(j:x.2.1∉Zc es):φ x.1 x.2.1=x.2.2:=by
 obtain⟨i,c⟩:=List.mem_iff_getElem?.mp g;have e:(2*i)/2=i:=#[]
 have f:(2*i)%2=0:=#[]
 by_cases z:φ x.1 x.2.1=x.2.2
 .exact z
 .have:=hw x g;exact Xt (h _ x.1 x.2.1 (x.2.2-φ x.1 x.2.1) (by unfold tlE;rw[e,c,f];rfl) (by unfold hdE;rw[e,c,f];rfl) (by unfold rmE;rw[e,c,f];rfl) #[] L) j
def Yz.bwd(hw:Within h1 φ){es:Got ν}(h:Yz h1 φ es){x:ν×ν×Int}(g:x∈h1)(L:x.1∉Zc es)(j:x.2.1∈Zc es):φ x.1 x.2.1=0:=by
 obtain⟨i,c⟩:=List.mem_iff_getElem?.mp g;have e:(2*i+1)/2=i:=#[]
 have f:¬(2*i+1)%2=0:=#[]
 by_cases z:φ x.1 x.2.1=0
 .exact z
 .have:=hw x g;exact Xt (h _ x.2.1 x.1 (φ x.1 x.2.1) (by unfold tlE;rw[e,c];simp[f]) (by unfold hdE;rw[e,c];simp[f]) (by unfold rmE;rw[e,c];simp[f]) #[] j) L
end
structure Flow(y:Yd)(G:Gv)(φ:Zp Nd):Prop where
 wi:Within (Zu y G) φ
 kp:∀n,n≠.start->n≠.fin->VM (Zu y G) φ n=0
def TZ{y:Yd}(c:k<G.m):((.start,.guest k,G.wa k):Nd×Nd×Int)∈Zu y G:=GF.mpr (.inl #[k,c,Ww.mpr<|.inl rfl])
def Dn{y:Yd}(f:k<G.m)(c:t<y.T)(h:G.th k t=true):((.guest k,.line (G.ln k) t,G.mo k):Nd×Nd×Int)∈Zu y G:=GF.mpr (.inl #[k,f,Ww.mpr<|.inr #[t,c,h,rfl]])
def Tk{y:Yd}(c:t<y.T):((.line 0 t,.fin,Z7 y 0 t):Nd×Nd×Int)∈Zu y G:=GF.mpr (.inr #[t,c,J0.mpr<|.inl rfl])
def HX{y:Yd}(c:t<y.T)(h0:0<l)(f:l<y.ls.length):((.line l t,.line (upN y l) t,Z7 y l t):Nd×Nd×Int)∈Zu y G:=
 GF.mpr (.inr #[t,c,J0.mpr<|.inr #[l-1,#[],by rw[show l-1+1=l by lia]]])
def moT(G:Gv)(t k:Nat):Int:=if G.th k t=true then G.mo k else 0
section
variable {y:Yd}{G:Gv}{φ:Zp Nd}(F:Flow y G φ)
include F
theorem Flow.tak(g:k<G.m)(f:t<y.T):0<=Ze G φ t k/\Ze G φ t k<=moT G t k:=by
 unfold Ze moT;by_cases c:G.th k t=true
 .rw[Xh c,Xh c];exact F.wi _ (Dn g f c)
 .simp_all
theorem Flow.total(c:k<G.m):Q5 (λt=>Ze G φ t k) y.T=φ .start (.guest k):=by
 have:=F.kp (.guest k) (by rintro⟨⟩) (by rintro⟨⟩);rw[Zov y G φ c]at this;lia
theorem Flow.want(c:k<G.m):0<=φ .start (.guest k)/\φ .start (.guest k)<=G.wa k:=F.wi _ (TZ c)
theorem Flow.up(g:y.Ok)(f:∀k,k<G.m->G.ln k<y.ls.length){t:Nat}(j:t<y.T):∀n l,y.ls.length<=l+n->l<y.ls.length->upF y φ t l=V1 y G.m G.ln (Ze G φ t) l
 |0,l,h,i=>#[]
 |n+1,l,h,i=>by
  have z:=F.kp (.line l t) (by rintro⟨⟩) (by rintro⟨⟩);rw[Zp3 g G φ i j]at z;have e:Q5 (λc=>if Zq y c=some l then upF y φ t c else 0) y.ls.length=Q5 (λc=>if Zq y c=some l then V1 y G.m G.ln (Ze G φ t) c else 0) y.ls.length:=by
   refine Zs λc m=>?_
   by_cases u:Zq y c=some l
   .rw[Xh u,Xh u];have:=Gj g m u;exact Flow.up g f j n c #[] m
   .rw[Xe u,Xe u]
  rw[Mc g f _ i,<- e];lia
theorem Flow.up_ok(g:y.Ok)(c:t<y.T)(f:l<y.ls.length):0<=upF y φ t l/\upF y φ t l<=Z7 y l t:=by
 unfold upF;by_cases z:l=0
 .subst z;exact F.wi _ (Tk c)
 .rw[Xe z];exact F.wi _ (HX c #[] f)
theorem Flow.load(f:y.Ok)(c:∀k,k<G.m->G.ln k<y.ls.length)(g:t<y.T)(h:l<y.ls.length):V1 y G.m G.ln (Ze G φ t) l<=Z7 y l t:=by
 rw[<- F.up f c g y.ls.length l #[] h];exact(F.up_ok f g h).2
def VP(es:Got Nd)(k:Nat):Bool:=decide (Nd.guest k∈Zc es)
noncomputable def Z0g(es:Got Nd)(t l:Nat):Bool:=decide (Nd.line l t∈Zc es)
omit F in
theorem not_of[Decidable p](h:decide p=false):¬p:=GY h
theorem Flow.shut(ok:y.Ok)(g:∀k,k<G.m->G.ln k<y.ls.length){es:Got Nd}(h:Yz (Zu y G) φ es)(m:Nd.fin∉Zc es)(f:t<y.T):
 Shut y G.m G.ln (Ze G φ t) (moT G t) (λl=>Z7 y l t) (VP es) (Z0g es t) where
 nn k hk:=(F.tak hk f).1
 full k hk hS hR:=by
  unfold Ze moT;by_cases c:G.th k t=true
  .rw[Xh c,Xh c];exact h.fwd F.wi (Dn hk f c) (X8 hS) (not_of hR)
  .rw[Xe c,Xe c]
 none k hk hS hR:=by
  unfold Ze;by_cases c:G.th k t=true
  .rw[Xh c];exact h.bwd F.wi (Dn hk f c) (not_of hS) (X8 hR)
  .rw[Xe c]
 top hR:=by
  have h0:=ok.l1;exact (F.up ok g f y.ls.length 0 #[] #[])▸(h.fwd F.wi (Tk f) (X8 hR) m)
 out c a hcl u L h2:=by
  have j:c≠0:=λz=>by subst z;rw[ok.up0]at u;cases u
  have i:=(KY ok #[] hcl).mpr u;rw[<- F.up ok g f y.ls.length c #[] hcl];unfold upF;rw[Xe j];exact h.fwd F.wi (HX f #[] hcl) (X8 L) (by rw[i];exact not_of h2)
 inn c a hcl u L h2:=by
  have j:c≠0:=λz=>by subst z;rw[ok.up0]at u;cases u
  have i:=(KY ok #[] hcl).mpr u;rw[<- F.up ok g f y.ls.length c #[] hcl];unfold upF;rw[Xe j];exact h.bwd F.wi (HX f #[] hcl) (not_of L) (by rw[i];exact X8 h2)
theorem Flow.filled{es:Got Nd}(f:Yz (Zu y G) φ es)(hs:Nd.start∈Zc es)(c:k<G.m)(g:VP es k=false):Q5 (λt=>Ze G φ t k) y.T=G.wa k:=by
 rw[F.total c];exact f.fwd F.wi (TZ c) hs (not_of g)
noncomputable def Yx(G:Gv)(S:Qm)(t l:Nat):Int:=Q5 (λk=>Zl S (moT G t) k*ind (G.ln k=l)) G.m
omit F in
theorem Lq{y:Yd}(c:y.Ok):∀n j,j<n->j<y.ls.length->0∈upL y j
 |0,j,h,_=>#[]
 |n+1,j,h,f=>by
  by_cases z:j=0
  .subst z;exact NG y 0
  .obtain⟨a,g,i⟩:=c.ups j #[] f;exact(Ki c #[] f g 0 λq=>z q.symm).mpr (Lq c n a #[]<|#[])
omit F in
theorem LZ(g:y.Ok){m:Nat}(c:∀k,k<m->ln k<y.ls.length)(f:Qn):V1 y m ln f 0=Q5 f m:=
 Zs λk h=>by
  unfold ind;rw[Xh<|Lq g _ _ (J9 _)<|c k h,Int.mul_one]
theorem Flow.no_more(g:y.Ok)(c:∀k,k<G.m->G.ln k<y.ls.length)(S:Qm)(h:t<y.T):Q5 (Zl S<|Ze G φ t) G.m<=passes y (λl=>Z7 y l t) (Yx G S t) 0:=by
 have n:=g.l1;rw[<- LZ g c];refine Mir.no_more g c (λl j=>?_) (λl j=>?_) y.ls.length 0 #[] #[]
 .refine Wt λk i=>?_
  have q:=F.tak i h
  by_cases e:G.ln k=l
  .unfold Zl ind;split<;>lia
  .rw[VD e];lia
 .have q:=F.load g c h j;have m:=TK (y:=y) (ln:=G.ln) (f:=Zl S _) (λk i=>Nk (F.tak i h).1) l;lia
theorem Flow.meet(f:y.Ok)(c:∀k,k<G.m->G.ln k<y.ls.length){es:Got Nd}(i:Yz (Zu y G) φ es)(h:Nd.fin∉Zc es)(g:t<y.T):
 passes y (λl=>Z7 y l t) (Yx G (VP es) t) 0=Q5 (Zl (VP es)<|Ze G φ t) G.m:=by
 have j:=f.l1;have a:=F.no_more f c (VP es) g;have b:=(F.shut f c i h g).all f c (own:=Yx G _ t) (λl m=>rfl) y.ls.length 0 #[] #[] (λ_=>.inl rfl);rw[LZ f c]at b;lia
omit F in
theorem No(f g:Qn):∀n,Q5 (λk=>f k-g k) n=Q5 f n-Q5 g n
 |0=>rfl
 |n+1=>by
  simp only[Q5];rw[No f g n];lia
theorem Flow.lack(g:y.Ok)(c:∀k,k<G.m->G.ln k<y.ls.length){es:Got Nd}(f:Yz (Zu y G) φ es)(hs:Nd.start∈Zc es)(j:Nd.fin∉Zc es):
 Q5 (λk=>G.wa k-Q5 (λt=>Ze G φ t k) y.T) G.m=Q5 (Zl (VP es) G.wa) G.m-Q5 (λt=>passes y (λl=>Z7 y l t) (Yx G (VP es) t) 0) y.T:=by
 rw[Zs λt h=>F.meet g c f j h,BU,<- No];refine Zs λk i=>?_
 cases s:VP es k with
 |true=>
  have:Q5 (λt=>Zl _ (Ze G φ t) k) y.T=Q5 _ y.T:=Zs λt _=>by unfold Zl;rw[Xh s]
  rw[this];unfold Zl;rw[Xh s]
 |false=>
  have:Q5 (λt=>Zl (VP es) (Ze G φ t) k) y.T=0:=by
   rw[Zs λt _=>?_,Vq];unfold Zl;simp_all
  rw[this,F.filled f hs i s];unfold Zl;simp_all
omit F in
theorem Zo3(y:Yd)(G:Gv)(φ:Zp Nd):VM (Zu y G) φ .start=Q5 (λk=>φ .start<|.guest k) G.m:=by
 unfold VM;rw[NB];have c:Q5 (λt=>φ (.line 0 t) .fin*(ind (Nd.line 0 t=.start)-ind (Nd.fin=.start))+Q5 (λi=>φ (.line (i+1) t) (.line (upN y<|i+1) t)*(ind (Nd.line (i+1) t=.start)-ind (Nd.line (upN y<|i+1) t=.start))) (y.ls.length-1)) y.T=0:=by
  rw[Zs λt _=>?_,Vq];rw[VD (by rintro⟨⟩),VD (by rintro⟨⟩),Zs λi _=>?_,Vq]
  .simp
  . simp
 rw[c,Int.add_zero];refine Zs λk _=>?_;rw[VD (p:=Nd.guest k=.start) (by rintro⟨⟩),Zs λt _=>?_,Vq]
 .simp[ind]
 .rw[VD λz=>nomatch z];simp
theorem Flow.push(g:0<=a){w:Qk}(hw:Chain (Zu y G) .start .fin w)(hn:w.Nodup)(f:∀e∈w,∃r,rmE (Zu y G) φ e=some r/\a<=r):
 Flow y G (Wp (Zu y G) a φ w)/\VM (Zu y G) (Wp (Zu y G) a φ w) .start=VM (Zu y G) φ .start+a:=by
 refine#[#[C2 (DL y G) g F.wi hn f,λn L c=>?_],?_]
 .rw[Nl (DL y G) n hw,F.kp n L c,VD λz=>L z.symm,VD λz=>c z.symm];simp
 .rw[Nl (DL y G) .start hw];simp[ind]
theorem Flow.most:VM (Zu y G) φ .start<=Q5 G.wa G.m:=by
 rw[Zo3];exact Wt λk c=>(F.want c).2
end
def A7{y:Yd}(h:∀x∈Zu y G,0<=x.2.2):Flow y G (λ_ _=>0):=by
 refine#[λx g=>#[Uv _,h x g],λn _ _=>?_];have:∀c:Lay Nd,(c.map λx=>(0)*(ind (x.1=n)-ind (x.2.1=n))).sum=0:=λc=>by
  induction c with
  |nil=>rfl
  |cons x c f=>rw[Xw,UU,f];simp
 exact this _
end Mir
namespace Mir
def ZoM(e:Nat):Builtin.bitAnd (e:Int) 1=((e%2:Nat):Int):=by
 show((((e:Int).toNat &&& (1:Int).toNat)):Int)=_
 simp_all
def AU(e:Nat):e ||| 1=e+1-e%2:=by
 apply Nat.eq_of_testBit_eq;intro i;rw[Nat.testBit_or];have c:e%2=0\/e%2=1:=#[]
 cases i with
 |zero=>
  rw[Nat.testBit_zero,Nat.testBit_zero,Nat.testBit_zero];grind
 |succ i=>
  rw[Nat.testBit_succ,Nat.testBit_succ,Nat.testBit_succ];have:(e+1-e%2)/2=e/2:=#[]
  rw[this];simp
def Zqh(e:Nat):Builtin.bitOr (e:Int) 1=((e+1-e%2:Nat):Int):=by
 unfold Builtin.bitOr;have a:Builtin.bitNot (e) = -(e)-1:=rfl;have b:Builtin.bitNot 1 = -2:=rfl;have c:Builtin.bitAnd (Builtin.bitNot<|e) (Builtin.bitNot 1)=Builtin.bitNot (((e ||| 1:Nat))):=by
  rw[a];unfold Builtin.bitAnd;rw[XJ #[]];show Builtin.bitNot ((((Builtin.bitNot _).toNat ||| (Builtin.bitNot (-2)).toNat)))=_;have g:(Builtin.bitNot (-(e)-1)).toNat=e:=by show(-_-1).toNat=e;lia
  have f:(Builtin.bitNot (-2)).toNat=1:=rfl;rw[g,f]
 rw[c,AU];show -(-_-1)-1=_
 lia
def RH(e:Nat):Builtin.bitXor (e:Int) 1=(Zhh e:Int):=by
 unfold Builtin.bitXor;rw[ZoM,Zqh];unfold Zhh;split<;>lia
end Mir
namespace L2
abbrev KK:=List Key×List Key
def JF(P:Program)(w:World)(a:Addr)(xs:List (KK×Addr×V))(h:Heap):Prop:=xs.length<=sizeLine/\(a==sysModules)=false/\∃c:List (KK×Addr×Value),
 Paired (λ(x:KK×Addr×V) (y:KK×Addr×Value)=>x.1=y.1/\x.2.1=y.2.1/\QO x.2.2 y.2.2) xs c/\
 ∃o es f,h.get? a=some o/\o.ExactDict/\o.data=.dict es f/\es.toList=c.map (entryOfKey<|NH<|VH P w)/\(c.map (·.1)).Nodup
def pdO(P:Program)(w:World)(a:Addr)(xs:List (KK×Addr×V)):HO:=.ext (JF P w a xs)
def JF.move{xs:List (KK×Addr×V)}(x:JF P w a xs L)(k:∀o,L.get? a=some o->h2.get? a=some o):JF P w a xs h2:=by
 apply Hs x;rintro z y c r o es f m⟨j,i,h,g⟩;exact#[z,y,c,r,o,es,f,k _ m,j,i,h,g]
def JF.ok{xs:List (KK×Addr×V)}(x:JF P w a xs h):ZT P w H h a (pdO P w a xs):=by
 exact#[x,Hs x λz y f r o es i c _=>#[o,c],λL g y k=>y.move k]
def Vz(H:Hp)(k:KK)(b:Addr):Prop := ∃p q,H b=some (.tup [.ref p,.ref q])/\H p=some (.tup<|k.1.map kV)/\H q=some (.tup<|k.2.map kV)
def Vz.mono(s:∀b ys,H b=some (.tup ys)->J b=some (.tup ys)){b:Addr}(x:Vz H k b):Vz J k b:=by
 exact aF x λp q L f c=>#[p,q,s _ _ L,s _ _ f,s _ _ c]
section
variable {w:World}{H:Hp}{a b:Addr}
def D2(a:HOk P w H h)(x:Vz H k b):(NH<|VH P w).is h k b:=by
 refine aF x λp q L j i=>aV ((a b _ L)) λ_ g r o y s n m=>?_
 cases r with
 |cons f r=>
  cases r with
  |cons c r=>
   cases r;cases (f);cases (c);exact#[o,n,p,q,y,s,m,WP a j,WP a i]
def HM{xs:List (KK×Addr×V)}(f:HOk P w H h)(e:H a=some (pdO P w a xs))(g:∀x∈xs,Vz H x.1 x.2.1):xs.length<=sizeLine/\(a==sysModules)=false/\∃vs,
 Paired (λ(x:KK×Addr×V) (y:KK×Addr×Value)=>x.1=y.1/\x.2.1=y.2.1/\QO x.2.2 y.2.2) xs vs/\h.DictOfH (NH<|VH P w) a vs:=by
 obtain⟨⟨z,y,vs,r,o,es,s,C,B,A,j,i⟩,c⟩:=(f a _ e);refine#[z,y,vs,r,o,es,s,C,B,A,j,?_,i];clear i j z e c;induction r with
 |nil=>intro x b;exact nomatch b
 |@cons p q ps K M t m=>
  intro x b;rcases Xd.mp b with rfl|b
  .have:=D2 f (g p Xb);simp_all
  .exact m (λz n=>g z<|Xf _ n) x b
end
noncomputable def Y7(xs:List (KK×Addr×V))(k:KK):Option V:=(xs.find? λx=>decide (x.1=k)).map (·.2.2)
abbrev RPD:=Paired (λ(x:KK×Addr×V) (y:KK×Addr×Value)=>x.1=y.1/\x.2.1=y.2.1/\QO x.2.2 y.2.2)
def RPD.val(k:KK){xs:List (KK×Addr×V)}(r:RPD xs vs):Vn (Y7 xs k) ((atKey vs k).map (·.2)):=by
 induction r with
 |nil=>exact True.intro
 |@cons p q ps c f t i=>
  by_cases e:p.1=k
  .have h:Y7 (p::ps) k=some p.2.2:=by simp[Y7, e]
   have g:(atKey (q::c) k).map (·.2)=some q.2.2:=by simp[atKey, <- f.1,e]
   rw[h,g];exact f.2.2
  .have h:Y7 (p::ps) k=Y7 ps k:=by simp[Y7, e]
   have g:(atKey (q::c) k).map (·.2)=(atKey c k).map (·.2):=by simp[atKey, <- f.1,e]
   simp_all
noncomputable def JD(xs:List (KK×Addr×V))(k:KK)(b:Addr)(v:V):List (KK×Addr×V):=if (Y7 xs k).isSome=true then xs.map (λx=>if x.1=k then (x.1,x.2.1,v) else x) else xs++[(k,b,v)]
def RPD.repl(k:KK)(f:QO v u){xs:List (KK×Addr×V)}(r:RPD xs vs):RPD (xs.map λx=>if x.1=k then (x.1,x.2.1,v) else x) (vs.map<|putAt k u):=by
 induction r with
 |nil=>exact .nil
 |@cons p q ps h c t g=>
  rw[Xw];refine .cons ?_ g;unfold putAt;by_cases e:p.1=k
  .rw[Xh e,Xh<|c.1▸e];exact#[c.1,c.2.1,f]
  .rw[Xe e,Xe<|c.1▸e];exact c
theorem Vn.some_eq:∀{x:Option V} {y:Qf},Vn x y->x.isSome=y.isSome
 |none,none,_=>rfl
 |some _,some _,_=>rfl
 |none,some _,h=>by cases h
 |some _,none,h=>by cases h
def RPD.put(k:KK)(b:Addr)(c:QO v u){xs:List (KK×Addr×V)}(r:RPD xs vs):RPD (JD xs k b v) (storedH vs k b u):=by
 have e:=Vn.some_eq (r.val k);rw[Uu]at e;unfold JD storedH;rw[e];split
 .exact r.repl k c
 .exact Paired.snoc r #[rfl,rfl,c]
def ZmB(xs:List (KK×Addr×V))(k:KK)(b:Addr)(v:V):(JD xs k b v).length<=xs.length+1:=by
 unfold JD;split<;>simp
section
variable {O:St}{H:Hp}{a b:Addr}{v:V}{r:Value}{dx:Qb}{xs:List (KK×Addr×V)}{k:KK}
def Zqr(d:A.units+6<cLine)(I:Qt X Y O H s)(e:H a=some (pdO X.prog X.w a xs))(y:∀x∈xs,Vz H x.1 x.2.1)(C:Vz H k b)(l:xs.length<sizeLine)(m:QO v r)
(h:∀g,Qt X Y O (upd H a<|pdO X.prog X.w a<|JD xs k b v) g->Q () g):wpAny (model X.prog X.w) A (setItem (.ref a) (.ref b) r) Q dx s:=by
 apply aL (HM I.hok e y);intro z B j c dd;have Z:j.length<=sizeLine:=by rw[<- Paired.length c];exact z
 refine wpAny_setItem_heap (show A.units+1+5<cLine by lia) (D2 I.hok C) dd λh' f n=>h _ ?_;apply aN f;rintro q es W i U P M⟨_,K⟩;exact BK I (by rw[e];exact True.intro) n #[q,i] (JF.ok #[by have:=ZmB xs k b v;lia,B,_,RPD.put k b m c,q,es,W,i,U,P,M,K])
def ZqM(r:A.units+6<cLine)(I:Qt X Y O H s)(e:H a=some (pdO X.prog X.w a xs))(n:∀x∈xs,Vz H x.1 x.2.1)(q:Vz H k b)(m:Y7 xs k=some v)
(h:∀u i,Qt X Y O H i->QO v u->Q u i):wpAny (model X.prog X.w) A (getItem (.ref a)<|.ref b) Q dx s:=by
 apply aL (HM I.hok e n);intro z y j f dd;have c:=RPD.val k f;rw[m]at c;cases g:atKey j k with
 |none=>rw[g]at c;cases c
 |some p=>
  rw[g]at c;exact wpAny_getItem_heap (show A.units+1+5<cLine by lia) (D2 I.hok q) dd g (h _ _ (I.tok _) c)
def O1(q:A.units+6<cLine)(I:Qt X Y O H s)(e:H a=some (pdO X.prog X.w a xs))(i:∀x∈xs,Vz H x.1 x.2.1)(m:Vz H k b)
(h:∀f,Qt X Y O H f->Q (.bool<|!(Y7 xs k).isSome) f):wpAny (model X.prog X.w) A (compareOp .NotIn (.ref b)<|.ref a) Q dx s:=by
 apply aL (HM I.hok e i);intro z j n c dd;have g:=Vn.some_eq (RPD.val k c);rw[Uu]at g;exact wpAny_notIn_heap (show A.units+1+5<cLine by lia) (D2 I.hok m) j dd<|g▸(h _ (I.tok _))
end
end L2
namespace L2
section
variable {O:St}{H:Hp}{a b:Addr}{d:V}{r:Value}{dx:Qb}{kvs:List (List Key×V)}{k:List Key}
def Zs9(M:A.units+1<cLine)(I:Qt X Y O H s)(e:H a=some (.dT kvs))(B:H b=some (.tup<|k.map kV))(l:kvs.length<sizeLine)(C:QO d r)
(L:∀v u i,Z4 kvs k=some v->Qt X Y O H i->QO v u->Q u i)(Z:Z4 kvs k=none->∀i,Qt X Y O (upd H a<|.dT<|kvs++[(k,d)]) i->Q r i):
 wpAny (model X.prog X.w) A (call (.builtin "dict.setdefault") [.ref a,.ref b,r]) Q dx s:=by
 apply aL (Kb I.hok e);intro z y xs g dd;have K:xs.length<=sizeLine:=by rw[<- Paired.length g];exact z
 have f:=g.val k;refine call_meetsIn PySem.F.slot_dict_setdefault dd.typeIs PySem.F.entry_dict_setdefault (PySem.F.args_dict_setdefault_3 _ _ _) (Zem _ a b y r)
  #[tupleKind_room_in1 M,k,xs,WP I.hok B,dd,K,λp U=>?_,λW h' m P=>?_]
 .rw[U]at f;cases h:Z4 kvs k with
  |none=>rw[h]at f;cases f
  |some v=>rw[h]at f;exact L v _ _ h (I.tok _) f
 .have h:Z4 kvs k=none:=by
   rw[W]at f;cases h:Z4 kvs k with
   |none=>rfl
   |some v=>rw[h]at f;cases f
  refine Z h _ ?_;apply aN m;rintro q es D n x w t⟨_,o⟩;refine BK I (by rw[e];exact True.intro) P #[q,n] #[by simp;lia,y,_,(show KT H _ _ from Paired.snoc g #[rfl,B,C]).keeps λc ys j=>?_,q,es,D,n,x,w,t,o];rw[Qv λz=>by subst z;rw[e]at j;cases j];exact j
end
def T5(td g tx:TE):TE:=λO H Q=>td O H λx D=>∃a,x=.ref a/\IsD D a/\g O D λy h=>tx O h λz f=>∃c k b,y=.ref b/\f a=some (.dT c)/\f b=some (.tup<|k.map kV)/\c.length<sizeLine/\
 (∀v,Z4 c k=some v->Q v f)/\(Z4 c k=none->Q z (upd f a<|.dT<|c++[(k,z)]))
section
variable {o e f value:Expr}{ty:TE}
def OP(t:X.A.units+1<cLine)(w:PE X o td)(he:PE X e ty)(E:PE X f tx)(m:M2 X o "setdefault" XD e f UH):PE X (.Call (.Attribute o "setdefault" XD) [e,f] [] UH) (T5 td ty tx):=by
 refine λY s O H Q I h=>wpAny_Call_method m.base m.few m.line PySem.F.plainAttrs_dict PySem.F.slot_dict_setdefault PySem.F.type_dict_setdefault (Q9 (w Y s O H _ I h) ?_);rintro u B ⟨x,D,j,M,a,rfl,d,p⟩;obtain rfl:=M;refine KE (T4 j d) λq n _=>#[q,n,?_];rw[m.trees];refine Calls.callWith_builtin rfl (Calls.evalArgs_plain (Calls.spliced_cons (Q9 (he Y B O D _ j p) λiv A ⟨y,T,R,K,Z⟩=>
  Calls.spliced_cons (Q9 (E Y A O T _ R Z) λfv s3 ⟨z,S,N,i,r,k,b,F,L,J,l,W,U⟩=>Calls.spliced_nil ?_))))
 subst F;cases (K);exact Zs9 t N L J l i (λv u C c g P=>#[v,S,g,P,W v c]) (λc C g=>#[z,_,g,i,U c])
def P8(P:Program)(w:World)(td ty:TE):TE:=λO H Q=>td O H λx D=>ty O D λy c=>∃a b xs k v,x=.ref a/\y=.ref b/\c a=some (pdO P w a xs)/\(∀x∈xs,Vz c x.1 x.2.1)/\Vz c k b/\Y7 xs k=some v/\Q v c
def TY(P:Program)(w:World)(ty td:TE):TE:=λO H Q=>ty O H λy D=>td O D λx c=>∃a b xs k,x=.ref a/\y=.ref b/\c a=some (pdO P w a xs)/\(∀x∈xs,Vz c x.1 x.2.1)/\Vz c k b/\Q (.bl<|!(Y7 xs k).isSome) c
def Pn(P:Program)(w:World)(td ty tv:TE):TS:=λH1 O H=>tv O H λv D=>td O D λx e=>ty O e λy c=>∃a b xs k,x=.ref a/\y=.ref b/\c a=some (pdO P w a xs)/\(∀x∈xs,Vz c x.1 x.2.1)/\Vz c k b/\xs.length<sizeLine/\
 H1.nx O (upd c a<|pdO P w a<|JD xs k b v)
def ZpF{O:St}{H:Hp}{a:Addr}{xs:List (KK×Addr×V)}(I:Qt X Y O H s)(e:H a=some (pdO X.prog X.w a xs)):s.TypeIs (.ref a) "dict" := by
 obtain⟨⟨_,_,g,_,o,es,h,f,c,_⟩,_⟩:=(I.hok a _ e)
 exact#[o,f,c.1]
def IC(A:X.A.units+6<cLine)(B:PE X o td)(C:PE X e ty)(hs:Hl e):PE X (.Subscript o e pos) (P8 X.prog X.w td ty):=by
 refine λY s O H Q I h=>TF PySem.F.slot_dict_getitem.lookup hs (Q9 (B Y s O H _ I h) ?_);rintro u i ⟨x,D,d,m,q⟩;refine Q9 (C Y i O D _ d q) ?_;rintro w t ⟨y,l,g,j,a,b,xs,k,v,M,K,f,W,U,P,n⟩;subst M K;obtain rfl:=m;obtain rfl:=j;exact#[ZpF g f,ZqM A g f W U P λp r Z c=>#[v,l,Z,c,n]]
def Zqt(m:X.A.units+6<cLine)(q:PE X e ty)(n:PE X o td):PC X .NotIn e o (TY X.prog X.w ty td):=by
 refine λY s O H Q I h=>Q9 (q Y s O H _ I h) ?_;rintro p c ⟨y,D,W,f,j⟩;refine Q9 (n Y c O D _ W j) ?_;rintro u l ⟨x,Z,U,g,a,b,xs,k,B,A,M,K,C,i⟩;subst B A;obtain rfl:=g;obtain rfl:=f;exact O1 m U M K C λd P=>#[.bl _,Z,P,rfl,i]
def II(B:X.A.units+6<cLine)(C:PE X o td)(K:PE X e ty)(A:PE X value tv)(hs:swapsWith value (some<|.Subscript o e pos') pos.line X.env=pure false):
 PS X (.Assign [.Subscript o e pos'] value pos) (Pn X.prog X.w td ty tv):=by
 refine λY s O H H1 I h=>wpAny_Assign_Subscript (Q9 (A Y s O H _ I h) ?_) hs;rintro r f ⟨v,D,w,j,q⟩;refine Q9 (C Y f O D _ w q) ?_;rintro u c ⟨x,z,t,i,n⟩;refine Q9 (K Y c O z _ t n) ?_;rintro G F ⟨y,J,p,g,a,b,xs,k,P,M,Z,W,U,l,m⟩;subst P M;obtain rfl:=i;obtain rfl:=g;exact Zqr B p Z W U l j λE d=>#[O,_,d,m]
end
end L2
namespace L2
def AA(P:Program)(w:World):TE:=λ_ H Q=>∀p,H p=none->Q (.ref p) (upd H p<|pdO P w p [])
def OF : PE X (.Dict [] [] pos) (AA X.prog X.w):=λY s O H Q I h=>
 wpAny_Dict_empty #[.ref s.heap.objs.size,_,I.laid (λ_ _ q=>Xc _ q) (Xm _)
  (JF.ok #[XH _,beq_eq_false_iff_ne.mpr<|Ne.symm<|Xp I.big,[],.nil,_,(List.toArray []),0,Xn _ rfl,#[rfl,rfl,rfl],rfl,rfl,Ms]),rfl,h _<|I.hok.fresh<|Xm _]
structure QE where
 ends:List (List Key)
 rooms:Ql
 leav:List (List Key×Ql)
 laid:List (KK×Int)
inductive LaidD(F:Hp):List (KK×Addr×V)->List (KK×Int)->Prop
 |nil:LaidD F [] []
 |cons {k:KK}{b:Addr}{n:Int}{xs:List (KK×Addr×V)}{ls:List (KK×Int)}:Vz F k b->LaidD F xs ls->LaidD F ((k,b,.int n)::xs) ((k,n)::ls)
theorem LaidD.mono{F c:Hp}(s:Q6 F c):∀{xs:List (KK×Addr×V)} {ls:List (KK×Int)},LaidD F xs ls->LaidD c xs ls
 |_,_,.nil=>.nil
 |_,_,.cons h t=>.cons (h.mono λb ys e=>s _ _ e) (t.mono s)
theorem LaidD.at{F H:Hp}(s:Q6 F H):∀{xs:List (KK×Addr×V)} {ls:List (KK×Int)},LaidD F xs ls->∀x∈xs,Vz H x.1 x.2.1
 |_,_,.nil,x,c=>nomatch c
 |_,_,.cons h t,x,c=>by
  rcases Xd.mp c with rfl|c
  .exact h.mono λb ys e=>s _ _ e
  .exact t.at s x c
inductive LeavD(F H:Hp):List (List Key×V)->List (List Key×Ql)->Qg->Prop
 |nil:LeavD F H [] [] []
 |cons {k:List Key}{a:Addr}{ns:Ql}{xs:List (List Key×V)}{ls:List (List Key×Ql)}{as:Qg}:Yu F H a (ns.map PyData.int)->LeavD F H xs ls as->LeavD F H ((k,.ref a)::xs) ((k,ns)::ls) (a::as)
theorem LeavD.mem{F H:Hp}:∀{xs:List (List Key×V)} {ls:List (List Key×Ql)} {as:Qg},LeavD F H xs ls as->∀a∈as,F a=none/\H a≠none
 |_,_,_,.nil,a,c=>nomatch c
 |_,_,_,.cons h t,a,c=>by
  rcases Xd.mp c with rfl|c
  .obtain⟨L,xs,f,_⟩:=h;exact#[L,Z8 f]
  .exact t.mem a c
theorem LeavD.mono{F f H J:Hp}(s:Q6 F f):∀{xs:List (List Key×V)} {ls:List (List Key×Ql)} {as:Qg},(∀a∈as,f a=none)->(∀a∈as,J a=H a)->LeavD F H xs ls as->LeavD f J xs ls as
 |_,_,_,_,_,.nil=>.nil
 |_,_,_,i,g,.cons h t=>by
  obtain⟨L,xs,m,j⟩:=h;exact .cons #[i _ Xb,xs,by rw[g _ Xb];exact m,j.mono s] (t.mono s (λa c=>i a<|Xf _ c) λa c=>g a<|Xf _ c)
theorem LeavD.addrs{F g H J:Hp}:∀{xs:List (List Key×V)} {ls c:List (List Key×Ql)} {as bs:Qg},LeavD F H xs ls as->LeavD g J xs c bs->as=bs
 |_,_,_,_,_,.nil,.nil=>rfl
 |_,_,_,_,_,.cons _ t,.cons _ f=>by rw[t.addrs f]
structure NetOk(P:Program)(w:World)(C:Addr)(N:QE)(F H:Hp)(a E e r l d:Addr)(xs:List (List Key×V))(ys:List (KK×Addr×V))(as:Qg):Prop where
 nd:(a::E::e::r::l::d::as).Nodup
 ins:F a=none/\H a=some (.ins C E [("ends",.ref e),("rooms",.ref r),("leaving",.ref l),("laid",.ref d)])
 own:F E=none/\H E=some (.own a)
 ends:Yu F H e (N.ends.map Zh)
 rooms:Yu F H r (N.rooms.map PyData.int)
 leav:F l=none/\H l=some (.dT xs)/\LeavD F H xs N.leav as
 laid:F d=none/\H d=some (pdO P w d ys)/\LaidD F ys N.laid
def Zr(P:Program)(w:World)(C:Addr)(N:QE):OwnP where
 ok K F H v p := ∃a E e r l d xs ys n,v=.ref a/\p=a::E::e::r::l::d::n/\NetOk P w C N F H a E e r l d xs ys n
 there:=by
  rintro K F H v p ⟨a,E,e,r,l,d,xs,ys,n,rfl,rfl,o⟩ b f;obtain⟨_,⟨y,m⟩,⟨Z,B⟩,⟨k,ex,U,_⟩,⟨Y,X,A,_⟩,⟨l1,l2,l3⟩,⟨t,W,_⟩⟩:=o;simp only[Xd]at f;rcases f with rfl|rfl|rfl|rfl|rfl|rfl|f
  .exact#[y,Z8 m]
  .exact#[Z,Z8 B]
  .exact#[k,Z8 U]
  .exact#[Y,Z8 A]
  .exact#[l1,Z8 l2]
  .exact#[t,Z8 W]
  .exact l3.mem b f
 mono:=by
  rintro K F F' H J v p s h g ⟨a,E,e,r,l,d,xs,ys,n,rfl,rfl,o⟩;obtain⟨nd,⟨y,m⟩,⟨Z,B⟩,⟨k,ex,U,G⟩,⟨Y,X,A,z⟩,⟨l1,l2,l3⟩,⟨t,W,L⟩⟩:=o;refine#[a,E,e,r,l,d,xs,ys,n,rfl,rfl,nd,#[h _<|by simp,by rw[g _<|by simp];exact m],#[h _<|by simp,by rw[g _<|by simp];exact B],#[h _<|by simp,ex,by rw[g _<|by simp];exact U,G.mono s],
   #[h _<|by simp,X,by rw[g _<|by simp];exact A,z.mono s],#[h _<|by simp,by rw[g _<|by simp];exact l2,l3.mono s (λb f=>h b<|by simp[f]) λb f=>g b<|by simp[f]],#[h _<|by simp,by rw[g _<|by simp];exact W,L.mono s]]
 uniq:=by
  rintro K F H v p q ⟨a,E,e,r,l,d,xs,ys,n,rfl,rfl,o⟩ ⟨a',I,S,Q,R,T,x,u,O,ev,rfl,M⟩ c D;cases ev;have i:=o.ins.2.symm.trans M.ins.2;injection i with i;injection i with _ y m;subst y;simp only[List.cons.injEq,Prod.mk.injEq,true_and,and_true,V.ref.injEq]at m;obtain⟨rfl,rfl,rfl,rfl⟩:=m;have j:=o.leav.2.1.symm.trans M.leav.2.1;injection j with j;injection j with j;subst j;rw[o.leav.2.2.addrs M.leav.2.2];exact D
end L2
namespace L2
structure NetC(K:W.Frag)(C:Addr):Prop where
 cl:Cls K C
 ends:Vp K C "ends"
 rooms:Vp K C "rooms"
 leav:Vp K C "leaving"
 laid:Vp K C "laid"
section
variable {tb:TE}{v:V}{w:World}{N:QE}
def QF.net(S:QF K U F Z O H)(e:zg Z i<|zo v<|Zr P w C N):
 ∃a E el r l d xs ys as,v=.ref a/\O[i]?=some (some<|.ref a)/\NetOk P w C N F H a E el r l d xs ys as/\(∀b∈a::E::el::r::l::d::as,U b=none/\F b=none/\H b≠none)/\
  ∀(J:Hp) (m:QE) (g:List (List Key×V)) (f:List (KK×Addr×V)) (c:Qg),Q6 F J->(∀b,b∉a::E::el::r::l::d::as->H b≠none->J b=H b)->(∀b,H b≠none->J b≠none)->
   NetOk P w C m F J a E el r l d g f c->(∀b∈c,b∈as\/(H b=none/\U b=none))->QF K U F (Z.set i<|zo v<|Zr P w C m) O J:=by
 apply aX (S.writeOwn e);rintro W p⟨a,E,el,r,l,d,xs,ys,as,rfl,rfl,q⟩s n;refine#[a,E,el,r,l,d,xs,ys,as,rfl,W,q,s,λJ m g f c L M B A y=>n J _ _ L M B #[a,E,el,r,l,d,g,f,c,rfl,rfl,A] λb j=>?_];simp only[Xd]at j ⊢;rcases j with h|h|h|h|h|h|j
 .exact .inl (.inl h)
 .exact .inl (.inr<|.inl h)
 .exact .inl (.inr<|.inr<|.inl h)
 .exact .inl (.inr<|.inr<|.inr<|.inl h)
 .exact .inl (.inr<|.inr<|.inr<|.inr<|.inl h)
 .exact .inl (.inr<|.inr<|.inr<|.inr<|.inr<|.inl h)
 .rcases y b j with z|z
  .exact .inl (.inr<|.inr<|.inr<|.inr<|.inr<|.inr z)
  .exact .inr z
def LeavD.other{b:Addr}{xs:List (List Key×V)}(h:LeavD F H xs ls as)(n:b∉as):LeavD F (upd H b o) xs ls as:=
 h.mono (Q6.refl _) (λa c=>(h.mem a c).1) (λa c=>Qv λz=>n<|z▸c)
def NetOk.setRooms{xs:List (List Key×V)}{ys:List (KK×Addr×V)}(h:NetOk P w C N F H a E el r l d xs ys as){ns:Ql}(y:Qx F za (ns.map PyData.int)):
 NetOk P w C { N with rooms:=ns } F (upd H r<|.lst za) a E el r l d xs ys as:=by
 obtain⟨f,⟨v,s⟩,⟨j,i⟩,⟨X,M,W,U⟩,⟨g,p,u,t⟩,⟨q,n,m⟩,⟨b,Z,Y⟩⟩:=h;have c:=f;simp only[XM,Xd,not_or]at c;apply JH c;rintro⟨D,z,o,_⟩⟨x,k,_⟩⟨e,_⟩⟨K,B,A⟩_;exact#[f,#[v,by rw[Qv o];exact s],#[j,by rw[Qv k];exact i],#[X,M,by rw[Qv e];exact W,U],#[g,za,QI,y],#[q,by rw[Qv<|Ne.symm K];exact n,m.other A],#[b,by rw[Qv<|Ne.symm B];exact Z,Y]]
def YH : ∀b,H b≠none->upd H a o b≠none:=λb c=>by
 by_cases z:b=a
 .subst z;rw[QI];rintro⟨⟩
 .rw[Qv z];exact c
def FN{f:Int->Int->Int}(c:NetC K C)(e:zg Z i<|zo v<|Zr P w C N){m n:Int}(hi:Qr K tb Z (.int k))(h0:0<=k)(L:N.rooms[k.toNat]?=some m)(h:Qr K te Z (.int n))
(hn:H1.nx (Z.set i<|zo v<|Zr P w C { N with rooms:=N.rooms.set k.toNat (f m n) })):QJ K (MO (ZW K (Q8 i) "rooms") tb te (MM K) (ipI f) Gr) Z H1:=λF0 U F O H dx x S C'=>by
 apply aa (S.net e);rintro a E el r l d xs ys as rfl e1 Y _;refine#[_,e1,a,C,E,_,.ref r,rfl,Y.ins.2,c.cl,c.rooms,rfl,hi U F O H _ S λF1 D y g r1=>?_];cases r1;apply Do Y.rooms;intro _ rx r2 r3;have o:(N.rooms.map PyData.int)[k.toNat]?=some (.int m):=by rw[Xv,L];rfl
 refine At ((r3.mono g.ff).get o) λz T R=>#[r,rx,k,z,rfl,rfl,SqL.of<|g.hh _ _ r2,h0,T,h U F1 O D _ (S.ext g) λQ H2 u B X=>?_];cases X;cases R;refine#[m,n,rfl,rfl,?_];apply aa ((S.ext<|g.trans B).net e);rintro a' dx' el' G l' d' W M t ea g1 j⟨hp,wr⟩;cases ea;have s:=j.ins.2.symm.trans ((g.trans B).hh _ _ Y.ins.2);injection s with s;injection s with _ _ A;simp only[List.cons.injEq,Prod.mk.injEq,true_and,and_true,V.ref.injEq]at A;apply aJ A;rintro rfl rfl rfl rfl;apply Do j.rooms;intro q1 I q2 J;have hlt:=(Xi.mp L).1;have hr:Qx Q (I.set k.toNat<|.int<|f m n) ((N.rooms.set k.toNat<|f m n).map PyData.int):=by
  rw[List.map_set];exact J.set (.int _) _
 refine#[G,I,k,k.toNat,rfl,rfl,q2,?_,?_]
 .rw[J.length,Xg];unfold ixN;rw[Xh h0,Xh<|#[]]
 .have q:=hp G (by simp);exact C'.nx Q O _ _ ((x.trans<|g.trans B).wr q.1 q.2.1) (wr _ { N with rooms:=N.rooms.set k.toNat (f m n) } W M t ((S.ext<|g.trans B).sub.upd q.2.1) (λb p _=>Qv λz=>p<|by rw[z];simp) YH (j.setRooms hr) λb p=>.inl p) hn
end
end L2
namespace L2
section
variable {v:V}{w:World}{N:QE}
def NetOk.same{xs:List (List Key×V)}{ys:List (KK×Addr×V)}
(f:NetOk P w C N F H a E el r l d xs ys as)(c:NetOk P w C N' F' J a dx' el' r' l' d' xs' ys' as')(s:J a=H a):dx'=E/\el'=el/\r'=r/\l'=l/\d'=d:=by
 have h:=c.ins.2;rw[s,f.ins.2]at h;grind
def NetOk.setEnds{xs:List (List Key×V)}{ys:List (KK×Addr×V)}(m:NetOk P w C N F H a E el r l d xs ys as){ns:List (List Key)}(K:Qx F za (ns.map Zh)):
 NetOk P w C { N with ends:=ns } F (upd H el<|.lst za) a E el r l d xs ys as:=by
 obtain⟨f,⟨B,A⟩,⟨q,n⟩,⟨M,p,u,t⟩,⟨j,g,i,h⟩,⟨y,v,s⟩,⟨X,W,U⟩⟩:=m;have c:=f;simp only[XM,Xd,not_or]at c;obtain⟨⟨D,o,z,_⟩,⟨k,x,_⟩,⟨e,b,Z,Y⟩,_⟩:=c;exact#[f,#[B,by rw[Qv o];exact A],#[q,by rw[Qv k];exact n],#[M,za,QI,K],#[j,g,by rw[Qv<|Ne.symm e];exact i,h],#[y,by rw[Qv<|Ne.symm b];exact v,s.other Y],#[X,by rw[Qv<|Ne.symm Z];exact W,U]]
def Zor(c:NetC K C)(e:zg Z i<|zo v<|Zr P w C N){n:Int}(h:Qr K te Z (.int n))(T:N.rooms.length<1000)
(hn:H1.nx (Z.set i<|zo v<|Zr P w C { N with rooms:=N.rooms++[n] })):QJ K (V2<|tBM K "list" Yr (ZW K (Q8 i) "rooms")<|Q4 te QL) Z H1:=λF0 U F O H dx x S L=>by
 apply aa (S.net e);rintro a E el r l d xs ys as rfl G j _;refine#[_,G,a,C,E,_,.ref r,rfl,j.ins.2,c.cl,c.rooms,rfl,.inl #[rfl,_,SqL.of j.rooms.2.choose_spec.1],h U F O H _ S λJ D u m X=>?_];cases X;apply aa ((S.ext m).net e);rintro a' I p B R d' s q A t g1 f⟨o,W⟩;cases t;apply JH (j.same f ((m.hh _ _ j.ins.2).trans j.ins.2.symm));rintro rfl rfl rfl rfl rfl;apply Do f.rooms;intro Q Y k M;have g:=o B (by simp);exact#[B,Y,.int n,rfl,rfl,k,by rw[M.length,Xg];exact V9<|#[],L.nx J O _ _ ((x.trans m).wr g.1 g.2.1) (W _ { N with rooms:=N.rooms++[n] } s q A ((S.ext m).sub.upd g.2.1) (λb y _=>Qv λz=>y<|by rw[z];simp) YH (f.setRooms<|by rw[Xx];exact M.snoc<|.int n) λb y=>.inl y) hn]
def Zok(c:NetC K C)(e:zg Z i<|zo v<|Zr P w C N){n:List Key}(h:Qr K te Z (Zh n))(hl:N.ends.length<1000)
(hn:H1.nx (Z.set i<|zo v<|Zr P w C { N with ends:=N.ends++[n] })):QJ K (V2<|tBM K "list" Yr (ZW K (Q8 i) "ends")<|Q4 te QL) Z H1:=λF0 U F O H dx x S L=>by
 apply aa (S.net e);rintro a E p r l d xs ys as rfl G j _;refine#[_,G,a,C,E,_,.ref p,rfl,j.ins.2,c.cl,c.ends,rfl,.inl #[rfl,_,SqL.of j.ends.2.choose_spec.1],h U F O H _ S λJ D u q X=>?_];apply aa ((S.ext q).net e);rintro a' I m Q T d' y s B t g1 f⟨o,W⟩;cases t;apply JH (j.same f ((q.hh _ _ j.ins.2).trans j.ins.2.symm));rintro rfl rfl rfl rfl rfl;apply Do f.ends;intro R Y k M;have g:=o m (by simp);exact#[m,Y,u,rfl,rfl,k,by rw[M.length,Xg];exact V9<|#[],L.nx J O _ _ ((x.trans q).wr g.1 g.2.1) (W _ { N with ends:=N.ends++[n] } y s B ((S.ext q).sub.upd g.2.1) (λb A _=>Qv λz=>A<|by rw[z];simp) YH (f.setEnds<|by rw[Xx];exact M.snoc X) λb A=>.inl A) hn]
def Cn(c:NetC K C)(e:zg Z i<|zo v<|Zr P w C N):Qr K (tCB (Jm K)<|Q4 (ZW K (Q8 i) "ends") QL) Z (.int (N.ends.length:Int)):=λU F O H Q S q=>by
 apply aa (S.net e);rintro a E h r l d xs ys s rfl n f _;refine Do f.ends λ_ g m j=>#[_,n,a,C,E,_,.ref h,rfl,f.ins.2,c.cl,c.ends,rfl,h,g,rfl,.inl<|SqL.of m,?_];have:g.length=N.ends.length:=by rw[j.length,Xg]
 rw[this];exact q F H _ (Q3.refl S.sub) (.int _)
end
end L2
namespace L2
def Ve(ls:List (KK×Int))(k:KK):Option Int:=(ls.find? λx=>decide (x.1=k)).map (·.2)
noncomputable def YJ(ls:List (KK×Int))(k:KK)(n:Int):List (KK×Int):=if (Ve ls k).isSome=true then ls.map (λx=>if x.1=k then (x.1,n) else x) else ls++[(k,n)]
theorem LaidD.val{F:Hp}(k:KK):∀{xs:List (KK×Addr×V)} {ls:List (KK×Int)},LaidD F xs ls->Y7 xs k=(Ve ls k).map V.int
 |_,_,.nil=>rfl
 |_,_,.cons (k:=k') h t=>by
  by_cases e:k'=k
  .simp[Y7,Ve, e]
  .have:=t.val k;simpa [Y7,Ve, e] using this
theorem LaidD.length{F:Hp}:∀{xs:List (KK×Addr×V)} {ls:List (KK×Int)},LaidD F xs ls->xs.length=ls.length
 |_,_,.nil=>rfl
 |_,_,.cons h t=>by simp[t.length]
theorem LaidD.repl{F:Hp}(k:KK)(n:Int):∀{xs:List (KK×Addr×V)} {ls:List (KK×Int)},LaidD F xs ls->LaidD F (xs.map λx=>if x.1=k then (x.1,x.2.1,.int n) else x) (ls.map λx=>if x.1=k then (x.1,n) else x)
 |_,_,.nil=>.nil
 |_,_,.cons (k:=k') h t=>by
  rw[Xw,Xw];by_cases e:k'=k
  .simp only[e];exact .cons (e▸h) (t.repl k n)
  .simp only[e];exact .cons h (t.repl k n)
theorem LaidD.snoc{F:Hp}{k:KK}{b:Addr}(n:Int)(c:Vz F k b):∀{xs:List (KK×Addr×V)} {ls:List (KK×Int)},LaidD F xs ls->LaidD F (xs++[(k,b,.int n)]) (ls++[(k,n)])
 |_,_,.nil=>.cons c .nil
 |_,_,.cons h t=>.cons h (t.snoc n c)
def LaidD.put{b:Addr}(n:Int)(c:Vz F k b){xs:List (KK×Addr×V)}(t:LaidD F xs ls):LaidD F (JD xs k b<|.int n) (YJ ls k n):=by
 unfold JD YJ;rw[t.val k,Uu];split
 .exact t.repl k n
 .exact t.snoc n c
def NF{k1 k2:List Key}(r:Rep F y (.tuple [Zh k1,Zh k2])):∃b,y=.ref b/\Vz F (k1,k2) b:=by
 cases r with
 |tup h c=>
  cases c with
  |cons g c=>
   cases c with
   |cons f c=>
    cases c;apply At (WX g);rintro p rfl j;apply At (WX f);rintro q rfl i;exact#[_,rfl,p,q,h,j,i]
section
variable {ty:TE}{v:V}{w:World}{N:QE}{k1 k2:List Key}
def NetOk.setLaid{xs:List (List Key×V)}{ys:List (KK×Addr×V)}(m:NetOk P w C N F H a E el r l d xs ys as)(K:LaidD F ys' ls):
 NetOk P w C { N with laid:=ls } F (upd H d<|pdO P w d ys') a E el r l d xs ys' as:=by
 obtain⟨f,⟨B,A⟩,⟨q,n⟩,⟨Z,W,Y,X⟩,⟨j,g,i,h⟩,⟨y,v,s⟩,⟨b,z,x⟩⟩:=m;have c:=f;simp only[XM,Xd,not_or]at c;obtain⟨⟨a1,T,S,R,o,_⟩,⟨Q,O,J,k,_⟩,⟨I,G,e,D⟩,⟨u,M,t⟩,⟨L,p⟩,U,_⟩:=c;exact#[f,#[B,by rw[Qv o];exact A],#[q,by rw[Qv k];exact n],#[Z,W,by rw[Qv e];exact Y,X],#[j,g,by rw[Qv M];exact i,h],#[y,by rw[Qv L];exact v,s.other U],#[b,QI,K]]
def ZpC(c:NetC K C)(e:zg Z i<|zo v<|Zr P w C N){n:Int}(G:Qr K tv Z (.int n))(t:Qr K ty Z (.tuple [Zh k1,Zh k2]))(hl:N.laid.length<1000)
(hn:H1.nx (Z.set i<|zo v<|Zr P w C { N with laid:=YJ N.laid (k1,k2) n })):QJ K (Pn P w (ZW K (Q8 i) "laid") ty tv) Z H1:=λF0 U F O H dx x S C'=>
 G U F O H _ S λF1 D u j p=>by
  cases p;apply aa ((S.ext j).net e);rintro a E el r l d xs ys as rfl R m _;refine#[_,R,a,C,E,_,.ref d,rfl,m.ins.2,c.cl,c.laid,rfl,t U F1 O D _ (S.ext j) λF2 H2 y B o=>?_];have q:=S.ext (j.trans B);apply aa (q.net e);rintro a' T L r' l' Y A s W Q g1 f⟨I,k⟩;cases Q;apply JH (m.same f ((B.hh _ _ m.ins.2).trans m.ins.2.symm));rintro rfl rfl rfl rfl rfl;apply At (NF o);rintro b rfl X;refine KE f.laid λd1 d2 M=>#[Y,b,s,(k1,k2),rfl,rfl,d2,M.at q.sub,X.mono λc' z J=>q.sub _ _ J,by rw[M.length];exact V9<|#[],?_];have g:=I Y (by simp);exact C'.nx F2 O _ _ ((x.trans<|j.trans B).wr g.1 g.2.1) (k _ { N with laid:=YJ N.laid _ n } A _ W (q.sub.upd g.2.1) (λb' h _=>Qv λz=>h<|by rw[z];simp) YH (f.setLaid<|M.put n X) λb' h=>.inl h) hn
end
end L2
namespace L2
def QU(ls:List (List Key×Ql))(k:List Key):Option (Ql):=(ls.find? λx=>decide (x.1=k)).map (·.2)
noncomputable def Ya:List (List Key×Ql)->List Key->Int->List (List Key×Ql)
 |[],_,_=>[]
 |(c,f)::r,k,n=>if c=k then (c,f++[n])::r else (c,f)::Ya r k n
theorem LeavD.val{F H:Hp}(k:List Key):∀{xs:List (List Key×V)} {ls:List (List Key×Ql)} {as:Qg},LeavD F H xs ls as->(Z4 xs k=none/\QU ls k=none) \/
 ∃a ns,Z4 xs k=some (.ref a)/\QU ls k=some ns/\a∈as/\Yu F H a (ns.map PyData.int)
 |_,_,_,.nil=>.inl #[rfl,rfl]
 |_,_,_,.cons (k:=k') (a:=a) (ns:=ns) (ls:=ls) h t=>by
  by_cases e:k'=k
  .exact .inr #[a,ns,Wi e,by simp[QU, e],Xb,h]
  .have q:QU ((k',ns)::ls) k=QU ls k:=by simp[QU, e]
   rw[Wg e,q];rcases t.val k with z|⟨m,c,j,i,g,f⟩
   .exact .inl z
   .exact .inr #[m,c,j,i,Xf _ g,f]
theorem LeavD.app{F H:Hp}(k:List Key){a:Addr}{n:Int}{za:List V}:∀{xs:List (List Key×V)} {ls:List (List Key×Ql)} {as:Qg} {ns:Ql},LeavD F H xs ls as->as.Nodup->Z4 xs k=some (.ref a)->QU ls k=some ns->
 Qx F za ((ns++[n]).map PyData.int)->LeavD F (upd H a<|.lst za) xs (Ya ls k n) as
 |_,_,_,_,.nil,_,h,_,_=>by cases h
 |_,_,_,ns,.cons (k:=k') (a:=a') (ns:=ns') (ls:=ls) (as:=as) h t,y,c,f,j=>by
  obtain⟨i,A⟩:=XM.mp y;unfold Ya;by_cases e:k'=k
  .rw[Wi e]at c;have q:QU ((k',ns')::ls) k=some ns':=by simp[QU, e]
   rw[q]at f;cases c;cases f;rw[Xh e];exact .cons #[h.1,za,QI,j] (t.other i)
  .rw[Wg e]at c;have q:QU ((k',ns')::ls) k=QU ls k:=by simp[QU, e]
   rw[q]at f;rw[Xe e];have B:a∈as:=by
    rcases t.val k with z|⟨X,m,W,U,P,M⟩
    .grind
    .grind
   refine .cons ?_ (t.app k A c f j);obtain⟨L,g,K,C⟩:=h;have s:a'≠a:=λz=>i (by rw[z];exact B)
   exact#[L,g,by rw[Qv s];exact K,C]
theorem LeavD.snoc{F H:Hp}(k:List Key){a:Addr}(o:Yu F H a []):∀{xs:List (List Key×V)} {ls:List (List Key×Ql)} {as:Qg},LeavD F H xs ls as->LeavD F H (xs++[(k,.ref a)]) (ls++[(k,[])]) (as++[a])
 |_,_,_,.nil=>.cons o .nil
 |_,_,_,.cons h t=>.cons h (t.snoc k o)
theorem LeavD.length{F H:Hp}:∀{xs:List (List Key×V)} {ls:List (List Key×Ql)} {as:Qg},LeavD F H xs ls as->xs.length=ls.length
 |_,_,_,.nil=>rfl
 |_,_,_,.cons h t=>by simp[t.length]
noncomputable def Yj(ls:List (List Key×Ql))(k:List Key):List (List Key×Ql):=if (QU ls k).isSome=true then ls else ls++[(k,[])]
section
variable {w:World}{N:QE}{k:List Key}
def NetOk.appLeav{xs:List (List Key×V)}{ys:List (KK×Addr×V)}(s:NetOk P w C N F H a E el r l d xs ys as){b:Addr}{n:Int}
(X:Z4 xs k=some (.ref b))(he:QU N.leav k=some ns)(Z:b∈as)(Y:Qx F za ((ns++[n]).map PyData.int)):NetOk P w C { N with leav:=Ya N.leav k n } F (upd H b<|.lst za) a E el r l d xs ys as:=by
 obtain⟨g,⟨W,U⟩,⟨A,y⟩,⟨G,u,D,v⟩,⟨q,i,m,j⟩,⟨M,K,B⟩,⟨O,J,I⟩⟩:=s;have f:=g;simp only[XM,Xd,not_or]at f;obtain⟨⟨a1,a2,a3,a4,a5,S⟩,⟨b1,b2,b3,b4,R⟩,⟨c1,c2,c3,Q⟩,⟨g1,T,o⟩,⟨L,e⟩,t,p⟩:=f;have c:∀{x:Addr},x∉as->x≠b:=λh z=>h (by exact z▸Z)
 exact#[g,#[W,by rw[Qv<|c S];exact U],#[A,by rw[Qv<|c R];exact y],#[G,u,by rw[Qv<|c Q];exact D,v],#[q,i,by rw[Qv<|c o];exact m,j],#[M,by rw[Qv<|c e];exact K,B.app k p X he Y],#[O,by rw[Qv<|c t];exact J,I]]
end
end L2
namespace L2
section
variable {ty:TE}{v:V}{w:World}{N:QE}{k:List Key}
def Lf(c:NetC K C)(e:zg Z i<|zo v<|Zr P w C N){n:Int}(h:Qr K te Z (.int n))(he:QU N.leav k=some ns)(hz:ns.length<1000)
(hn:H1.nx (Z.set i<|zo v<|Zr P w C { N with leav:=Ya N.leav k n }))(x:Q3 F0 U F H)(S:QF K U F Z O H)(C':Cnv K F0 U H1 dx)
{xs:List (List Key×V)}{ys:List (KK×Addr×V)}(m:NetOk P w C N F H a E el r l d xs ys as)(R:v=.ref a)(y:Z4 xs k=some (.ref al)):
 tyV K "list" (.ref al) H/\Q4 te QL O H λvs H2=>Yr (.ref al) vs H2 λ_ H3=>dx.nx O H3:=by
 have j:∀{F H:Hp} {a E el r l d:Addr} {xs:List _} {ys:List _} {as:Qg},NetOk P w C N F H a E el r l d xs ys as->Z4 xs k=some (.ref al)->al∈as/\Yu F H al (ns.map PyData.int):=λm y=>by
  rcases m.leav.2.2.val k with z|⟨a2,J,z1,z2,z3,z4⟩
  .grind
  .grind
 refine aL (j m y) λ_ _ za W _=>#[.inl #[rfl,_,SqL.of W],h U F O H _ S λF1 D u s I=>?_];cases I;apply aa ((S.ext s).net e);rintro a' dx' T r' l' d' t B Y p g1 g⟨Q,G⟩;rw[R]at p;cases p;apply JH (m.same g ((s.hh _ _ m.ins.2).trans m.ins.2.symm));rintro rfl rfl rfl rfl rfl;have f:=g.leav.2.1.symm.trans (s.hh _ _ m.leav.2.1);injection f with f;injection f with f;subst f;apply aL (j g y);intro M m2 A L o;have q:=Q al (by simp[M]);exact#[al,A,.int n,rfl,rfl,L,by rw[o.length,Xg];exact V9<|#[],C'.nx F1 O _ _ ((x.trans s).wr q.1 q.2.1) (G _ { N with leav:=Ya N.leav k n } _ B Y ((S.ext s).sub.upd q.2.1) (λb X _=>Qv λz=>X<|by rw[z];simp[M]) YH
  (g.appLeav y he M<|by rw[Xx];exact o.snoc<|.int n) (λb X=>.inl X)) hn]
def Ce(ls:List (List Key×Ql))(h:QU ls k=none):QU (ls++[(k,[])]) k=some []:=by
 induction ls with
 |nil=>simp[QU]
 |cons x ls i=>
  obtain⟨c,f⟩:=x
  by_cases e:c=k
  .simp[QU, e]at h
  .have q:QU ((c,f)::ls) k=QU ls k:=by simp[QU, e]
   rw[q]at h;have g:QU ((c,f)::ls++[(k,[])]) k=QU (ls++[(k,[])]) k:=by simp[QU, e]
   rw[g];exact i h
def ZoK(c:NetC K C)(e:zg Z i<|zo v<|Zr P w C N){n:Int}(hy:Qr K ty Z (Zh k))(hl:N.leav.length<1000)(hz:∀ns,QU (Yj N.leav k) k=some ns->ns.length<1000)
(h:Qr K te (Z.set i<|zo v<|Zr P w C { N with leav:=Yj N.leav k }) (.int n))(hn:H1.nx (Z.set i<|zo v<|Zr P w C { N with leav:=Ya (Yj N.leav k) k n })):
 QJ K (V2<|tBM K "list" Yr (T5 (ZW K (Q8 i) "leaving") ty<|Y8 QL)<|Q4 te QL) Z H1:=λF0 U F O H dx x S C'=>by
 apply aa (S.net e);rintro a E el r l d xs ys as rfl e1 ok⟨hp0,_⟩;refine#[_,e1,a,C,E,_,.ref l,rfl,ok.ins.2,c.cl,c.leav,rfl,l,rfl,.inr #[xs,Rd.of ok.leav.2.1],hy U F O H _ S λF1 D y x1 r1=>#[XH _,λp Y=>?_]];have S1:=S.ext x1;have x2:Q3 F1 D F1 (upd D p<|.lst []):=Q3.own S1.sub Y;apply aa (S1.net e);rintro a' s m I M T g W f ea g1 X⟨hp',wr⟩;cases ea;apply JH (ok.same X ((x1.hh _ _ ok.ins.2).trans ok.ins.2.symm));rintro rfl rfl rfl rfl rfl;have hlt:=(Xi.mp e).1;apply At (WX r1);rintro b rfl hb;apply KE X.leav;intro l1 l2 l3;have np:∀q∈a::s::m::I::M::T::f,q≠p:=λq hq z=>by rw[z]at hq;exact(hp' p hq).2.2 Y
 have lp:=np M (by simp);have bp:b≠p:=λz=>by rw[z]at hb;rw[S1.sub _ _ hb]at Y;cases Y
 refine#[g,k,b,rfl,by rw[Qv lp];exact l2,by rw[Qv bp];exact S1.sub _ _ hb,by rw[l3.length];exact V9<|#[],λv0 A=>?_,λA=>?_]
 .rcases l3.val k with z|⟨al,ns,z1,o,z3,z4⟩
  .rw[A]at z;cases z.1
  .rw[A]at z1;cases z1;have Q:Yj N.leav k=N.leav:=by unfold Yj;rw[o];rfl
   rw[Q]at h hn hz;have B:NetOk P w C N F1 (upd D p<|.lst []) a s m I M T g W f:=by
    obtain⟨q0,q1,q2,q3,q4,q5,J⟩:=X;exact Do q3 λR ex e2 e3=>Do q4 λG rx r2 r3=>#[q0,#[q1.1,by rw[Qv<|np a<|by simp];exact q1.2],#[q2.1,by rw[Qv<|np s<|by simp];exact q2.2],#[R,ex,by rw[Qv<|np m<|by simp];exact e2,e3],#[G,rx,by rw[Qv<|np I<|by simp];exact r2,r3],
     #[q5.1,by rw[Qv lp];exact q5.2.1,q5.2.2.other λz=>np p (by simp[z]) rfl],#[J.1,by rw[Qv<|np T<|by simp];exact J.2.1,J.2.2]]
   have S4:=wr _ N g W f (S1.ext x2).sub (λb' _ j=>Qv λz=>j<|by exact z▸Y) YH B (λb' j=>.inl j);exact Lf (N:=N) c (XI hlt) h o (hz ns o) (by rw[List.set_set];exact hn) (x.trans<|x1.trans x2) S4 C' B rfl A
 .have o:QU N.leav k=none:=by
   rcases l3.val k with z|⟨al,ns,z1,o,z3,z4⟩
   .exact z.2
   .rw[A]at z1;cases z1
  have Q:Yj N.leav k=N.leav++[(k,[])]:=by unfold Yj;rw[o];rfl
  rw[Q]at h hn hz;have fp:=S1.sub.free Y;have B:NetOk P w C { N with leav:=N.leav++[(k,[])] } F1 (upd (upd D p<|.lst []) M<|.dT<|g++[(k,.ref p)]) a s m I M T (g++[(k,.ref p)]) W (f++[p]):=by
   obtain⟨q0,q1,q2,q3,q4,q5,J⟩:=X;refine Do q3 λR ex e2 e3=>Do q4 λG rx r2 r3=>?_;have nd':=q0;simp only[XM,Xd,not_or]at nd';apply aG nd';rintro⟨a1,a2,a3,a4,a5,a6⟩⟨b1,b2,b3,b4,b5⟩⟨c1,c2,c3,c4⟩⟨g1',g2,g3⟩⟨L,h2⟩⟨f1,f2⟩;have up:∀{q:Addr},q∈a::s::m::I::M::T::f->q≠M->upd (upd D p<|.lst []) M (.dT<|g++[(k,.ref p)]) q=D q:=λhq ne=>by rw[Qv ne,Qv<|np _ hq]
   refine#[?_,#[q1.1,by rw[up (by simp) a4];exact q1.2],#[q2.1,by rw[up (by simp) b3];exact q2.2],#[R,ex,by rw[up (by simp) c2];exact e2,e3],#[G,rx,by rw[up (by simp) g1'];exact r2,r3],#[l1,QI,?_],#[J.1,by rw[up (by simp)<|Ne.symm L];exact J.2.1,J.2.2]]
   .have:(a::s::m::I::M::T::(f++[p]))=(a::s::m::I::M::T::f)++[p]:=by simp
    rw[this,Mv];refine#[q0,by simp,λu hu t ht=>?_];cases Xj.mp ht;exact np u hu
   .exact LeavD.snoc k #[fp,[],by rw[Qv<|Ne.symm lp,QI],.nil]<|(l3.other λz=>np p (by simp[z]) rfl).other h2
  have S4:=
   wr _ _ _ W (f++[p]) ((S1.sub.upd fp).upd l1) (λb' hb1 hb2=>by rw[Qv (λz=>hb1<|by rw[z];simp),Qv λz=>hb2<|by exact z▸Y]) (λb' j=>YH b'<|YH b' j) B (λb' j=>by
    rcases Xz.mp j with z|z
    .exact .inl z
    .cases Xj.mp z;exact .inr #[Y,(x.trans x1).hh.free Y])
  have hl0:=hp' M (by simp);exact Lf c (XI hlt) h (Ce _ o) (hz []<|Ce _ o) (by rw[List.set_set];exact hn) ((x.trans<|x1.trans x2).wr hl0.1 hl0.2.1) S4 C' B rfl (by
   rw[Co k k (.ref p) g A,Xh rfl])
end
end L2
namespace L2
structure KTup(K:W.Frag)(g:Addr)(x:Str):Prop where
 ex:∃(d:Qj) (t:Nat) (n:Nat) (sl:Array (Qf)),K.lookup g=some #[.type "tuple",d,.seq (List.toArray [.str x t]) n,sl]
def Zr5{c:Shared}
(KX:K.In c.heap)(O:c.heap.Ns mainGlobals mg)(i:c.heap.Ns builtinsNs mb)(hbb:∀x:Str,x ≠ "__name__" -> mb x=bootBuiltins x)(Q:c.heap.NoLimit)(hg:c.gens=(List.toArray []))
(l:c.heap.get? a=some { cls:=.type "list",data:=.seq vs.toArray })(hi:IntsAre vs ns)(hl:ns.length<=sizeLine)(hr:Room k callerA)(tS:KTup K gS "start")(tE:KTup K gE "end")
(F:∀base:Heap,K.In base->base.Ns mainGlobals mg->FnOk P w K mg base CX0 k fa fd [x] sp)(X:∀(s:Shared) (u:Value),BindsTo s fd #[[u],[]] [(x,u)])
(hsp:∀H:Hp,SqL K H a (ns.map V.int)->H gS=some (.tup [.str "start"])->H gE=some (.tup [.str "end"])->sp [.ref a] H (λv _=>v=.bl true) λ_ _ _=>False):
 codeAny (model P w) callerA (.call (.ref fa) #[[.ref a],[]]) (λr M=>r=.ok (.ret<|.bool true)/\OldK c.heap M.heap/\M.os=c.os/\AllBare M.gens) c:=by
 apply I0 tS.ex;rintro dS kS cS⟨slS,lS⟩;apply I0 tE.ex;rintro dE kE cE⟨slE,lE⟩;have Y:=KX gS _ lS;have Z:=KX gE _ lE;have naS:gS≠a:=λz=>by
  rw[z,l]at Y;injection Y with t;injection t with W;injection W with p;exact Xt p (by decide)
 have naE:gE≠a:=λz=>by
  rw[z,l]at Z;injection Z with t;injection t with W;injection W with p;exact Xt p (by decide)
 have nSE:gE≠gS:=λz=>by
  rw[z,lS]at lE;injection lE with t;injection t with _ _ W _;injection W with p _;have z4:=XS Array.toList p;simp only[List.cons.injEq,Value.str.injEq,and_true]at z4;exact Xt z4.1 (by decide)
 have U:∀f:Hp,Z0l f->SqL K f a (ns.map V.int)->HOk P w f c.heap->(∀b,f b≠none->b=a)->(f a≠none->K.lookup a=none)->
  codeAny (model P w) callerA (.call (.ref fa) #[[.ref a],[]]) (λr M=>r=.ok (.ret<|.bool true)/\OldK c.heap M.heap/\M.os=c.os/\AllBare M.gens) c:=by
  intro f hO hSq N hA hK;have fS:f gS=none:=by
   cases q:f gS with
   |none=>rfl
   |some u=>exact Xt (hA gS<|by rw[q];simp) naS
  have fE:f gE=none:=by
   cases q:f gE with
   |none=>rfl
   |some u=>exact Xt (hA gE<|by rw[q];simp) naE
  have g:∀{b:Addr} {o:Obj},c.heap.get? b=some o->f b=none->(JI c.heap f).get? b=some o:=λe n=>OY e n
  have noA:∀{b:Addr} {o:Obj} {es:Array DictEntry} {ep:Nat},c.heap.get? b=some o->o.data=.dict es ep->f b=none:=λ{b o es ep} e d=>by
   cases q:f b with
   |none=>rfl
   |some u=>
    have e':b=a:=hA b (by rw[q];simp);subst e';rw[l]at e;cases e;cases d
  have A:∀{b:Addr} {m:Str->Qf},c.heap.Ns b m->(JI c.heap f).Ns b m:=λ{b m} ⟨o,es,ep,e,d,r⟩=>#[o,es,ep,g e<|noA e d,d,r]
  have R:=λb o e=>g (KX b o e) (by
   cases q:f b with
   |none=>rfl
   |some u=>
     have e':b=a:=hA b (by rw[q];simp);subst e';rw[hK<|by rw[q];simp]at e;cases e)
  let H:Hp:=upd (upd f gS<|.tup [.str "start"]) gE (.tup [.str "end"])
  have B:H gS=some (.tup [.str "start"]):=by show upd _ _ _ gS=_;rw[Qv<|Ne.symm nSE,QI]
  have C:H gE=some (.tup [.str "end"]):=QI;have y:∀b,b≠gS->b≠gE->H b=f b:=λb L j=>by show upd _ _ _ b=_;rw[Qv j,Qv L]
  have sm:Q6 f H:=λb u e=>by
   rw[y b (λz=>by rw[z,fS]at e;cases e) λz=>by rw[z,fE]at e;cases e];exact e
  have l1:∀x:Str,[V.str x].length<=sizeLine:=λ_=>YV (V9 Be)
  have G:HOk P w H c.heap:=λb u e=>by
   by_cases L:b=gS
   .subst L;rw[B]at e;cases e;exact#[l1 _,[.str "start" kS],.cons #[kS,rfl] .nil,#[_,Y,rfl,_,rfl]]
   .by_cases j:b=gE
    .subst j;rw[C]at e;cases e;exact#[l1 _,[.str "end" kE],.cons #[kE,rfl] .nil,#[_,Z,rfl,_,rfl]]
    .rw[y b L j]at e;rcases hO b with z|⟨o,xs,z⟩
     .rw[z]at e;cases e
     .rw[z]at e;cases e;obtain⟨q1,q2⟩:=N b _ z;exact#[q1,q2]
  have e0:Env0 P w K mg (JI c.heap f) callerA [] c H:=#[rfl,#[R,A O,#[mb,A i,hbb],let ⟨mc,L,j⟩:=Q;#[mc,A L,j]],λb o e=>by
   obtain⟨e1,e2⟩:=IQ e;refine#[e1,?_]
   by_cases L:b=gS
   .exact .inr #[_,by exact L▸B]
   .by_cases j:b=gE
    .exact .inr #[_,by exact j▸C]
    .exact .inl (by rw[y b L j];exact e2),Nat.le_of_eq<|Zrw _ _,trivial,λb i=>Xt (show b∈([]:Qg) from i)<|by simp,G,.of_eq hg]
  refine codeAny_mono ((F _ R<|A O).run callerA [] c H #[[.ref a],[]] [.ref a] [.ref a] _ _ hr e0 (X c<|.ref a) (.cons rfl .nil) (hsp H (sm.seq hSq) B C)) λr M h=>?_
  cases r with
  |error e=>exact False.elim h
  |ok fl=>
   cases fl with
   |next=>exact False.elim h
   |brk=>exact False.elim h
   |cont=>exact False.elim h
   |ret u=>
    apply aP h;intro v J os S T I r' q;subst q;obtain rfl:u=Value.bool true:=r';refine#[rfl,OldK.of_keep λb o e=>?_,os,S]
    by_cases L:b=gS
    .subst L;exact T.tupo b _ o B e (by simp)
    .by_cases j:b=gE
     .subst j;exact T.tupo b _ o C e (by simp)
     .rcases hO b with z|⟨ob,xs,z⟩
      .exact T.keep b o e (by rw[y b L j];exact z) (by exact λz=>Xt (show b∈([]:Qg) from z)<|by simp) (by simp)
      .obtain⟨e1,_⟩:=N b _ z;obtain⟨e2,_⟩:=I b _ (T.frzs b ob _ (by rw[y b L j];exact z));rw[e]at e1;cases e1;exact e2
 cases hk:K.lookup a with
 |some o=>
  have e:=KX a o hk;rw[l]at e;cases e;refine U (λ_=>none) (λ_=>.inl rfl) (.inr #[_,vs.toArray,_,hk,rfl,rfl,rfl,by rw[Xu,hi.length];exact hl,by simpa using (Ct hi)]) (λb u z=>by have D:(none:Option HO)=some u:=z;cases D) (λb z=>Xt rfl z) λz=>Xt rfl z
 |none=>
  refine U (λb=>if b=a then some (.frz { cls:=.type "list",data:=.seq vs.toArray }<|.lst<|ns.map V.int) else none) (λb=>?_) (.inl<|.inr #[{ cls:=.type "list",data:=.seq vs.toArray },Xh rfl]) (λb u z=>?_) (λb z=>?_) λ_=>hk
  .by_cases i:b=a
   .exact .inr #[_,_,Xh i]
   .exact .inl (Xe i)
  .by_cases i:b=a
   .have D:=(Xh i).symm.trans z;cases D;subst i;exact#[l,by rw[Xg];exact hl,vs,_,Ct hi,l]
   .have D:=(Xe i).symm.trans z;cases D
  .by_cases i:b=a
   .exact i
   .exact Xt (Xe i) z
def Zpr{l:W.OpenLaw}{q:Program}{K:Params->W.Frag}
(hn:l.most=some 63)(B:d.params.defaults=[])(b:Room k callerA)
(t:∀(w:World) (h:Heap),YP w h->(K w.params).In h)
(F:∀(w:World) (mg:Str->Qf) (y:Addr) (h:Heap),(K w.params).In h->h.Ns mainGlobals mg->mg d.name=some (.ref y)->
  (∃m n,W.nsIn (K w.params) mainGlobals "START"=some (some<|.ref m)/\W.nsIn (K w.params) mainGlobals "END"=some (some<|.ref n)/\KTup (K w.params) m "start" /\ KTup (K w.params) n "end")/\
  ∃fd:FuncData,(∀(s:Shared) (u:Value),BindsTo s fd #[[u],[]] [(x,u)])/\
   ∀base:Heap,(K w.params).In base->base.Ns mainGlobals mg->FnOk l.prog w (K w.params) mg base CX0 k y fd [x] (Di<|K w.params)):
 W.WalkO q loose XP YP l.row.toRowW d [] (λf vs=>PySem.call f vs):=by
 refine Att.attach_callW hn B λw C Q mg J y o I cd E a vs X G Xa4 N O p A j g c i e=>?_
 have M:=t w _ Xa4;apply Do (F w mg y _ M G.T.g A);rintro⟨m,n,Z,Y,U,P⟩fd r z;exact Zr5 M G.T.g G.T.b G.T.builtins G.T.nolimit e j g (Xq c<|by decide) b U P z r (λH v L D=>#[a,X,rfl,.inr #[m,n,Z,Y,L,D],#[v,c,i],λ_=>rfl])
def Nt  {g:Addr}(a:W.nsIn K mainGlobals "START"=some (some<|.ref g)):Qr K (tC<|.ref g) Z (Zh [.inr "start"]):=λU F O H Q S q=>by
 rcases S.kt with L|⟨i,j,L,h,c,f⟩<;>rw[L]at a<;>cases a
 exact q F H _ (Q3.refl S.sub) (.tup c<|.cons (.str _) .nil)
def T3  {g:Addr}(b:W.nsIn K mainGlobals "START"=some (some<|.ref g'))(a:W.nsIn K mainGlobals "END"=some (some<|.ref g)):Qr K (tC<|.ref g) Z (Zh [.inr "end"]):=λU F O H Q S q=>by
 rcases S.kt with L|⟨i,j,L,f,h,c⟩
 .grind
 .rw[f]at a;cases a;exact q F H _ (Q3.refl S.sub) (.tup c<|.cons (.str _) .nil)
end L2
namespace L2
def K2(c:Room k A):A.units+6<cLine:=Mx (Nat.add_le_add_left (by decide) _) c.units
def Tr(f tv:TE):TE:=λO H Q=>∀p,H p=none->f O (upd H p<|.dT []) λx D=>tv O D λy c=>∃k b,x=.ref b/\c p=some (.dT [])/\c b=some (.tup<|k.map kV)/\Q (.ref p) (upd c p<|.dT [(k,y)])
def Zt4(L:X.A.units+1<cLine)(l:PE X ke tk)(Z:PE X ve tv):PE X (.Dict [some ke] [ve] pos) (Tr tk tv):=by
 refine λY s O H Q I q=>wpAny_Dict_any rfl rfl (by simp) (by simp) (pairTrees_cons_walk<|Q9 (l Y _ O _ _ (I.laid (t':=s.toks) (λ_ _ q=>Xc _ q) (Xm _) (Ff s.heap I.big))<|q _ (I.hok.fresh (Xm s.heap.objs.size))) ?_);rintro J C ⟨x,D,E,M,U⟩;refine Q9 (Z Y C O D _ E U) ?_;rintro B G ⟨y,A,i,K,k,b,rfl,e,n,P⟩;refine pairTrees_nil_walk ?_;obtain rfl:=M;apply aL (Kb i.hok e);intro z o xs f dd;have W:xs=[]:=by cases f;rfl
 subst W;unfold storeAll;rw[List.forIn_cons];refine Xa (Xa<|wpAny_dictSet_heap (hsz:=XH _) (show X.A.units<cLine by lia) (WP i.hok n) dd λh' h a=>Xl ?_);apply aN h;rintro j es w m u t r⟨_,p⟩;refine Xl #[.ref s.heap.objs.size,upd A s.heap.objs.size<|.dT [(k,y)],BK i (by exact e▸True.intro) a #[j,m] #[YV<|V9<|by simp,o,_,(show KT A [_] [(k,b,B)] from .cons #[rfl,n,K] .nil).keeps λc ys g=>?_,j,es,w,m,u,t,r,p],rfl,P];rw[Qv λz=>by subst z;rw[e]at g;cases g];exact g
def ZsZ(A:Qr K tk Z (Zh k))(s:Qr K tv Z d):EvX K (Tr tk tv) Z (VL [(k,d)]):=λU F O H Q S q=>λp f=>by
 have g:Q3 F H F (upd H p<|.dT []):=Q3.own S.sub f;refine A U F O _ _ (S.ext g) λW D x j n=>s U W O D _ (S.ext<|g.trans j) λP Y y i m=>?_;apply At (WX n);rintro b rfl B;have X:=j.trans i;have c:=X.free (S.sub.free f) (by rw[QI];rintro⟨⟩);refine#[k,b,rfl,X.hh _ _ QI,X.fh _ _<|i.ff _ _ B,q P _ _ [p] ((g.trans X).wr f c) (λa C=>by cases Xj.mp C;exact f) #[p,_,rfl,rfl,c,QI,.cons m .nil]]
inductive LeavZ(F:Hp):List (List Key×V)->List (List Key×Ql)->Prop
 |nil:LeavZ F [] []
 |cons {k:List Key}{a:Addr}{ns:Ql}{za:List V}{xs:List (List Key×V)}{ls:List (List Key×Ql)}:F a=some (.lst za)->Qx F za (ns.map PyData.int)->LeavZ F xs ls->LeavZ F ((k,.ref a)::xs) ((k,ns)::ls)
theorem LeavZ.mono{F c:Hp}(s:Q6 F c):∀{xs:List (List Key×V)} {ls:List (List Key×Ql)},LeavZ F xs ls->LeavZ c xs ls
 |_,_,.nil=>.nil
 |_,_,.cons h r t=>.cons (s _ _ h) (r.mono s) (t.mono s)
theorem LeavZ.val{F:Hp}(k:List Key):∀{xs:List (List Key×V)} {ls:List (List Key×Ql)},LeavZ F xs ls->(Z4 xs k=none/\QU ls k=none)\/∃a ns za,Z4 xs k=some (.ref a)/\QU ls k=some ns/\F a=some (.lst za)/\Qx F za (ns.map PyData.int)
 |_,_,.nil=>.inl #[rfl,rfl]
 |_,_,.cons (k:=k') (a:=a) (ns:=ns) (za:=za) (ls:=ls) h r t=>by
  by_cases e:k'=k
  .exact .inr #[a,ns,za,Wi e,by simp[QU, e],h,r]
  .have q:QU ((k',ns)::ls) k=QU ls k:=by simp[QU, e]
   rw[Wg e,q];exact t.val k
theorem LeavD.fz{F c H:Hp}(s:Q6 F c):∀{xs:List (List Key×V)} {ls:List (List Key×Ql)} {as:Qg},LeavD F H xs ls as->(∀b∈as,c b=H b)->LeavZ c xs ls
 |_,_,_,.nil,_=>.nil
 |_,_,_,.cons h t,f=>by
  obtain⟨L,xs,j,i⟩:=h;exact .cons (by rw[f _ Xb];exact j) (i.mono s) (t.fz s λb g=>f b<|Xf _ g)
structure NetFz(P:Program)(w:World)(C:Addr)(N:QE)(F:Hp)(a E e r l d:Addr)(xs:List (List Key×V))(ys:List (KK×Addr×V)):Prop where
 ins:F a=some (.ins C E [("ends",.ref e),("rooms",.ref r),("leaving",.ref l),("laid",.ref d)])
 ends:∃ex,F e=some (.lst ex)/\Qx F ex (N.ends.map Zh)
 rooms:∃rx,F r=some (.lst rx)/\Qx F rx (N.rooms.map PyData.int)
 leav:F l=some (.dT xs)/\LeavZ F xs N.leav
 laid:F d=some (pdO P w d ys)/\LaidD F ys N.laid
def NetFz.mono{xs:List (List Key×V)}{ys:List (KK×Addr×V)}(s:Q6 F F')(h:NetFz P w C N F a E e r l d xs ys):NetFz P w C N F' a E e r l d xs ys:=by
 obtain⟨L,⟨A,y,q⟩,⟨c,n,m⟩,⟨j,i⟩,⟨g,f⟩⟩:=h;exact#[s _ _ L,#[A,s _ _ y,q.mono s],#[c,s _ _ n,m.mono s],#[s _ _ j,i.mono s],#[s _ _ g,f.mono s]]
def Vm(P:Program)(w:World)(C:Addr)(N:QE):ZP where
 ok K F v := ∃a E e r l d xs ys,v=.ref a/\NetFz P w C N F a E e r l d xs ys
 mono:=by
  rintro K F c v s ⟨a,E,e,r,l,d,xs,ys,rfl,h⟩;exact#[a,E,e,r,l,d,xs,ys,rfl,h.mono s]
def NetOk.fz{xs:List (List Key×V)}{ys:List (KK×Addr×V)}(h:NetOk P w C N F H a E el r l d xs ys as)(s:Q6 F F')(he:∀b∈a::E::el::r::l::d::as,F' b=H b):
 NetFz P w C N F' a E el r l d xs ys:=by
 obtain⟨U,⟨X,m⟩,_,⟨Y,q,A,y⟩,⟨M,c,g,f⟩,⟨W,j,i⟩,⟨Z,K,B⟩⟩:=h;exact#[by rw[he _<|by simp];exact m,#[q,by rw[he _<|by simp];exact A,y.mono s],#[c,by rw[he _<|by simp];exact g,f.mono s],#[by rw[he _<|by simp];exact j,i.fz s λb n=>he b<|by simp[n]],#[by rw[he _<|by simp];exact K,B.mono s]]
def Zr.fz(h:(Zr P w C N).ok K F H v p)(s:Q6 F F')(he:∀b∈p,F' b=H b):(Vm P w C N).ok K F' v:=by
 obtain⟨a,E,e,r,l,d,xs,ys,c,rfl,rfl,o⟩:=h;exact#[a,E,e,r,l,d,xs,ys,rfl,o.fz s he]
def Gd(kvs:VZ):ZP where
 ok K F v := ∃a xs,v=.ref a/\F a=some (.dT xs)/\PairD F xs kvs
 mono:=by
  rintro K F f v s ⟨a,xs,rfl,L,c⟩;exact#[a,xs,rfl,s _ _ L,c.mono s]
def VL.fz(h:(VL kvs).ok K F H v p)(s:Q6 F F')(he:∀b∈p,F' b=H b):(Gd kvs).ok K F' v:=by
 apply aW h;rintro a xs rfl rfl L f c;exact#[a,xs,rfl,by rw[he a Xb];exact f,c.mono s]
def QF.freezeZ{Ψ:ZP}(s:QF K U F Z O H)(e:zg Z i<|zo v Φ)
(hz:∀{F c H:Hp} {u:V} {p:Qg},Φ.ok K F H u p->Q6 F c->(∀b∈p,c b=H b)->Ψ.ok K c u):
 ∃p,(∀a∈p,F a=none/\H a≠none/\U a=none)/\QF K U (frF F H p) (Z.set i<|zz Ψ) O H:=
 s.frz e λu p f=>#[rfl,hz f.2 (Wz λa h=>(Φ.there f.2 a h).1) λb g=>WM g]
def Tq(i:Nat){Ψ:ZP}(e:zg Z i<|zo v Φ)(hz:∀{F f H:Hp} {u:V} {p:Qg},Φ.ok K F H u p->Q6 F f->(∀b∈p,f b=H b)->Ψ.ok K f u)
(h:QJ K t (Z.set i<|zz Ψ) H1):QJ K t Z H1:=λF0 U F O H m x S C=>by
 refine At (S.freezeZ e hz) λp g j=>h F0 U _ O H m #[x.hh,x.ff.trans<|Wz λa c=>(g a c).1,j.sub,λa c=>?_] j C
 by_cases z:a∈p
 .exact .inr (g a z).2.2
 .rw[J5 z]at c;exact x.fr a c
def Zs6(i:Nat)(e:zg Z i<|zo v<|Zr P w C N)(h:QJ K t (Z.set i<|zz<|Vm P w C N) H1):QJ K t Z H1:=Tq i e (λa b c=>Zr.fz a b c) h
def Fx(i:Nat)(e:zg Z i<|zo v<|VL kvs)(h:QJ K t (Z.set i<|zz<|Gd kvs) H1):QJ K t Z H1:=Tq i e (λa b c=>VL.fz a b c) h
def Zt(K:W.Frag)(t:TE)(Z:ZbI)(Φ:OT->Prop):Prop := ∀(U F:Hp) (O:St) (H:Hp) (Q:VK),QF K U F Z O H->(∀c J v p r,Φ r->Q3 F H c J->(∀a∈p,H a=none)->Zx K c J v r p->Q v J)->t O H Q
def EvO.d(h:EvO K t Z r)(f:Φ r):Zt K t Z Φ:=λU F O H Q S q=>h U F O H Q S λi J v p x g c=>q i J v p r f x g c
def Zt.imp(h:Zt K t Z Φ)(f:∀r,Φ r->Φ' r):Zt K t Z Φ':=λU F O H Q S q=>h U F O H Q S λg J v p r c=>q g J v p r (f r c)
def Zt.o(h:Zt K t Z (λc=>c=r)):EvO K t Z r:=λU F O H Q S q=>h U F O H Q S λi J v p c e x g f=>by subst e;exact q i J v p x g f
def Wu(h:Zt K te Z Φ)(hn:∀r,Φ r->H1.nx (Z.set i<|some r)):QJ K (ZN te<|Vs i) Z H1:=λF0 U F O H o x S C=>
 h U F O H _ S λd J v p r A c m y=>by
  refine C.nx d _ J _ (x.trans c) ((S.ext c).set y (λa g=>x.hh.free<|m a g) (hn:=λa g j w s q b Y f=>L3 S.fp λl P k M=>At (P j s b) λe n X=>?_)) (hn r A);intro B;rw[Y]at n;cases n;exact(M j a<|UO (X.ext c) f a B).2 (m a g)
def K5(h:Zt K te Z Φ)(g:∀r,Φ r->H1.rt r):QJ K (VN te) Z H1:=λF0 U F O H n x S C=>
 h U F O H _ S λm J v p r e c i f=>C.rt m J v r p (x.trans c) (λa j=>x.hh.free<|i a j) f (g r e)
def Lk(e:zg Z i<|zo v Φ)(c:H1.rt (.own v Φ)):QJ K (VN<|Q8 i) Z H1:=λF0 U F O H q x S C=>by
 exact L3 S.fp λn h _ g=>At (h i _ e) λu m j=>#[_,m,C.rt F H u _ _ x (λa f=>(g i a f).1) j c]
def JG(r:OT):Prop := ∀(K:W.Frag) (F c H:Hp) (v:V) (p:Qg),(∀a∈p,c a=none)->Zx K F H v r p->Zx K c H v r p
def Rep.thin{w:V}(r:Rep F v d)(h:Vf d=some w):Rep F' v d:=by
 cases r<;>simp[Vf]at h
 .exact .non
 .exact .bl _
 .exact .int _
 .exact .str _
def GK{w:V}(h:Vf d=some w):JG (.fz d):=λK F f H v p _ c=>#[c.1,c.2.thin h]
def KH(h:Jv ds):JG (.ol ds):=λK F j H v p f c=>by
 apply aY c;rintro a rfl rfl L xs i g;exact#[a,rfl,rfl,f a Xb,xs,i,g.flats h]
def Ke(kvs:VZ):Prop := ∀x∈kvs,∃w,Vf x.2=some w
theorem PairD.flats{F f:Hp}:∀{xs:List (List Key×V)} {kvs:VZ},Ke kvs->PairD F xs kvs->PairD f xs kvs
 |_,_,_,.nil=>.nil
 |_,_,h,.cons r t=>by
  obtain⟨w,e⟩:=h _ Xb;exact .cons (r.thin e) (t.flats λx c=>h x<|Xf _ c)
def ZsN(h:Ke kvs):JG (.own v<|VL kvs):=λK F j H u p f c=>by
 apply By c;rintro e a xs rfl⟨rfl,L,i,g⟩;exact#[e,a,xs,rfl,rfl,f a Xb,i,g.flats h]
def Nu{Ψ:ZP}(i:Nat)(e:zg Z i<|zo v Φ0)(hz:∀{F c H:Hp} {u:V} {p:Qg},Φ0.ok K F H u p->Q6 F c->(∀b∈p,c b=H b)->Ψ.ok K c u)
(y:∀r,Φ r->JG r)(h:Zt K t (Z.set i<|zz Ψ) Φ):Zt K t Z Φ:=λU F O H Q S q=>by
 refine At (S.freezeZ e hz) λp s A=>h U _ O H Q A λc J u j r n x g m=>q _ J u j r n (Ul (λa f=>#[(s a f).1,(s a f).2.1]) x) g (y r n K c _ J u j (λa f=>?_) m)
 by_cases z:a∈p
 .rw[Xh z]
 .rw[Xe z];exact(m.there a f).1
def Rb(i:Nat)(e:zg Z i<|zo v<|Zr P w C N)(f:∀r,Φ r->JG r)(h:Zt K t (Z.set i<|zz<|Vm P w C N) Φ):Zt K t Z Φ:=
 Nu i e (λa b c=>Zr.fz a b c) f h
def Zog(i:Nat)(e:zg Z i<|zo v<|Zr P w C N)(f:Vf d=some u)(h:Qr K t (Z.set i<|zz<|Vm P w C N) d):Qr K t Z d:=
 EvO.e (Zt.o<|Rb i e (λr c=>by subst c;exact GK f)<|h.o.d rfl)
section
variable {tb ty:TE}{w:World}{N:QE}{k:List Key}
def QF.netz(S:QF K U F Z O H)(e:zg Z i<|zz<|Vm P w C N):∃a E el r l d xs ys,O[i]?=some (some<|.ref a)/\NetFz P w C N F a E el r l d xs ys:=by
 apply At S.fp;intro f h _;apply aR (h i _ e);rintro v c _ a⟨E,el,r,l,d,xs,ys,rfl,L⟩;exact#[a,E,el,r,l,d,xs,ys,c,L]
def Nh(c:NetC K C)(e:zg Z i<|zz<|Vm P w C N){k m:Int}(W:Qr K tb Z (.int k))(M:atI (N.rooms.map PyData.int) k=some (.int m)):Qr K (tOp (rIx K) (ZW K (Q8 i) "rooms") tb) Z (.int m):=λU F O H Q S q=>by
 apply ac (S.netz e);rintro a E b r l d xs ys⟨X,g⟩;refine#[_,X,a,C,E,_,.ref r,rfl,S.sub _ _ g.ins,c.cl,c.rooms,rfl,W U F O H _ S λY D y f B=>?_];cases B;exact At g.rooms λn A s=>At (GB (s.mono f.ff) M) λz j h=>.inl #[r,n,k,z,rfl,rfl,SqL.of<|f.fh _ _<|f.ff _ _ A,j,q Y D z f h]
def Lx(c:NetC K C)(e:zg Z i<|zz<|Vm P w C N){k:Int}{n:PyData}(X:Qr K tb Z (.int k))(W:atI (N.ends.map Zh) k=some n):Qr K (tOp (rIx K) (ZW K (Q8 i) "ends") tb) Z n:=λU F O H Q S q=>by
 apply ac (S.netz e);rintro a E h r l d xs ys⟨Y,g⟩;refine#[_,Y,a,C,E,_,.ref h,rfl,S.sub _ _ g.ins,c.cl,c.ends,rfl,X U F O H _ S λb D y f M=>?_];cases M;exact At g.ends λs B A=>At (GB (A.mono f.ff) W) λz m j=>.inl #[h,s,k,z,rfl,rfl,SqL.of<|f.fh _ _<|f.ff _ _ B,m,q b D z f j]
def ZsV(c:NetC K C)(e:zg Z i<|zz<|Vm P w C N)(X:Qr K ty Z (Zh k)):Qr K (Ta (ZW K (Q8 i) "leaving") ty<|Y8 QL) Z (.list<|((QU N.leav k).getD []).map PyData.int):=λU F O H Q S q=>by
 apply ac (S.netz e);rintro a E G r l d xs ys⟨t,g⟩;refine#[_,t,a,C,E,_,.ref l,rfl,S.sub _ _ g.ins,c.cl,c.leav,rfl,l,rfl,.inr #[xs,Rd.of<|S.sub _ _ g.leav.1],X U F O H _ S λs D y n M=>#[XH _,λp Y=>?_]];apply At (WX M);rintro b rfl o;have m:Q3 s D (upd s p<|.lst []) _:=Q3.new (S.ext n).sub Y;have f:=n.trans m;refine#[Z4 xs k,VA.t (f.fh _ _ (f.ff _ _ g.leav.1)) (m.fh _ _ (m.ff _ _ o)),?_];rcases g.leav.2.val k with ⟨j,h⟩|⟨I,z,x,j,h,B,A⟩
 .rw[j];exact q _ _ _ f (by rw[h];exact .lst QI .nil)
 .rw[j];exact q _ _ _ f (by rw[h];exact .lst (f.ff _ _ B)<|A.mono f.ff)
def OM(c:NetC K C)(e:zg Z i<|zz<|Vm P w C N){k1 k2:List Key}{n:Int}(m:Qr K ty Z (.tuple [Zh k1,Zh k2]))(hn:Ve N.laid (k1,k2)=some n):Qr K (P8 P w (ZW K (Q8 i) "laid") ty) Z (.int n):=λU F O H Q S q=>by
 apply ac (S.netz e);rintro a E X r l d xs ys⟨B,g⟩;refine#[_,B,a,C,E,_,.ref d,rfl,S.sub _ _ g.ins,c.cl,c.laid,rfl,m U F O H _ S λW M y f k=>?_];apply At (NF k);rintro b rfl s;have j:=S.ext f;have h:=g.laid.2.mono f.ff;exact#[d,b,ys,_,.int n,rfl,rfl,f.fh _ _<|f.ff _ _ g.laid.1,h.at j.sub,s.mono λY z A=>j.sub _ _ A,by rw[h.val,hn];rfl,q W M _ f<|.int n]
def ZpW(c:NetC K C){k1 k2:List Key}(m:Qr K ty Z (.tuple [Zh k1,Zh k2]))(e:zg Z i<|zz<|Vm P w C N):Qr K (TY P w ty<|ZW K (Q8 i) "laid") Z (.bool<|!(Ve N.laid (k1,k2)).isSome):=λU F O H Q S q=>
 m U F O H _ S λM B y h k=>by
  have f:=S.ext h;apply ac (f.netz e);rintro a E W r l d xs ys⟨A,g⟩;apply At (NF k);rintro b rfl n;refine#[_,A,a,C,E,_,.ref d,rfl,f.sub _ _ g.ins,c.cl,c.laid,rfl,d,b,ys,_,rfl,rfl,f.sub _ _ g.laid.1,g.laid.2.at f.sub,n.mono λX z s=>f.sub _ _ s,q M B _ h ?_];rw[g.laid.2.val,Uu];exact .bl _
def QF.dctz(S:QF K U F Z O H)(e:zg Z i<|zz<|Gd kvs):∃a xs,O[i]?=some (some<|.ref a)/\F a=some (.dT xs)/\PairD F xs kvs:=by
 apply At S.fp;intro g h _;apply aR (h i _ e);rintro v f _ a⟨xs,rfl,L,c⟩;exact#[a,xs,f,L,c]
def L6(e:zg Z i<|zz<|Gd kvs)(w:Qr K ty Z (Zh k))(A:Yw kvs k=some d):Qr K (Pk (Q8 i) ty) Z d:=λU F O H Q S q=>by
 refine L0 (S.dctz e) λa xs h _=>#[_,h,w U F O H _ S λN D y f s=>?_];apply aF ((S.ext f).dctz e);intro W n c M C;rw[h]at c;cases c;apply At (WX s);rintro b rfl B;rcases C.val k with ⟨_,z⟩|⟨x,P,m,g,j⟩
 .grind
 .rw[A]at g;cases g;exact#[a,x,rfl,m▸VA.t (f.fh _ _ M) (f.fh _ _ B),q N D x f j]
def AC(g:Qr K ty Z (Zh k))(e:zg Z i<|zz<|Gd kvs):Qr K (MA ty<|Q8 i) Z (.bool (Yw kvs k).isSome):=λU F O H Q S q=>
 g U F O H _ S λs D y c f=>by
  apply aF ((S.ext c).dctz e);intro a xs n m j;apply At (WX f);rintro b rfl h;exact#[_,n,a,_,rfl,VA.t (c.fh _ _ m)<|c.fh _ _ h,q s D _ c<|by rw[Rp j];exact .bl _]
end
end L2
namespace L2
inductive SpD(K:W.Frag)(R:List OT->(OT->Prop)->Prop)(vs:List V)(H:Hp)(Q:VK):Prop
 |mk (F:Hp)(ts:List OT)(Φ:OT->Prop)(kt:KTs K F)(sm:Q6 F H)(ha:Args K F vs ts)(hR:R ts Φ)(k:∀F' J v p r,Φ r->Q3 F H F' J->(∀a∈p,H a=none)->Zx K F' J v r p->Q v J):SpD K R vs H Q
def Zi(K:W.Frag)(R:List OT->(OT->Prop)->Prop):Sp:=λc H Q _=>SpD K R c H Q
def MB(K:W.Frag)(t:TA)(Z:ZbI)(Φ:List OT->Prop):Prop := ∀(U F:Hp) (O:St) (H:Hp) (Q:List V->Hp->Prop),QF K U F Z O H->(∀f J c ts,Φ ts->Q3 F H f J->Args K f c ts->Q c J)->t O H Q
def Y1(h:Zm K t Z ts)(s:R ts Φ):Zt K (ZO (Zi K R) [] dx t) Z Φ:=λU F O H Q S q=>
 h U F O H _ S λB D C c g=>#[B,ts,Φ,(S.ext c).kt,c.fh,by rw[Xr];exact g,s,λA y v p r j f m i=>q A y v p r j (c.trans f) (λa n=>c.hh.free<|m a n) i]
def Jx(h:Zm K t Z ts)(f:Φ ts):MB K t Z Φ:=λU F O H Q S q=>h U F O H Q S λg J c x r=>q g J c ts f x r
def Ez(h:Zt K ta Z Φ)(s:∀r,Φ r->∃ds,r=.ol ds/\Φ' [.fz<|.list ds]):MB K (Q4 ta QL) Z Φ':=λU F O H Q S q=>
 h U F O H _ S λy D v p r m x n j=>by
  apply At (s r m);rintro ds rfl c;apply aY j;rintro a rfl rfl f xs i g;exact q _ D [.ref a] _ c (x.freeze f i<|n a Xb) (.fz (.lst QI<|g.mono<|Q6.new f) .nil)
section
variable {w:World}{N:QE}
def NoF(m:Str):Prop := ∀e r l d:Addr,([("ends",V.ref e),("rooms",V.ref r),("leaving",V.ref l),("laid",V.ref d)]:List (Str×V)).lookup m=none
def Nq(B:NoF m)(e:zg Z i<|zz<|Vm P w C N)(h:Zm K t Z ts)(W:R (.zow (Vm P w C N)::ts) Φ):
 Zt K (ZU C m (Zi K R) [] dx (Q8 i) t) Z Φ:=λU F O H Q S q=>by
 apply ac (S.netz e);rintro a E X r l d xs ys⟨Y,g⟩;refine#[_,Y,a,E,_,rfl,S.sub _ _ g.ins,B _ _ _ _,h U F O H _ S λu D x c n=>#[u,_,Φ,(S.ext c).kt,c.fh,.zow (Ψ:=Vm P w C N) #[a,E,X,r,l,d,xs,ys,rfl,g.mono c.ff]<|by rw[Xr];exact n,W,λo k v p s y j A f=>q o k v p s y (c.trans j) (λb M=>c.hh.free<|A b M) f]]
def ZrZ(G:NoF m)(L:Zt K ta Z Φ1)(hz:∀r,Φ1 r->∃v N,r=.own v (Zr P w C N)/\∃c,R (.zow (Vm P w C N)::ts) c/\∀r,c r->Φ r)
(h:Zm K t Z ts):Zt K (ZU C m (Zi K R) [] dx ta t) Z Φ:=λU F O H Q S q=>
 L U F O H _ S λX D v p r u j x n=>by
  apply L0 (hz r u);rintro v0 N rfl⟨c,J,I⟩;obtain⟨rfl,n⟩:=n;have M:Q6 X (frF X D p):=Wz λa g=>((λa g=>(Zr P w C N).there n a g) a g).1
  have f:Q3 F H _ D:=#[j.hh,j.ff.trans M,Dq j.fh,λa g=>by
   by_cases z:a∈p
   .exact .inr (x a z)
   .rw[J5 z]at g;exact j.fr a g]
  apply aU n;rintro a E T r l d xs ys as rfl rfl o;exact#[a,E,_,rfl,o.ins.2,G _ _ _ _,h U _ O D _ (S.ext f) λF2 H2 vs i e=>#[F2,_,c,(S.ext<|f.trans i).kt,i.fh,.zow (Ψ:=Vm P w C N) #[a,E,T,r,l,d,xs,ys,rfl,(o.fz M (λb B=>WM B)).mono i.ff]<|by rw[Xr];exact e,J,λF3 H3 v k W y Y A s=>q F3 H3 v k W (I W y) ((f.trans i).trans Y) (λb B=>(f.trans i).hh.free (A b B)) s]]
structure ExtN(p:Qg)(F H F' J:Hp):Prop where
 hh:∀b o,b∉p->H b=some o->J b=some o
 ff:Q6 F F'
 fh:Q6 F' J
 fr:∀b,F' b≠none->F b≠none\/H b=none\/b∈p
inductive SpN(K:W.Frag)(P:Program)(w:World)(C:Addr)(R:QE->List OT->(QE->Prop)->Prop)(vs:List V)(H:Hp)(Q:VK):Prop
 |mk (F:Hp)(a:Addr)(vs':List V)(p:Qg)(ts:List OT)(N:QE)(Ψ:QE->Prop)(e:vs=.ref a::vs')(kt:KTs K F)(sm:Q6 F H)(ha:Args K F vs' ts)(ok:(Zr P w C N).ok K F H (.ref a) p)(hR:R N ts Ψ)
  (k:∀F' J p' N',Ψ N'->ExtN p F H F' J->(Zr P w C N').ok K F' J (.ref a) p'->(∀b∈p',b∈p\/H b=none)->Q .non J):SpN K P w C R vs H Q
def spN(K:W.Frag)(P:Program)(w:World)(C:Addr)(R:QE->List OT->(QE->Prop)->Prop):Sp:=λc H Q _=>SpN K P w C R c H Q
def Y4{X:Type}{v:V}{Φ:X->OwnP}{N:X}{F H:Hp}{O:St}(S:QF K U F Z O H)(x:Q3 F0 U F H)(e:zg Z i<|zo v<|Φ N):
 ∃p,O[i]?=some (some v)/\(Φ N).ok K F H v p/\∀g J h w,ExtN p F H g J->(Φ w).ok K g J v h->(∀b∈h,b∈p\/H b=none)->
  Q3 F0 U g J/\QF K U g (Z.set i<|zo v<|Φ w) O J/\∀(q:Qg),(∀b∈q,(b∈p\/H b=none)/\b∉h)->(∀b∈q,U b=none)/\∀b∈q,∀(j:Nat) (u:V) (t':OT) (y:Qg),(Z.set i<|zo v<|Φ w)[j]?=some (some t')->O[j]?=some (some u)->Zx K g J u t' y->b∉y:=by
 apply aB (S.chg e);rintro u p a⟨rfl,d⟩P k;refine#[p,a,d,λg J h w f n B=>?_];obtain⟨t,r⟩:=k g J (.own _ _) h f.ff f.fh (λb l c=>by
  obtain⟨o,Y⟩:=K9 c;rw[f.hh b o l Y,Y]) f.fr #[rfl,n] (λb c=>(B b c).imp id λz=>#[z,x.hh.free z])
 refine#[#[λb o c=>f.hh b o (λz=>by rw[(P b z).1]at c;cases c)<|x.hh b o c,x.ff.trans f.ff,f.fh,λb c=>?_],t,λq M=>#[λb c=>(M b c).1.elim (λz=>(P b z).1) λz=>x.hh.free z,λb c j u t' y A C m s=>?_]]
 .rcases f.fr b c with z|z|z
  .exact x.fr b z
  .exact .inr (x.hh.free z)
  .exact .inr (P b z).1
 .by_cases W:j=i
  .subst W;rw[XI (Xi.mp e).1]at A;cases A;rw[a]at C;cases C;exact(M b c).2 ((Φ w).uniq n m.2 b s)
  .rw[XX<|Ne.symm W]at A;have z:=r j u t' y W A C m b s;exact(M b c).1.elim z.1 z.2
def CC{f:Type}{Φ:f->OwnP}{N:f}{n:Qh}{vs:List V}{F H:Hp}{c:V}{p:Qg}(s:KTs K F)(q:Q6 F H)(m:Args K F vs ts)(g:(Φ N).ok K F H c p):
 QF K (λb=>if b∈p then none else H b) F (zr n<|(.own c<|Φ N)::ts) (start n (c::vs)) H:=
 LF (ts:=.own c (Φ N)::ts) (λ|0=>p|_=>[]) s q (XS Nat.succ m.length) (λ|0,t,e=>by cases e;exact#[c,rfl,rfl,g]|i+1,t,e=>m.get i t e) (λ|0,0,_,_,_=>rfl|0,_+1,_,_,h=>(nomatch h)|_+1,_,_,h,_=>(nomatch h)) (λ|0,b,j=>⟨Xh j,((Φ N).there g b j).2⟩|_+1,_,h=>(nomatch h))
def Fv{Ψ:QE->Prop}(S:QF K U F Z O H)(x:Q3 F0 U F H)(e:zg Z i<|zo v<|Zr P w C N)(hn:∀c,Ψ c->H1.nx (Z.set i<|zo v<|Zr P w C c))(A:Cnv K F0 U H1 dx):
 ∃a p,v=.ref a/\(Zr P w C N).ok K F H (.ref a) p/\∀f J g c,Ψ c->ExtN p F H f J->(Zr P w C c).ok K f J (.ref a) g->(∀b∈g,b∈p\/H b=none)->dx.nx O J:=by
 apply L3 (Y4 S x e);intro p _ m k;apply ac (id m);rintro a _ _ _ _ _ _ _⟨_,rfl,_⟩;exact#[a,p,rfl,m,λf J g c s n j h=>KE (k f J g c n j h) λq y _=>A.nx f O J _ q y (hn c s)]
def Uj(B:NoF m)(e:zg Z i<|zo v<|Zr P w C N)(W:MB K t Z ΦA)
(M:∀ts,ΦA ts->∃Ψ,R N ts Ψ/\∀j,Ψ j->H1.nx (Z.set i<|zo v<|Zr P w C j)):QJ K (V2<|ZU C m (spN K P w C R) [] E' (Q8 i) t) Z H1:=λF0 U F O H u x S k=>by
 apply aa (S.net e);rintro a E o r l d xs ys z rfl Y s _;refine#[_,Y,a,E,_,rfl,s.ins.2,B _ _ _ _,W U F O H _ S λb D n ts y c q=>At (M ts y) λΨ g A=>aF (Fv (S.ext c) (x.trans c) e A k) λG p X f h=>?_];cases X;exact#[b,a,n++[],p,ts,N,Ψ,rfl,(S.ext c).kt,c.fh,by rw[Xr];exact q,f,g,h]
def Fs(e:zg Z i<|zo v<|Zr P w C N)(A:MB K t Z ΦA)
(y:∀ts,ΦA ts->∃Ψ,R N ts Ψ/\∀j,Ψ j->H1.nx (Z.set i<|zo v<|Zr P w C j)):QJ K (V2<|ZO (spN K P w C R) [] E'<|Q4 (Q8 i) t) Z H1:=λF0 U F O H k x S X=>by
 apply aa (S.net e);rintro a E b r l d xs ys o rfl M Y _;refine#[_,M,A U F O H _ S λW D m ts q c n=>At (y ts q) λΨ g s=>aF (Fv (S.ext c) (x.trans c) e s X) λu p B f h=>?_];cases B;exact#[W,a,m++[],p,ts,N,Ψ,rfl,(S.ext c).kt,c.fh,by rw[Xr];exact n,f,g,h]
def spI(P:Program)(w:World)(C:Addr):Sp:=λc H Q _=>∃x E,c=[.ref x]/\H x=some (.ins C E [])/\∀e r l d J,H e=none->H r=none->H l=none->H d=none->[x,e,r,l,d].Nodup->
 J x=some (.ins C E [("ends",.ref e),("rooms",.ref r),("leaving",.ref l),("laid",.ref d)])->J e=some (.lst [])->J r=some (.lst [])->J l=some (.dT [])->J d=some (pdO P w d [])->(∀b,b∉[x,e,r,l,d]->J b=H b)->Q .non J
def Op:EvX K (Jp C (spI P w C) [] dx QL) Z (Zr P w C #[[],[],[],[]]):=λU F O H Q S q=>λx E y m s=>by
 refine#[x,E,rfl,QI,λe r l d J I D G R M L h2 h3 h4 h5 k=>#[rfl,?_]];have n:∀{b:Addr},upd (upd H E<|.own x) x (.ins C E []) b=none->H b=none/\b≠x/\b≠E:=λ{b} f=>by
  have W:b≠x:=λz=>by rw[z,QI]at f;cases f
  rw[Qv W]at f;have N:b≠E:=λz=>by rw[z,QI]at f;cases f
  rw[Qv N]at f;exact#[f,W,N]
 refine KE (n I) λt e2 p=>KE (n D) λB r2 A=>KE (n G) λY l2 X=>KE (n R) λv d2 u=>?_;have j:J E=some (.own x):=by
  rw[k E<|by simp only[Xd,XW,or_false,not_or];exact#[s,Ne.symm p,Ne.symm A,Ne.symm X,Ne.symm u],Qv s,QI]
 have a:∀b o,H b=some o->J b=some o:=λb o f=>by
  have g:∀{c:Addr},H c=none->b≠c:=λT z=>by rw[z,T]at f;cases f
  rw[k b<|by simp only[Xd,XW,or_false,not_or];exact#[g y,g t,g B,g Y,g v],Qv<|g y,Qv<|g m];exact f
 have i:∀{b:Addr},H b=none->F b=none:=λf=>S.sub.free f;refine q F J (.ref x) [x,E,e,r,l,d] #[a,Q6.refl _,λb o f=>a b o<|S.sub b o f,λ_ h=>.inl h] (λb f=>?_) #[x,E,e,r,l,d,[],[],[],rfl,rfl,?_,#[i y,L],#[i m,j],#[i t,[],h2,.nil],#[i B,[],h3,.nil],#[i Y,h4,.nil],#[i v,h5,.nil]]
 .grind
 .simp only[XM,Xd,XW,or_false,not_or]at M ⊢;apply aJ M;rintro⟨a1,a2,a3,a4⟩b1 c1 f1;exact#[#[Ne.symm s,a1,a2,a3,a4],#[Ne.symm p,Ne.symm A,Ne.symm X,Ne.symm u],b1,c1,f1]
end
section
variable {w:World}{base:Heap}
def Fun.evD{x:Str}{st:Stmt}{f:Addr}{N:Qh}{k:Nat}{R:List OT->(OT->Prop)->Prop}(F:Fun K x qual st f fd)(S:Qo N ps (QD st))(h:∀ts Φ,R ts Φ->ts.length=ps.length)
(n:∀ts Φ,R ts Φ->∀H c,B0 P w K mg base N qual st k f H c λt=>QJ K t (ini N ts) { nx:=λ_=>Φ<|.fz .none,rt:=Φ }):FnOk P w K mg base CX0 (k+1) f fd ps (Zi K R):=by
 refine F.ok S (by rintro U H Q c ⟨F,ts,Φ,_,_,i,j,_⟩;exact i.length.trans<|h ts Φ j) ?_;rintro U H Q c ⟨F,ts,Φ,Y,B,i,j,q⟩ m A outer s Z;exact At (n ts Φ j H c m A outer s Z) λt L b=>#[t,L,b F H F _ H _ (Q3.refl B) (Md Y B i) #[λy C J M g _ e=>q y J _ [] _ e g (by rintro _ ⟨⟩) #[rfl,.non],λy J v W p g a X e=>q y J v p W e g a X,λ_ _ _ _ _ _ z=>False.elim z,λ_ _ _ _ _ _ z=>False.elim z]]
def Fun.evN{x:Str}{st:Stmt}{f:Addr}{N:Qh}{k:Nat}{R:QE->List OT->(QE->Prop)->Prop}(F:Fun K x qual st f fd)(S:Qo N ps (QD st))(B:∀M ts Ψ,R M ts Ψ->ts.length+1=ps.length)
(Y:∀v M ts Ψ,R M ts Ψ->∀H j,B0 P w K mg base N qual st k f H j λt=>QJ K t (ini N (.own v (Zr P w C M)::ts)) { nx:=λg=>∃m,Ψ m/\g[0]?=some (zo v<|Zr P w C m),rt:=λ_=>False }):
 FnOk P w K mg base CX0 (k+1) f fd ps (spN K P w C R):=by
 refine F.ok S (by rintro E H Q j ⟨F,a,n,p,ts,M,Ψ,e,_,_,U,_,W,_⟩;rw[e,X4,U.length];exact B _ _ _ W) ?_;rintro E H Q j ⟨F,a,n,p,ts,M,Ψ,rfl,G,Z,U,d,W,q⟩ X A outer s I;apply At (Y (.ref a) M ts Ψ W H j X A outer s I);intro t L T;have l:∀b,(λb=>if b∈p then none else H b:Hp) b=none->b∈p\/H b=none:=λb c=>by
  by_cases z:b∈p
  .exact .inl z
  .simp only[Xe z]at c;exact .inr c
 refine#[t,L,T F _ F _ H _ #[λb o c=>?_,Q6.refl _,Z,λ_ h=>.inl h] (CC G Z U d)
  #[λr D J g i S' ⟨m,O,e0⟩=>?_,λr J v r' p i hp d e=>False.elim e,λ_ _ _ _ _ _ z=>False.elim z,λ_ _ _ _ _ _ z=>False.elim z]]
 .grind
 .apply L3 S'.fp;intro fp g1 g2 g3;apply L3 (g1 0 _ e0);rintro u u1 rfl y;refine q r J (fp 0) m O #[λb o nb c=>i.hh b o<|#[],i.ff,i.fh,λb c=>?_] y (λb c=>l b (g3 0 b c).1);rcases i.fr b c with z|z
  .exact .inl z
  .exact .inr ((l b z).symm)
structure Mf(K:W.Frag)(C:Addr)(m qual:Str)(st:Stmt)(ps:Qh):Prop where
 ex:∃f fd,Fun K m qual st f fd/\Meth K C m f/\ZY K fd ps []
def ZC(P:Program)(w:World)(K:W.Frag)(mg:Str->Qf)(base:Heap)(C:Addr)(m:Str)(ps:Qh)(k:Nat)(sp:Sp):Prop:=
 ∃f fd,Meth K C m f/\ZY K fd ps []/\FnOk P w K mg base CX0 k f fd ps sp
def Mf.go{c:CXT}{st:Stmt}{k:Nat}(H1:Mf K C m qual st ps)(h:∀f fd,Fun K m qual st f fd->FnOk P w K mg base c k f fd ps sp):∃f fd,Meth K C m f/\ZY K fd ps []/\FnOk P w K mg base c k f fd ps sp:=by
 exact aF H1.ex λf fd F g i=>#[f,fd,g,i,h f fd F]
def Mf.evD{st:Stmt}{N:Qh}{k:Nat}{R:List OT->(OT->Prop)->Prop}(H1:Mf K C m qual st ps)(S:Qo N ps (QD st))
(g:∀f ts Φ,R ts Φ->∀H i,B0 P w K mg base N qual st k f H i λt=>QJ K t (ini N ts) { nx:=λ_=>Φ<|.fz .none,rt:=Φ })(c:∀ts Φ,R ts Φ->ts.length=ps.length:=by intro _ _ h;cases h<;>rfl):ZC P w K mg base C m ps (k+1) (Zi K R):=H1.go λf _ F=>F.evD S c (g f)
def Mf.evN{st:Stmt}{N:Qh}{k:Nat}{R:QE->List OT->(QE->Prop)->Prop}(H1:Mf K C m qual st ps)(S:Qo N ps (QD st))
(i:∀f v M ts Ψ,R M ts Ψ->∀H n,B0 P w K mg base N qual st k f H n λt=>QJ K t (ini N (.own v (Zr P w C M)::ts)) { nx:=λc=>∃j,Ψ j/\c[0]?=some (zo v<|Zr P w C j),rt:=λ_=>False })(g:∀M ts Ψ,R M ts Ψ->ts.length+1=ps.length:=by intro _ _ _ h;cases h<;>rfl):ZC P w K mg base C m ps (k+1) (spN K P w C R):=H1.go λf _ F=>F.evN S g (i f)
def Df.evD{x:Str}{st:Stmt}{N:Qh}{k:Nat}{R:List OT->(OT->Prop)->Prop}(H1:Df K mg x st ps)(S:Qo N ps (QD st))
(g:∀f ts Φ,R ts Φ->∀H i,B0 P w K mg base N x st k f H i λt=>QJ K t (ini N ts) { nx:=λ_=>Φ<|.fz .none,rt:=Φ })(c:∀ts Φ,R ts Φ->ts.length=ps.length:=by intro _ _ h;cases h<;>rfl):Q2 P w K mg base x ps (k+1) (Zi K R):=H1.go λf _ F=>F.evD S c (g f)
def Df.evN{x:Str}{st:Stmt}{N:Qh}{k:Nat}{R:QE->List OT->(QE->Prop)->Prop}(H1:Df K mg x st ps)(S:Qo N ps (QD st))
(i:∀f v M ts Ψ,R M ts Ψ->∀H m,B0 P w K mg base N x st k f H m λt=>QJ K t (ini N (.own v (Zr P w C M)::ts)) { nx:=λc=>∃j,Ψ j/\c[0]?=some (zo v<|Zr P w C j),rt:=λ_=>False })(g:∀M ts Ψ,R M ts Ψ->ts.length+1=ps.length:=by intro _ _ _ h;cases h<;>rfl):Q2 P w K mg base x ps (k+1) (spN K P w C R):=H1.go λf _ F=>F.evN S g (i f)
def HF(P:Program)(w:World)(K:W.Frag)(mg:Str->Qf)(base:Heap)(x:Str)(C:Addr)(k:Nat):Prop:=
 ∃f fd,Mk K C f/\mg x=some (.ref C)/\ZY K fd Zav []/\FnOk P w K mg base CX0 k f fd Zav (spI P w C)
end
def YO  {o e:Expr}  {t:TA}{k:Nat}{h:Sem Bool}(M:ZC X.prog X.w X.K X.mg X.base C m ps j sp)(c:NetC X.K C)(n:Room k X.A)(he:PE X o ta)(A:PA X (e::es) t)(s:j<=k:=by walk_at"j")
(g:zs X e es:=by rfl)(hpl:zb X pos es:=by rfl)
(i:eval (.Call (.Attribute o m XD) (e::es) [] pos) X.env=(do
  let ov <- eval o X.env
  standAt XD.atName
  let (f,first) <- holding [ov] (getMethod ov m h)
  callWith pos f first (backTo pos<|starEach (e::es) X.env)<|backToKw pos<|keywordEach [] X.env):=by rfl):
 PE X (.Call (.Attribute o m XD) (e::es) [] pos) (ZU C m sp [] E0 ta t):=by
 exact aF M λf fd q y F=>KL he c.cl q F (n.mono s) y .nil Jq A g hpl i
def Om{x:Str}{p:Pos}{k:Nat}(M:HF X.prog X.w X.K X.mg X.base x C j)(g:Room k X.A)(i:j+1<=k:=by walk_at"j")(hg:Gl X x:=by rfl)(c:(x==("__debug__" : Str))=false:=by decide +kernel):
 PE X (.Call (.Name x p) [] [] pos) (Jp C (spI X.prog X.w C) [] E0 QL):=by
 exact aB M λf fd M h m F=>Zsv M F (g.mono i) hg h m .nil Jq c
end L2
namespace Mir
open PySem L2
noncomputable def nk:Nd->List Key
 |.start=>[.inr "start"]
 |.fin=>[.inr "end"]
 |.guest k=>[.inr "guest",.inl (k:Int)]
 |.line l t=>[.inr "line",.inl (l:Int),.inl (t:Int)]
theorem UA:∀{a b:Nd},nk a=nk b->a=b
 |.start,.start,_=>rfl
 |.fin,.fin,_=>rfl
 |.start,.fin,h=>Xt h (by decide)
 |.fin,.start,h=>Xt h (by decide)
 |.guest a,.guest b,h=>by
  injection h with _ h;injection h with h _;injection h with h;have:a=b:=#[]
  rw[this]
 |.line a b,.line c d,h=>by
  injection h with _ h;injection h with L h;injection h with f _;injection L with L;injection f with f;have i:a=c:=#[]
  have g:b=d:=#[]
  rw[i,g]
 |.start,.guest _,h=>by have q:=XS List.length h;simp[nk]at q
 |.start,.line _ _,h=>by have q:=XS List.length h;simp[nk]at q
 |.fin,.guest _,h=>by have q:=XS List.length h;simp[nk]at q
 |.fin,.line _ _,h=>by have q:=XS List.length h;simp[nk]at q
 |.guest _,.start,h=>by have q:=XS List.length h;simp[nk]at q
 |.guest _,.fin,h=>by have q:=XS List.length h;simp[nk]at q
 |.guest _,.line _ _,h=>by have q:=XS List.length h;simp[nk]at q
 |.line _ _,.start,h=>by have q:=XS List.length h;simp[nk]at q
 |.line _ _,.fin,h=>by have q:=XS List.length h;simp[nk]at q
 |.line _ _,.guest _,h=>by have q:=XS List.length h;simp[nk]at q
def EG{b:Nd}:nk a=nk b↔a=b:=#[UA,λh=>by rw[h]]
def Gg:Option Nat->PyData
 |none=>.none
 |some e=>.int (e:Int)
def kvG(es:Got Nd):VZ:=es.map λx=>(nk x.1,Gg x.2)
theorem Nz(n:Nd):∀es:Got Nd,Yw (kvG es) (nk n)=(JN es n).map Gg
 |[]=>rfl
 |(k,v)::es=>by
  have c:=Nz n es;unfold JN at c ⊢;rw[X5];unfold kvG Yw at c ⊢;rw[Xw,List.find?_cons];by_cases e:k=n
  .subst e;simp
  .have g:¬nk k=nk n:=λz=>e (UA z)
   have f:(n==k)=false:=by rw[beq_eq_false_iff_ne];exact λz=>e z.symm
   rw[f];simp only[g,decide_false];exact c
def Zme{es:Got Nd}{n:Nd}:(es.lookup n).isSome=decide (n∈Zc es):=by
 induction es with
 |nil=>rfl
 |cons p es c=>
  obtain⟨k,v⟩:=p;rw[X5];by_cases e:n=k
  .subst e;simp[Zc]
  .have f:(n==k)=false:=by rw[beq_eq_false_iff_ne];exact e
   rw[f];have:decide (n∈Zc ((k,v)::es))=decide (n∈Zc es):=by
    apply decide_eq_decide.mpr;unfold Zc;rw[Xw,Xd];exact#[λz=>z.resolve_left e,.inr]
   exact this▸c
def Bt(n:Nd)(es:Got Nd):(Yw (kvG es)<|nk n).isSome=decide (n∈Zc es):=by
 rw[Nz,Uu];exact Zme
def ZsF(es:Got Nd):Ke (kvG es):=λx c=>by
 apply At (Xo.mp c);rintro y _ rfl;cases h:y.2 with
 |none=>exact#[.non,by simp[h,Gg,Vf]]
 |some e=>exact#[.int<|e,by simp[h,Gg,Vf]]
def Zt8{es:Got Nd}{n:Nd}{e:Nat}(h:n∉Zc es):Bg (kvG es) (nk n) (.int (e:Int))=kvG (es++[(n,some e)]):=by
 unfold Bg;have:¬((kvG es).any λc=>decide (c.1=nk n))=true:=λz=>by
  apply At (List.any_eq_true.mp z);intro x i f;apply At (Xo.mp i);rintro y g rfl;exact h (by exact ((UA (X8 f)))▸(Xo.mpr #[y,g,rfl]))
 rw[Xe this];unfold kvG;rw[Xx];rfl
structure NetR(N:QE)(h1:Lay Nd)(φ:Zp Nd):Prop where
 ends:N.ends=(WH h1).map nk
 rooms:N.rooms=Yg h1 φ
 leav:∀(n:Nd) (e:Int),e∈(QU N.leav<|nk n).getD [] ↔ ∃j:Nat,e=(j:Int)/\tlE h1 j=some n
 laid:∀(i:Nat) (x:Nd×Nd×Int),h1[i]?=some x->Ve N.laid (nk x.1,nk x.2.1)=some ((2*i:Nat):Int)
 laid0:∀p q:Nd,(p,q)∉h1.map (λx=>(x.1,x.2.1))->Ve N.laid (nk p,nk q)=none
 l1:N.leav.length<=2*h1.length
 l2:N.laid.length<=h1.length
 l3:∀k ns,QU N.leav k=some ns->ns.length<=2*h1.length
theorem A3(φ:Zp Nd):NetR #[[],[],[],[]] [] φ where
 ends:=rfl
 rooms:=rfl
 leav n e:=by
  constructor
  .intro h;simp[QU]at h
  .rintro⟨j,_,h⟩;simp[tlE]at h
 laid i x h:=by simp at h
 laid0 p q _:=rfl
 l1:=XH _
 l2:=XH _
 l3 k ns h:=by simp[QU]at h
def Jd : QU ((k',ns)::ls) k=if k'=k then some ns else QU ls k:=by
 by_cases e:k'=k
 .simp[QU, e]
 .simp[QU, e]
theorem LK(k c:List Key)(x:Int):∀ls:List (List Key×Ql),QU (Ya ls k x) c=if c=k then (QU ls k).map (· ++ [x]) else QU ls c
 |[]=>by
  unfold Ya;by_cases e:c=k
  . simp[QU]
  .rw[Xe e]
 |(j,h)::ls=>by
  unfold Ya;have g:=LK k c x ls
  by_cases e:j=k
  .rw[Xh e,Jd,Jd,Jd,Xh e]
   by_cases f:c=k
   .simp_all
   .rw[Xe f,Xe λz=>f<|z.symm.trans e,Xe λz=>f<|z.symm.trans e]
  .rw[Xe e,Jd,Jd,Jd,Xe e,g]
   by_cases f:c=k
   .simp_all
   .simp_all
theorem DE(k:List Key)(x:Int):∀ls:List (List Key×Ql),(Ya ls k x).length=ls.length
 |[]=>rfl
 |(j,c)::ls=>by
  unfold Ya;split
  .simp
  .simp[DE k x ls]
theorem C3(k c:List Key):∀ls:List (List Key×Ql),QU ls k=none->QU (ls++[(k,[])]) c=if c=k then some [] else QU ls c
 |[],_=>by
  rw[Mt,Jd];by_cases e:c=k
  .rw[Xh e,Xh e.symm]
  .rw[Xe e,Xe λz=>e z.symm]
 |(j,f)::ls,h=>by
  rw[Jd]at h;by_cases e:j=k
  .grind
  .rw[Xe e]at h;rw[Ur,Jd,Jd,C3 k c ls h];by_cases g:c=k
   .simp_all
   .simp_all
def Nb(ls:List (List Key×Ql))(k c:List Key):QU (Yj ls k) c=if c=k then some ((QU ls k).getD []) else QU ls c:=by
 unfold Yj;cases h:QU ls k with
 |some f=>
  simp_all
 |none=>
  rw[Xe<|by simp,C3 k c ls h];rfl
def KC(ls:List (List Key×Ql))(k:List Key):(Yj ls k).length<=ls.length+1:=by
 unfold Yj;split
 .lia
 .simp
noncomputable def Gf(N:QE)(s e:List Key)(r:Int):QE:={ N with ends:=N.ends++[e],rooms:=N.rooms++[r],leav:=Ya (Yj N.leav s) s (N.ends.length:Int) }
noncomputable def UY(N:QE)(s e:List Key)(r:Int):QE:=Gf (Gf { N with laid:=YJ N.laid (s,e) (N.ends.length:Int) } s e r) e s 0
def GI(N:QE)(s e:List Key)(r:Int)(k:List Key):QU (Gf N s e r).leav k=if k=s then some ((QU N.leav s).getD []++[(N.ends.length:Int)]) else QU N.leav k:=by
 show QU (Ya _ s _) k=_;rw[LK,Nb, Nb];simp_all
def Je{n:Int}:Ve ((k',n)::ls) k=if k'=k then some n else Ve ls k:=by
 by_cases e:k'=k
 .simp[Ve, e]
 .simp[Ve, e]
theorem LI(k c:KK)(n:Int):∀ls:List (KK×Int),Ve (ls.map λx=>if x.1=k then (x.1,n) else x) c=if c=k then (Ve ls k).map λ_=>n else Ve ls c
 |[]=>by
  by_cases e:c=k
  .rw[Xh e];rfl
  .rw[Xe e];rfl
 |(j,m)::ls=>by
  rw[Xw];have g:=LI k c n ls
  by_cases e:j=k
  .simp only[e,if_true];rw[Je,Je,Je,g];by_cases f:c=k
   .simp[f]
   .have:¬k=c:=λz=>f z.symm
    simp[f,this]
  .simp only[e,if_false];rw[Je,Je,Je,g];by_cases f:c=k
   .simp[f,e]
   .simp[f]
theorem Cu(k c:KK)(n:Int):∀ls:List (KK×Int),Ve ls k=none->Ve (ls++[(k,n)]) c=if c=k then some n else Ve ls c
 |[],_=>by
  rw[Mt,Je];by_cases e:c=k
  .rw[Xh e,Xh e.symm]
  .rw[Xe e,Xe λz=>e z.symm]
 |(j,m)::ls,h=>by
  rw[Je]at h;by_cases e:j=k
  .grind
  .rw[Xe e]at h;rw[Ur,Je,Je,Cu k c n ls h];by_cases f:c=k
   .simp_all
   .simp_all
def LO(ls:List (KK×Int))(k c:KK)(n:Int):Ve (YJ ls k n) c=if c=k then some n else Ve ls c:=by
 unfold YJ;cases h:Ve ls k with
 |some m=>rw[Xh<|by rfl,LI,h];rfl
 |none=>rw[Xe<|by simp,Cu k c n ls h]
def ZsC(ls:List (KK×Int))(k:KK)(n:Int):(YJ ls k n).length<=ls.length+1:=by
 unfold YJ;split
 .simp
 .simp
def FP{f:Type}[DecidableEq f](c:Lay f):(WH c).length=2*c.length:=by
 unfold WH;induction c with
 |nil=>rfl
 |cons x c g=>rw[List.flatMap_cons,Xs,g];simp;lia
def NetR.elen(h:NetR N h1 φ):N.ends.length=2*h1.length:=by rw[h.ends,Xg,FP]
def NZ{f:Type}[DecidableEq f](c:Lay f)(φ:Zp f):(Yg c φ).length=2*c.length:=by
 unfold Yg;induction c with
 |nil=>rfl
 |cons x c g=>rw[List.flatMap_cons,Xs,g];simp;lia
def DD{x:Nd×Nd×Int}{n:Nd}:tlE (h1++[x]) j=some n↔tlE h1 j=some n\/(j=2*h1.length/\n=x.1)\/(j=2*h1.length+1/\n=x.2.1):=by
 unfold tlE;by_cases h:j/2<h1.length
 .rw[GU h];constructor
  .exact .inl
  .rintro(z|⟨z,_⟩|⟨z,_⟩)
   .exact z
   .lia
   .lia
 .rw[Mr<|#[],List.getElem?_eq_none_iff.mpr (show h1.length<=j/2 by lia)]
  by_cases c:j/2=h1.length
  .rw[c,Nat.sub_self];simp only[List.getElem?_cons_zero,YX, Option.some.injEq];by_cases p:j%2=0
   .rw[Xh p];constructor
    .exact λz=>.inr (.inl #[#[],z.symm])
    .rintro(z|⟨_,z⟩|⟨z,_⟩)
     .cases z
     .exact z.symm
     .lia
   .rw[Xe p];constructor
    .exact λz=>.inr (.inr #[#[],z.symm])
    .rintro(z|⟨z,_⟩|⟨_,z⟩)
     .cases z
     .lia
     .exact z.symm
  .have:([x])[j/2-h1.length]?=none:=List.getElem?_eq_none_iff.mpr (by simp;lia);rw[this];constructor
   .simp_all
   .rintro(z|⟨z,_⟩|⟨z,_⟩)
    .cases z
    .lia
    .lia
theorem ZsW(h:NetR N h1 φ){s:Nd}(h0:φ s e=0)(new:(s,e)∉h1.map (λx=>(x.1,x.2.1))):NetR (UY N (nk s) (nk e) r) (h1++[(s,e,r)]) φ where
 ends:=by
  show(N.ends++[nk e])++[nk s]=_
  unfold WH;rw[Mz,Xx,h.ends];simp[WH]
 rooms:=by
  show(N.rooms++[r])++[0]=_
  rw[ h.rooms];simp[Yg,h0]
 leav n e':=by
  have l1:(Gf { N with laid:=YJ N.laid (nk s,nk e) (N.ends.length) } (nk s) (nk e) r).ends.length=2*h1.length+1:=by
   show(N.ends++[nk e]).length=_
   rw[Xs,h.elen];rfl
  have q:(QU (UY N (nk s) (nk e) r).leav (nk n)).getD []=((QU N.leav<|nk n).getD []++(if n=s then [((2*h1.length:Nat):Int)] else []))++(if n=e then [((2*h1.length+1:Nat):Int)] else []):=by
   unfold UY;rw[GI,l1,GI,GI];rw[h.elen];simp only[EG];by_cases K:n=e
   .subst K
    by_cases c:n=s
    .subst c;simp
    .simp[c]
   .by_cases c:n=s
    .subst c;simp[K]
    .simp[K,c]
  rw[q,Xz,Xz,h.leav n e'];constructor
  .rintro((⟨j,rfl,B⟩|z)|z)
   .exact#[j,rfl,DD.mpr<|.inl B]
   .by_cases c:n=s
    .rw[Xh c]at z;exact#[2*h1.length,Xj.mp z,DD.mpr<|.inr<|.inl #[rfl,c]]
    .rw[Xe c]at z;cases z
   .by_cases c:n=e
    .rw[Xh c]at z;exact#[2*h1.length+1,Xj.mp z,DD.mpr<|.inr<|.inr #[rfl,c]]
    .rw[Xe c]at z;cases z
  .rintro⟨j,rfl,B⟩;rcases DD.mp B with z|⟨rfl,z⟩|⟨rfl,z⟩
   .exact .inl (.inl #[j,rfl,z])
   .exact .inl (.inr<|by rw[Xh z];exact Xj.mpr rfl)
   .exact .inr (by rw[Xh z];exact Xj.mpr rfl)
 laid i x hx:=by
  show Ve (YJ N.laid (nk s,nk e)<|N.ends.length) (nk x.1,nk x.2.1)=_;rw[LO,h.elen];by_cases hi:i<h1.length
  .rw[GU hi]at hx;have ne:¬(nk x.1,nk x.2.1)=(nk s,nk e):=λz=>new (by
    injection z with A y;exact Xo.mpr #[x,List.mem_of_getElem? hx,by rw[UA A,UA y]])
   rw[Xe ne];exact h.laid i x hx
  .rw[Mr<|#[]]at hx;have C:i=h1.length:=by
    have:=(Xi.mp hx).1;simp at this;lia
   subst C;rw[Nat.sub_self]at hx;cases hx;rw[Xh rfl]
 laid0 p q hn:=by
  show Ve (YJ N.laid (nk s,nk e)<|N.ends.length) (nk p,nk q)=_;rw[Xx,Xz,not_or]at hn;rw[LO,Xe λz=>?_]
  .exact h.laid0 p q hn.1
  .injection z with A y;exact hn.2 (by rw[UA A,UA y];simp)
 l1:=by
  have a:=h.l1;have b:(UY N (nk s) (nk e) r).leav.length<=N.leav.length+2:=by
   show(Ya (Yj (Ya (Yj N.leav<|nk s) (nk s) _)<|nk e) (nk e) _).length<=_
   rw[DE];refine Xq (KC _ _) ?_;rw[DE];have:=KC N.leav (nk s);lia
  simp;lia
 l2:=by
  have a:=h.l2;have b:(UY N (nk s) (nk e) r).laid.length<=N.laid.length+1:=ZsC _ _ _;simp;lia
 l3 k ns hk:=by
  have g:∀f,((QU N.leav f).getD []).length<=2*h1.length:=λf=>by
   cases z:QU N.leav f with
   |none=>exact XH _
   |some m=>exact h.l3 f m z
  have P:∀f,((QU (Gf { N with laid:=YJ N.laid (nk s,nk e) (N.ends.length) } (nk s) (nk e) r).leav f).getD []).length<=2*h1.length+1:=λf=>by
   rw[GI];by_cases z:f=nk s
   .rw[Xh z];have:=g (nk s);simpa using this
   .rw[Xe z];have:=g f;lia
  unfold UY at hk;rw[GI]at hk;by_cases z:k=nk e
  .rw[Xh z]at hk;cases hk;have:=P (nk e);simp at this ⊢;lia
  .rw[Xe z]at hk;have:=P k;rw[hk]at this;simp at this ⊢;lia
def Zoo{c:Lay Nd}(Y:Dis c){φ:Zp Nd}{a r n:Int}{e:Nat}(L:(Yg c φ)[e]?=some r)(g:(Yg c φ)[Zhh e]?=some n):Yg c (Y9 c a φ e)=((Yg c φ).set e (r-a)).set (Zhh e) (n+a):=by
 have s:Zhh e/2=e/2:=by unfold Zhh;split<;>lia
 rw[GA]at L g;unfold rmE at L g;rw[s]at g;cases f:c[e/2]? with
 |none=>rw[f]at L;cases L
 |some x=>
  rw[f]at L g;simp only[YX,Option.some.injEq]at L g;have X:Y9 c a φ e=Yc φ x.1 x.2.1 (if e%2=0 then a else -a):=by unfold Y9;rw[f]
  have B:Yc φ x.1 x.2.1 (if e%2=0 then a else -a) x.1 x.2.1=φ x.1 x.2.1+(if e%2=0 then a else -a):=by unfold Yc;rw[Xh #[rfl,rfl]]
  have d:=(Xi.mp f).1;have b:=NZ c φ;have j:e<(Yg c φ).length:=#[]
  refine List.ext_getElem? λi=>?_;rw[GA,List.getElem?_set,List.getElem?_set,GA,X];by_cases h:Zhh e=i
  .subst h;rw[Xh rfl,Xh (show Zhh e<((Yg c φ).set e (r-a)).length by simpa using #[])];unfold rmE;rw[s,f];simp only[YX,Option.some.injEq];rw[B];have M:(Zhh e%2=0)=¬(e%2=0):=by
    unfold Zhh;split<;>lia
   by_cases p:e%2=0
   .simp_all
   .have P:Zhh e%2=0:=by rw[M];exact p
    rw[Xh P]at g ⊢;rw[Xe p];lia
  .rw[Xe h]
   by_cases A:e=i
   .subst A;rw[Xh rfl,Xh j];unfold rmE;rw[f];simp only[YX,Option.some.injEq];rw[B];by_cases p:e%2=0
    .rw[Xh p]at L ⊢;rw[Xh p];lia
    .rw[Xe p]at L ⊢;rw[Xe p];lia
   .rw[Xe A];unfold rmE;cases Z:c[i/2]? with
    |none=>rfl
    |some y=>
     have U:¬(y.1=x.1/\y.2.1=x.2.1):=λ⟨K,C⟩=>by
      have q:=KN Y Z f K C;unfold Zhh at h;split at h<;>lia
     have m:Yc φ x.1 x.2.1 (if e%2=0 then a else -a) y.1 y.2.1=φ y.1 y.2.1:=by unfold Yc;rw[Xe U]
     simp only[YX,m]
def U0(c:Lay Nd)(φ:Zp Nd)(es:Got Nd)(f:List Nd):Prop := ∀e m n r,tlE c e=some m->hdE c e=some n->rmE c φ e=some r->0<r->m∈Zc es->m∉f->n∈Zc es
def U0.closed{es:Got Nd}(h:U0 h1 φ es []):Yz h1 φ es:=λe m n r L i g f c=>h e m n r L i g f c (by rintro⟨⟩)
def Uo{es:Got Nd}{x:Nd×Option Nat}{n:Nd}:n∈Zc (es++[x])↔n∈Zc es\/n=x.1:=by
 unfold Zc;simp
def U0.add{es:Got Nd}{f V:List Nd}(h:U0 h1 φ es (f++V))(n:Nd)(o:Option Nat):U0 h1 φ (es++[(n,o)]) (f++(V++[n])):=λe m k r L s q j i c=>by
 rw[<- UR,Xz,not_or]at c
 rcases Uo.mp i with z|z
 .exact Uo.mpr (.inl<|h e m k r L s q j z c.1)
 .exact Xt z (λz=>c.2 (by simp[z]))
theorem Tree.inClosed{h:Lay Nd}{φ:Zp Nd}{s:Nd}{f:Got Nd}(c:Yz h φ f)(hs:s∈Zc f):∀{es:Got Nd},Tree h φ s es->∀n∈Zc es,n∈Zc f
 |_,.root,n,g=>by
  have e:=by simpa [Zc] using g
  simp_all
 |_,.add t g y j q m A,n,i=>by
  rcases Uo.mp i with z|z
  .exact t.inClosed c hs n z
  .rw[z];exact c _ _ _ _ j y m A (t.inClosed c hs _ q)
end Mir
namespace L2
theorem CT{F g H:Hp}:∀{as:Qg} {c:List (Qd)},(∀ds∈c,Jv ds)->(∀a∈as,g a=none)->Vb F H as c->Vb g H as c
 |[],[],_,_,_=>trivial
 |a::as,ds::c,h,f,o=>by
  obtain⟨⟨_,xs,q,n⟩,i⟩:=o;exact#[#[f a Xb,xs,q,n.flats<|h ds Xb],CT (λd j=>h d<|Xf _ j) (λb m=>f b<|Xf _ m) i]
 |[],_::_,_,_,o=>False.elim o
 |_::_,[],_,_,o=>False.elim o
def O5(h:∀ds∈SF,Jv ds):JG (.oll SF):=λK F q H v p c f=>by
 apply aP f;rintro a m rfl rfl L n j i;exact#[a,m,rfl,rfl,L,c a Xb,j,CT h (λb g=>c b<|Xf _ g) i]
end L2
namespace L2
section
variable {w:World}{dx:Qb}{d:Drawn}{t:Nat}{os:OsState}
variable {N:Addr}{bs:Qe}{sub:Qe}
noncomputable abbrev PZ(C a:Addr):Obj:={ cls:=.ref C,data:=.fields (List.toArray [.ref a,.none,.none,.none,.bool false,.none]) }
noncomputable abbrev AG(vs:Qe):Obj:={ cls:=.type "tuple",data:=.seq vs.toArray }
noncomputable def Wj(h:Heap)(C:Addr)(vs:Qe):Heap:=(h.push<|AG vs).push (PZ C h.objs.size)
def Ow(F:ExcBaseFacts B newId initId S0)(T:OwnTail h S0 bm){rest:Qe}{f:Addr}
(j:h.get? C=some (excClassObj nm q C N bs bm T1 sn sub ab col dd k0 k1 k2 k3 k5 newId))(hn:h.Ns N mN)
(U:mN "__init__"=some (.ref f))(W:h.get? f=some fo)(X:fo.cls=.type "function")(c:rest.length<=sizeLine)
(P:wpAny (model prog w) A (call (.ref f) (.ref (h.objs.size+1)::rest)) (λr K=>r=.none/\Q (.done<|.ret<|.ref<|h.objs.size+1) K) dx #[Wj h C rest,g,d,t,os]):
 wpAny (model prog w) A (Builtin.«type.__call__» #[.ref C::rest,[]]) Q dx #[h,g,d,t,os]:=by
 have m:∀b o,h.get? b=some o->(Wj h C rest).get? b=some o:=λb o e=>Xc _ (Xc _ e)
 repeat (first
  |with_reducible refine wpAny_loadPart_at j ?_
  |with_reducible refine wpAny_madeBy_exc j ?_
  |wp_step)
 refine codeAny_call_builtin_code (Code.quiet_builtin _ F.quiet)
  (wpAny_check_new_subT F T j ?_)
 refine codeAny_exc_new_subT F T j ?_ c;show wpAny _ _ _ _ _ #[Wj h C rest,g,d,t,os];have M:(Wj h C rest).get? _=some _:=Hi (by rw[Yt]) rfl;have i:=m _ _ j;have n:(Value.ref C::bm).contains (.ref C)=true:=by simp
 repeat (first
  |with_reducible refine wpAny_loadPart_at M ?_
  |(with_reducible refine wpAny_isSubtype_exc i ?_;rw[n])
  |wp_step)
 refine wpAny_typeLookup_tail i (hn.keeps m) (T.keeps m) F.mroIs F.init.lookup ?_;rw[U];refine wpAny_holding (Xa<|wpAny_bindSpecial_def (m _ _ W) X (Xa (wpAny_mono P (λr K s=>?_) λ_ _ z=>z)));obtain⟨rfl,s⟩:=s
 wp_walk
 exact s
def Ei(F:ExcBaseFacts B newId initId S0)(T:OwnTail h S0 bm){rest:Qe}{f:Addr}
(i:h.get? C=some (excClassObj nm q C N bs bm T1 sn sub ab col dd k0 k1 k2 k3 k5 newId))(hn:h.Ns N mN)
(m:mN "__init__"=some (.ref f))(n:h.get? f=some fo)(s:fo.cls=.type "function")(c:rest.length<=sizeLine)
(P:wpAny (model prog w) (A.under<|.builtin "type.__call__" #[.ref C::rest,[]]) (call (.ref f) (.ref (h.objs.size+1)::rest)) (λr j=>r=.none/\Q (.ref<|h.objs.size+1) j) dx #[Wj h C rest,g,d,t,os]):
 wpAny (model prog w) A (call (.ref C) rest) Q dx #[h,g,d,t,os]:=by
 have M:=tc_lookup;have K:=tc_bind (.ref C);have y:(#[h,g,d,t,os]:Shared).TypeIs (.ref C) "type" := #[_,i,rfl];refine wpAny_call (codeAny_of_tree ?_)
 repeat (any_goals (first
  |assumption
  |with_reducible refine wpAny_loadPart_at i ?_
  |wp_step))
 refine#[rfl,codeAny_call_builtin_at (Code.quiet_builtin _<|by decide +kernel) entry_typeCall (wpAny_check_type_call_sub i (Ow F T i hn m n s c ?_))];simp_all
end
end L2
namespace L2
def phX(C e:Addr)(c:Qj):Heap->Prop:=λh=>∃(t:Addr) (f:Array (Qf)),h.get? e=some { cls:=.ref C,dict:=c,data:=.fields (List.toArray [.ref t,.none,.none,.none,.bool false,.none]),slots:=f }
def MX(p:phX C e dct h):ZT P w H h e (.ext<|phX C e dct):=#[p,by exact aO p λt c q=>#[_,q],λL g f k=>by exact aO f λt c q=>#[t,c,k _ q]]
section
variable {w:World}{dx:Qb}{d:Drawn}{t:Nat}{os:OsState}
variable {N:Addr}{bs:Qe}{sub:Qe}
def Ex(F:ExcBaseFacts B newId initId S0)(T:OwnTail h S0 bm){v:Value}
(i:h.get? C=some (excClassObj nm q C N bs bm T1 sn sub ab col dd k0 k1 k2 k3 k5 newId))
(he:h.get? e=some { cls:=.ref C,dict:=dct,data:=.fields (List.toArray [.ref a,.none,.none,.none,.bool false,.none]),slots:=sl })
(c:∀h',(∀b o,b≠e->h.get? b=some o->h'.get? b=some o)->phX C e dct h'->Q .none #[h',g,d,t,os]):
 wpAny (model prog w) A (call (.builtin initId) [.ref e,v]) Q dx #[h,g,d,t,os]:=by
 refine wpAny_call (codeAny_call_builtin F.init.plain F.initEntry<|wpAny_check_init_subT F T i he rfl ?_)
 wp_walk using AutoSeq1.wpAny_loadPart' he
 refine c _ (λb o f z=>?_) #[h.objs.size,sl,?_]
 .rw[XV _ _<|Ne.symm f];exact Xc _ z
 .rw[X9 _ (Xc _ he) rfl];rfl
end
structure Uw(K:W.Frag)(Xa4 C f:Addr):Prop where
 ga:W.specialIn K (.ref Xa4) "__getattribute__"=some (some<|.builtin "type.__getattribute__")
 rd:W.readsIn K Xa4 (.type "type")=true
 ini:W.findCls K (.ref Xa4) (.type "type") "__init__"=some (.val<|.builtin "ValueError.__init__")
 cls:∀h:Heap,K.In h->∃(S0 bm:Qe) (nm q:Str) (N:Addr) (bs:Qe) (T1:Bool) (sn:Qh) (sub:Qe) (ab:Bool) (col:Option Bool) (dd:Qj) (k0 k1 k2 k3 k5:Qf),
  ExcBaseFacts "ValueError" "ValueError.__new__" "ValueError.__init__" S0/\OwnTail h S0 bm/\h.get? C=some (excClassObj nm q C N bs bm T1 sn sub ab col dd k0 k1 k2 k3 k5 "ValueError.__new__")/\
  ∃(mN:Str->Qf) (fo:Obj),h.Ns N mN/\mN "__init__"=some (.ref f)/\h.get? f=some fo/\fo.cls=.type "function"
def tXI(C:Addr)(i:Nat):TE:=λO H Q=>∃e c,O[i]?=some (some<|.ref e)/\H e=some (.ext<|phX C e c)/\Q .non H
def LP{f:Addr}(c:Uw X.K Xa4 C f){x y:Str}{M K A n j:Pos}{g:Str}{B:Nat}(hg:Gl X x)(R:X.mg x=some (.ref Xa4))(hN:X.N[i]?=some y)(J:Vis X.env.scope y)
(P:(x==("__debug__" : Str))=false:=by decide)(hd:(y==("__debug__" : Str))=false:=by decide)(U:(y==("__classdict__" : Str))=false:=by decide){v:Sem Bool}
(L:eval (.Call (.Attribute (.Name x M) "__init__" K) [.Name y A,.Constant (.str g) B n] [] j) X.env=(do
  let ov <- eval (.Name x M) X.env
  standAt K.atName
  let (f,first) <- holding [ov] (getMethod ov "__init__" v)
  callWith j f first (backTo j<|starEach [.Name y A,.Constant (.str g) B n] X.env)<|backToKw j<|keywordEach [] X.env):=by rfl):
 PE X (.Call (.Attribute (.Name x M) "__init__" K) [.Name y A,.Constant (.str g) B n] [] j) (tXI C i):=by
 refine λY s O H Q I h=>aF h λe a e1 Z q=>W.methodCall_KW (WY I hg R (W.method_cls I.kIn c.ga (W.cls_value I.kIn c.rd c.ini rfl (PyProof.Rows.callWith_builtin1 (Q9 ((Qs (Tc hN J hd U) (Qs QP Qq)) j Y _ O H (λk D=>k=[.ref e,.str g]/\D=H) (I.tok (s.toks+1)) #[_,e1,rfl,rfl]) ?_) rfl rfl))) P) L;rintro us t ⟨k,D,d,r,ev,eH⟩;subst ev eH;cases r with
 |cons u r=>
 cases r with
 |cons r2 r=>
 cases r;cases u;apply KE (d.hok e _ Z);rintro⟨ta,sl,S⟩_ _;apply ae (c.cls _ d.kIn);rintro S0 bm nm qn N bs T1 sn p ab col dd k0 k1 k2 k3 k5⟨F,T,hC,_⟩;refine Ex F T hC S λh' E l=>?_;have w:Mut (D e):=by rw[Z];trivial
 have eu:upd D e (.ext<|phX C e a)=D:=by
  funext b
  by_cases o:b=e
  .subst o;simp[upd,Z]
  .simp[upd,o]
 exact#[.non,D,(eu▸(d.write (t':=t.toks) w Qa E (by exact aO l λ_ _ z=>#[_,z]) (MX l))),rfl,q]
end L2
namespace L2
noncomputable def WQ:Qe->Bool
 |.ref _::r=>WQ r
 |l=>l==[.type "ValueError",.type "Exception",.type "BaseException",.type "object"]
theorem Cd(f:Value):∀{l:Qe},WQ l=true->refuseLoop f "__setattr__" l=pure ()
 |.ref c::r,e=>by rw[refuseLoop_ref];exact Cd f (by simpa [WQ] using e)
 |[],e=>by cases e
 |.type n::r,e=>by rw[show _=_ from beq_iff_eq.mp e];exact PySem.F.store_ValueError.passes f
theorem Tj:∀{l:Qe},WQ l=true->l.contains (.type "object")=true
 |.ref c::r,e=>by rw[List.contains_cons,Tj<|by simpa [WQ] using e,Bool.or_true]
 |[],e=>by cases e
 |.type n::r,e=>by rw[show _=_ from beq_iff_eq.mp e];decide
section
open PySem.W
variable {w:World}{R:Result->Shared->Prop}{K:Frag}{x:Addr}
def A6{v:Value}(X:K.In s.heap)(I:W.InstAt s.heap x ox C od)(P:((clsIn K C).any λcd=>WQ cd.mro)=true)(M:takerIn K C name=some r)
(h:∀b,wpAny (model prog w) A.in1 (match r with|some a=>Builtin.ObjectAttr.setByDescriptor a (.ref x) v|none=>Builtin.ObjectAttr.storeInOwnDict (.ref x) (.ref C) (.str name tk) name v b)
  (λfin i=>match fin with|.done f=>R (.ok f) i|.again c'=>c'.quiet=true/\codeAny (model prog w) A c' R i) (λe i=>R (.error e) i) s):
 codeAny (model prog w) A (.call (.builtin "object.__setattr__") #[[.ref x,.str name tk,v],[]]) R s:=by
 have g:=PySem.F.store_object;apply At (any_some P);intro cd y j;have B:cd.mro.isEmpty=false:=by cases q:cd.mro with|nil=>rw[q]at j;cases j|cons _ _=>rfl
 refine codeAny_call_builtin g.slot.plain g.entry (@check_slot _ _ _ s "object.__setattr__" "object" "__setattr__" _ [.str name tk,v] [] _ g.kind g.split (I.type.andThen (looks_mroIn X<|by unfold mroIn;rw[y,Option.bind_some,Xe<|by rw[B];decide,Tj j])) (g.args _ _ v) ?_);apply At (Option.bind_eq_some_iff.mp M);intro c Z n;have U:Looks (model prog w) s.heap (mroOf<|.ref C) cd.mro:=(looks_clsIn X y).andThen .now;have d:Looks (model prog w) s.heap (Builtin.ObjectAttr.storeTaker? c) r:=by
  cases c with
  |none=>cases n;exact .now
  |some a=>
   apply At (Mq.mp n);rintro b Y rfl;refine(looks_takesIn X Y).andThen ?_;cases b<;>exact .now
 rw[osa_eq,refuse_eq];refine Xa (Xa<|I.type.here<|Xa<|U.here ?_);rw[Cd _ j];exact Xl (Xa<|I.type.here<|Xa<|(looks_findIn X Z).here (Xa<|d.here (h _)))
def A5{v:Value}(X:K.In s.heap)
(hs:findIn K (.ref C) "__setattr__"=some (some<|.builtin "object.__setattr__"))(Z:((clsIn K C).any λcd=>WQ cd.mro)=true)(Y:takerIn K C name=some none)(a:hasDictIn K C=true)
(g:s.heap.get? x=some { cls:=.ref C,dict:=none,data:=.fields fs,slots:=sl })
(h:∀h' t',(∀b o,b≠x->s.heap.get? b=some o->h'.get? b=some o)->h'.get? x=some { cls:=.ref C,dict:=some s.heap.objs.size,data:=.fields fs,slots:=sl }->
  h'.Ns1 s.heap.objs.size (λy=>if y=name then some v else none)->Q () { s with heap:=h',toks:=t' }):
 wpAny (model prog w) A (setAttr (.ref x) name v) Q dx s:=by
 have U:W.InstAt s.heap x _ C none:=#[g,rfl,rfl,trivial];refine W.set_plain X U hs (A6 X U Z Y λb=>At (W.any_some a) λcd k q=>Xa (Xl<|Xa<|Xa<|wpAny_loadPart g<|Xa<|W.Looks.here (W.looks_clsIn X k) ?_));rw[q];have c:=Xp (Xk g);dsimp only;refine Xa (wpAny_alloc' (Xa (wpAny_update' (Xc _ g) (Xl ?_))));have m:((s.heap.push { cls:=.type "dict",data:=.dict (List.toArray []) }).update x λo=>{ cls:=o.cls,dict:=some s.heap.objs.size,data:=o.data,slots:=o.slots }).get? s.heap.objs.size
  = some { cls:=.type "dict",data:=.dict (List.toArray []) }:=
  (Heap.get?_update_ne _ _ _ _ c.symm).trans (Hi rfl rfl)
 have j:((s.heap.push { cls:=.type "dict",data:=.dict (List.toArray []) }).update x λo=>{ cls:=o.cls,dict:=some s.heap.objs.size,data:=o.data,slots:=o.slots }).Ns s.heap.objs.size (λ_=>none):=
  #[_,(List.toArray []),_,m,rfl,λe d=>Xt d<|by simp,λ_=>rfl]
 exact Xa (Xl<|Xa<|wpAny_nsSet1 (Heap.Ns1.of_empty j) λh' f hs=>aA (f.count (Within.cons name v Within.nil)) λt l p i n B=>Xa (wpAny_lookBehind i (by rw[n];exact pastItsLine_dict<|Xq B<|by simp) (Xl (h _ _ (λb r M P=>((hs.2 b<|Xp<|Xk P).trans ((Heap.get?_update_ne _ _ _ _ M).trans (Xc _ P)))) ((hs.2 x c).trans (X9 _ (Xc _ g) rfl)) f))))
end
end L2
namespace L2
structure S6(K:W.Frag)(C:Addr):Prop where
 sa:W.findIn K (.ref C) "__setattr__"=some (some<|.builtin "object.__setattr__")
 ov:((W.clsIn K C).any λcd=>WQ cd.mro)=true
 hd:W.hasDictIn K C=true
def sXF(C:Addr)(ta tv:TE)(f:Str):TS:=λH1 O H=>tv O H λy D=>ta O D λx c=>∃e,x=.ref e/\c e=some (.ext<|phX C e none)/\
 ∀E,c E=none->E≠e->H1.nx O (upd (upd c e<|.ext<|phX C e<|some E) E<|.xd [(f,y)])
section
variable {o value:Expr}
def TQ(c:S6 X.K C)(t:W.takerIn X.K C f=some none)(G:PE X o ta)(A:PE X value tv)(hs:swapsWith value (some<|.Attribute o f pos') pos.line X.env=pure false):PS X (.Assign [.Attribute o f pos'] value pos) (sXF C ta tv f):=by
 refine λY s O H H1 I h=>plainObj_wpAny_Assign_Attribute (Q9 (A Y s O H _ I h) ?_) hs;rintro u a ⟨y,D,L,b,q⟩;refine Q9 (G Y a O D _ L q) ?_;rintro R Q ⟨x,N,i,d,e,rfl,U,k⟩;obtain rfl:=d;apply KE (i.hok e _ U);rintro⟨ta,Z,P⟩_ _;refine A5 i.kIn c.sa c.ov t c.hd P λh' t' r M E=>?_;have l:Mut (N e):=by rw[U];trivial
 have j:=(Xp<|Xk P).symm;refine#[O,_,(i.write (t':=t') l Qa r #[_,M] (MX #[ta,Z,M])).track (o:=.xd [_]) (by rw[Qv j];exact i.fresh) i.sz (VY i.lt) (λz c F n=>?_) (λp w n=>?_) #[_,E,λg=>?_],k _ i.fresh j]
 .obtain⟨v,A⟩:=i.cell z c F;subst n;exact At A λS K _=>Xt (Xk K) (Y5 _)
 .have:=(i.pin p w).1;rw[n]at this;exact Xt (Xk this) (Y5 _)
 .by_cases B:g=f
  .subst B;simp[List.lookup];exact b
  .rw[Xe B];have:(g==f)=false:=by simpa using B
   simp[List.lookup,this];trivial
end
def M7(C:Addr)(sp:Sp)(f:XK)(t:TA):TE:=λO H Q=>t O H λc D=>c.length<=1000/\∀x,D x=none->
 sp (.ref x::c) (upd D x<|.ext<|phX C x none) (λv g=>v=.non/\Q (.ref x) g) f
section
variable {CX:CXT}{k:Nat}{f:Addr}{dx:XK}{x:Str}{p:Pos}{e:Expr}{t:TA}
def ZrL{O:St}{H:Hp}{Q:VK}{us:Qe}{vs:List V}(c:Uw X.K Xa4 C f)(F:FnOk X.prog X.w X.K X.mg X.base CX k f fd ps sp)(a:Room (k+1) X.A)(z:ZY X.K fd ps [])
(Z:Yh CX X dx)(I:Qt X Y O H s)(r:QS vs us)(hl:vs.length<=1000)
(h:∀x,H x=none->sp (.ref x::vs) (upd H x<|.ext<|phX C x none) (λv S=>v=.non/\Q (.ref x) S) dx):
 wpAny (model X.prog X.w) X.A (call (.ref C) us) (EP X Y O Q) X.xe s:=by
 apply ae (c.cls _ I.kIn);rintro S0 bm nm qn N bs T1 sn B ab col dd k0 k1 k2 k3 k5⟨FB,T,E,mN,fo,D,l,w,q⟩;have y:=h (s.heap.objs.size+1) (I.hok.fresh<|UT _);obtain⟨j,g,d,A,os⟩:=s;have W:∀b o,j.get? b=some o->(Wj j C us).get? b=some o:=λb o e=>Xc _ (Xc _ e);have m:=I.laid (t':=A) W (UT _) (MX #[_,_,Hi (by rw[Yt]) rfl]);have t:QS (V.ref (j.objs.size+1)::vs) (Value.ref (j.objs.size+1)::us):=.cons rfl r
 have p:(Value.ref (j.objs.size+1)::us++[]).length=ps.length:=by
  have e:=t.length;rw[F.len _ _ _ _ y]at e;simpa using e.symm
 refine Ei FB T E D l w q (by rw[<- r.length,sizeLine_eq];lia)<|wpAny_call (codeAny_mono (F.run _ X.stack _ _ _ (Value.ref (j.objs.size+1)::us) _ _ dx (a.make C us []) (m.env0.make C us []) (by simpa using z _ (Value.ref (j.objs.size+1)::us) m.kIn p) t y) λr K i=>?_);cases r with
 |error e=>exact Z Y O _ _ e K m i
 |ok G=>
  cases G with
  |ret u=>
   apply aB (m.after i);intro v J R M L P;subst L;exact#[M,#[V.ref<|j.objs.size+1,J,R,rfl,P]]
  |next=>exact False.elim i
  |brk=>exact False.elim i
  |cont=>exact False.elim i
def Zsn(c:Uw X.K Xa4 C f)(j:W.keepIn X.K (.ref C)=true)(F:FnOk X.prog X.w X.K X.mg X.base CX k f fd ps sp)(n:Room (k+1) X.A)(hg:Gl X x)(y:X.mg x=some (.ref C))(A:ZY X.K fd ps [])(m:Yh CX X dx)
(B:PA X (e::es) t)(g:(x==("__debug__" : Str))=false:=by decide)(he:zs X e es:=by rfl)(hpl:zb X pos es:=by rfl):
 PE X (.Call (.Name x p) (e::es) [] pos) (M7 C sp dx t):=by
 refine λY s O H Q I h=>wpAny_Call_Name_kw (WY I hg y (W.callWith_K I.ok.mod.kin j (Q9 (B pos Y s O H _ I h) ?_) he hpl) g);rintro M P ⟨K,D,i,r,q⟩;exact#[i.kIn,ZrL c F n A m i r q.1 q.2]
end
def sXR(C:Addr)(te:TE)(R:Addr->Qj->Hp->Prop):TS:=λH1 O H=>te O H λv D=>∃e c,v=.ref e/\D e=some (.ext<|phX C e c)/\R e c D
section
variable {dx:Qb}
variable {N:Addr}{bs:Qe}{sub:Qe}
def TN(n:A.handled=none)
(h:wpAny M A x (λv g=>∃e t f j bm nm q N bs T1 sn sub ab col dd k0 k1 k2 k3 k5 newId,v=.ref e/\bm.contains (Value.type "BaseException")=true/\g.heap.get? C=some (excClassObj nm q C N bs bm T1 sn sub ab col dd k0 k1 k2 k3 k5 newId)/\
  g.heap.get? e=some { cls:=.ref C,dict:=f,data:=.fields (List.toArray [.ref t,.none,.none,.none,.bool false,.none]),slots:=j }/\dx (.ref e) g) dx s):
 wpAny M A (raiseStmt env (some x) none) Q dx s:=by
 refine Xa (wpAny_mono h (λv g K=>?_) λ_ _ x=>x);apply ae K;rintro e t f j bm nm q N bs T1 sn sub ab col dd k0 k1⟨k2,k3,k5,newId,rfl,c,m,y,B⟩;have i:(Value.ref C::bm).contains (.type "BaseException")=true:=by rw[List.contains_cons,c,Bool.or_true]
 repeat (first|with_reducible refine wpAny_loadPart_at y ?_|with_reducible refine wpAny_loadPart_at m ?_|(with_reducible refine wpAny_isSubtype_exc m ?_;rw[i])|wp_step)
 exact wpAny_raiseNew_none n B
end
end L2
namespace L2
section
variable {dx:Qb}
structure Leaves(l:List Env)(e:Addr)(oe:Obj)(h h':Heap)(T:Addr):Prop where
 keep:∀b o,b∉l.filterMap (·.frame)->b≠e->h.get? b=some o->h'.get? b=some o
 slot:∀b o,b∈l.filterMap (·.frame)->h.get? b=some o->∃sl,h'.get? b=some { o with slots:=sl }
 new:h.objs.size<=T
 exc:h'.get? e=some (Obj.mapFields (·.setIfInBounds 1 (Value.ref T)) oe)
 tb:∃oT ts,h'.get? T=some oT/\oT.data=.fields ts/\ts[3]?=some .none
def FT
(U:A.frames=some (env::outer))(Y:s.heap.FunFrames base (env::outer))(w:env.frame=some h1)
(he:s.heap.get? e=some oe)(W:oe.data=.fields vs)(hsz:1<vs.size)
(h:∀h' T,Leaves (env::outer) e oe s.heap h' T->Q () { s with heap:=h' }):
 wpAny M A (do let a <- frameOf env;let g <- entryPlaceOf h1 hadNext;let b <- EntryCells.newEntry head a .none (rawInt h1) .none g;setField (.ref e) 1 b) (λ_ t=>wpAny M A (setFlight (.ref e) none) Q dx t) dx s:=by
 have m:e∉(env::outer).filterMap (·.frame):=λv=>by
  apply Do (Y.mem v);intro _ o j P;rw[he]at j;injection j with j;subst j;exact P vs W
 refine Xa (wpAny_frameOf_fun U Y w λc K=>Xa (wpAny_entryPlaceOf λg B=>Xa (wpAny_newObj_type ?_<|B.sizeOk5 _ _ _ _ _)));have l:=(K.2.1 e m).trans he;have p:=Xc { cls:=.type "traceback",dict:=none,data:=.fields ([head,.ref h1,.none,rawInt h1,.none]++(if g.isEmpty then List.replicate 6 Value.none else g)).toArray } l;refine wpAny_setField p W hsz ?_;have C:=VY (Xk l);have k:=Obj.data_mapFields W (·.setIfInBounds 1 (Value.ref c.objs.size));have d:=X9 (Obj.mapFields (·.setIfInBounds 1 (Value.ref c.objs.size))) p (Obj.isFreed_of_fields k);have Z:=(XV (c.push { cls:=.type "traceback",dict:=none,data:=.fields ([head,.ref h1,.none,rawInt h1,.none]++(if g.isEmpty then List.replicate 6 Value.none else g)).toArray })
  (Obj.mapFields (·.setIfInBounds 1 (Value.ref c.objs.size))) (Ne.symm C)).trans (Xn c rfl)
 refine Xa (VX d k (x:=.ref c.objs.size) (by simp[hsz]) (wpAny_setField Z rfl (by simp only[Xu,Xs,X4,List.length_nil]<;>lia) (h _ c.objs.size ?_)));have i:∀b o,b≠e->c.get? b=some o->
  (((c.push { cls:=.type "traceback",dict:=none,data:=.fields ([head,.ref h1,.none,rawInt h1,.none]++(if g.isEmpty then List.replicate 6 Value.none else g)).toArray }).update e (Obj.mapFields (·.setIfInBounds 1 (Value.ref c.objs.size)))).update c.objs.size
    (Obj.mapFields (·.setIfInBounds 3 ((none:Qj).elim Value.none λf=>rawInt f)))).get? b=some o:=λb o n y=>by
  rw[XV _ _ (VY (Xk y)),XV _ _<|Ne.symm n];exact Xc _ y
 refine#[λb o y n j=>i b o n<|(K.2.1 b y).trans j,λb o y j=>?_,?_,?_,?_]
 .obtain⟨r,u⟩:=K.2.2 b o j;exact#[r,i b _ (λq=>m<|q▸y) u]
 .exact Nat.le_of_eq K.1.symm
 .rw[XV _ _ C];exact d
 .exact#[_,_,X9 _ Z<|Obj.isFreed_of_fields<|Obj.data_mapFields rfl _,Obj.data_mapFields rfl _,by first|(simp;done)|(rcases B with rfl|⟨_,_,_,_,_,_,_,rfl⟩<;>simp)]
def Zmm
(c:A.frames=some (env::outer))(i:s.heap.FunFrames base (env::outer))(f:env.frame=some h1)
(he:s.heap.get? e=some oe)(g:oe.data=.fields vs)(L:vs[1]?=some .none)
(h:∀h' T,Leaves (env::outer) e oe s.heap h' T->Q () { s with heap:=h' }):wpAny M A (leaving env<|.ref e) Q dx s:=by
 unfold leaving noteFrame;simp only[f];exact Xa (Xa<|VX he g L (FT c i f he g (Array.getElem?_eq_some_iff.mp L).1 h))
def R9{ts:Array Value}
(P:A.frames=some (env::outer))(k:s.heap.FunFrames base (env::outer))(W:env.frame=some h1)
(he:s.heap.get? e=some oe)(X:oe.data=.fields vs)(L:vs[1]?=some (.ref T0))(l:T0≠e)(hT:s.heap.get? T0=some oT)(f:oT.data=.fields ts)(B:ts[3]?=some .none)
(h:∀h' T,Leaves (env::outer) e oe s.heap h' T->Q () { s with heap:=h' }):wpAny M A (noteFrame (.ref e) env) (λ_ Z=>wpAny M A (setFlight (.ref e) none) Q dx Z) dx s:=by
 unfold noteFrame;simp only[W];refine Xa (VX he X L (Xa (VX hT f B (Xa (wpAny_setField hT f (Array.getElem?_eq_some_iff.mp B).1 ?_)))));have n:=(Array.getElem?_eq_some_iff.mp B).1;have m:Obj.mapFields (·.setIfInBounds 3 Value.none) oT=oT:=by
  obtain⟨c,d,r,p⟩:=oT;subst f;have:ts.setIfInBounds 3 Value.none=ts:=by
   apply Array.ext_getElem?;intro i;rw[Array.getElem?_setIfInBounds];by_cases U:3=i
   .subst U;rw[Xh rfl,Xh n,B]
   .rw[Xe U]
  unfold Obj.mapFields;simp[this]
 have g:∀b o,s.heap.get? b=some o->(s.heap.update T0 _).get? b=some o:=λb o y=>by
  by_cases q:b=T0
  .subst q;rw[hT]at y;cases y;rw[X9 _ hT<|Obj.isFreed_of_fields<|Obj.data_mapFields f _,m]
  .rw[XV _ _<|Ne.symm q];exact y
 refine FT P (k.of_keeps λb o y a=>#[o,g b o y,rfl]) W (g e _ he) X (Array.getElem?_eq_some_iff.mp L).1 λh' T j=>h h' T ?_
 exact#[λb o K C Y=>j.keep b o K C<|g b o Y,λb o K C=>j.slot b o K<|g b o C,by have:=j.new;simpa only [Heap.size_update] using this,j.exc,j.tb]
def Zoz{ts:Array Value}
(c:A.frames=some (env::outer))(i:s.heap.FunFrames base (env::outer))(j:env.frame=some h1)
(he:s.heap.get? e=some oe)(m:oe.data=.fields vs)(L:vs[1]?=some (.ref T0))(g:T0≠e)(hT:s.heap.get? T0=some oT)(f:oT.data=.fields ts)(n:ts[3]?=some .none)
(h:∀h' T,Leaves (env::outer) e oe s.heap h' T->Q () { s with heap:=h' }):wpAny M A (leaving env<|.ref e) Q dx s:=Xa (R9 c i j he m L g hT f n h)
end
end L2
namespace L2
def phT(T:Addr):Heap->Prop:=λh=>∃c ts,h.get? T=some c/\c.data=.fields ts/\ts[3]?=some .none
def phF(C e:Addr)(f:Qj)(T:Addr):Heap->Prop:=λh=>∃(c:Array Value) (g:Array (Qf)),h.get? e=some { cls:=.ref C,dict:=f,data:=.fields c,slots:=g }/\c[1]?=some (.ref T)/\c[2]?=some .none
def AK(p:phT T h):ZT P w H h T (.ext<|phT T):=#[p,by exact L0 p λo _ q _=>#[_,q],λL f c k=>by exact L0 c λo ts q r=>#[o,ts,k _ q,r]]
def EK(p:phF C e dct T h):ZT P w H h e (.ext<|phF C e dct T):=#[p,by exact L0 p λo _ q _=>#[_,q],λL f c k=>by exact L0 c λo ts q r=>#[o,ts,k _ q,r]]
noncomputable abbrev left(C e:Addr)(dct:Qj)(T:Addr)(H:Hp):Hp:=upd (upd H e<|.ext<|phF C e dct T) T (.ext<|phT T)
section
variable {O:St}{H:Hp}
def DJ(I:Qt X Y O H s)(M:Mut (H e))
(he:s.heap.get? e=some { cls:=.ref C,dict:=dct,data:=.fields vs,slots:=a })(hsz:1<vs.size)(Z:vs[2]?=some .none)
(h:Leaves X.stack e { cls:=.ref C,dict:=dct,data:=.fields vs,slots:=a } s.heap h' T):Qt X Y O (left C e dct T H) { s with heap:=h' }:=by
 have i:∀b,H b=none->b≠e:=λb f q=>by subst q;rwa[f]at M
 have j:∀b o,H b=some o->b≠e->left C e dct T H b=some o:=λb o f q=>by
  unfold left;rw[Qv<|(λb o f=>Xp (XG (I.hok.lt f) h.new)) b o f,Qv q];exact f
 have y:∀b o,H b=some o->b∉frs X.stack:=λb o f q=>by rw[I.stkFree b q]at f;cases f
 have g:∀b o,H b=some o->¬Mut (some o)->b≠e:=λb o f n q=>by subst q;exact n (f▸M)
 have k:Un (frs X.stack) [] H (left C e dct T H) s.heap h':=
  { keep:=λb o m f B _=>h.keep b o B (i b f) m
    slot:=λb o m f B _=>h.slot b o B m
    free:=λb o m f _=>by
     unfold left;rw[Qv<|Xp<|XG (Xk m) h.new,Qv<|i b f];exact f
    there:=λb o m _=>by
     by_cases B:b∈frs X.stack
     .obtain⟨a,z⟩:=h.slot b o B m;exact#[_,z]
     .by_cases q:b=e
      .subst q;exact#[_,h.exc]
      .exact#[_,h.keep b o B q m]
    tups:=λb xs f=>j b _ f (g b _ f λz=>z)
    frzs:=λb o u f=>j b _ f (g b _ f λz=>z)
    tupo:=λb xs o f m _=>h.keep b o (y b _ f) (g b _ f λz=>z) m
    tbls:=λb ps f=>#[(List.toArray []),by rw[j b _ f<|g b _ f λz=>z];simp] }
 have U:HOk X.prog X.w (left C e dct T H) h':=λb u f=>by
  by_cases q:b=T
  .subst q;unfold left at f;rw[QI]at f;cases f;exact AK h.tb
  .by_cases P:b=e
   .subst P;unfold left at f;rw[Qv q,QI]at f;cases f;exact EK #[_,_,h.exc,by simp[hsz],by rw[Array.getElem?_setIfInBounds_ne<|by decide];exact Z]
   .have K:=by unfold left at f;rw[Qv q,Qv P]at f;exact f
    refine(I.hok b u K).stay (λc v A d=>?_) (λc A=>?_) λc xs A=>?_
    .rcases A with z|z
     .subst z;exact h.keep c v (y c _ K) P d
     .exact h.keep c v (y c _ z) (g c _ z λz=>z) d
    .exact j c _ A (g c _ A λz=>z)
    .exact j c _ A (g c _ A λz=>z)
 exact I.call k U I.bare<|by rintro b ⟨⟩
end
end L2
namespace L2
def Fly(C e:Addr)(c:Qj)(H:Hp):Prop := ∃T,T≠e/\H e=some (.ext<|phF C e c T)/\H T=some (.ext<|phT T)
def XE(C:Addr)(R:Addr->Qj->Hp->Prop):XK:=λv c H=>∃e,v=.ref e/\Fly C e c H/\R e c H
def CX1(P:Program)(w:World):CXT:=λouter H s g v c=>∃f J,c.os=s.os/\AllBare c.gens/\Un (frs outer) [] H J s.heap c.heap/\HOk P w J c.heap/\g v f J
def ZQ(C:Addr)(R:Addr->Qj->Hp->Prop):Prop := ∀e c H T,R e c H->H T=none->T≠e->R e c (left C e c T H)
section
variable {w:World}{base:Heap}{N:Qh}{f:Addr}{R:Addr->Qj->Hp->Prop}
noncomputable abbrev cx1(P:Program)(w:World)(K:W.Frag)(mg:Str->Qf)(base:Heap)(N:Qh)(qual:Str)(scope:Scope)(f:Addr)(cd:Value)(A:Around)(outer:List Env)(s0:Shared)(U:Hp)(dx:XK):Cx:=Jg (CX1 P w) P w K mg base N qual scope f cd A outer s0 U dx
variable {O:St}{H:Hp}
def Zs2(h:T≠e):Fly C e dct (left C e dct T H):=#[T,h,by unfold left;rw[Qv<|Ne.symm h,QI],by unfold left;rw[QI]]
def Tw(g:ZQ C R)(I:Qt (cx1 P w K mg base N qual scope f cd A outer s0 U<|XE C R) Y O (left C e dct T H) { s with heap:=h' })(hT:H T=none)(c:T≠e)(r:R e dct H):
 CX1 P w outer U s0 (XE C R) (.ref e) { s with heap:=h' }:=#[dct,_,I.os,I.bare,I.base,I.hok,e,rfl,Zs2 c,g e dct H T r hT c]
def Fc(h:ZQ C R)(I:Qt (cx1 P w K mg base N qual scope f cd A outer s0 U<|XE C R) Y O H s)(he:H e=some (.ext<|phX C e dct))(r:R e dct H):
 (cx1 P w K mg base N qual scope f cd A outer s0 U<|XE C R).xe (.ref e) s:=by
 apply KE (I.hok e _ he);rintro⟨t,i,g⟩_ _;exact Zmm I.ok.frames I.stack rfl g rfl rfl λh' T c=>Tw h (DJ I (by rw[he];trivial) g (by simp) rfl c) (I.hok.fresh c.new) (VY<|XG (Xk g) c.new) r
def Wo(l:ZQ C R):Yh (CX1 P w) (cx1 P w K mg base N qual scope f cd A outer s0 U<|XE C R) (XE C R):=by
 intro Y O H s v X I h;apply aW h;rintro u J a i W q⟨e,rfl,⟨x,y,M,hT⟩,r⟩;obtain⟨k,g,d,t,Z⟩:=X;obtain rfl:=a;have c:=I.call (h':=k) (g':=g) (d':=d) (t':=t) W q i (by rintro b ⟨⟩);apply KE (c.hok e _ M);rintro⟨D,E,n,L,B⟩_ _;apply KE (c.hok x _ hT);rintro⟨F,ts,m,p,o⟩_ _;exact Zoz c.ok.frames c.stack rfl n rfl L y m p o λh' T j=>Tw l (DJ c (by rw[M];trivial) n (Array.getElem?_eq_some_iff.mp L).1 B j) (c.hok.fresh j.new) (VY<|XG (Xk n) j.new) r
end
end L2
namespace L2
section
variable {f:Addr}{e:Expr}{R:Addr->Qj->Hp->Prop}
def O9(c:Uw X.K Xa4 C f)(i:X.calm=true)(M:PE X e te)(K:∀Y O H s a g,Qt X Y O H s->H a=some (.ext<|phX C a g)->R a g H->X.xe (.ref a) s):PS X (.Raise (some e) none pos) (sXR C te R):=by
 refine λY s O H H1 I h=>Xa (wpAny_standAt<|TN (C:=C) (I.ok.hd i)<|Xa<|Q9 (M Y s O H _ I h) ?_);rintro u b ⟨v,D,n,r,a,g,rfl,y,q⟩;refine Xa<|wpAny_standAt<|Xl ?_;obtain rfl:=r;apply KE (n.hok a _ y);rintro⟨t,A,m⟩_ _;apply ae (c.cls _ n.kIn);rintro S0 bm nm B N W T1 sn j ab col dd k0 k1 k2 k3 k5⟨Z,T,P,_⟩
 exact#[a,t,g,A,bm,nm,B,N,W,T1,sn,j,ab,col,dd,k0,k1,k2,k3,k5,_,rfl,T.hasType Z.hasBase,P,m,K _ _ _ _ _ _ n y q]
end
end L2
namespace L2
inductive Lefts(C e:Addr)(dct:Qj):Hp->Hp->Prop
 |nil {H}:Lefts C e dct H H
 |step {H J T}:Lefts C e dct H J->J T=none->T≠e->Lefts C e dct H (left C e dct T J)
def Lefts.head(hT:H T=none)(he:T≠e)(h:Lefts C e dct (left C e dct T H) J):Lefts C e dct H J:=by
 induction h with
 |nil=>exact .step .nil hT he
 |step _ a b c=>exact .step c a b
noncomputable abbrev W1(X:Cx)(e:Addr)(pn:Qc):Cx:={ X with pn:=pn,A:=X.A.mark (some<|.ref e),calm:=false,xe:=λ_ _=>False }
section
variable {O:St}{H:Hp}{H1:Ends}
def Qt.toPn(I:Qt X Y O H s):Qt { X with pn:=X.pn++Y } [] O H s:=
 #[#[I.ok.mod,I.ok.kind,I.ok.glob,I.ok.blt,I.ok.above,I.ok.inj,I.ok.has,I.ok.cab,I.ok.hd,I.ok.frames,I.ok.stk,I.ok.exf,I.ok.bs,I.ok.bsz,I.ok.noex,I.ok.exfs,I.ok.funs,I.ok.frf],I.os,I.bare,I.base,I.loc,I.cell,I.free,I.freeC,λp c=>I.pin p<|by simpa using c,I.hok,I.len]
def Qt.ofPn(I:Qt { X with pn:=X.pn++Y } pins' O H s):Qt X Y O H s:=
 #[#[I.ok.mod,I.ok.kind,I.ok.glob,I.ok.blt,I.ok.above,I.ok.inj,I.ok.has,I.ok.cab,I.ok.hd,I.ok.frames,I.ok.stk,I.ok.exf,I.ok.bs,I.ok.bsz,I.ok.noex,I.ok.exfs,I.ok.funs,I.ok.frf],I.os,I.bare,I.base,I.loc,I.cell,I.free,I.freeC,λp c=>I.pin p<|GT _ c,I.hok,I.len]
def Qt.toHandler(I:Qt { X with pn:=pn } Y O H s):Qt (W1 X e pn) Y O H s:=
 #[#[I.ok.mod,I.ok.kind,I.ok.glob,I.ok.blt,I.ok.above,I.ok.inj,I.ok.has,I.ok.cab,(λz=>by cases z),I.ok.frames,I.ok.stk,I.ok.exf,I.ok.bs,I.ok.bsz,I.ok.noex,I.ok.exfs,I.ok.funs,I.ok.frf],I.os,I.bare,I.base,I.loc,I.cell,I.free,I.freeC,I.pin,I.hok,I.len]
def Qt.ofHandler(c:X.Ok)(I:Qt (W1 X e pn) Y O H s):Qt { X with pn:=pn } Y O H s:=
 #[#[I.ok.mod,I.ok.kind,I.ok.glob,I.ok.blt,I.ok.above,I.ok.inj,I.ok.has,I.ok.cab,c.hd,c.frames,I.ok.stk,I.ok.exf,I.ok.bs,I.ok.bsz,I.ok.noex,I.ok.exfs,I.ok.funs,I.ok.frf],I.os,I.bare,I.base,I.loc,I.cell,I.free,I.freeC,I.pin,I.hok,I.len]
def SP.ofPn{f:Flow}(h:SP { X with pn:=X.pn++Y,xe:=dx } pins' H1 f s'):SP X Y H1 f s':=by
 have o:∀{c J},Qt { X with pn:=X.pn++Y,xe:=dx } pins' c J s'->Qt X Y c J s':=λI=>Qt.ofPn (I.unwish)
 cases f with
 |next=>obtain⟨c,J,I,q⟩:=h;exact#[c,J,o I,q]
 |brk=>obtain⟨c,J,I,q⟩:=h;exact#[c,J,o I,q]
 |cont=>obtain⟨c,J,I,q⟩:=h;exact#[c,J,o I,q]
 |ret u=>obtain⟨v,c,J,I,r,q⟩:=h;exact#[v,c,J,o I,r,q]
end
def CO(he:phF C e dct T s.heap)(hT:phT T s.heap)
(h:∀h',(∀b o,s.heap.get? b=some o->h'.get? b=some o)->Q () { s with heap:=h' }):wpAny M A (setFlight (.ref e) none) Q dx s:=by
 refine aF he λW P U L _=>aF hT λn ts g j K=>?_;have f:=(Array.getElem?_eq_some_iff.mp K).1;have m:Obj.mapFields (·.setIfInBounds 3 Value.none) n=n:=by
  obtain⟨c,d,X,P⟩:=n;subst j;have:ts.setIfInBounds 3 Value.none=ts:=by
   apply Array.ext_getElem?;intro i;rw[Array.getElem?_setIfInBounds];by_cases B:3=i
   .subst B;rw[Xh rfl,Xh f,K]
   .rw[Xe B]
  unfold Obj.mapFields;simp[this]
 refine wpAny_setFlight_none U rfl L g j f (h _ λb o y=>?_)
 by_cases q:b=T
 .subst q;rw[g]at y;cases y;rw[X9 _ g<|Obj.isFreed_of_fields<|Obj.data_mapFields j _,m]
 .rw[XV _ _<|Ne.symm q];exact y
def Uy(c:Ends->TS):TS:=λH1 O H=>c H1 H1 O H
end L2
namespace L2
open PySem PySem.Spec PyProof.Rows PySem.W
abbrev MD:Qe:=[.type "ValueError",.type "Exception",.type "BaseException",.type "object"]
def ZnU{K:Frag}{n:Str}{v:Value}(X:K.In h)(G:h.Ns N mg)(e:nsIn K N n=some (some v)):mg n=some v:=by
 apply aA G;rintro o es A f i⟨_,g⟩;unfold nsIn at e;split at e
 .rename_i c d j s m q;have:=X _ _ q;rw[f]at this;cases this;cases i;split at e
  .rename_i y;cases e;rw[<- g];unfold nsFind findBy;simp_all
  .lia
 .cases e
noncomputable def Dk(K:Frag)(C f:Addr):Bool:=match K.lookup C with
 |some #[.type "type",_,.cls cd,c]=>(match cd.mro,c.toList with
   |.ref g::bm,[_,_,_,_,some<|.builtin n,_]=>g==C&&n == "ValueError.__new__" && !cd.hasDel&&tailIn K MD bm&&nsOkIn K cd.ns&&nsIn K cd.ns "__init__" == some (some<|.ref f)
   |_,_=>false)
 |_=>false
theorem Ty{K:Frag}{f:Addr}(q:Dk K C f=true)(A:K.lookup f=some fo)(P:fo.cls=.type "function")
(ga:specialIn K (.ref Xa4) "__getattribute__"=some (some<|.builtin "type.__getattribute__"))(rd:readsIn K Xa4 (.type "type")=true)(ini:findCls K (.ref Xa4) (.type "type") "__init__"=some (.val<|.builtin "ValueError.__init__")):Uw K Xa4 C f where
 ga:=ga
 rd:=rd
 ini:=ini
 cls:=λh X=>by
  unfold Dk at q;split at q
  .rename_i dd cd j M;split at q
   .rename_i Y bm k0 k1 k2 k3 n k5 m W;simp only[W4,beq_iff_eq,Bool.not_eq_true']at q;obtain⟨⟨⟨⟨⟨rfl,rfl⟩,c⟩,B⟩,hok⟩,g⟩:=q;obtain⟨nm,bs,y,ns,s,hd,sn,sub,ab,col,U⟩:=cd;dsimp only at m c hok g;subst m c;have i:j=(List.toArray [k0,k1,k2,k3,some<|.builtin "ValueError.__new__",k5]):=by
     obtain⟨l⟩:=j;simp_all
    subst i;have G:h.Ns ns _:=.of_isNs (isNs_of_in X hok);exact#[MD,bm,nm,s,ns,bs,hd,sn,sub,ab,col,dd,k0,k1,k2,k3,k5,PySem.F.excBase_ValueError,tail_of_in X B,X _ _ M,_,fo,G,ZnU X G g,X _ _ A,P]
   .cases q
  .cases q
end L2
namespace L2
def Wl(P:Program)(w:World)(K:W.Frag)(mg:Str->Qf)(base:Heap)(x:Str)(ps:Qh)(k:Nat)(sp:Sp):Prop:=
 ∃f fd,mg x=some (.ref f)/\W.keepIn K (.ref f)=true/\ZY K fd ps []/\FnOk P w K mg base (CX1 P w) k f fd ps sp
section
variable {w:World}{base:Heap}
def B1(P:Program)(w:World)(K:W.Frag)(mg:Str->Qf)(base:Heap)(N:Qh)(q:Str)(st:Stmt)(k:Nat)(f:Addr)(H:Hp)(g:XK)(G:TS->Prop):Prop := ∀(c:Value) (A:Around) (outer:List Env) (s:Shared),Room k (A.deeper<|envOfC q (QD st) s.heap.objs.size f c)->∃t,PSs (cx1 P w K mg base N q (QD st) f c A outer s H g) (VU st) t/\G t
def Fun.okX{x:Str}{st:Stmt}{f:Addr}{N:Qh}{k:Nat}(F:Fun K x qual st f fd)(S:Qo N ps (QD st))(g:∀vs H Q c,sp vs H Q c->vs.length=ps.length)
(m:∀vs H Q c,sp vs H Q c->B1 P w K mg base N qual st k f H c (Rn N vs H Q)):FnOk P w K mg base (CX1 P w) (k+1) f fd ps sp:=by
 apply aU F.ex;rintro U M kV B C X j W n rfl q i;exact Pr q i S g λA outer s H vs Q c y h=>m vs H Q c h j A outer s y
end
def G9{x:Str}{p:Pos}{e:Expr}{t:TA}{k:Nat}{g:XK}(C:Wl X.prog X.w X.K X.mg X.base x ps j sp)(i:Room k X.A)(h:Yh (CX1 X.prog X.w) X g)(y:PA X (e::es) t)(q:j<=k:=by walk_at"j")(hg:Gl X x:=by rfl)
(c:(x==("__debug__" : Str))=false:=by decide +kernel)
(he:zs X e es:=by rfl)(hpl:zb X pos es:=by rfl):PE X (.Call (.Name x p) (e::es) [] pos) (ZO sp [] g t):=by
 exact aB C λf fd m n s F=>Lb F (i.mono q) hg m n s .nil h y c he hpl
def BH(K:W.Frag)(C:Addr)(f:Str):Sp:=λc H Q _=>∃(e p:Addr) (xs:List V),c=[.ref e,.ref p]/\H e=some (.ext<|phX C e none)/\SqL K H p xs/\
 ∀q E,H q=none->H E=none->E≠q->E≠e->q≠e->Q .non (upd (upd (upd H q<|.lst xs) e<|.ext<|phX C e<|some E) E<|.xd [(f,.ref q)])
def Zs4(h:BH K C f vs H Q dx):
 V6 (V2<|tXI C 0) (sXF C (Q8 0) (tCB (Dr K)<|Q4 (Q8 1) QL) f) { nx:=λ_ J=>Q .non J,rt:=Q } (vs.map some++List.replicate n none) H:=by
 apply aA h;rintro e p xs rfl m⟨A,y⟩;refine#[e,none,rfl,m,#[.ref p,rfl,#[p,xs,rfl,.inl A,λq g=>?_]]];have i:q≠e:=λz=>by subst z;rw[m]at g;cases g
 refine#[.ref e,rfl,e,rfl,by rw[Qv<|Ne.symm i];exact m,λE c s=>?_];have j:E≠q:=λz=>by subst z;rw[QI]at c;cases c
 exact y q E g (by rwa[Qv j]at c) j s i
end L2
namespace L2
structure FldL(f:Str)(e:Addr)(F H U:Hp)(ds:Qd)(E q:Addr)(xs:List V):Prop where
 hd:H E=some (.xd [(f,.ref q)])
 hq:H q=some (.lst xs)
 fq:F q=none
 rp:Qx F xs ds
 nd:E≠e
 nq:q≠e
 dq:E≠q
 fe:F e=none
 fd:F E=none
 q0:U q=none
 d0:U E=none
def Fld(f:Str)(e:Addr)(F H U:Hp)(c:Qj)(ds:Qd):Prop := ∃E q xs,c=some E/\FldL f e F H U ds E q xs
def Fld.back(h:Fld f e F H D dct ds)(s:Q6 U D):Fld f e F H U dct ds:=by
 exact L1 h λE q xs a b=>#[E,q,xs,a,b.hd,b.hq,b.fq,b.rp,b.nd,b.nq,b.dq,b.fe,b.fd,s.free b.q0,s.free b.d0]
def ZI(K:W.Frag)(C:Addr){δ:Type}(FL:Addr->Hp->Hp->Hp->Qj->δ->Prop)(R:List OT->(OT->Prop)->Prop)(m:List OT->(δ->Prop)->Prop):Sp:=λi H Q j=>∃F ts,KTs K F/\Q6 F H/\Args K F i ts/\∃RR,j=XE C RR/\ZQ C RR/\
 ((∃h,R ts h/\∀g J v p r,h r->Q3 F H g J->(∀a∈p,H a=none)->Zx K g J v r p->Q v J)\/(∃c,m ts c/\∀g J e f d,c d->Q3 F H g J->H e=none->FL e g J H f d->RR e f J))
abbrev spX(K:W.Frag)(C:Addr)(f:Str)(R:List OT->(OT->Prop)->Prop)(Rx:List OT->(Qd->Prop)->Prop):Sp:=ZI K C (Fld f) R Rx
def EvZ(K:W.Frag)(F0 U:Hp)(t:TS)(Z:ZbI):Prop := ∀(F:Hp) (O:St) (H:Hp) (c:Ends),Q3 F0 U F H->QF K U F Z O H->t c O H
section
variable {w:World}{base:Heap}
def ZR(P:Program)(w:World)(K:W.Frag)(mg:Str->Qf)(base:Heap)(N:Qh)(q:Str)(st:Stmt)(k:Nat)(C:Addr)(R:List OT->(OT->Prop)->Prop)(f:Addr):Prop := ∀H RR ts c,ZQ C RR->R ts c->B1 P w K mg base N q st k f H (XE C RR) λt=>QJ K t (ini N ts) { nx:=λ_=>c<|.fz .none,rt:=c }
def ZX{δ:Type}(P:Program)(w:World)(K:W.Frag)(mg:Str->Qf)(base:Heap)(N:Qh)(q:Str)(st:Stmt)(k:Nat)(C:Addr)(FL:Addr->Hp->Hp->Hp->Qj->δ->Prop)(i:List OT->(δ->Prop)->Prop)(f:Addr):Prop := ∀F H RR ts c,ZQ C RR->(∀h J e g d,c d->Q3 F H h J->H e=none->FL e h J H g d->RR e g J)->i ts c->B1 P w K mg base N q st k f H (XE C RR) λt=>EvZ K F H t (ini N ts)
def Fun.evZ{x qual:Str}{f:Addr}{fd:FuncData}{st:Stmt}{N ps:Qh}{k:Nat}{C:Addr}{δ:Type}{FL:Addr->Hp->Hp->Hp->Qj->δ->Prop}{R:List OT->(OT->Prop)->Prop}{W:List OT->(δ->Prop)->Prop}(F:Fun K x qual st f fd)(S:Qo N ps (QD st))(M:∀ts Φ,R ts Φ->ts.length=ps.length)(g:∀ts Φ,W ts Φ->ts.length=ps.length)(h:ZR P w K mg base N qual st k C R f)(i:ZX P w K mg base N qual st k C FL W f):FnOk P w K mg base (CX1 P w) (k+1) f fd ps (ZI K C FL R W):=by
 refine F.okX S (λd H Q E ⟨F,ts,_,_,j,RR,_,_,q⟩=>?_) λd H Q E ⟨F,ts,Y,n,j,RR,D,st,q⟩ m A outer s Z=>?_
 .rcases q with ⟨r,c,_⟩|⟨r,c,_⟩
  .exact j.length.trans (M ts r c)
  .exact j.length.trans (g ts r c)
 .subst D;rcases q with ⟨Φ,c,q⟩|⟨y,c,q⟩
  .refine At (h H RR ts Φ st c m A outer s Z) λt L U=>#[t,L,U F H F _ H _ (Q3.refl n) (Md Y n j) #[λX a J b B _ e=>?_,λX J v l p B u o e=>?_,λ_ _ _ _ _ _ z=>False.elim z,λ_ _ _ _ _ _ z=>False.elim z]]
   .exact q X J _ [] _ e B (by rintro _ ⟨⟩) #[rfl,.non]
   .exact q X J v p l e B u o
  .exact At (i F H RR ts y st q c m A outer s Z) λt L U=>#[t,L,U F _ H _ (Q3.refl n)<|Md Y n j]
def Df.evZ{x:Str}{st:Stmt}{N ps:Qh}{k:Nat}{C:Addr}{δ:Type}{FL:Addr->Hp->Hp->Hp->Qj->δ->Prop}{R:List OT->(OT->Prop)->Prop}{m:List OT->(δ->Prop)->Prop}(H1:Df K mg x st ps)(S:Qo N ps (QD st))(g:∀f,ZR P w K mg base N x st k C R f)(i:∀f,ZX P w K mg base N x st k C FL m f)(j:∀ts Φ,R ts Φ->ts.length=ps.length:=by intro _ _ h;cases h<;>rfl)(c:∀ts Φ,m ts Φ->ts.length=ps.length:=by intro _ _ h;cases h<;>rfl):Wl P w K mg base x ps (k+1) (ZI K C FL R m):=H1.go λf _ F=>F.evZ S j c (g f) (i f)
end
end L2
namespace L2
section
variable {dx:XK}
def Zsp{Φx:Qd->Prop}(h:Qr K ta Z (.list ds))(N:Φx ds)(L:∀r J e B d,Φx d->Q3 F0 U r J->U e=none->Fld f e r J U B d->RR e B J):EvZ K F0 U (sXR C (M7 C (BH K C f) dx<|Q4 ta QL) RR) Z:=by
 refine λF O H H1 x S=>h U F O H _ S λR D v P t=>#[by simp,λe M=>?_]
 cases t with
 |@lst a xs _ w u=>
 have k:=P.fh a _ w;have Y:a≠e:=λz=>by subst z;rw[M]at k;cases k
 refine#[e,a,xs,rfl,QI,SqL.of<|by rw[Qv Y];exact k,λq E s A y j g=>#[rfl,e,some E,rfl,?_,?_]]
 .rw[Qv<|Ne.symm j,QI]
 .have i:=by rw[Qv g]at s;exact s
  have m:=by rw[Qv j]at A;exact A
  have l:Q6 D (upd (upd (upd (upd D e<|.ext<|phX C e none) q<|.lst xs) e<|.ext<|phX C e<|some E) E<|.xd [(f,.ref q)]):=λb o c=>by
   have p:b≠e:=λz=>by subst z;rw[M]at c;cases c
   have I:b≠q:=λz=>by subst z;rw[i]at c;cases c
   have G:b≠E:=λz=>by subst z;rw[m]at c;cases c
   rw[Qv G,Qv p,Qv I,Qv p];exact c
  have n:=x.trans P;have W:upd (upd (upd (upd D e<|.ext<|phX C e none) q<|.lst xs) e<|.ext<|phX C e<|some E) E (.xd [(f,.ref q)]) q=some (.lst xs):=by
   rw[Qv<|Ne.symm y,Qv g,QI]
  exact L R _ e _ ds N (n.trans #[l,Q6.refl _,n.fh.trans l,λb c=>.inl c]) (n.hh.free M) #[E,q,xs,rfl,QI,W,P.fh.free i,u,j,g,y,n.fh.free M,n.fh.free m,n.hh.free i,n.hh.free m]
def Ey(M:ZbI->Prop)(L:QJ K t Z { nx:=M,rt:=λ_=>False })(h:∀c,M c->EvZ K F0 U u c):EvZ K F0 U (V6 t u) Z:=λF O H dx x S=>
 L F0 U F O H _ x S #[λj f J c g i e=>h c e j f J dx g i,λ_ _ _ _ _ _ _ _ z=>z.elim,λ_ _ _ _ _ _ z=>False.elim z,λ_ _ _ _ _ _ z=>False.elim z]
def Pu(i:Nat)(e:Z[i]?=some (some<|.ol ds))(h:EvZ K F0 U t (Z.set i<|zf<|.list ds)):EvZ K F0 U t Z:=λF O H dx x S=>by
 exact aP (S.freeze e) λa xs g f c _ _ j=>h _ O H dx (x.freeze g f c) j
def Ju(L:QJ K t Z { nx:=λc=>c=ρ1,rt:=λ_=>False })(h:EvZ K F0 U u ρ1):EvZ K F0 U (V6 t u) Z:=λF O H dx x S=>
 L F0 U F O H _ x S #[λj f J c g i e=>by subst e;exact h j f J dx g i,λ_ _ _ _ _ _ _ _ z=>z.elim,λ_ _ _ _ _ _ z=>False.elim z,λ_ _ _ _ _ _ z=>False.elim z]
def JS(h:EvZ K F0 U t Z):EvZ K F0 U (V6 t u) Z:=λF O H dx x S=>h F O H _ x S
def U4{b:Bool}(h:QM K tA Z b)(L:b=true->EvZ K F0 U t Z)(g:b=false->EvZ K F0 U u Z):EvZ K F0 U (Jj tA t u) Z:=λF O H dx x S=>
 h U F O H _ S λf J c=>by
  cases b with
  |true=>rw[Xh rfl];exact L rfl f O J dx (x.trans c) (S.ext c)
  |false=>rw[Xe<|by decide];exact g rfl f O J dx (x.trans c) (S.ext c)
def OO(A:Zm K t Z ts)(y:Rx ts Φx)(st:ZQ C RR)(m:∀h J e c d,Φx d->Q3 F0 U h J->U e=none->Fld f e h J U c d->RR e c J)(x:Q3 F0 U F H)(S:QF K H9 F Z O H):
 ZO (spX K C f R Rx) [] (XE C RR) t O H Q:=A H9 F O H _ S λB D M g j=>
 #[B,ts,(S.ext g).kt,g.fh,by rw[Xr];exact j,RR,rfl,st,.inr #[Φx,y,λh J e c d s i q n=>m h J e c d s ((x.trans g).trans i) ((x.trans g).hh.free q)<|n.back (x.trans g).hh]]
def IA(j:Zm K t Z ts)(i:Rx ts Φx)(st:ZQ C RR)(h:∀g J e c d,Φx d->Q3 F0 U g J->U e=none->Fld f e g J U c d->RR e c J):
 EvZ K F0 U (V2<|ZO (spX K C f R Rx) [] (XE C RR) t) Z:=λF O H dx x S=>OO j i st h x S
def ZtM(y:Zm K t Z ts)(s:R ts Φ)(st:ZQ C RR):Zt K (ZO (spX K C f R Rx) [] (XE C RR) t) Z Φ:=λU F O H Q S q=>
 y U F O H _ S λM D P c h=>
  #[M,ts,(S.ext c).kt,c.fh,by rw[Xr];exact h,RR,rfl,st,.inl #[Φ,s,λB A v p r j g m i=>q B A v p r j (c.trans g) (λa n=>c.hh.free<|m a n) i]]
def GC(h:Zt K t Z Φ)(hn:H1.nx Z):QJ K (V2 t) Z H1:=λF0 U F O H dx x S c=>
 h U F O H _ S λg J v p r _ f _ _=>c.nx g O J Z (x.trans f) (S.ext f) hn
end
end L2
namespace L2
section
variable {tb:Ends->TS}
def Mi(h:Lefts C e dct H J)(s:Q6 G H)(he:G e=none):Q6 G J:=by
 induction h with
 |nil=>exact s
 |@step D T L hT m j=>
  intro b o f;have i:b≠e:=λz=>by subst z;rw[he]at f;cases f
  have c:=j b o f;have g:b≠T:=λz=>by subst z;rw[hT]at c;cases c
  unfold left;rw[Qv g,Qv i];exact c
def Lo(h:∀f,QJ K (tb f) Z H1):QJ K (Uy tb) Z H1:=λF0 U F O H f x S c=>h f F0 U F O H f x S c
end
end L2
namespace L2
structure XC(K:W.Frag)(mg:Str->Qf)(x:Str)(Xa4 C f:Addr):Prop where
 cl:Uw K Xa4 C f
 kp:W.keepIn K (.ref C)=true
 m:mg x=some (.ref C)
def Bm(P:Program)(w:World)(K:W.Frag)(mg:Str->Qf)(base:Heap)(f:Addr)(ps:Qh)(k:Nat)(sp:Sp):Prop := ∃fd,ZY K fd ps []/\FnOk P w K mg base CX0 k f fd ps sp
section
variable {w:World}{base:Heap}{N:Qh}{f:Addr}
def DO{x:Str}{p:Pos}{e:Expr}{t:TA}{k:Nat}(c:XC K mg x Xa4 C f)(B:Bm P w K mg base f ps j sp)(g:ZQ C RR)(i:Room k (cx1 P w K mg base N qual scope f0 cd A outer s0 U<|XE C RR).A)
(q:PA (cx1 P w K mg base N qual scope f0 cd A outer s0 U<|XE C RR) (e::es) t)(m:j+1<=k:=by walk_at"j")(hg:Gl (cx1 P w K mg base N qual scope f0 cd A outer s0 U<|XE C RR) x:=by rfl)
(h:(x==("__debug__" : Str))=false:=by decide)(he:starEach (e::es) (cx1 P w K mg base N qual scope f0 cd A outer s0 U<|XE C RR).env=(false,eval e (cx1 P w K mg base N qual scope f0 cd A outer s0 U<|XE C RR).env)::starEach es (cx1 P w K mg base N qual scope f0 cd A outer s0 U<|XE C RR).env:=by rfl)
(hpl:(backTo pos<|starEach es (cx1 P w K mg base N qual scope f0 cd A outer s0 U<|XE C RR).env).any (·.1)=false:=by rfl):
 PS (cx1 P w K mg base N qual scope f0 cd A outer s0 U<|XE C RR) (.Raise (some<|.Call (.Name x p) (e::es) [] pos) none pos') (sXR C (M7 C sp E0 t) RR):=by
 exact At B λfd n F=>O9 c.cl rfl (Zsn c.cl c.kp F (i.mono m) hg c.m n Jq q h he hpl) (λY O H s a y I he r=>Fc g I he r)
end
end L2
namespace L2
def Dh(H1:Ends)(j:Nat):Ends:={ nx:=λO H=>H1.nx (O.set j none) H,rt:=λ_ _=>False }
def XWg(X:Cx)(f:XK)(pn:Qc)(v:Value)(s:Shared):Prop := ∃(O:St) (H:Hp) (c:Qj),Qt { X with pn:=pn } [] O H s/\f v c H
noncomputable abbrev Kx(X:Cx)(dx:XK)(pn:Qc):Cx:={ X with pn:=pn,xe:=XWg X dx pn }
section
variable {O:St}{H:Hp}
def FX : Yh (CX1 X.prog X.w) (Kx X dx pn) dx:=by
 intro Y O H s v m I h;apply aW h;intro i J q c j f A;obtain⟨C,g,d,t,n⟩:=m;obtain rfl:=q;exact#[O,J,i,((I.call (d':=d) (t':=t) j f c (by rintro b ⟨⟩)).unwish).pins_of (λp y=>by cases y),A]
def Zrh(I:Qt X Y O H s)(U:X.N.Nodup)(P:X.N[i]?=some x)(K:X.env.scope.names.lookup x=some .local)
(h:∀g,Qt X Y (O.set i none) H g->Q () g):wpAny M A (do bindName X.env x .none;unbindBehindTheSuite X.env x pos) Q dx s:=by
 refine At (id I.loc) λm B C=>wpAny_nameGoes_keeps K B (by rw[I.ok.kind];rfl) λh' v f j=>h _ (I.poke U P j I.ok.above I.free (.inl rfl) f C (by rintro _ ⟨⟩) λy u n q=>q.imp ?_<|by rintro⟨k,c,e,z⟩;exact#[k,c,e,z.sameBut j<|I.cne y c e]);rintro⟨k,e⟩;exact#[k,by simp[n,e]]
end
end L2
namespace L2
def QF.setN(u:Option V)(s:QF K U F Z O H):QF K U F (Z.set r none) (O.set r u) H:=by
 obtain⟨c,L,i,m,h,g,f⟩:=s;refine#[c,L,by simp[i],m,λj t e=>?_,g,f]
 by_cases z:r=j
 .subst z
  by_cases l:r<Z.length
  .simp_all
  .simp_all
 .rw[XX z]at e ⊢;exact h j t e
end L2
namespace L2
section
open PySem.W
variable {w:World}{dx:Qb}{K:Frag}{x:Addr}{ox:Obj}{od:Option Obj}{name:Str}{tk:Tok}{fill expr:Bool}
structure UV(K:Frag)(C:Addr):Prop where
 ga:findIn K (.ref C) "__getattribute__"=some (some<|.builtin "BaseException.__getattribute__")
 gt:findIn K (.ref C) "__getattr__"=some none
 mb:mroIn K C (.type "BaseException")=some true
def FJ  (c:UV K C)(X:K.In s.heap)(I:InstAt s.heap x ox C od)(i:Q () s):wpAny M A (checkBuiltinCall "BaseException.__getattribute__" #[[.ref x,nameV],[]]) Q dx s:=by
 have j:builtinKind "BaseException.__getattribute__"=some .slot:=by decide +kernel
 have f:splitId "BaseException.__getattribute__"=some ("BaseException","__getattribute__"):=by decide +kernel
 have g:=looks_mroIn (M:=M) X c.mb;refine Xa (((I.type (M:=M)).andThen g).at ?_)
 repeat (any_goals (first|assumption|wp_step))
def LM(c:UV K C)(X:K.In s.heap)(I:InstAt s.heap x ox C od)
(h:codeAny (model prog w) A (.call (.builtin "BaseException.__getattribute__") #[[.ref x,.str name tk],[]]) (λr j=>∃v,r=.ok (.ret v)/\wpAny (model prog w) A (handedOut v) Q dx j) s):
 wpAny (model prog w) A (getAttrBy (.ref x) (.str name tk) fill expr) Q dx s:=by
 have g:(expr&&onTheHeap (Value.builtin "BaseException.__getattribute__"))=false:=by cases expr<;>rfl
 have f:(Value.builtin "BaseException.__getattribute__" == Value.builtin "object.__getattribute__")=false:=by decide +kernel
 have m:(onTheHeap (Value.ref C)&&Value.builtin "BaseException.__getattribute__" == Value.builtin "object.__getattribute__")=false:=by rw[f];rfl
 refine wpAny_holding (Xa<|(I.type (M:=model prog w)).at<|Xa<|(looks_findIn (M:=model prog w) X c.ga).at (Xa ((looks_findIn (M:=model prog w) X c.gt).at (Xa (wpAny_attempt<|wpAny_holding ?_)))));unfold callGetattribute;rw[g];unfold boundAndCalled;rw[F.excAttr_ValueError.ga.bind (.ref x)];refine wpAny_call (codeAny_mono h λr j i=>?_);apply At i;rintro v rfl i;exact i
def Zrp{v:Value}(c:UV K C)(X:K.In s.heap)(I:InstAt s.heap x ox C od)(g:findObj K C od name=some (.value v))(f:handedIn v=true)(h:Q v { s with toks:=s.toks+1 }):wpAny (model prog w) A (getAttr (.ref x) name expr) Q dx s:=by
 refine Xa (wpAny_mkText<|LM c X I<|codeAny_call_builtin F.excAttr_ValueError.ga.plain F.entry_bexc_ga<|FJ c X I (Xa (Xl<|Xa<|Xl<|Xa<|(I.type (M:=model prog w)).at<|Xa<|(looks_find (M:=model prog w) X I g).at (Xl #[v,rfl,?_]))));rw[handedOut_of f];exact Xl h
def Zpn(c:UV K C)(T1:hasDictIn K C=true)(q:findIn K (.ref C) "__class__"=some (some<|.builtin "object.__class__"))
(hn:specialIn K (.builtin "object.__class__") "__get__"=some (some<|.builtin "getset_descriptor.__get__"))(f:takesIn K (.builtin "object.__class__")=some true)(g:mroIn K C (.type "object")=some true)
(X:K.In s.heap)(I:InstAt s.heap x ox C od)(h:Q (some<|.ref C) { s with toks:=s.toks+1 }):wpAny (model prog w) A (getAttr? (.ref x) "__class__") Q dx s:=by
 have i:findObj K C od "__class__"=some (.bind (.builtin "getset_descriptor.__get__")<|.builtin "object.__class__"):=by
  apply At (any_some T1);intro cd n _;unfold findObj;simp_all
 exact Xa (wpAny_mkText<|Xa<|wpAny_attempt<|LM c X I<|codeAny_call_builtin F.excAttr_ValueError.ga.plain F.entry_bexc_ga<|FJ c X I (Xa (Xl<|Xa<|Xl<|Xa<|(I.type (M:=model prog w)).at<|Xa<|(looks_find (M:=model prog w) X I i).at (Xa (wpAny_holding<|wpAny_call<|class_get X I g (Xl #[_,rfl,Xl<|Xl h]))))))
theorem LL(c:UV K C)(T1:hasDictIn K C=true)(B:findIn K (.ref C) "__class__"=some (some<|.builtin "object.__class__"))
(hn:specialIn K (.builtin "object.__class__") "__get__"=some (some<|.builtin "getset_descriptor.__get__"))(j:takesIn K (.builtin "object.__class__")=some true)(A:mroIn K C (.type "object")=some true):
 KitX K (.ref x) (.ref C) (λh=>InstAt h x ox C od) where
 ty:=λ_ _ _ I=>I.type
 it:=λ_ _ X _=>by
  apply At (any_some T1);intro s f _;unfold clsIn at f;split at f
  .rename_i P M w g m;intro a Z E' Y k q;exact Xa (wpAny_loadPart (k _ _<|X _ _ m)<|Xl q)
  .cases f
 ne:=λh U dd y n W X i=>by
  refine At (any_some T1) λs f _=>Bool.eq_false_iff.mpr λq=>?_;have e:=Value.ref.inj (beq_iff_eq.mp q);subst e;unfold clsIn at f;split at f
  .rename_i P M w g m;have z:=(X _ _ m).symm.trans i;cases z
  .cases f
 ca:=λX I k=>Zpn c T1 B hn j A X I k
end
def tXG(C:Addr)(ta:TE)(f:Str):TE:=λO H Q=>ta O H λx D=>∃e E T v,x=.ref e/\D e=some (.ext<|phF C e (some E) T)/\D E=some (.xd [(f,v)])/\Q v D
structure Ao(K:W.Frag)(C:Addr):Prop where
 ga:UV K C
 hd:W.hasDictIn K C=true
section
variable {e:Expr}
def Tl{H:Hp}{O:St}(I:Qt X Y O H s){a E T:Addr}{g:List (Str×V)}(L:H a=some (.ext<|phF C a (some E) T))(q:H E=some (.xd g)):
 ∃(e:Str->Qf) (h od:Obj),W.InstAt s.heap a h C (some od)/\(∀c,W.lookIn c od=some (e c))/\∀f,Vn (g.lookup f) (e f):=by
 apply KE (I.hok a _ L);rintro⟨y,A,i,_⟩_ _;exact At ((I.hok E _ q)) λe n r=>At (FA n) λod j m=>#[e,_,od,#[i,rfl,rfl,j],m,r]
def Ih(c:Ao X.K C)(n:Vp X.K C f)(he:PE X e ta)(A:attributeBase e f X.env (eval e X.env)=eval e X.env:=by rfl):PE X (.Attribute e f pos) (tXG C ta f):=by
 refine λY s O H Q I h=>LE A (Q9 (he Y s O H _ I h) ?_);rintro u U ⟨x,D,g,j,a,E,T,v,rfl,M,K,q⟩;obtain rfl:=j;exact aA (Tl g M K) λd Z b P y r=>At (Vn.some_of (by have:=r f;simpa [List.lookup] using this)) λu m i=>Zrp c.ga g.kIn P (W.findObj_own c.hd n rfl (by rw[y,m])) (Ck i) #[v,D,g.tok _,i,q]
noncomputable def M8:V->Qf
 |.ref a=>some (.ref a)
 |.ty t=>some (.type t)
 |_=>none
structure Hj(K:W.Frag)(C:Addr):Prop where
 ga:UV K C
 hd:W.hasDictIn K C=true
 fc:W.findIn K (.ref C) "__class__"=some (some<|.builtin "object.__class__")
 sp:W.specialIn K (.builtin "object.__class__") "__get__"=some (some<|.builtin "getset_descriptor.__get__")
 tk:W.takesIn K (.builtin "object.__class__")=some true
 mo:W.mroIn K C (.type "object")=some true
def W7(K:W.Frag)(C:Addr):List V->Hp->VK->Prop:=λxs H Q=>∃x c f b,xs=[x,c]/\M8 c=some f/\
 ((∃e E T g,x=.ref e/\H e=some (.ext<|phF C e (some E) T)/\H E=some (.xd g)/\W.kitOne K (.ref C) f=some b)\/(∃e T,x=.ref e/\H e=some (.ext<|phF C e none T)/\W.kitOne K (.ref C) f=some b)\/(x=.non/\W.kitOne K (.type "NoneType") f=some b))/\Q (.bl b) H
def AB(c:Hj X.K C):ZF X (.builtin "isinstance") (W7 X.K C):=by
 intro Y s O H xs U Q I r h;apply aT h;rintro x K B b rfl f⟨n,q⟩;apply aF (Gw r);rintro u w rfl m i;have A:w=B:=by
  cases K<;>simp[M8]at f
  .subst f;exact i
  .subst f;exact i
 subst A;rcases n with ⟨e,E,T,k,rfl,L,y,j⟩|⟨e,T,rfl,L,j⟩|⟨rfl,j⟩
 .obtain rfl:=m;exact L1 (Tl I L y) λd a od M _=>W.kia_one (LL c.ga c.hd c.fc c.sp c.tk c.mo) I.kIn M j #[] λg=>#[.bl b,H,I.tok g,rfl,q]
 .obtain rfl:=m;apply KE (I.hok e _ L);rintro⟨P,Z,n,_⟩_ _;exact W.kia_one (LL (od:=none) c.ga c.hd c.fc c.sp c.tk c.mo) I.kIn #[n,rfl,rfl,trivial] j #[] λg=>#[.bl b,H,I.tok g,rfl,q]
 .obtain rfl:=m;exact W.kia_one W.kitx_none I.kIn trivial j #[] λg=>#[.bl b,H,I.tok g,rfl,q]
end
def Z0n(C:Addr)(f:Str)(ds:Qd)(e E q:Addr):OwnP where
 ok:=λK F H v p=>p=[e,E,q]/\(F e=none/\F E=none/\F q=none)/\(∃T,H e=some (.ext<|phF C e (some E) T))/\H E=some (.xd [(f,.ref q)])/\∃xs,H q=some (.lst xs)/\Qx F xs ds
 there:=λ{K F H v p} h a c=>by
  obtain⟨rfl,⟨A,y,n⟩,⟨T,L⟩,m,xs,j,_⟩:=h;rcases Xd.mp c with rfl|c
  .exact#[A,Z8 L]
  .rcases Xd.mp c with rfl|c
   .exact#[y,Z8 m]
   .rcases Xd.mp c with rfl|c
    .exact#[n,Z8 j]
    .cases c
 mono:=λ{K F M H J v p} s i g h=>by
  apply JH h;rintro rfl⟨A,y,n⟩⟨T,L⟩m⟨xs,j,r⟩;exact#[rfl,#[i _ Xb,i _ (Xf _ Xb),i _ (Xf _ (Xf _ Xb))],#[T,(g _ Xb).trans L],(g _ (Xf _ Xb)).trans m,xs,(g _ (Xf _ (Xf _ Xb))).trans j,r.mono s]
 uniq:=λ{K F H v p B} h h' a c=>by
  obtain⟨rfl,_⟩:=h;obtain⟨rfl,_⟩:=h';exact c
def LQ(h:Lefts C e dct H J){b:Addr}(i:b≠e)(g:H b=some o):J b=some o:=by
 induction h with
 |nil=>exact g
 |@step D T L hT j c=>
  have f:b≠T:=λz=>by subst z;rw[hT]at c;cases c
  unfold left;rw[Qv f,Qv i];exact c
end L2
namespace L2
def QS.at(r:QS xs us):∀i:Nat,(xs[i]?=none/\us[i]?=none)\/∃x u,xs[i]?=some x/\us[i]?=some u/\QO x u:=by
 induction r with
 |nil=>intro i;exact .inl #[rfl,rfl]
 |cons a b c=>
  intro i;cases i with
  |zero=>exact .inr #[_,_,rfl,rfl,a]
  |succ i=>exact c i
end L2
set_option maxHeartbeats 8000000
set_option maxHeartbeats 8000000
set_option maxHeartbeats 8000000
set_option maxHeartbeats 8000000
set_option maxHeartbeats 8000000
namespace L2
def ZpY:bootBuiltins "sorted"=some (.builtin "sorted"):=by decide +kernel
end L2
namespace L2
def WB : Yh (CX1 X.prog X.w) X (XE C λ_ _ _=>False):=λ_ _ _ _ _ _ _ h=>by
 apply aW h;rintro _ _ _ _ _ _⟨_,_,_,z⟩;exact z.elim
def WZ:ZQ C λ_ _ _=>False:=λ_ _ _ _ z=>z.elim
end L2
namespace L2
abbrev Zw:=List (Key×PyData)
def YZ(kvs:Zw)(k:Key):Option PyData:=(kvs.find? λc=>decide (c.1=k)).map (·.2)
noncomputable def Bk(kvs:Zw)(k:Key)(d:PyData):Zw:=if (kvs.any λc=>decide (c.1=k))=true then kvs.map (λc=>if c.1=k then (c.1,d) else c) else kvs++[(k,d)]
inductive PairK(F:Hp):List (Key×V)->Zw->Prop
 |nil:PairK F [] []
 |cons {k:Key}{x:V}{d:PyData}{xs:List (Key×V)}{kvs:Zw}:Rep F x d->PairK F xs kvs->PairK F ((k,x)::xs) ((k,d)::kvs)
theorem PairK.mono{F c:Hp}(s:Q6 F c):∀{xs:List (Key×V)} {kvs:Zw},PairK F xs kvs->PairK c xs kvs
 |_,_,.nil=>.nil
 |_,_,.cons r t=>.cons (r.mono s) (t.mono s)
theorem PairK.length{F:Hp}:∀{xs:List (Key×V)} {kvs:Zw},PairK F xs kvs->xs.length=kvs.length
 |_,_,.nil=>rfl
 |_,_,.cons _ t=>by simp[t.length]
theorem PairK.val{F:Hp}(k:Key):∀{xs:List (Key×V)} {kvs:Zw},PairK F xs kvs->(Z4 xs k=none/\YZ kvs k=none)\/∃x d,Z4 xs k=some x/\YZ kvs k=some d/\Rep F x d
 |_,_,.nil=>.inl #[rfl,rfl]
 |_,_,.cons (k:=k') (x:=x) (d:=d) (kvs:=kvs) r t=>by
  by_cases e:k'=k
  .exact .inr #[x,d,Wi e,by simp[YZ, e],r]
  .have q:YZ ((k',d)::kvs) k=YZ kvs k:=by simp[YZ, e]
   rw[Wg e,q];exact t.val k
theorem PairK.any{F:Hp}(k:Key):∀{xs:List (Key×V)} {kvs:Zw},PairK F xs kvs->(xs.any λc=>decide (c.1=k))=(kvs.any λc=>decide (c.1=k))
 |_,_,.nil=>rfl
 |_,_,.cons _ t=>by simp[t.any k]
theorem PairK.mapP{F:Hp}(k:Key){y:V}{d:PyData}(r:Rep F y d):∀{xs:List (Key×V)} {kvs:Zw},PairK F xs kvs->PairK F (xs.map λc=>if c.1=k then (c.1,y) else c) (kvs.map λc=>if c.1=k then (c.1,d) else c)
 |_,_,.nil=>.nil
 |_,_,.cons (k:=k') f t=>by
  rw[Xw,Xw];by_cases e:k'=k
  .simp only[e];exact .cons r (t.mapP k r)
  .simp only[e];exact .cons f (t.mapP k r)
theorem PairK.snoc{F:Hp}(k:Key){y:V}{d:PyData}(r:Rep F y d):∀{xs:List (Key×V)} {kvs:Zw},PairK F xs kvs->PairK F (xs++[(k,y)]) (kvs++[(k,d)])
 |_,_,.nil=>.cons r .nil
 |_,_,.cons c t=>.cons c (t.snoc k r)
def PairK.put(k:Key)(r:Rep F y d){xs:List (Key×V)}(t:PairK F xs kvs):PairK F (Yk xs k y) (Bk kvs k d):=by
 unfold Yk Bk;rw[t.any k];split
 .exact t.mapP k r
 .exact t.snoc k r
def dkP(kvs:Zw):OwnP where
 ok K F H v p := ∃a xs,v=.ref a/\p=[a]/\F a=none/\H a=some (.dK xs)/\PairK F xs kvs
 there:=by
  rintro K F H v p ⟨a,xs,rfl,rfl,L,f,g⟩ b i;cases Xj.mp i;exact#[L,Z8 f]
 mono:=by
  rintro K F n H J v p s m j ⟨a,xs,rfl,rfl,L,f,g⟩;exact#[a,xs,rfl,rfl,m a Xb,by rw[j a Xb];exact f,g.mono s]
 uniq:=by
  rintro K F H v p q ⟨a,xs,rfl,rfl,_⟩ ⟨b,ys,e,rfl,_⟩ c h;cases e;exact h
section
variable {ty:TE}{v:V}{kvs:Zw}{k:Key}{d:PyData}
def QF.dk(S:QF K U F Z O H)(e:zg Z i<|zo v<|dkP kvs):
 ∃a xs,v=.ref a/\O[i]?=some (some<|.ref a)/\F a=none/\U a=none/\H a=some (.dK xs)/\PairK F xs kvs:=by
 apply aX (S.writeOwn e);rintro g p⟨a,xs,rfl,rfl,L,f,d⟩c _;exact#[a,xs,rfl,g,L,(c a Xb).1,f,d]
def OH(e:zg Z i<|zo v<|dkP kvs)(Y:Qr K tv Z d)(X:Qr K ty Z (JL k))(hz:kvs.length<sizeLine)(hn:H1.nx (Z.set i<|zo v<|dkP<|Bk kvs k d)):QJ K (HN (Q8 i) ty tv) Z H1:=λF0 U F O H J x S C=>
 Y U F O H _ S λE D u g P=>by
  apply aF ((S.ext g).dk e);rintro a xs rfl o _;refine#[_,o,X U E O D _ (S.ext g) λt N y h M=>?_];have n:=S.ext (g.trans h);apply aP (n.dk e);intro L B m _ j l b A;cases m;rw[Na M];refine#[a,_,rfl,JJ.k b<|by rw[A.length];exact hz,?_];apply aX (n.writeOwn e);intro _ p W G w;apply aW W;rintro r s m rfl _ I _;cases m;refine C.nx t O _ _ ((x.trans<|g.trans h).wr l j) (w _ (dkP _) [a] (n.sub.upd j) (λc f _=>Qv λz=>f<|by exact z▸Xb) (λc f=>?_) #[a,_,rfl,rfl,j,QI,A.put k<|P.mono h.ff] λc f=>.inl f) hn
  by_cases z:c=a
  .subst z;rw[QI];rintro⟨⟩
  .rw[Qv z];exact f
def OD:EvX K PV Z (dkP []):=λU F O H Q S q=>λp c=>by
 have f:F p=none:=by
  cases z:F p with
  |none=>rfl
  |some o=>rw[S.sub _ _ z]at c;cases c
 refine q F _ _ [p] (Q3.own S.sub c) (λa d=>by cases Xj.mp d;exact c) #[p,[],rfl,rfl,f,QI,.nil]
end
def DkZ(kvs:Zw):ZP where
 ok K F v := ∃a xs,v=.ref a/\F a=some (.dK xs)/\PairK F xs kvs
 mono:=by
  rintro K F f v s ⟨a,xs,rfl,L,c⟩;exact#[a,xs,rfl,s _ _ L,c.mono s]
def dkP.fz(h:(dkP kvs).ok K F H v p)(s:Q6 F F')(he:∀b∈p,F' b=H b):(DkZ kvs).ok K F' v:=by
 apply aW h;rintro a xs rfl rfl L f c;exact#[a,xs,rfl,by rw[he a Xb];exact f,c.mono s]
def QF.dkz(S:QF K U F Z O H)(e:zg Z i<|zz<|DkZ kvs):∃a xs,O[i]?=some (some<|.ref a)/\F a=some (.dK xs)/\PairK F xs kvs:=by
 apply At S.fp;intro g h _;apply aR (h i _ e);rintro v f _ a⟨xs,rfl,L,c⟩;exact#[a,xs,f,L,c]
end L2
namespace L2
structure HandS where
 yard:PyData
 now:Int
 known:Qd
 given:Ql
 gone:Zw
 made:List Zw
inductive MadeD(F H:Hp):Qg->List Zw->Prop
 |nil:MadeD F H [] []
 |cons {a:Addr}{xs:List (Key×V)}{kvs:Zw}{as:Qg}{ms:List Zw}:F a=none->H a=some (.dK xs)->PairK F xs kvs->MadeD F H as ms->MadeD F H (a::as) (kvs::ms)
theorem MadeD.mem{F H:Hp}:∀{as:Qg} {ms:List Zw},MadeD F H as ms->∀a∈as,F a=none/\H a≠none
 |_,_,.nil,a,c=>nomatch c
 |_,_,.cons L f _ t,a,c=>by
  rcases Xd.mp c with rfl|c
  .exact#[L,Z8 f]
  .exact t.mem a c
theorem MadeD.mono{F f H J:Hp}(s:Q6 F f):∀{as:Qg} {ms:List Zw},(∀a∈as,f a=none)->(∀a∈as,J a=H a)->MadeD F H as ms->MadeD f J as ms
 |_,_,_,_,.nil=>.nil
 |_,_,h,g,.cons L j i t=>.cons (h _ Xb) (by rw[g _ Xb];exact j) (i.mono s) (t.mono s (λa c=>h a<|Xf _ c) λa c=>g a<|Xf _ c)
def MadeD.other{b:Addr}(h:MadeD F H as ms)(n:b∉as):MadeD F (upd H b o) as ms:=
 h.mono (Q6.refl _) (λa c=>(h.mem a c).1) (λa c=>Qv λz=>n<|z▸c)
inductive MadeZ(F:Hp):Qg->List Zw->Prop
 |nil:MadeZ F [] []
 |cons {a:Addr}{xs:List (Key×V)}{kvs:Zw}{as:Qg}{ms:List Zw}:F a=some (.dK xs)->PairK F xs kvs->MadeZ F as ms->MadeZ F (a::as) (kvs::ms)
theorem MadeZ.mono{F c:Hp}(s:Q6 F c):∀{as:Qg} {ms:List Zw},MadeZ F as ms->MadeZ c as ms
 |_,_,.nil=>.nil
 |_,_,.cons L f t=>.cons (s _ _ L) (f.mono s) (t.mono s)
theorem MadeD.fz{F c H:Hp}(s:Q6 F c):∀{as:Qg} {ms:List Zw},(∀a∈as,c a=H a)->MadeD F H as ms->MadeZ c as ms
 |_,_,_,.nil=>.nil
 |_,_,f,.cons _ i h t=>.cons (by rw[f _ Xb];exact i) (h.mono s) (t.fz s λa g=>f a<|Xf _ g)
noncomputable abbrev hfs(y:V)(n:Int)(k g d m:Addr):List (Str×V):=[("yard",y),("present",.int n),("known",.ref k),("given",.ref g),("gone",.ref d),("made",.ref m)]
structure HandOk(C:Addr)(N:HandS)(F H:Hp)(a E k g d m:Addr)(y:V)(xs:List (Key×V))(as:Qg):Prop where
 nd:(a::E::k::g::d::m::as).Nodup
 ins:F a=none/\H a=some (.ins C E<|hfs y N.now k g d m)
 own:F E=none/\H E=some (.own a)
 yd:Rep F y N.yard
 known:Yu F H k N.known
 given:Yu F H g (N.given.map PyData.int)
 gone:F d=none/\H d=some (.dK xs)/\PairK F xs N.gone
 made:F m=none/\H m=some (.lst<|as.map V.ref)/\MadeD F H as N.made
def HandOk.mono{g m:Addr}{xs:List (Key×V)}(o:HandOk C N F H a E k g d m y xs as)(s:Q6 F F')(f:∀b∈a::E::k::g::d::m::as,F' b=none)(c:∀b∈a::E::k::g::d::m::as,J b=H b):HandOk C N F' J a E k g d m y xs as:=by
 obtain⟨n,⟨e,K⟩,⟨Y,j⟩,i,⟨k1,B,k2,k3⟩,⟨l,M,U,P⟩,⟨p,X,W⟩,⟨Z,A,q⟩⟩:=o;exact#[n,#[f _<|by simp,by rw[c _<|by simp];exact K],#[f _<|by simp,by rw[c _<|by simp];exact j],i.mono s,#[f _<|by simp,B,by rw[c _<|by simp];exact k2,k3.mono s],#[f _<|by simp,M,by rw[c _<|by simp];exact U,P.mono s],
  #[f _<|by simp,by rw[c _<|by simp];exact X,W.mono s],#[f _<|by simp,by rw[c _<|by simp];exact A,q.mono s (λb h=>f b<|by simp[h]) λb h=>c b<|by simp[h]]]
inductive HandPk(C:Addr)(N:HandS)(F H:Hp)(v:V)(p:Qg):Prop
 |mk (a E k g d m:Addr)(y:V)(xs:List (Key×V))(as:Qg)(e:v=.ref a)(ep:p=a::E::k::g::d::m::as)(o:HandOk C N F H a E k g d m y xs as):HandPk C N F H v p
def QY(C:Addr)(N:HandS):OwnP where
 ok _ F H v p:=HandPk C N F H v p
 there:=by
  rintro K F H v p ⟨a,E,k,g,d,m,y,xs,A,rfl,rfl,o⟩ b h;obtain⟨_,⟨n,f⟩,⟨U,P⟩,_,⟨k1,z,k2,_⟩,⟨e,G,Z,_⟩,⟨t,r,_⟩,⟨m1,m2,m3⟩⟩:=o;simp only[Xd]at h;rcases h with rfl|rfl|rfl|rfl|rfl|rfl|h
  .exact#[n,Z8 f]
  .exact#[U,Z8 P]
  .exact#[k1,Z8 k2]
  .exact#[e,Z8 Z]
  .exact#[t,Z8 r]
  .exact#[m1,Z8 m2]
  .exact m3.mem b h
 mono:=by
  rintro K F Q H J v p s Y X ⟨a,E,k,g,d,m,y,xs,A,rfl,rfl,o⟩;exact#[a,E,k,g,d,m,y,xs,A,rfl,rfl,o.mono s Y X]
 uniq:=by
  rintro K F H v p q ⟨a,E,k,g,d,m,y,xs,A,rfl,rfl,o⟩ ⟨O,l,D,I,L,x,w,M,u,ev,rfl,B⟩ c W;cases ev;have i:=o.ins.2.symm.trans B.ins.2;injection i with i;injection i with _ n f;subst n;simp only[hfs,List.cons.injEq,Prod.mk.injEq,true_and,and_true,V.ref.injEq]at f;obtain⟨rfl,rfl,rfl,rfl,rfl⟩:=f;have j:=o.made.2.1.symm.trans B.made.2.1;injection j with j;injection j with j;rw[KZ j];exact W
structure HandFz(C:Addr)(N:HandS)(F:Hp)(a E k g d m:Addr)(y:V)(ks gs:List V)(xs:List (Key×V))(as:Qg):Prop where
 ins:F a=some (.ins C E<|hfs y N.now k g d m)
 yd:Rep F y N.yard
 known:F k=some (.lst ks)/\Qx F ks N.known
 given:F g=some (.lst gs)/\Qx F gs (N.given.map PyData.int)
 gone:F d=some (.dK xs)/\PairK F xs N.gone
 made:F m=some (.lst<|as.map V.ref)/\MadeZ F as N.made
def Zd(C:Addr)(N:HandS):ZP where
 ok K F v := ∃a E k g d m y c h xs i,v=.ref a/\HandFz C N F a E k g d m y c h xs i
 mono:=by
  rintro K F U v s ⟨a,E,k,g,d,m,y,c,h,xs,i,rfl,⟨L,P,⟨M,B⟩,⟨h5,A⟩,⟨q,n⟩,⟨j,f⟩⟩⟩;exact#[a,E,k,g,d,m,y,c,h,xs,i,rfl,s _ _ L,P.mono s,#[s _ _ M,B.mono s],#[s _ _ h5,A.mono s],#[s _ _ q,n.mono s],#[s _ _ j,f.mono s]]
def QY.fz(h:(QY C N).ok K F H v p)(s:Q6 F F')(he:∀b∈p,F' b=H b):(Zd C N).ok K F' v:=by
 obtain⟨a,E,k,g,d,m,y,xs,W,rfl,rfl,o⟩:=h;obtain⟨X,⟨Z,n⟩,_,c,⟨k1,j,k2,k3⟩,⟨e,A,M,B⟩,⟨l,U,P⟩,⟨Y,i,f⟩⟩:=o;exact#[a,E,k,g,d,m,y,j,A,xs,W,rfl,by rw[he _<|by simp];exact n,c.mono s,#[by rw[he _<|by simp];exact k2,k3.mono s],#[by rw[he _<|by simp];exact M,B.mono s],#[by rw[he _<|by simp];exact U,P.mono s],#[by rw[he _<|by simp];exact i,f.fz s λb q=>he b<|by simp[q]]]
structure HandC(K:W.Frag)(C:Addr):Prop where
 cl:Cls K C
 yd:Vp K C "yard"
 pr:Vp K C "present"
 kn:Vp K C "known"
 gv:Vp K C "given"
 go:Vp K C "gone"
 md:Vp K C "made"
def NoH(m:Str):Prop := ∀(y:V) (n:Int) (k g d e:Addr),(hfs y n k g d e).lookup m=none
section
variable {ty:TE}{N:HandS}
def QF.hz(S:QF K U F Z O H)(e:zg Z i<|zz<|Zd C N):∃a E k g d m y c f xs as,O[i]?=some (some<|.ref a)/\HandFz C N F a E k g d m y c f xs as:=by
 apply At S.fp;intro n h _;apply aR (h i _ e);rintro v j _ a⟨E,k,g,d,m,y,c,f,xs,as,rfl,L⟩;exact#[a,E,k,g,d,m,y,c,f,xs,as,j,L]
def UN(c:HandC K C)(e:zg Z i<|zz<|Zd C N):Qr K (ZW K (Q8 i) "yard") Z N.yard:=λU F O H Q S q=>by
 apply ah (S.hz e);rintro a E k g d m y h j xs n⟨f,o⟩;exact#[_,f,a,C,E,_,y,rfl,S.sub _ _ o.ins,c.cl,c.yd,rfl,q F H y (Q3.refl S.sub) o.yd]
def BO(c:HandC K C)(e:zg Z i<|zz<|Zd C N):Qr K (ZW K (Q8 i) "present") Z (.int N.now):=λU F O H Q S q=>by
 apply ah (S.hz e);rintro a E k g d m y h j xs n⟨f,o⟩;exact#[_,f,a,C,E,_,.int N.now,rfl,S.sub _ _ o.ins,c.cl,c.pr,rfl,q F H _ (Q3.refl S.sub)<|.int _]
def GG(c:HandC K C)(e:zg Z i<|zz<|Zd C N):Qr K (ZW K (Q8 i) "known") Z (.list N.known):=λU F O H Q S q=>by
 apply ah (S.hz e);rintro a E k g d m y h j xs n⟨f,o⟩;exact#[_,f,a,C,E,_,.ref k,rfl,S.sub _ _ o.ins,c.cl,c.kn,rfl,q F H _ (Q3.refl S.sub)<|.lst o.known.1 o.known.2]
def Cz(c:HandC K C)(e:zg Z i<|zz<|Zd C N):Qr K (ZW K (Q8 i) "given") Z (.list<|N.given.map PyData.int):=λU F O H Q S q=>by
 apply ah (S.hz e);rintro a E k g d m y h j xs n⟨f,o⟩;exact#[_,f,a,C,E,_,.ref g,rfl,S.sub _ _ o.ins,c.cl,c.gv,rfl,q F H _ (Q3.refl S.sub)<|.lst o.given.1 o.given.2]
def Zrr(c:HandC K C)(j:Qr K ty Z (JL k))(e:zg Z i<|zz<|Zd C N):Qr K (MA ty<|ZW K (Q8 i) "gone") Z (.bool (YZ N.gone k).isSome):=λU F O H Q S q=>
 j U F O H _ S λA D y f h=>by
  apply ah ((S.ext f).hz e);rintro a E X g d m P W Y xs l⟨s,o⟩;refine#[_,s,a,C,E,_,.ref d,rfl,f.fh _ _ o.ins,c.cl,c.go,rfl,?_];rw[Na h];refine#[d,_,rfl,VA.zk<|f.fh _ _ o.gone.1,?_];have n:(Z4 xs k).isSome=(YZ N.gone k).isSome:=by
   rcases o.gone.2.val k with _|⟨x,b,M,B,_⟩
   .simp_all
   .simp_all
  rw[n];exact q A D _ f (.bl _)
def D3(X:NoH m)(e:zg Z i<|zz<|Zd C N)(h:Zm K t Z ts)(l:R (.zow (Zd C N)::ts) Φ):
 Zt K (ZU C m (Zi K R) [] dx (Q8 i) t) Z Φ:=λU F O H Q S q=>by
 apply ah (S.hz e);rintro a E k g d B y M o xs u⟨r,j⟩;exact#[_,r,a,E,_,rfl,S.sub _ _ j.ins,X _ _ _ _ _ _,h U F O H _ S λz D G c s=>#[z,_,Φ,(S.ext c).kt,c.fh,.zow ((Zd C N).mono c.ff #[a,E,k,g,d,B,y,M,o,xs,u,rfl,j])<|by rw[Xr];exact s,l,λx w v p A P n W f=>q x w v p A P (c.trans n) (λb Y=>c.hh.free<|W b Y) f]]
def Zs3(c:NoH m)(e:zg Z i<|zz<|Zd C N)(h:Zm K t Z ts)(f:R (.zow (Zd C N)::ts) (λr=>r=.fz d)):Qr K (ZU C m (Zi K R) [] dx (Q8 i) t) Z d:=EvO.e (Zt.o<|D3 c e h f)
def BP(i:Nat)(e:zg Z i<|zo v<|QY C N)(f:∀r,Φ r->JG r)(h:Zt K t (Z.set i<|zz<|Zd C N) Φ):Zt K t Z Φ:=
 Nu i e (λa b c=>QY.fz a b c) f h
def Nw(i:Nat)(e:zg Z i<|zo v<|QY C N)(f:Vf d=some u)(h:Qr K t (Z.set i<|zz<|Zd C N) d):Qr K t Z d:=
 EvO.e (Zt.o<|BP i e (λr c=>by subst c;exact GK f)<|h.o.d rfl)
def LH{b:Bool}(i:Nat)(e:zg Z i<|zo v<|QY C N)(h:QM K t (Z.set i<|zz<|Zd C N) b):QM K t Z b:=λU F O H Q S q=>by
 exact At (S.freezeZ e (λa b c=>QY.fz a b c)) λp f j=>h U _ O H Q j λm J x=>q _ J (Ul (λa g=>#[(f a g).1,(f a g).2.1]) x)
def QF.hand(S:QF K U F Z O H)(e:zg Z i<|zo v<|QY C N):
 ∃a E k g d m y xs as,v=.ref a/\O[i]?=some (some<|.ref a)/\HandOk C N F H a E k g d m y xs as/\(∀b∈a::E::k::g::d::m::as,U b=none/\F b=none/\H b≠none)/\
  ∀(J:Hp) (q:HandS) (n:V) (f:List (Key×V)) (c:Qg),Q6 F J->(∀b,b∉a::E::k::g::d::m::as->H b≠none->J b=H b)->(∀b,H b≠none->J b≠none)->
   HandOk C q F J a E k g d m n f c->(∀b∈c,b∈as\/(H b=none/\U b=none))->QF K U F (Z.set i<|zo v<|QY C q) O J:=by
 apply aX (S.writeOwn e);rintro Y p⟨a,E,k,g,d,m,y,xs,as,rfl,rfl,A⟩B s;refine#[a,E,k,g,d,m,y,xs,as,rfl,Y,A,B,λJ q n f c L X W P M=>s J _ _ L X W #[a,E,k,g,d,m,n,f,c,rfl,rfl,P] λb j=>?_];simp only[Xd]at j ⊢;rcases j with h|h|h|h|h|h|j
 .exact .inl (.inl h)
 .exact .inl (.inr<|.inl h)
 .exact .inl (.inr<|.inr<|.inl h)
 .exact .inl (.inr<|.inr<|.inr<|.inl h)
 .exact .inl (.inr<|.inr<|.inr<|.inr<|.inl h)
 .exact .inl (.inr<|.inr<|.inr<|.inr<|.inr<|.inl h)
 .rcases M b j with z|z
  .exact .inl (.inr<|.inr<|.inr<|.inr<|.inr<|.inr z)
  .exact .inr z
def HandOk.same{g m:Addr}{xs:List (Key×V)}
(f:HandOk C N F H a E k g d m y xs as)(c:HandOk C N' F' J a dx' k' g' d' m' y' xs' as')(s:J a=H a):dx'=E/\k'=k/\g'=g/\d'=d/\m'=m/\y'=y:=by
 have h:=c.ins.2;rw[s,f.ins.2]at h;grind
def HandOk.setKnown{g m:Addr}{xs:List (Key×V)}(i:HandOk C N F H a E k g d m y xs as)(M:Qx F za ns):
 HandOk C { N with known:=ns } F (upd H k<|.lst za) a E k g d m y xs as:=by
 obtain⟨f,⟨K,B⟩,⟨n,j⟩,h,⟨k1,u,k2,k3⟩,⟨X,P,W,U⟩,⟨b,Z,Y⟩,⟨A,s,q⟩⟩:=i;have c:=f;simp only[XM,Xd,not_or]at c;apply aJ c;rintro⟨v,t,_⟩⟨r,_⟩⟨p,o,l,e⟩_;exact#[f,#[K,by rw[Qv t];exact B],#[n,by rw[Qv r];exact j],h,#[k1,za,QI,M],#[X,P,by rw[Qv<|Ne.symm p];exact W,U],#[b,by rw[Qv<|Ne.symm o];exact Z,Y],#[A,by rw[Qv<|Ne.symm l];exact s,q.other e]]
def HandOk.setGiven{g m:Addr}{xs:List (Key×V)}(i:HandOk C N F H a E k g d m y xs as){ns:Ql}(P:Qx F za (ns.map PyData.int)):
 HandOk C { N with given:=ns } F (upd H g<|.lst za) a E k g d m y xs as:=by
 obtain⟨f,⟨M,K⟩,⟨n,j⟩,h,⟨k1,B,k2,k3⟩,⟨U,r,u,t⟩,⟨e,b,Z⟩,⟨A,s,q⟩⟩:=i;have c:=f;simp only[XM,Xd,not_or]at c;apply JH c;rintro⟨x,w,p,_⟩⟨v,o,_⟩⟨l,_⟩⟨Y,X,W⟩_;exact#[f,#[M,by rw[Qv p];exact K],#[n,by rw[Qv o];exact j],h,#[k1,B,by rw[Qv l];exact k2,k3],#[U,za,QI,P],#[e,by rw[Qv<|Ne.symm Y];exact b,Z],#[A,by rw[Qv<|Ne.symm X];exact s,q.other W]]
variable {v:V}
def Zq0(c:HandC K C)(e:zg Z i<|zo v<|QY C N){n:PyData}(h:Qr K te Z n)(R:N.known.length<1000)
(hn:H1.nx (Z.set i<|zo v<|QY C { N with known:=N.known++[n] })):QJ K (V2<|tBM K "list" Yr (ZW K (Q8 i) "known")<|Q4 te QL) Z H1:=λF0 U F O H dx x S J=>by
 apply aa (S.hand e);rintro a E k g d m y xs as rfl w q _;refine#[_,w,a,C,E,_,.ref k,rfl,q.ins.2,c.cl,c.kn,rfl,.inl #[rfl,_,SqL.of q.known.2.choose_spec.1],h U F O H _ S λI D u s l=>?_];apply aa ((S.ext s).hand e);rintro a' G W g' d' Q X A M t T f⟨r,Y⟩;cases t;apply aG (q.same f ((s.hh _ _ q.ins.2).trans q.ins.2.symm));rintro rfl rfl rfl rfl rfl rfl;apply Do f.known;intro L o p P;have j:=r W (by simp);exact#[W,o,u,rfl,rfl,p,by rw[P.length];exact V9<|#[],J.nx I O _ _ ((x.trans s).wr j.1 j.2.1) (Y _ { N with known:=N.known++[n] } X A M ((S.ext s).sub.upd j.2.1) (λb B _=>Qv λz=>B<|by rw[z];simp) YH (f.setKnown<|P.snoc l) λb B=>.inl B) hn]
def Zp6(c:HandC K C)(e:zg Z i<|zo v<|QY C N){n:Int}(h:Qr K te Z (.int n))(T:N.given.length<1000)
(hn:H1.nx (Z.set i<|zo v<|QY C { N with given:=N.given++[n] })):QJ K (V2<|tBM K "list" Yr (ZW K (Q8 i) "given")<|Q4 te QL) Z H1:=λF0 U F O H dx x S J=>by
 apply aa (S.hand e);rintro a E k g d m y xs as rfl w q _;refine#[_,w,a,C,E,_,.ref g,rfl,q.ins.2,c.cl,c.gv,rfl,.inl #[rfl,_,SqL.of q.given.2.choose_spec.1],h U F O H _ S λI D u s l=>?_];apply aa ((S.ext s).hand e);rintro a' G R W d' Q X A M t g1 f⟨r,Y⟩;cases t;apply aG (q.same f ((s.hh _ _ q.ins.2).trans q.ins.2.symm));rintro rfl rfl rfl rfl rfl rfl;apply Do f.given;intro L o p P;have j:=r W (by simp);exact#[W,o,u,rfl,rfl,p,by rw[P.length,Xg];exact V9<|#[],J.nx I O _ _ ((x.trans s).wr j.1 j.2.1) (Y _ { N with given:=N.given++[n] } X A M ((S.ext s).sub.upd j.2.1) (λb B _=>Qv λz=>B<|by rw[z];simp) YH (f.setGiven<|by rw[Xx];exact P.snoc l) λb B=>.inl B) hn]
end
end L2
namespace L2
inductive SpP(K:W.Frag){α:Type}(Φ:α->OwnP)(R:α->List OT->(OT->α->Prop)->Prop)(vs:List V)(H:Hp)(Q:VK):Prop
 |mk (F:Hp)(v0:V)(vs':List V)(p:Qg)(ts:List OT)(N:α)(Ψ:OT->α->Prop)(e:vs=v0::vs')(kt:KTs K F)(sm:Q6 F H)(ha:Args K F vs' ts)(ok:(Φ N).ok K F H v0 p)(hR:R N ts Ψ)
  (k:∀F' J p' N' v r q,Ψ r N'->ExtN p F H F' J->(Φ N').ok K F' J v0 p'->(∀b∈p',b∈p\/H b=none)->Zx K F' J v r q->(∀b∈q,(b∈p\/H b=none)/\b∉p')->Q v J):SpP K Φ R vs H Q
def spP(K:W.Frag){c:Type}(Φ:c->OwnP)(R:c->List OT->(OT->c->Prop)->Prop):Sp:=λf H Q _=>SpP K Φ R f H Q
abbrev spH(K:W.Frag)(C:Addr)(R:HandS->List OT->(OT->HandS->Prop)->Prop):Sp:=spP K (QY C) R
def JE(K:W.Frag)(C CR:Addr){δ:Type}(FL:Addr->Hp->Hp->Hp->Qj->δ->Prop)(R:HandS->List OT->(OT->HandS->Prop)->Prop)(g:List OT->(δ->Prop)->Prop):Sp:=λf H Q c=>(∃RR,c=XE CR RR/\ZQ CR RR/\spH K C R f H Q c)\/ZI K CR FL (λ_ _=>False) g f H Q c
abbrev Al(K:W.Frag)(C CR:Addr)(f:Str)(R:HandS->List OT->(OT->HandS->Prop)->Prop)(Rx:List OT->(Qd->Prop)->Prop):Sp:=JE K C CR (Fld f) R Rx
def EvR(K:W.Frag)(t:TS)(Z:ZbI)(Ψ:OT->ZbI->Prop):Prop := ∀(F0 U F:Hp) (O:St) (H:Hp) (j:Ends),Q3 F0 U F H->QF K U F Z O H->
 (∀g f J c v r q,Q3 F0 U g J->QF K U g c f J->Zx K g J v r q->(∀a∈q,U a=none)->(∀a∈q,∀u h i,c[0]?=some (some h)->f[0]?=some (some u)->Zx K g J u h i->a∉i)->Ψ r c->j.rt v J)->t j O H
section
variable {t u:TS}{Ψ:OT->ZbI->Prop}
def VR(M:ZbI->Prop)(L:QJ K t Z { nx:=M,rt:=λ_=>False })(h:∀c,M c->EvR K u c Ψ):EvR K (V6 t u) Z Ψ:=λF0 U F O H i x S k=>
 L F0 U F O H _ x S #[λm f J c g j e=>h c e F0 U m f J i g j k,λ_ _ _ _ _ _ _ _ z=>z.elim,λ_ _ _ _ _ _ z=>False.elim z,λ_ _ _ _ _ _ z=>False.elim z]
def YT(L:QJ K t Z { nx:=λc=>c=e,rt:=λ_=>False })(f:EvR K u e Ψ):EvR K (V6 t u) Z Ψ:=VR _ L λc h=>by exact h▸f
def UB(h:Qr K te Z d)(f:Ψ (.fz d) Z):EvR K (VN te) Z Ψ:=λF0 U F O H i x S k=>
 h U F O H _ S λg J v c r=>k g O J Z v (.fz d) [] (x.trans c) (S.ext c) #[rfl,r] (by rintro _ ⟨⟩) (by rintro _ ⟨⟩) f
def IF(q:j≠0)(e:Z[j]?=some (some r))(m:Ψ r Z):EvR K (VN<|Q8 j) Z Ψ:=λF0 U F O H Y x S k=>by
 refine L3 S.fp λX h t s=>At (h j _ e) λv C i=>#[v,C,k F O H Z v r _ x S i (λa f=>(s j a f).1) (λa f u P W B A c n=>?_) m];apply At (h 0 _ B);intro M g y;rw[A]at g;cases g;exact q (t j 0 a f<|UO y c a n)
def Aw{b:Bool}(h:QM K tA Z b)(L:b=true->EvR K t Z Ψ)(i:b=false->EvR K u Z Ψ):EvR K (Jj tA t u) Z Ψ:=λF0 U F O H f x S k=>
 h U F O H _ S λg J c=>by
  cases b with
  |true=>rw[Xh rfl];exact L rfl F0 U g O J f (x.trans c) (S.ext c) k
  |false=>rw[Xe<|by decide];exact i rfl F0 U g O J f (x.trans c) (S.ext c) k
variable {α:Type}{Φ:α->OwnP}{N:α}
abbrev fiO{α:Type}(v:V)(Φ:α->OwnP)(Ψ:OT->α->Prop):OT->ZbI->Prop:=λr ρ'=>∃M',Ψ r M'/\ρ'[0]?=some (zo v<|Φ M')
def D4{R:α->List OT->(OT->α->Prop)->Prop}{Ψ:OT->α->Prop}
(h:EvR K t (ini h1 (.own v0 (Φ N)::ts)) (fiO v0 Φ Ψ))
(W:KTs K F)(s:Q6 F H)(Z:Args K F vs ts)(U:(Φ N).ok K F H v0 p)
(q:∀g J m A v r q,Ψ r A->ExtN p F H g J->(Φ A).ok K g J v0 m->(∀b∈m,b∈p\/H b=none)->Zx K g J v r q->(∀b∈q,(b∈p\/H b=none)/\b∉m)->Q v J):
 t { nx:=q0,rt:=Q } (start h1 (v0::vs)) H:=by
 have n:∀b,(λb=>if b∈p then none else H b:Hp) b=none->b∈p\/H b=none:=λb c=>by
  grind
 refine h F _ F _ H _ #[λb o c=>?_,Q6.refl _,s,λ_ h=>.inl h] (CC W s Z U) λg B J C v r P i k j X Y ⟨l,a,y⟩=>?_
 .grind
 .apply L3 k.fp;intro D e x d;apply L3 (e 0 _ y);rintro u M rfl f;refine q g J _ l v r P a #[λb o w c=>i.hh b o<|#[],i.ff,i.fh,λb c=>?_] f (λb c=>n b (d 0 b c).1) j (λb c=>#[n b<|X b c,Y b c _ _ _ y M #[rfl,f]]);rcases i.fr b c with z|z
  .exact .inl z
  .exact .inr ((n b z).symm)
end
def ZZ(P:Program)(w:World)(K:W.Frag)(mg:Str->Qf)(base:Heap)(C:Addr)(m:Str)(ps:Qh)(k:Nat)(sp:Sp):Prop:=
 ∃f fd,Meth K C m f/\ZY K fd ps []/\FnOk P w K mg base (CX1 P w) k f fd ps sp
section
variable {w:World}{base:Heap}{CR:Addr}
noncomputable def Mf.evHXn{m qual:Str}{st:Stmt}{W ps:Qh}{k:Nat}{δ:Type}{FL:Addr->Hp->Hp->Hp->Qj->δ->Prop}{R:HandS->List OT->(OT->HandS->Prop)->Prop}{l:List OT->(δ->Prop)->Prop}(H1:Mf K C m qual st ps)(S:Qo W ps (QD st))
(n:∀f H RR v M ts Ψ,ZQ CR RR->R M ts Ψ->B1 P w K mg base W qual st k f H (XE CR RR) λt=>EvR K (V6 t<|VN<|tC .non) (ini W (.own v (QY C M)::ts))<|fiO v (QY C) Ψ)
(y:∀f,ZX P w K mg base W qual st k CR FL l f)(Z:∀M ts Ψ,R M ts Ψ->ts.length+1=ps.length:=by intro _ _ _ h;cases h<;>rfl)(j:∀ts Φ,l ts Φ->ts.length=ps.length:=by intro _ _ h;cases h<;>rfl):ZZ P w K mg base C m ps (k+1) (JE K C CR FL R l):=by
 refine H1.go λf fd F=>F.okX S (λx H Q E h=>?_) λx H Q E h B A outer s u=>?_
 .rcases h with ⟨RR,_,_,F,o,Y,p,ts,M,Ψ,e,_,_,g,_,i,_⟩|⟨F,ts,_,_,g,RR,_,_,q⟩
  .rw[e,X4,g.length];exact Z _ _ _ i
  .rcases q with ⟨_,z,_⟩|⟨r,i,_⟩
   .exact z.elim
   .exact g.length.trans (j ts r i)
 .rcases h with ⟨RR,d,c,F,o,Y,p,ts,M,Ψ,e,a,U,g,D,i,q⟩|⟨F,ts,a,U,g,RR,rfl,c,q⟩
  .subst e d;exact At (n f H RR o M ts Ψ c i B A outer s u) λt L b=>#[t,L,D4 (R:=R) (q0:=λ_ _=>False) b a U g D q]
  .rcases q with ⟨_,z,_⟩|⟨X,i,q⟩
   .exact z.elim
   .exact At (y f F H RR ts X c q i B A outer s u) λt L b=>#[t,L,b F _ H _ (Q3.refl U)<|Md a U g]
end
def BN  {o:Expr}  {k:Nat}{g:Sem Bool}(M:ZC X.prog X.w X.K X.mg X.base C m ps j sp)(c:HandC X.K C)(i:Room k X.A)(he:PE X o ta)(q:j<=k:=by walk_at"j")
(h:eval (.Call (.Attribute o m XD) [] [] pos) X.env=(do
  let ov <- eval o X.env
  standAt XD.atName
  let (f,first) <- holding [ov] (getMethod ov m g)
  callWith pos f first (backTo pos<|starEach [] X.env)<|backToKw pos<|keywordEach [] X.env):=by rfl):
 PE X (.Call (.Attribute o m XD) [] [] pos) (ZU C m sp [] E0 ta QL):=by
 exact aF M λf fd n s F=>Fq he c.cl n F (i.mono q) s .nil Jq h
def YU  {o e:Expr}  {t:TA}{k:Nat}{h:XK}{i:Sem Bool}(M:ZZ X.prog X.w X.K X.mg X.base C m ps j sp)(c:HandC X.K C)(s:Room k X.A)(n:Yh (CX1 X.prog X.w) X h)(he:PE X o ta)(K:PA X (e::es) t)(A:j<=k:=by walk_at"j")
(g:zs X e es:=by rfl)(hpl:zb X pos es:=by rfl)
(q:eval (.Call (.Attribute o m XD) (e::es) [] pos) X.env=(do
  let ov <- eval o X.env
  standAt XD.atName
  let (f,first) <- holding [ov] (getMethod ov m i)
  callWith pos f first (backTo pos<|starEach (e::es) X.env)<|backToKw pos<|keywordEach [] X.env):=by rfl):
 PE X (.Call (.Attribute o m XD) (e::es) [] pos) (ZU C m sp [] h ta t):=by
 exact aF M λf fd y B F=>KL he c.cl y F (s.mono A) B .nil n K g hpl q
section
variable {v:V}{N:HandS}
def QY.at(h:(QY C N).ok K F H v p):∃a E y n k g d e,v=.ref a/\H a=some (.ins C E<|hfs y n k g d e):=by
 obtain⟨a,E,k,g,d,m,y,xs,c,rfl,_,o⟩:=h;exact#[a,E,y,_,k,g,d,m,rfl,o.ins.2]
end
def M9(C:Addr):Sp:=λc H Q _=>∃x E y,c=[.ref x,y]/\H x=some (.ins C E [])/\∀k g d m J,H k=none->H g=none->H d=none->H m=none->[x,k,g,d,m].Nodup->
 J x=some (.ins C E<|hfs y 0 k g d m)->J k=some (.lst [])->J g=some (.lst [])->J d=some (.dK [])->J m=some (.lst [])->(∀b,b∉[x,k,g,d,m]->J b=H b)->Q .non J
def HU(P:Program)(w:World)(K:W.Frag)(mg:Str->Qf)(base:Heap)(x:Str)(C:Addr)(ps:Qh)(k:Nat):Prop:=
 ∃f fd,Mk K C f/\mg x=some (.ref C)/\ZY K fd ps []/\FnOk P w K mg base CX0 k f fd ps (M9 C)
def ZsP  {x:Str}{p:Pos}{e:Expr}{t:TA}{k:Nat}(M:HU X.prog X.w X.K X.mg X.base x C ps j)(g:Room k X.A)(n:PA X (e::es) t)(i:j+1<=k:=by walk_at"j")(hg:Gl X x:=by rfl)(c:(x==("__debug__" : Str))=false:=by decide +kernel)
(he:zs X e es:=by rfl)(hpl:zb X pos es:=by rfl):
 PE X (.Call (.Name x p) (e::es) [] pos) (Jp C (M9 C) [] E0 t):=by
 exact aB M λf fd M h m F=>TR M F (g.mono i) hg h m .nil Jq n c he hpl
def ZtA(h:Qr K ta Z yd):EvX K (Jp C (M9 C) [] dx<|Q4 ta QL) Z (QY C #[yd,0,[],[],[],[]]):=λU F O H Q I q=>h U F O H _ I λN D M y R=>λx E B n A=>by
 have S:=I.ext y;refine#[x,E,M,rfl,QI,λe r l d J he T hl hd W L h2 h3 h4 h5 t=>#[rfl,?_]];have s:∀{b:Addr},upd (upd D E<|.own x) x (.ins C E []) b=none->D b=none/\b≠x/\b≠E:=λ{b} f=>by
  have Y:b≠x:=λz=>by rw[z,QI]at f;cases f
  rw[Qv Y]at f;have X:b≠E:=λz=>by rw[z,QI]at f;cases f
  rw[Qv X]at f;exact#[f,Y,X]
 refine KE (s he) λv e2 u=>KE (s T) λj r2 P=>KE (s hl) λk l2 a=>KE (s hd) λG d2 w=>?_;have m:J E=some (.own x):=by
  rw[t E<|by simp only[Xd,XW,or_false,not_or];exact#[A,Ne.symm u,Ne.symm P,Ne.symm a,Ne.symm w],Qv A,QI]
 have p:∀b o,D b=some o->J b=some o:=λb o f=>by
  have g:∀{c:Addr},D c=none->b≠c:=λhc z=>by rw[z,hc]at f;cases f
  rw[t b<|by simp only[Xd,XW,or_false,not_or];exact#[g B,g v,g j,g k,g G],Qv<|g B,Qv<|g n];exact f
 have i:∀{b:Addr},D b=none->N b=none:=λf=>S.sub.free f;refine q N J (.ref x) [x,E,e,r,l,d] (y.trans #[p,Q6.refl _,λb o f=>p b o<|S.sub b o f,λ_ h=>.inl h]) (λb f=>?_) #[x,E,e,r,l,d,M,[],[],rfl,rfl,?_,#[i B,L],#[i n,m],R,#[i v,[],h2,.nil],#[i j,[],h3,.nil],#[i k,h4,.nil],#[i G,h5,.nil]]
 .refine y.hh.free ?_
  grind
 .simp only[XM,Xd,XW,or_false,not_or]at W ⊢;apply aJ W;rintro⟨a1,a2,a3,a4⟩b1 c1 f1;exact#[#[Ne.symm A,a1,a2,a3,a4],#[Ne.symm u,Ne.symm P,Ne.symm a,Ne.symm w],b1,c1,f1]
end L2
namespace L2
section
variable {O:St}{H:Hp}
def Zoy(d:Qt X Y O H s)(a:X.N.Nodup)(n:X.N[i]?=some x)(g:X.env.scope.names.lookup x=some .cell)(j:X.fn x=true)
(h:∀W,Qt X Y (O.set i none) H W->Q () W):wpAny M A (do bindName X.env x .none;unbindBehindTheSuite X.env x pos) Q dx s:=by
 have P:i<O.length:=by rw[d.len];exact(Xi.mp n).1
 refine Xa (wpAny_bindName<|DF (v:=.non) d a n (.inr g) rfl (λs I=>?_)<|.inl j);apply At (id I.loc);intro m r Z;have t:=I.cne;obtain⟨c,f⟩:=I.ok.has x (.inl g);have B:s.heap.IsCell c (some .none):=by
  apply At (Z i x .non n (by rw[XI P]) (.inr<|.inl g));intro u o q;cases o;rcases q with ⟨k,_⟩|⟨k,b,e,z⟩
  .have z:=g.symm.trans k;cases z
  .rw[f]at e;cases e;exact z
 refine wpAny_onRaise<|Xa (wpAny_point<|Xa ?_);unfold deleteName;have K:X.env.kindOf x=some .cell:=g;simp only[K];refine Xa (wpAny_cellOf f<|Xa<|wpAny_cellGet B (wpAny_cellSet B λh' U C=>wpAny_point (h _<|List.set_set .. ▸ I.poke (ov:=none) a n C (I.ok.cab x c j f) (I.freeC x c f) (.inr #[#[_,B],_,U]) (r.sameBut C<|Ne.symm<|I.cne x c f) Z (by rintro _ ⟨⟩) λy u p q=>q.imp id<|by rintro⟨k,b,e,l⟩;exact#[k,b,e,l.sameBut C λq=>p<|I.ok.inj _ _ _ (q▸e) f])))
end
def EHc(C:Addr)(th:Addr->TS)(H1:Ends)(n j:Nat):XK:=XE C λe c H=>∀(O:St) J T,O.length=n->Lefts C e c H J->J T=none->T≠e->th e (Dh H1 j) (O.set j<|some<|.ref e) (left C e c T J)
def FI{H1:Ends}:ZQ C λe c H=>∀(O:St) J T,O.length=n->Lefts C e c H J->J T=none->T≠e->th e (Dh H1 j) (O.set j<|some<|.ref e) (left C e c T J):=λ_ _ _ _ r hT f O J i g h=>r O J i g (.head hT f h)
section
variable {B:Addr}{tb:Ends->TS}{x n:Str}
def Zpy{O:St}{H1:Ends}(cm:W.exmOne X.K (.ref C) (.ref B)=some true)(g:X.Ok)(c:X.stack=X.env::X.outer)(U:X.env.frame=some X.env.locals)(hg:Gl X x)(hm:X.mg x=some (.ref B))
(d:X.N.Nodup)(P:X.N[j]?=some n)(h:X.env.scope.names.lookup n=some .local\/(X.env.scope.names.lookup n=some .cell/\X.fn n=true))
(hh:∀e pn,PSs (W1 X e pn) (b0::suite)<|th e)(I:Qt { X with pn:=X.pn++Y } [] O H s)(b:T0≠e)(he:H e=some (.ext<|phF C e dct T0))(hT:H T0=some (.ext<|phT T0))
(hd:(x==("__debug__" : Str))=false)
(hq:∀T,H T=none->T≠e->th e (Dh H1 j) (O.set j<|some<|.ref e) (left C e dct T H))(r:∀f p,SP X Y H1 f p->Q f p):
 wpAny (model X.prog X.w) X.A (noteFrame (.ref e) X.env) (λ_ G=>wpAny (model X.prog X.w) X.A (setFlight (.ref e) none) (λ_ A=>wpAny (model X.prog X.w) X.A (handleBy (.ref e) X.env (.ExceptHandler (some<|.Name x np) (some n) (b0::suite) hpos::rest)) Q dx A) dx G) dx s:=by
 apply KE (I.hok e _ he);rintro⟨vs,sl,M,L,k⟩_ _;apply KE (I.hok T0 _ hT);rintro⟨oT,ts,K,t,h3⟩_ _
 have l:=I.stack;have l:s.heap.FunFrames X.base (X.env::X.outer):=by rw[<- c];exact l
 refine R9 (by rw[g.frames,c]) l U M rfl L b K t h3 λh' T m=>?_;have D:=DJ I (by rw[he];trivial) M (Array.getElem?_eq_some_iff.mp L).1 k (by exact c▸m);have i:=VY (XG (Xk M) m.new);have y:Qt (W1 X e<|X.pn++Y) [] O _ { s with heap:=h' }:=D.toHandler;refine wpAny_handleBy_cons (codeAny_handlers_test<|WY y hg hm ((W.exm_one D.kIn ((W.Looks.ld m.exc).andThen .now) cm).here (codeAny_handlers_suite_as ?_)) hd) (by intro q;cases q);have o1:left C e dct T H e=some (.ext<|phF C e dct T):=by unfold left;rw[Qv<|Ne.symm i,QI]
 have S:left C e dct T H T=some (.ext<|phT T):=by unfold left;rw[QI]
 refine KE (y.hok e _ o1) λR _ _=>KE (y.hok T _ S) λN _ _=>CO R N λt k2=>DF (X:=W1 X e (X.pn++Y)) (y.kept (t':=s.toks) k2) d P (h.imp id And.left) (v:=.ref e) rfl (λA J3=>wpAny_mono (hh e _ [] A _ _ (Dh H1 j) J3<|hq T (I.hok.fresh m.new) i) (λfl s4 z=>?_) λ_ _ z=>False.elim z) (h.symm.imp And.right id)
 cases fl with
 |next=>
  apply L0 z;intro E J w q;rcases h with h|⟨h,Z⟩
  .exact Zrh (X:=W1 X e (X.pn++Y)) w d P h λF o=>r _ _ #[_,J,(o.ofHandler g).ofPn,q]
  .exact Zoy (X:=W1 X e (X.pn++Y)) w d P h Z λF o=>r _ _ #[_,J,(o.ofHandler g).ofPn,q]
 |ret u=>exact aA z λ_ _ _ _ _ z=>False.elim z
 |brk=>exact L0 z λ_ _ _ z=>False.elim z
 |cont=>exact L0 z λ_ _ _ z=>False.elim z
def DM(w:W.exmOne X.K (.ref C) (.ref B)=some true)(i:X.stack=X.env::X.outer)(m:X.env.frame=some X.env.locals)(hg:Gl X x)(U:X.mg x=some (.ref B))
(r:X.N.Nodup)(d:X.N[j]?=some n)(Z:X.env.scope.names.lookup n=some .local\/(X.env.scope.names.lookup n=some .cell/\X.fn n=true))
(p:∀H1 g,PSs (Kx X (EHc C th H1 X.N.length j) g) body<|tb H1)(k:∀e g,PSs (W1 X e g) (b0::suite)<|th e)(o:(x==("__debug__" : Str))=false:=by decide):
 PS X (.Try body (.ExceptHandler (some<|.Name x np) (some n) (b0::suite) hpos::rest) [] [] pos) (Uy tb):=by
 intro Y s O H H1 I h;have E:Qt (Kx X (EHc C th H1 X.N.length j)<|X.pn++Y) [] O H s:=I.toPn.wish _;refine wpAny_Try_except (wpAny_mono (p H1 _ [] s O H H1 E h) (λA M q=>?_) λv M q=>?_)
 .have c:=SP.ofPn q;cases A with
  |next=>exact wpAny_execs_nil c
  |ret u=>exact c
  |brk=>exact c
  |cont=>exact c
 .apply L1 q;rintro f D t K⟨e,rfl,⟨G,y,l,hT⟩,P⟩;exact Zpy w I.ok i m hg U r d Z k K y l hT o (λT a b=>P f _ T K.len .nil a b) λA F z=>z
end
end L2
namespace L2
def Nc(g:CXT)(X:Cx)(c:St->XK):Prop := ∀(Y:Qc) (O:St) (H:Hp) (s:Shared) (e:Value) (f:Shared),Qt X Y O H s->g X.stack H s (c O) e f->X.xe e f
def XWp(X:Cx)(f:St->XK)(pn:Qc)(v:Value)(s:Shared):Prop := ∃(O:St) (H:Hp) (c:Qj),Qt { X with pn:=pn } [] O H s/\f O v c H
abbrev PL(X:Cx)(Eσ:St->XK)(pn:Qc):Cx:={ X with pn:=pn,xe:=XWp X Eσ pn }
def ZqG : Nc (CX1 X.prog X.w) (PL X Eσ pn) Eσ:=by
 intro Y O H s v m I h;apply aW h;intro i J q c j f A;obtain⟨C,g,d,t,n⟩:=m;obtain rfl:=q;exact#[O,J,i,((I.call (d':=d) (t':=t) j f c (by rintro b ⟨⟩)).unwish).pins_of (λp y=>by cases y),A]
end L2
namespace L2
section
variable {d:PyData}
def QF.freezeO(hz:∀{p:Qg},Φ.ok K F H v p->Rep (frF F H p) v d)(s:QF K U F Z O H)(e:zg Z i<|zo v Φ):
 ∃p,(∀a∈p,F a=none/\H a≠none/\U a=none)/\QF K U (frF F H p) (Z.set i<|zf d) O H:=
 s.frz e λu p c=>by
  obtain⟨rfl,c⟩:=c;exact#[rfl,hz c]
end
end L2
section
set_option maxHeartbeats 400000
namespace L2
def Pp(X:Cx):List V->Hp->VK->Prop:=λxs H Q=>X.calm=true/\∃(x:V) (c:Ql) (M:Int),xs=[x]/\Rep H x (.list<|c.map PyData.int)/\M∈c/\(∀a∈c,a<=M)/\Q (.int M) H
def IG:ZF X (.builtin "max") (Pp X):=by
 intro Y s O H xs S Q I r h;apply ai h;rintro F x f M rfl o P g q;obtain⟨u,rfl,Z⟩:=VQ r;cases o with
 |@lst l ys _ G d=>
  cases Z;have N:=BZ d;subst N;apply L3 (I.list (SqL.of G));intro c a p hz;have B:=p.isList;have K:=DR a;have U:=K.length;have hpos:0<f.length:=M3.mpr λz=>by rw[z]at P;cases P
  have m:l<s.heap.objs.size:=by exact At B λ_ e _=>Xk e
  refine call_max_walk (wpAny_pyIter_list B (#[s.heap.objs.size,[s.heap.objs.size,l],[s.heap.objs.size],c.toArray.size,_,_,_,rfl,Walks.list (A:=X.A.in1) (I.ok.hd F) _ l (Xp m) c.toArray,
   #[#[_,Xn _ rfl,rfl,rfl],B.push _],λb n=>?_,by simp only[Xu];lia,CmpOf.ints_gt (λi=>f.getD i 0) (λi v y=>Uf K<|by simpa using y),λv h' T y D=>?_]))
  .rw[Yt];rcases Xd.mp n with rfl|n
   .exact J9 _
   .rcases Xd.mp n with rfl|n
    .exact JA m
    .cases n
  .rw[List.getElem?_toArray]at y;obtain⟨t,rfl⟩:=Uf K y;obtain⟨J,W⟩:=argBest_gt (λi=>f.getD i 0) (c.toArray.size-1);have w:c.toArray.size=c.length:=by simp
   generalize argBest _ (c.toArray.size-1)=k at J W ⊢;have C:k<f.length:=#[]
   have R:f.getD k 0=M:=by
    have L:f.getD k 0∈f:=by simp[C]
    have h2:=g _ L;obtain⟨j,E,e⟩:=US.mp P;have h3:=W j #[];have h4:f.getD j 0=M:=by simp[E,e]
    lia
   exact#[.int M,H,I.kept<|Dm D,#[t,by rw[R]],q]
def IR{ns:Ql}{M:Int}(h:Qr K ta Z (.list<|ns.map PyData.int))(i:X.calm=true)(j:M∈ns)(g:∀a∈ns,a<=M):Qr K (tCB (Pp X)<|Q4 ta QL) Z (.int M):=λU F O H Q S q=>
 h U F O H _ S λm D v c f=>#[i,v,ns,M,rfl,f.mono c.fh,j,g,q m D _ c<|.int _]
def Pm(g:ZbI->Prop)(h:QJ K t Z { nx:=g,ct:=H1.ct,bk:=H1.bk,rt:=H1.rt })(k:∀c,g c->H1.nx c):QJ K t Z H1:=λF0 U F O H m x S C=>
 h F0 U F O H m x S #[λq f J c i n j=>C.nx q f J c i n<|k c j,C.rt,C.bk,C.ct]
end L2
end
namespace L2
def olP(ds:Qd):OwnP where
 ok K F H v p := ∃a,v=.ref a/\p=[a]/\Yu F H a ds
 there:=by
  rintro K F H v p ⟨a,rfl,rfl,L,xs,g,_⟩ c f;cases Xj.mp f;exact#[L,Z8 g]
 mono:=by
  rintro K F n H J v p s i h ⟨a,rfl,rfl,L,xs,g,j⟩;exact#[a,rfl,rfl,i _<|by simp,xs,by rw[h _<|by simp];exact g,j.mono s]
 uniq:=by
  rintro K F H v p q ⟨a,rfl,rfl,_⟩ ⟨m,e,rfl,_⟩ c f;cases e;exact f
def EvW(K:W.Frag)(t:TE)(Z:ZbI)(i:Nat)(Θ:Int->OT->Prop):Prop := ∀(F0 U F:Hp) (O:St) (H:Hp) (Q:VK),Q3 F0 U F H->QF K U F Z O H->
 (∀c J n o,Θ n o->Q3 F0 U c J->Q6 F c->QF K U c (Z.set i<|some o) O J->Q (.int n) J)->t O H Q
section
variable {tb:TE}{t:TA}{v:V}
def olP.frz(c:(olP ds).ok K F H v p):Rep (frF F H p) v (.list ds):=by
 apply aY c;rintro a rfl rfl L xs i h;exact .lst (by rw[WM<|by simp];exact i) (h.mono (Wz λa g=>((olP ds).there c a g).1))
def Fe(i:Nat)(e:zg Z i<|zo v<|olP ds)(g:Vf d=some u)(h:Qr K te (Z.set i<|zf<|.list ds) d):Qr K te Z d:=λU F O H Q S q=>by
 exact At (S.freezeO olP.frz e) λp c j=>h U _ O H Q j λm J v x r=>q _ J v (Ul (λa f=>#[(c a f).1,(c a f).2.1]) x) (r.thin g)
def NS(e:zg Z i<|zo v<|olP ds)(h:Qr K te Z d)(W:Qr K tb Z (.int k))(P:ixN ds.length k=some j)(hn:H1.nx (Z.set i<|zo v<|olP<|ds.set j d)):
 QJ K (ZN te<|Hx (Q8 i) tb Gr) Z H1:=λF0 U F O H L x S C=>
 h U F O H _ S λl D u f B=>by
  apply aX ((S.ext f).writeOwn e);rintro Y p⟨a,rfl,rfl,I,xs,G,E⟩J _;refine#[_,Y,W U l O D _ (S.ext f) λb Q y g A=>?_];cases A;apply aX ((S.ext<|f.trans g).writeOwn e);rintro _ r⟨N,X,rfl,o,ys,M,s⟩n w;cases X;exact KE (n a Xb) λt m _=>#[a,ys,k,j,rfl,rfl,M,by rw[s.length];exact P,C.nx b O _ _ ((x.trans<|f.trans g).wr t m) (w _ (olP _) [a] ((S.ext<|f.trans g).sub.upd m) (λc q _=>Qv λz=>q<|by exact z▸Xb) YH #[a,rfl,rfl,m,_,QI,s.set (B.mono g.ff) j] λc q=>.inl q) hn]
def Oy{c:Type}{Φ:c->OwnP}{N:c}{R:c->List OT->(OT->c->Prop)->Prop}{Ψ:OT->c->Prop}(e:zg Z i<|zo v<|Φ N)(b:Zm K t Z ts)(a:R N ts Ψ)(hn:∀r g,Ψ r g->∃n,r=.fz (.int n)/\Θ n (.own v<|Φ g)):
 EvW K (ZO (spP K Φ R) [] E'<|Q4 (Q8 i) t) Z i Θ:=λF0 U F O H Q x S q=>by
 refine At (Y4 S x e) λz s0 _=>#[_,s0,b U F O H _ S λl D M f W=>L3 (Y4 (S.ext f) (x.trans f) e) λp u m A=>#[l,v,M++[],p,ts,N,Ψ,rfl,(S.ext f).kt,f.fh,by rw[Xr];exact W,m,a,λC J X g o r w Y B s h j E=>?_]];apply At (hn r g Y);rintro n rfl y;apply KE (A C J X g B s h);intro d k _;obtain⟨_,P⟩:=j;cases P;exact q C J n _ y d (f.ff.trans B.ff) k
def B6{s:TE->TS}(hw:EvW K te Z i Θ)(hs:∀(U F:Hp) (O:St) (H:Hp) (f:Ends),QF K U F Z O H->(∀Q:VK,(∀n D,s (tC<|.int n) f O D->Q (.int n) D)->te O H Q)->s te f O H)
(hn:∀n o,Θ n o->QJ K (s<|tC<|.int n) (Z.set i<|some o) H1):QJ K (s te) Z H1:=λF0 U F O H f x S c=>
 hs U F O H f S λQ j=>hw F0 U F O H Q x S λq J n o g h _ m=>j n J (hn n o g F0 U q O J f h m c)
def FM(A:Qr K ta Z (.list ds))(hw:EvW K te Z i Θ)(hn:∀n o,Θ n o->∃d,atI ds n=some d/\H1.nx ((Z.set i<|some o).set j (zf d))):QJ K (ZN (tOp (rIx K) ta te)<|Vs j) Z H1:=λF0 U F O H M x S c=>
 A U F O H _ S λB D u h y=>hw F0 U B O D _ (x.trans h) (S.ext h) λC J n o f v m q=>by
  apply At (hn n o f);intro d e g;cases y with
  |@lst a xs _ k1 k2=>
   exact At (GB (k2.mono m) e) λz t s=>.inl #[a,xs,n,z,rfl,rfl,SqL.of<|q.sub _ _<|m _ _ k1,t,c.nx C _ J _ v (q.setF s) g]
end
section
variable {w:World}{base:Heap}
noncomputable def Df.evP{i:Type}{Φ:i->OwnP}{x:Str}{st:Stmt}{B:Qh}{k:Nat}{R:i->List OT->(OT->i->Prop)->Prop}(H1:Df K mg x st ps)(S:Qo B ps (QD st))
(c:∀f v M ts Ψ,R M ts Ψ->∀H g,B0 P w K mg base B x st k f H g λt=>EvR K t (ini B (.own v (Φ M)::ts))<|fiO v Φ Ψ)(m:∀M ts Ψ,R M ts Ψ->ts.length+1=ps.length:=by intro _ _ _ h;cases h<;>rfl):Q2 P w K mg base x ps (k+1) (spP K Φ R):=by
 refine H1.go λf fd F=>F.ok S (λW H Q g h=>?_) λW H Q g h C A outer s a=>?_
 .obtain⟨F,U,j,p,ts,M,Ψ,e,_,_,n,_,y,_⟩:=h;rw[e,X4,n.length];exact m _ _ _ y
 .obtain⟨F,U,j,p,ts,M,Ψ,rfl,Z,X,n,Y,y,q⟩:=h;exact At (c f U M ts Ψ y H g C A outer s a) λt L b=>#[t,L,D4 (R:=R) b Z X n Y q]
end
def Pv(X:Cx):List V->Hp->VK->Prop:=λxs H Q=>X.calm=true/\∃(x:V) (c:Ql) (M:Int),xs=[x]/\Rep H x (.tuple<|c.map PyData.int)/\M∈c/\(∀a∈c,a<=M)/\Q (.int M) H
def O3:ZF X (.builtin "max") (Pv X):=by
 intro Y s O H xs R Q I r h;apply ai h;rintro E x f M rfl o P g q;obtain⟨u,rfl,Z⟩:=VQ r;cases o with
 |@tup l ys _ F d=>
  cases Z;have J:=BZ d;subst J;apply L3 (I.tuple (SqT.of F));intro c a B T;have K:=DR a;have U:=K.length;have hpos:0<f.length:=M3.mpr λz=>by rw[z]at P;cases P
  have m:l<s.heap.objs.size:=by exact At B λ_ e _=>Xk e
  refine call_max_walk (wpAny_pyIter_tuple B (#[s.heap.objs.size,[s.heap.objs.size,l],[s.heap.objs.size],c.toArray.size,_,_,_,rfl,Walks.tuple (A:=X.A.in1) (I.ok.hd E) _ l (Xp m) c.toArray,
   #[#[_,Xn _ rfl,rfl,rfl],B.push _],λb n=>?_,by simp only[Xu];lia,CmpOf.ints_gt (λi=>f.getD i 0) (λi v y=>Uf K<|by simpa using y),λv h' S y w=>?_]))
  .rw[Yt];rcases Xd.mp n with rfl|n
   .exact J9 _
   .rcases Xd.mp n with rfl|n
    .exact JA m
    .cases n
  .rw[List.getElem?_toArray]at y;obtain⟨t,rfl⟩:=Uf K y;obtain⟨G,W⟩:=argBest_gt (λi=>f.getD i 0) (c.toArray.size-1);have p:c.toArray.size=c.length:=by simp
   generalize argBest _ (c.toArray.size-1)=k at G W ⊢;have C:k<f.length:=#[]
   have N:f.getD k 0=M:=by
    have L:f.getD k 0∈f:=by simp[C]
    have h2:=g _ L;obtain⟨j,D,e⟩:=US.mp P;have h3:=W j #[];have h4:f.getD j 0=M:=by simp[D,e]
    lia
   exact#[.int M,H,I.kept<|Dm w,#[t,by rw[N]],q]
def EZ{ns:Ql}{M:Int}(h:Qr K ta Z (.tuple<|ns.map PyData.int))(i:X.calm=true)(j:M∈ns)(g:∀a∈ns,a<=M):Qr K (tCB (Pv X)<|Q4 ta QL) Z (.int M):=λU F O H Q S q=>
 h U F O H _ S λm D v c f=>#[i,v,ns,M,rfl,f.mono c.fh,j,g,q m D _ c<|.int _]
end L2
namespace L2
def Zja:entryFor table "proto.unchain"=some Builtin.«proto.unchain» := entryFor_of_tree (by kernel_rfl)
section
variable {w:World}{dx:Qb}
def ZoA{x left step:Int}{h:Obj}{vs:Array Value}{Q:Qf->Shared->Prop}(B:A.handled=some (.ref e))(c:IsRangeIter s.heap it x left step)(f:left<=0)(he:s.heap.get? e=some h)(K:h.data=.fields vs)(P:vs[2]?=some .none)
(M:∀h',Heap.ExtBut it s.heap h'->Q none { s with heap:=h' }):wpAny (model prog w) A (pyNext<|.ref it) Q dx s:=by
 refine Xa (wpAny_attempt (wpAny_callSpecial?_slot (#[_,c,rfl]) F.slot_range_iterator_next
  (wpAny_call_entry F.slot_range_iterator_next (#[_,c,rfl]) F.entry_range_iterator_next ?_<|F.args_range_iterator_next_1 _)))
 show wpAny _ _ (field _ 0 >>= _) _ _ s;refine Xa (VX c rfl (x:=rawInt x) rfl (Xa (VX c rfl (x:=rawInt left) rfl (Xa (VX c rfl (x:=rawInt step) rfl ?_)))));show wpAny _ _ (if left<=0 then _ else _) _ _ s;rw[Xh f];refine Xa (wpAny_rule (Xa<|Xa<|Xa (m:=firstArgMember _ _) (wpAny_of_eq (a:=Value.none) rfl (wpAny_newObj_type (Xa (wpAny_handled ?_)) (by size_fits)))))
 first|rw[show A.in1.handled=some _ from B]|rw[B]
 have i:(Value.ref e != Value.ref (s.heap.push { cls:=Value.type "tuple",data:=Data.seq (List.toArray []) }).objs.size)=true:=by
  rw[Yt _ _,bne_iff_ne];intro z;injection z with z;exact Xp (JA (Xk he)) z
 show wpAny _ _ (if _=true then _ else _) _ _ _;rw[Xh i];refine Xa (wpAny_holding<|wpAny_runValue<|codeAny_builtin Zja (Xa (VX (Xc _ (Xc _ he)) K P (Xl<|Xa<|Xa (wpAny_load (Xn _ rfl) (wpAny_update (Xn _ rfl) (wpAny_throw (Xa (wpAny_isInstance #[_,X9 _ (Xn _ rfl) rfl,rfl] isSubtype_stop (Xl (M _ λb o U C=>?_)))))))))))
 rw[XV _ _ (λz=>by
  have:=Xk C;rw[Yt _ _]at z;exact Xt this<|by rw[<- z];exact Nat.not_lt.mpr<|UT _)]
 exact (Xc { cls:=Value.type "StopIteration",data:=Data.fields ((List.toArray [Value.ref s.heap.objs.size,Value.none,Value.none,Value.none,Value.bool false,Value.none])++ownMembersOf (Value.type "StopIteration") []) } (Xc { cls:=Value.type "tuple",data:=Data.seq (List.toArray []) } C))
end
def HI(C e:Addr)(lo:Int)(n:Nat):It where
 go:=(Itr lo n).go
 stop:=λi H=>(Itr lo n).stop i H/\∃dct T,H e=some (.ext<|phF C e dct T)
 yld:=(Itr lo n).yld
theorem ZlK(hh:X.A.handled=some (.ref e))(it:Addr)(lo:Int)(n:Nat):TurnX X tg (HI C e lo n) [it] it (λi h=>IsRangeIter h it (lo+(i:Nat)*1) ((n:Int)-(i:Nat)) 1) where
 mem:=by simp
 obj:=λi h c b f=>by
  simp_all
 keep:=λi h h' c k=>k it (by simp) _ c
 item:=by
  intro w a U d M _ i Y s O H v I m c hg;apply aG (m it (by simp));intro f0 K p B A y;have W:i<n:=hg;refine wpAny_pyNext_range_item c #[] λh' j q=>?_;have u:lo+((i+1:Nat))*1=lo+(i)*1+1:=by push_cast;lia
  have t:(n:Int)-((i+1:Nat))=(n)-(i)-1:=by push_cast;lia
  have g:IsRangeIter h' it (lo+((i+1:Nat))*1) ((n)-((i+1:Nat))) 1:=by rw[u,t];exact j
  refine#[_,rfl,Gx g rfl rfl (by decide) #[.int<|lo+i,H,I.turned (λb o f e=>(q.2 b f).trans e) f0 K B A y,?_,#[rfl,rfl],g,λb f=>(m b f).1]];have z:lo+(i)=lo+(i)*1:=#[]
  rw[z];exact#[_,rfl]
 done:=by
  intro w a U d M _ i Y s O H v I m c hg;apply aG (m it (by simp));intro f0 K p B A y;obtain⟨hg,dct,T,Z⟩:=hg;apply KE (I.hok e _ Z);rintro⟨x,D,P,L,l⟩_ _;exact ZoA (by exact M▸hh) c (by have:n<=i:=hg;lia) P rfl l λh' r=>#[rfl,I.turned (λb o f e=>r b o f e) f0 K B A y]
 self:=λ_ _ _ _ _ c h=>wpAny_pyIter_rangeiter c h
def Bi(C e:Addr)(ta:TA):TI:=λO H R=>ta O H λc D=>∃j:Int,c=[.int j] /\ -(2^62)<=j/\j<2^62/\R (HI C e 0 j.toNat) D
def ZqK{e:Addr}{O:St}{H:Hp}{R:It->Hp->Prop}{A:Qb}{lo c:Int}{t u v:Tok}{g:Nat}(h:X.A.handled=some (.ref e))(I:Qt X Y O H s)(L : -(2^62)<=lo)(m:lo<2^62)(h3 : -(2^62)<=c)(j:c<2^62)
(q:R (HI C e lo (c-lo).toNat) H):wpAny (model X.prog X.w) X.A (pyIter<|.ref s.heap.objs.size) (Pb X Y O tg R) A { s with heap:=s.heap.push { cls:=.type "range",data:=.fields (List.toArray [.int lo t,.int c u,.int 1 v]) },toks:=g }:=by
 refine wpAny_pyIter_range (IsRange.new ..) (small_one L m h3 j) ?_;have f:Qt X Y O H { s with heap:=s.heap.push { cls:=.type "range",data:=.fields (List.toArray [.int lo t,.int c u,.int 1 v]) },toks:=g }:=I.kept λb o e=>Xc _ e
 refine#[(s.heap.push { cls:=.type "range",data:=.fields (List.toArray [.int lo t,.int c u,.int 1 v]) }).objs.size,[(s.heap.push { cls:=.type "range",data:=.fields (List.toArray [.int lo t,.int c u,.int 1 v]) }).objs.size],_,_,H,rfl,
  f.kept λb o e=>Xc _ e,ZlK h _ lo (c-lo).toNat,?_,λb i=>?_,q]
 .have y:lo+((0:Nat))*1=lo:=by simp
  have n:(((c-lo).toNat))-((0:Nat))=Builtin.Range.rangeSize lo c 1:=by rw[rangeSize_one];split<;>lia
  rw[y,n];exact Xn _ rfl
 .have e:b=(s.heap.push { cls:=.type "range",data:=.fields (List.toArray [.int lo t,.int c u,.int 1 v]) }).objs.size:=by simpa using i
  subst e;exact f.fpOk (Xm _) (f.hok.fresh<|Xm _)
def Ch  {ta:TA}(n:X.A.handled=some (.ref e))(hg:Gl X "range")(m:X.mg "range"=none)(y:PA X [a] ta)(hs:starEach [a] X.env=[(false,eval a X.env)]:=by rfl):PIH X tg (.Call (.Name "range" p) [a] [] pos) (Bi C e ta):=by
 refine λY s O H R I h=>Call_ (WN I hg m boot_range<|PyProof.Rows.callWith_type1 (Q9 (y pos Y s O H _ I h) ?_) hs rfl);rintro K M ⟨B,D,A,g,c⟩;obtain⟨j,rfl,c,i,q⟩:=c;cases g with
 |cons r f=>
  cases f;obtain⟨t,rfl⟩:=r;exact call_range_1 (ZqK n A #[] #[] c i<|by simpa using q)
section
variable {e:Addr}
def QF.freezeZX{Ψ:ZP}(s:QF K U F Z O H)(e:zg Z i<|zo v Φ)
(hz:∀{F f H:Hp} {p:Qg},Φ.ok K F H v p->Q6 F f->(∀b∈p,f b=H b)->Ψ.ok K f v):
 ∃p,(∀a∈p,F a=none/\H a≠none/\U a=none)/\QF K U (frF F H p) (Z.set i<|zz Ψ) O H:=
 s.frz e λu p c=>by
  obtain⟨rfl,c⟩:=c;exact#[rfl,hz c (Wz λa h=>(Φ.there c a h).1) λb g=>WM g]
end
end L2
namespace L2
def Z0f:TE:=λ_ _ _=>False
def Ko : PE X e Z0f:=λ_ _ _ _ _ _ h=>h.elim
section
variable {k:Nat}{r:R2}{Ψ:OT->ZbI->Prop}
def EF{s:TE->TS}(hw:EvW K te Z i Θ)(hs:∀(U F:Hp) (O:St) (H:Hp) (f:Ends),QF K U F Z O H->(∀Q:VK,(∀n D,s (tC<|.int n) f O D->Q (.int n) D)->te O H Q)->s te f O H)
(hn:∀n o,Θ n o->EvR K (s<|tC<|.int n) (Z.set i<|some o) Ψ):EvR K (s te) Z Ψ:=λF0 U F O H f x S c=>
 hs U F O H f S λQ j=>hw F0 U F O H Q x S λm J n o g h _ k=>j n J (hn n o g F0 U m O J f h k c)
def D6(hw:EvW K te Z i Θ)(hn:∀n o,Θ n o->H1.nx ((Z.set i<|some o).set j (zi n))):QJ K (ZN te<|Vs j) Z H1:=
 B6 (s:=λx=>ZN x _) hw (λ_ _ _ _ _ _ h=>h _ λ_ _ q=>q) λn o h=>Z6 Q0 (hn n o h)
def LY(hw:EvW K te Z i Θ)(hn:∀n o,Θ n o->QJ K (ZN (tOp r (tC c)<|tC<|.int n)<|Vs j) (Z.set i<|some o) H1):QJ K (ZN (tOp r (tC c) te)<|Vs j) Z H1:=
 B6 (s:=λx=>ZN _ _) hw (λ_ _ _ _ _ _ h=>h _ λ_ _ q=>q) hn
def Fl(A:zg Z k<|zf d)(hw:EvW K te Z i Θ)(hn:∀n o,Θ n o->QJ K (ZN (tOp r (Q8 k)<|tC<|.int n)<|Vs j) (Z.set i<|some o) H1):QJ K (ZN (tOp r (Q8 k) te)<|Vs j) Z H1:=
 B6 (s:=λx=>ZN _ _) hw (λU F O H C S h=>by
  exact At S.fp λB g _=>At (g k _ A) λy f _=>#[y,f,h _<|by rintro n D ⟨m,c,q⟩;rw[f]at c;cases c;exact q]) hn
def ET{g:TG}{b:TS}(hw:EvW K te Z i Θ)(hn:∀n o,Θ n o->QJ K (Gi (Bo<|Q4 (tOp r (tC c)<|tC<|.int n) QL) g b) (Z.set i<|some o) H1):QJ K (Gi (Bo<|Q4 (tOp r (tC c) te) QL) g b) Z H1:=
 B6 (s:=λx=>Gi (Bo<|Q4 _ QL) g b) hw (λ_ _ _ _ _ _ h=>h _ λ_ _ q=>q) hn
def EU{b:Nat}(M:Z[b]?=some (some<|.ol ds))(C:zg Z k<|zf d)(hw:EvW K te Z i Θ)
(hn:∀n o,Θ n o->QJ K (V2<|tBM K "list" Yr (Q8 b)<|Q4 (tOp r (Q8 k)<|tCB r2<|Q4 (tOp r3 (tC<|.int n)<|tC c) QL) QL) (Z.set i<|some o) H1):
 QJ K (V2<|tBM K "list" Yr (Q8 b)<|Q4 (tOp r (Q8 k)<|tCB r2<|Q4 (tOp r3 te<|tC c) QL) QL) Z H1:=
 B6 (s:=λx=>V2<|tBM K "list" Yr _<|Q4 (tOp r _<|tCB r2<|Q4 (tOp r3 x _) QL) QL) hw (λU F O H Y S h=>by
  refine At S.fp λX g _=>At (g k _ C) λA y _=>?_;apply aZ (g b _ M);rintro u m a rfl _ _ xs B _;refine#[.ref a,m,.inl #[rfl,_,SqL.of B],A,y,h _ λn D ⟨W,j,_,P,f,q⟩=>?_];rw[m]at j;cases j;rw[y]at f;cases f;exact q) hn
def O4(e1:zg Z a1<|zf d1)(X:zg Z a2<|zf d2)(W:zg Z a3<|zf d3)(P:zg Z a4<|zf d4)(hw:EvW K te Z i Θ)
(hn:∀n o,Θ n o->EvR K (VN<|UW<|Q4 (Q8 a1)<|Q4 (Q8 a2)<|Q4 (Q8 a3)<|Q4 (Q8 a4)<|Q4 (tOp r (tC c)<|tC<|.int n) QL) (Z.set i<|some o) Ψ):
 EvR K (VN<|UW<|Q4 (Q8 a1)<|Q4 (Q8 a2)<|Q4 (Q8 a3)<|Q4 (Q8 a4)<|Q4 (tOp r (tC c) te) QL) Z Ψ:=
 EF (s:=λx=>VN<|UW<|Q4 _<|Q4 _<|Q4 _<|Q4 _<|Q4 _ QL) hw (λU F O H l S h=>by
  refine At S.fp λe g _=>At (g a1 _ e1) λM y _=>At (g a2 _ X) λC m _=>At (g a3 _ W) λB k _=>At (g a4 _ P) λA j _=>#[M,y,C,m,B,k,A,j,h _ λn D ⟨d,k1,b,k2,a,k3,Y,f,q⟩=>?_];rw[y]at k1;cases k1;rw[m]at k2;cases k2;rw[k]at k3;cases k3;rw[j]at f;cases f;exact q) hn
end
end L2
namespace L2
section
variable {w:World}{dx:Qb}
theorem FF{it t:Addr}{c:Array Value}(g:t≠it):∀(n i:Nat) (s:Shared) (Q:Qe->Shared->Prop),s.heap.IsListIter it t i->s.heap.IsList t c->i+n<=c.size->
 (∀h',h'.IsListIter it t (i+n)->Heap.SameBut it s.heap h'->Q ((c.toList.drop i).take n) { s with heap:=h' })->wpAny (model prog w) A (draw (.ref it) n) Q dx s
 |0,i,s,Q,f,_,_,j=>Xl (by simpa using j s.heap f<|Heap.SameBut.refl ..)
 |n+1,i,s,Q,f,m,y,j=>by
  have h:i<c.size:=#[]
  refine Xa (wpAny_pyNext_list_item f m (x:=c[i]) (by simp) λU C q=>?_);refine Xa (wpAny_holding<|FF g n _ _ _ C (m.extBut q.extBut g) #[] λK P B=>Xl ?_);have M:c.toList.drop i=c[i]::c.toList.drop (i+1):=by simp[List.drop_eq_getElem_cons,h]
  have:=j K #[] (q.trans B);simp_all
def Zm9(m:A.handled=none)(c:s.heap.IsList t items)
(n:∀h',Heap.ExtBut s.heap.objs.size s.heap h'->Q items.toList { s with heap:=h' }):wpAny (model prog w) A (unpackItems (.ref t) items.size none) Q dx s:=by
 have f:t≠s.heap.objs.size:=by exact At c λo j _=>Xp (Xk j)
 refine Xa ?_
 .refine Xa (wpAny_specialOf c.typeIs F.slot_list_iter.lookup (Xl<|Xa (wpAny_holding<|wpAny_pyIter_list c (Xa (wpAny_holding<|FF f items.size 0 _ _ #[_,Xn _ rfl,rfl,rfl] (c.push _) #[] λK y i=>?_)))));rw[List.take_of_length_le (by simp)];rw[Xe<|by simp];refine Xa (wpAny_holding<|wpAny_pyNext_list_end m y ((c.push _).extBut i.extBut f) (by simp) λC B=>Xl (n C λb o h e=>B b o h<|i.extBut b o h<|Xc _ e))
def Zmo{x1}(g:A.handled=none)(f:s.heap.IsList t items)
(hn:(assignEach elts env).length=items.size)(c:(assignEach elts env).findIdx? (·.1)=none)
(h:∀h',Heap.ExtBut s.heap.objs.size s.heap h'->wpAny (model prog w) A (assignInOrder ((assignEach elts env).map (·.2)) items.toList) Q dx { s with heap:=h' }):
 wpAny (model prog w) A (assign (.Tuple elts x1 pos) env<|.ref t) Q dx s:=by
 refine Xa (wpAny_standAt ?_);unfold unpack;rw[hn,c];exact Xa (wpAny_holding<|Zm9 g f h)
end
def SV(K:W.Frag)(n:Nat)(t:TGs):TG:=λv O H Q=>∃a xs,v=.ref a/\SqL K H a xs/\xs.length=n/\t xs O H Q
def Ek{k:Nat}(A:X.calm=true)(h:PGs X es t)
(hn:(assignEach es X.env).length=n:=by rfl)(f:(assignEach es X.env).findIdx? (·.1)=none:=by rfl):PG X (.Tuple es k pos) (SV X.K n t):=by
 intro Y s O H v u Q I r c;obtain⟨a,xs,rfl,q,y,c⟩:=c;cases r;exact L3 (I.list q) λi g m K=>Zmo (I.ok.hd A) m.isList (by simp[hn,<- y,g.length]) f λh' j=>h Y _ O H xs _ Q (I.kept (t':=s.toks) λb o e=>j b o (Xp<|Xk e) e) (by simpa using g) c
def A1(h:Bd K gs ds Z ρ1)(hn:ds.length=n):GTo K (SV K n gs) (.list ds) Z ρ1:=λU F O H x Q S r q=>by
 cases r with
 |@lst a xs _ L c=>exact#[a,xs,rfl,SqL.of<|S.sub _ _ L,by rw[c.length,hn],h U F O H xs Q S c q]
end L2
namespace L2
def CI(h:Zt K ta Z Φ1)(x:Zm K t Z ts)(s:∀r,Φ1 r->∃ds Ψ,r=.ol ds/\R ds ts Ψ/\∀r y,Ψ r y->Φ r):
 Zt K (ZO (spP K olP R) [] E'<|Q4 ta t) Z Φ:=λU F O H Q S q=>
 h U F O H _ S λI D u p W n A v e=>by
  apply aF (s W n);rintro ds Ψ rfl s w;refine x U I O D _ (S.ext A) λG H2 B i P=>?_;apply L3 (e.ext i);rintro a rfl rfl Y;have c:=A.trans i;have T:=v a Xb;refine#[G,.ref a,B++[],[a],ts,ds,Ψ,rfl,(S.ext c).kt,i.fh,by rw[Xr];exact P,#[a,rfl,rfl,Y],s,λL J N E C r X k g d M j l=>q L J C X r (w r E k) #[λb o f=>?_,c.ff.trans g.ff,g.fh,λb f=>?_] (λb f=>?_) j]
  .refine g.hh b o (λz=>?_) (c.hh b o f)
   grind
  .rcases g.fr b f with z|z|z
   .exact c.fr b z
   .exact .inr (c.hh.free z)
   .grind
  .rcases(l b f).1 with z|z
   .grind
   .exact c.hh.free z
end L2
namespace L2
section
variable {w:World}{base:Heap}
def Mf.evP{g:Type}{Φ:g->OwnP}{st:Stmt}{X:Qh}{k:Nat}{R:g->List OT->(OT->g->Prop)->Prop}(H1:Mf K C m qual st ps)(S:Qo X ps (QD st))(B:∀M ts Ψ,R M ts Ψ->ts.length+1=ps.length)
(i:∀(f:Addr) (c:Value) (A:Around) (outer:List Env) (s:Shared) (H:Hp) (j:XK) (v:V) (M:g) (ts:List OT) (Ψ:OT->g->Prop),Room k (A.deeper<|envOfC qual (QD st) s.heap.objs.size f c)->R M ts Ψ->
  ∃t,PSs (Jg CX0 P w K mg base X qual (QD st) f c A outer s H j).nox (VU st) t/\EvR K t (zr X<|(.own v<|Φ M)::ts) (λr n=>∃Z,Ψ r Z/\n[0]?=some (zo v<|Φ Z))):ZC P w K mg base C m ps (k+1) (spP K Φ R):=by
 refine aF H1.ex λf fd F u x=>#[f,fd,u,x,F.ok S (λa H Q j h=>?_) λa H Q j h c A outer s o=>?_]
 .obtain⟨F,Y,y,p,ts,M,Ψ,e,_,_,U,_,W,_⟩:=h;rw[e,X4,U.length];exact B _ _ _ W
 .obtain⟨F,Y,y,p,ts,M,Ψ,rfl,l,b,U,d,W,q⟩:=h;exact At (i f c A outer s H j Y M ts Ψ o W) λt L z=>#[t,L,D4 (R:=R) z l b U d q]
end
end L2
namespace L2
def Yf:bootBuiltins "str"=some (.type "str"):=by decide +kernel
def Bu:List V->Hp->VK->Prop:=λxs H Q=>(∃i:Int,xs=[.int i]/\i.natAbs.log2<1920/\Q (.str<|toString i) H)\/(∃x,xs=[.str x]/\Q (.str x) H)\/(xs=[.non]/\Q (.str "None") H)
def YF:ZF X (.type "str") Bu:=by
 intro Y s O H xs g Q I r h;rcases h with ⟨i,rfl,f,q⟩|⟨x,rfl,q⟩|⟨rfl,q⟩
 .apply aM (VQ r);rintro u rfl t rfl;exact PySem.P.str_of_int f #[.str _,H,I.tok _,#[_,rfl],q]
 .apply aM (VQ r);rintro u rfl t rfl;exact PySem.P.str_of_str #[.str _,H,I,#[_,rfl],q]
 .apply At (VQ r);rintro u rfl c;cases c;exact PySem.P.str_of_none #[.str _,H,I.tok _,#[_,rfl],q]
def Pj:R2:=λx y H Q=>∃i j,x=.str i/\y=.str j/\i.length+j.length<=sizeLine/\Q (.str<|i++j) H
def Ub:OpR X (binaryOp .Add) Pj:=Zou
def Pt:V->List V->Hp->VK->Prop:=λx c H Q=>∃(z:Str) (b:Addr) (ys:Qh),x=.str z/\c=[.ref b]/\H b=some (.lst<|ys.map V.str)/\(ys.map (·.length)).sum+ys.length*z.length<=16777216/\Q (.str<|Str.join z ys) H
theorem FR:∀{ys:Qh} {us:Qe},QS (ys.map V.str) us->StrsAre us ys
 |[],_,.nil=>.nil
 |_::_,_,.cons #[_,e] r=>by subst e;exact .cons _ _ (FR r)
def BL:MtR X "str.join" Pt:=by
 intro Y s O H x xs v y Q I f g h;apply aN h;rintro z b ys rfl rfl n m q;obtain⟨t,rfl⟩:=f;apply At g.one;rintro u rfl i;cases i;refine L3 (I.list (SqL.of n)) λj c p B=>join_list p.isList (FR c) m λA k=>?_;rw[show Txt.join z ys=Str.join z ys from StrLaws.glued_eq_join z ys];exact#[.str _,H,I.tok _,#[_,rfl],q]
section
variable {tb:TE}
def YS{i:Int}(h:Qr K ta Z (.int i))(g:i.natAbs.log2<1920):Qr K (tCB Bu<|Q4 ta QL) Z (.str<|toString i):=λU F O H Q S q=>
 h U F O H _ S λj D v c f=>by cases f;exact .inl #[i,rfl,g,q j D _ c<|.str _]
def EW(h:Qr K ta Z (.str x)):Qr K (tCB Bu<|Q4 ta QL) Z (.str x):=λU F O H Q S q=>
 h U F O H _ S λg D v c f=>by cases f;exact .inr (.inl #[x,rfl,q g D _ c<|.str _])
def Ug{y:Str}(i:Qr K ta Z (.str x))(h:Qr K tb Z (.str y))(g:x.length+y.length<=sizeLine):Qr K (tOp Pj ta tb) Z (.str<|x++y):=λU F O H Q S q=>
 YC i h S λj J u v e f c=>by
  cases f;cases c;exact#[x,y,rfl,rfl,g,q j J _ e<|.str _]
theorem Ca{H:Hp}:∀{vs:List V} {l:Qh},Qx H vs (l.map PyData.str)->vs=l.map V.str
 |_,[],.nil=>rfl
 |_,i::l,.cons (.str _) t=>by rw[Xw,Ca t]
def BG{ys:Qh}(m:Qr K ta Z (.str z))(j:Qr K tb Z (.list<|ys.map PyData.str))(i:(ys.map (·.length)).sum+ys.length*z.length<=16777216):Qr K (tBM K "str" Pt ta<|Q4 tb QL) Z (.str<|Str.join z ys):=λU F O H Q S q=>
 m U F O H _ S λB D v f h=>by
  cases h;refine#[rfl,j U B O D _ (S.ext f) λA y w c g=>?_];apply aB (Jc (K:=K) g c.fh);rintro a xs rfl L s n;have e:=Ca s;subst e;exact#[z,a,ys,rfl,rfl,n,i,q A y _ (f.trans c)<|.str _]
def PR(j:QM K t Z b)(L:b=true->Qr K ta Z d)(m:b=false->Qr K tb Z d):Qr K (tIf t ta tb) Z d:=λU F O H Q S q=>
 j U F O H _ S λi D c=>by
  cases b with
  |true=>exact L rfl U i O D Q (S.ext c) λh g v f r=>q h g v (c.trans f) r
  |false=>exact m rfl U i O D Q (S.ext c) λh g v f r=>q h g v (c.trans f) r
end
end L2
namespace L2
theorem LA{c:Nat}:∀{p q r s:Qk},c∉p->c∉q->p++c::r=q++c::s->p=q/\r=s
 |[],[],r,s,_,_,h=>by simpa using h
 |[],b::q,r,s,_,f,h=>by
  simp at h f;exact Xt h.1 f.1
 |a::p,[],r,s,g,_,h=>by
  simp at h g;exact Xt h.1.symm g.1
 |a::p,b::q,r,s,g,f,h=>by
  simp only[Ur,List.cons.injEq]at h;obtain⟨rfl,h⟩:=h;obtain⟨j,i⟩:=LA (λz=>g<|Xf _ z) (λz=>f<|Xf _ z) h;exact#[by rw[j],i]
def BE(a b:Str):(a++b).cps.toList=a.cps.toList++b.cps.toList:=by rw[Str.cps_append];simp
def Lr{a b:Str}(h:a.cps.toList=b.cps.toList):a=b:=by
 cases a;cases b
 congr 1
 exact Array.toList_inj.mp h
def MI(c:Nat)(p q:Str)(r:Qh):(Str.join #[(List.toArray [c])] (p::q::r)).cps.toList=p.cps.toList++c::(Str.join #[(List.toArray [c])] (q::r)).cps.toList:=by
 show(p++_++Str.join _ _).cps.toList=_
 rw[BE,BE];simp
theorem LX{c:Nat}:∀(ps f:Qh),ps≠[]->f≠[]->(∀p∈ps,c∉p.cps.toList)->(∀p∈f,c∉p.cps.toList)->(Str.join #[(List.toArray [c])] ps).cps.toList=(Str.join #[(List.toArray [c])] f).cps.toList->ps=f
 |[],_,h,_,_,_,_=>Xt rfl h
 |_::_,[],_,h,_,_,_=>Xt rfl h
 |[p],[q],_,_,_,_,h=>by rw[Lr (a:=p) (b:=q) h]
 |[p],q::m::f,_,_,i,_,h=>by
  rw[MI]at h;have h':p.cps.toList=q.cps.toList++c::(Str.join _ (m::f)).cps.toList:=h;exact Xt (by rw[h'];simp) (i p Xb)
 |p::n::ps,[q],_,_,_,g,h=>by
  rw[MI]at h;have h':p.cps.toList++c::(Str.join _ _).cps.toList=q.cps.toList:=h;exact Xt (by rw[<- h'];simp) (g q Xb)
 |p::n::ps,q::m::f,_,_,i,g,h=>by
  rw[MI,MI]at h;obtain⟨y,s⟩:=LA (i p Xb) (g q Xb) h;rw[Lr y,LX _ _ (by simp) (by simp) (λz j=>i z<|Xf _ j) (λz j=>g z<|Xf _ j) s]
def ZtI(x y:Str):Txt.split x y≠[]:=by
 unfold Txt.split;split
 .simp
 .split
  .simp
  .rw[StrLaws.partsBetween_eq];apply aO (StrLaws.partsFrom_ne x y.length 0 _);intro p r e;rw[e];simp
def CF{c:Nat}(f:ps≠[])(g:∀p∈ps,c∉p.cps.toList):Txt.split (Str.join #[(List.toArray [c])] ps) #[(List.toArray [c])]=ps:=
 LX _ _ (ZtI _ _) f (StrLaws.split_free _ c) g (by rw[StrLaws.join_split])
def Ti:V->List V->Hp->VK->Prop:=λx c H Q=>∃z y:Str,x=.str z/\c=[.str y]/\(y.length==0)=false/\z.length+2<=sizeLine/\∀p,H p=none->Q (.ref p) (upd H p<|.lst<|(Txt.split z y).map V.str)
theorem CU:∀(l:List (Str×Tok)),QS ((l.map (·.1)).map V.str) (strValues l)
 |[]=>.nil
 |p::l=>.cons #[p.2,rfl] (CU l)
def D9:MtR X "str.split" Ti:=by
 intro Y s O H x xs v K Q I m n h;apply aW h;rintro z y rfl rfl i P q;obtain⟨t,rfl⟩:=m;apply aM n.one;rintro u rfl g rfl;have A:1<=y.length:=by
  lia
 have j:=split_weight z y A;have c:∀(l:List (Str×Tok)) (k:Nat),l.map (·.1)=Txt.split z y->EP X Y O Q (.ref s.heap.objs.size) { s with heap:=s.heap.push { cls:=.type "list",data:=.seq (strValues l).toArray },toks:=k }:=λl k e=>by
  refine#[.ref s.heap.objs.size,_,I.laid (t':=k) (λb M C=>Xc _ C) (Xm _) (show ZT X.prog X.w _ _ _ (.lst<|(Txt.split z y).map V.str) from#[?_,strValues l,0,?_,Xn _ rfl]),rfl,q _<|I.hok.fresh<|Xm _]
  .rw[Xg];lia
  .exact e▸(CU l)
 have B:(Builtin.Str.partsBetween z (Builtin.Str.occurrences z y 0 z.length<|z.length+1) y.length).length<=sizeLine:=by
  have U:=StrLaws.occ_length_le z y 0 z.length (z.length+1);rw[length_partsBetween];lia
 cases L:(decide (z.length<y.length)||decide (Builtin.Str.strKind z<Builtin.Str.strKind y))
 .cases f:(Builtin.Str.occurrences z y 0 z.length<|z.length+1).isEmpty
  .refine call_meets F.slot_str_split (typeIs_str _ _ _) F.entry_str_split (F.args_str_split_2 _ _) (meets_str_split_sep z y t g L i f #[] B) ?_;rw[strsFrom_eq];exact c (numbered s.toks _) _ ((numbered_texts _ _).trans ((Xe<|ne_true_of_eq_false L).trans (Xe<|ne_true_of_eq_false f)).symm)
  .exact call_meets F.slot_str_split (typeIs_str _ _ _) F.entry_str_split (F.args_str_split_2 _ _) (meets_str_split_not_found z y t g L i f)
    (c [(z,t)] s.toks ((Xe<|ne_true_of_eq_false L).trans (Xh f)).symm)
 .exact call_meets F.slot_str_split (typeIs_str _ _ _) F.entry_str_split (F.args_str_split_2 _ _) (meets_str_split_cannot_occur z y t g L)
   (c [(z,t)] s.toks (Xh L).symm)
def Its(x:Str):It:=#[λi _=>i<x.cps.size,λi H v J=>J=H/\∃c,x.cps[i]?=some c/\v=.str #[(List.toArray [c])],λi _=>x.cps.size<=i]
theorem ZsI   (x:Str)(t:Tok)(it:Addr):Turn P w K tg (Its x) [it] it (λi h=>h.IsStrIter it "str_ascii_iterator" x t i) where
 mem:=by simp
 obj:=λi h f b g=>by
  have e:=by simpa using g
  subst e;apply L3 f;intro o e c d;simp_all
 keep:=λi h h' f k=>by
  exact At f λo e r=>#[o,k it (by simp) o e,r]
 item:=by
  intro X U M W B i Y s O H l I m f hg;have hg:i<x.cps.size:=hg;refine aG (m it (by simp)) λf0 A Z y q n=>wpAny_pyNext_ascii_item f (c:=x.cps[i]) (by simp[hg]) λh' j C=>?_;apply L3 (id j);intro o e c d
  exact#[_,rfl,Gx e c d (by decide) #[.str _,H,I.turned (t':=s.toks+1) (λb o g e=>(C.2 b g).trans e) f0 A y q n,#[_,rfl],#[rfl,_,by simp[hg],rfl],j,λb g=>(m b g).1]]
 done:=by
  intro X U M W B i Y s O H l I m f hg;have hg:x.cps.size<=i:=hg;exact aG (m it (by simp)) λf0 A Z y q n=>wpAny_pyNext_ascii_end (I.ok.hd B) f (by simp[hg]) λh' a=>#[rfl,I.turned (λb o g e=>a b o g e) f0 A y q n]
 self:=λ_ _ _ _ _ f h=>wpAny_pyIter_striter_ascii f h
def SJ(c:TE):TI:=λO H R=>c O H λx D=>∃z:Str,x=.str z/\z.cps.all (· < 128)=true/\R (Its z) D
def AX(j:PE X l tl):PI X tg l (SJ tl):=by
 refine λY s O H R I h=>Q9 (j Y s O H _ I h) ?_;rintro v f ⟨x,D,c,g,i⟩;apply L3 i;intro z e n q;subst e;obtain⟨t,rfl⟩:=g;refine wpAny_pyIter_ascii n<|#[f.heap.objs.size,[f.heap.objs.size],_,_,D,rfl,c.kept λb o e=>Xc _ e,ZsI z t _,#[_,Xn _ rfl,rfl,rfl],λb m=>?_,q];have e:=by simpa using m
 subst e;exact c.fpOk (Xm _) (c.hok.fresh<|Xm _)
def Pc:List V->Hp->VK->Prop:=λxs H Q=>∃(x:Str) (n:Int),xs=[.str x]/\PySem.intText? x=some n/\x.length<=640/\Q (.int n) H
def K6:ZF X (.type "int") Pc:=by
 intro Y s O H xs g Q I r h;apply aB h;rintro x n rfl c f q;apply aM (VQ r);rintro u rfl t rfl;exact W.KIN.call_text c f #[.int n,H,I.tok _,#[_,rfl],q]
def Pe:List V->Hp->VK->Prop:=λxs H Q=>∃z:Str,xs=[.str z]/\z.length<=sizeLine/\Q (.int z.length) H
def Oh:ZF X (.builtin "len") Pe:=Zkp
def SA:R2:=λx y H Q=>∃i j:Str,x=.str i/\y=.str j/\Q (.bl<|!(Builtin.Str.occurrences j i 0 j.length 1).isEmpty) H
def EC:OpR X (compareOp .In) SA:=Zp8
section
variable {tb:TE}
def AN(h:Qr K ta Z (.str z))(A:z.cps.all (· < 128)=true):EvI K (SJ ta) Z (z.cps.toList.map λc=>PyData.str #[(List.toArray [c])]):=λU F O H R S q=>
 h U F O H _ S λM D v g m=>by
  cases m;refine#[z,rfl,A,q M D _ g λC X P j=>#[(by simp:(List.map _ z.cps.toList).length>=z.cps.size),λi d e=>?_]];have f:=by
   have:=(Xi.mp e).1;simpa using this
  obtain rfl:d=.str #[(List.toArray [z.cps[i]])]:=by simpa [f] using e.symm
  refine#[f,λy W n=>?_];apply Do n;rintro rfl c s rfl;have B:c=z.cps[i]:=by simpa [f] using s.symm
  subst B;exact#[C,Q3.refl j,.str _]
def KG{n:Int}(h:Qr K ta Z (.str x))(hn:PySem.intText? x=some n)(g:x.length<=640):Qr K (tCB Pc<|Q4 ta QL) Z (.int n):=λU F O H Q S q=>
 h U F O H _ S λi D v c f=>by cases f;exact#[x,n,rfl,hn,g,q i D _ c<|.int _]
def Fk(h:Qr K ta Z (.str x))(g:x.length<=sizeLine):Qr K (tCB Pe<|Q4 ta QL) Z (.int x.length):=λU F O H Q S q=>
 h U F O H _ S λi D v c f=>by cases f;exact#[x,rfl,g,q i D _ c<|.int _]
def AT{y:Str}(h:Qr K ta Z (.str x))(g:Qr K tb Z (.str y)):Qr K (tOp SA ta tb) Z (.bool<|!(Builtin.Str.occurrences y x 0 y.length 1).isEmpty):=λU F O H Q S q=>
 YC h g S λi J u v e f c=>by
  cases f;cases c;exact#[x,y,rfl,rfl,q i J _ e<|.bl _]
def OL{c:Nat}(m:Qr K ta Z (.str x))(j:Qr K tb Z (.int k))(h:x.length<=sizeLine)(i:atI x.cps.toList k=some c):Qr K (tOp Hq ta tb) Z (.str #[(List.toArray [c])]):=λU F O H Q S q=>
 YC m j S λn J u v e g f=>by
  cases g;cases f;exact#[x,k,c,rfl,rfl,h,i,q n J _ e<|.str _]
theorem FC{H:Hp}:∀(l:Qh),Qx H (l.map V.str) (l.map PyData.str)
 |[]=>.nil
 |_::l=>.cons (.str _) (FC l)
def D8{y:Str}(C:Qr K ta Z (.str x))(B:Qr K tb Z (.str y))(n:(y.length==0)=false)(A:x.length+2<=sizeLine):EvO K (tBM K "str" Ti ta<|Q4 tb QL) Z (.ol<|(Txt.split x y).map PyData.str):=λU F O H Q S q=>
 C U F O H _ S λM D v c m=>by
  cases m;refine#[rfl,B U M O D _ (S.ext c) λW P w i j=>?_];cases j;exact#[x,y,rfl,rfl,n,A,λp s=>KE (UK (c.trans i) s (FC _)) λh g f=>q _ _ _ _ h g f]
end
end L2
namespace L2
section
variable {w:World}{dx:Qb}
def ZnT{en un:Addr}{x c:Value}{M:Heap->Prop}{Q:Qb}(l:IsEnum s.heap en un i c)(e:en≠un)
(n:∀{R:Qb},(∀L,M L->Heap.SameBut un s.heap L->R x { s with heap:=L })->wpAny (model prog w) A (Builtin.SmallTypes.nextOf<|.ref un) R dx s)
(m:∀L j,(∀o,L.get? un=some o->j.get? un=some o)->M L->M j)
(fin:∀j,IsEnumOut j en un ((i:Int)+1) x s.heap.objs.size->M j->j.get? s.heap.objs.size=some { cls:=.type "tuple",data:=.seq (List.toArray [.int i s.toks,x]) }->j.objs.size=s.heap.objs.size+1->
  (∀b o,b≠en->b≠un->s.heap.get? b=some o->j.get? b=some o)->Q (.ref s.heap.objs.size) { s with heap:=j,toks:=s.toks+1 }):
 wpAny (model prog w) A (Builtin.«enumerate.__next__» #[[.ref en],[]]) (λf O=>∃v,f=.done (.ret v)/\Q v O) dx s:=by
 obtain⟨y,N,dd,g,G⟩:=s;show wpAny _ _ (field (.ref en) 2 >>= _) _ _ _;refine Xa (VX l rfl (x:=.ref un) rfl (Xa<|n λk1 J K=>?_));replace K:Heap.SameBut un y k1:=K;have d:=(K.2 en e).trans l;refine Xa (VX d rfl (x:=rawInt i) rfl (Xa (VX d rfl (x:=.none) rfl (Xa (wpAny_mkInt<|Xa (Mw d (by simp) λk2 a C=>?_))))));replace C:Heap.SameBut en k1 k2:=C;replace a:IsEnum k2 en un ((i)+1) c:=a;refine Xa (Mw a (by simp) λk3 Z B=>?_);replace B:Heap.SameBut en k2 k3:=B;replace Z:IsEnum k3 en un ((i)+1) c:=Z;show wpAny _ _ _ _ _ #[k3,N,dd,g+1,G];have Y:IsEnum (k3.push { cls:=.type "tuple",data:=.seq (List.toArray [.int i g,x]) }) en un ((i)+1) c:=Xc _ Z;have P:k3.objs.size=y.objs.size:=by rw[B.1,C.1,K.1]
 have F:(k3.push { cls:=.type "tuple",data:=.seq (List.toArray [.int i g,x]) }).get? y.objs.size=some { cls:=.type "tuple",data:=.seq (List.toArray [.int i g,x]) }:=by rw[<- P];exact Xn _ rfl
 have E:(k3.push { cls:=.type "tuple",data:=.seq (List.toArray [.int i g,x]) }).objs.size=y.objs.size+1:=by rw[Yt,P]
 have H:∀b o,b≠en->b≠un->y.get? b=some o->(k3.push { cls:=.type "tuple",data:=.seq (List.toArray [.int i g,x]) }).get? b=some o:=λb o h u q=>
  Xc _ (B.extBut b o h<|C.extBut b o h<|K.extBut b o u q)
 have I:M (k3.push { cls:=.type "tuple",data:=.seq (List.toArray [.int i g,x]) }):=m _ _ (λo q=>Xc _<|B.extBut un o (Ne.symm e)<|C.extBut un o (Ne.symm e) q) J;show wpAny _ _ (Builtin.SmallTypes.ownedTupleIsFree (.ref en) >>= _) _ _ #[k3.push { cls:=.type "tuple",data:=.seq (List.toArray [.int i g,x]) },N,dd,g+1,G];rw[P];generalize k3.push { cls:=.type "tuple",data:=.seq (List.toArray [.int i g,x]) }=T at Y F E H I;clear Z B a C d K J P k3 k2 k1;refine Xa<|Xa (VX Y rfl (x:=.none) rfl (Xl (Xa (wpAny_rule<|Xa<|VX Y rfl (x:=c) rfl (Xa<|Mw Y (by simp) λk5 t X=>?_)))));replace X:Heap.SameBut en T k5:=X;replace t:IsEnum k5 en un ((i)+1) x:=t;refine Xa<|Xa (Mw t (by simp) λD r W=>?_);replace W:Heap.SameBut en k5 D:=W;replace r:IsEnumOut D en un ((i)+1) x y.objs.size:=r;refine Mw r (by simp) λz p U=>?_;replace U:Heap.SameBut en D z:=U;replace p:IsEnumOut z en un ((i)+1) x y.objs.size:=p;have k:=λb o h q=>U.extBut b o h (W.extBut b o h<|X.extBut b o h q);refine Xa (wpAny_letGo<|Xl #[_,rfl,fin z p (m _ _ (λo q=>k un o (Ne.symm e) q) I) (k _ _ (VY (Xk l)) F) (by rw[U.1,W.1,X.1,E]) λb o h u q=>k b o h<|H b o h u q])
def Zon(g:s.heap.IsTupleIter un t i)(m:s.heap.IsTuple t items)(j:items[i]?=some x)
(fin:∀L,L.IsTupleIter un t (i+1)->Heap.SameBut un s.heap L->Q x { s with heap:=L }):wpAny (model prog w) A (Builtin.SmallTypes.nextOf<|.ref un) Q dx s:=by
 refine L3 (id g) λo f q c=>aR m λy h _ nt n=>Xa (wpAny_callSpecial?_slot g.typeIs F.slot_tuple_iterator_next<|wpAny_call_entry F.slot_tuple_iterator_next g.typeIs F.entry_tuple_iterator_next ?_<|F.args_tuple_iterator_next_1 _);show wpAny _ _ (field _ 0 >>= _) _ _ s;refine Xa (VX f c (x:=.ref t) rfl (Xa (VX f c (x:=.int i 0) rfl (Xa (wpAny_seqItems h n ?_)))));simp only[XF,j];refine Xa (wpAny_setField f c (by simp)<|Xl #[x,rfl,Xl<|fin _ #[_,X9 _ f<|Obj.isFreed_of_fields<|Obj.data_mapFields c _,(Obj.cls_mapFields ..).trans q,?_]<|Heap.SameBut.update ..]);rw[Obj.data_mapFields c];simp[rawInt]
def ZpA(j:A.handled=none)(c:s.heap.IsTupleIter un t i)(q:s.heap.IsTuple t items)(n:items[i]?=none)
(fin:∀L e,Heap.ExtBut un s.heap L->(∃o,L.get? e=some o/\o.cls=.type "StopIteration")->dx (.ref e) { s with heap:=L }):wpAny (model prog w) A (Builtin.SmallTypes.nextOf<|.ref un) Q dx s:=by
 refine L3 (id c) λo g C h=>aR q λB f _ nt y=>Xa (wpAny_callSpecial?_slot c.typeIs F.slot_tuple_iterator_next<|wpAny_call_entry F.slot_tuple_iterator_next c.typeIs F.entry_tuple_iterator_next ?_<|F.args_tuple_iterator_next_1 _);show wpAny _ _ (field _ 0 >>= _) _ _ s;refine Xa (VX g h (x:=.ref t) rfl (Xa (VX g h (x:=.int i 0) rfl (Xa (wpAny_seqItems f y ?_)))));simp only[XF,n];refine Xa (wpAny_rule<|Xa<|wpAny_setField g h (by simp)<|Xa (Xa (m:=firstArgMember _ _) (wpAny_of_eq (a:=Value.none) rfl (wpAny_newObj_type (Xa (wpAny_handled<|?_)) (by size_fits)))))
 first|rw[show A.in1.handled=none from j]|rw[j]
 refine Xa (Xl<|wpAny_throw<|fin _ _ (((Heap.SameBut.update ..).extBut.push _).push _) #[_,Xn _ rfl,rfl])
def ZsT(h:IsEnum s.heap en un i old)(y:s.heap.IsTupleIter un t i)(B:s.heap.IsTuple t items)(n:items[i]?=some x)(m:en≠un)
(fin:∀f,IsEnumOut f en un ((i:Int)+1) x s.heap.objs.size->f.IsTupleIter un t (i+1)->f.get? s.heap.objs.size=some { cls:=.type "tuple",data:=.seq (List.toArray [.int i s.toks,x]) }->f.objs.size=s.heap.objs.size+1->
  (∀b o,b≠en->b≠un->s.heap.get? b=some o->f.get? b=some o)->Q (some<|.ref s.heap.objs.size) { s with heap:=f,toks:=s.toks+1 }):wpAny (model prog w) A (pyNext<|.ref en) Q dx s:=by
 refine Xa (wpAny_attempt<|wpAny_callSpecial?_slot (#[_,h,rfl]) F.slot_enumerate_next<|wpAny_call_entry F.slot_enumerate_next (#[_,h,rfl]) F.entry_enumerate_next ?_<|F.args_enumerate_next_1 _);exact ZnT h m (λ{R} q=>Zon y B n λL a b=>q L a b) (λL f k j=>j.at k) λf a b c d k=>Xl (fin f a b c d k)
def Iu(g:A.handled=none)(f:IsEnum s.heap en un i old)(j:s.heap.IsTupleIter un t i)(m:s.heap.IsTuple t items)(h:items[i]?=none)
(fin:∀L,Heap.ExtBut un s.heap L->Q none { s with heap:=L }):wpAny (model prog w) A (pyNext<|.ref en) Q dx s:=by
 refine Xa (wpAny_attempt<|wpAny_callSpecial?_slot (#[_,f,rfl]) F.slot_enumerate_next<|wpAny_call_entry F.slot_enumerate_next (#[_,f,rfl]) F.entry_enumerate_next ?_<|F.args_enumerate_next_1 _);show wpAny _ _ (field _ 2 >>= _) _ _ _;refine Xa (VX f rfl (x:=.ref un) rfl (Xa<|ZpA g j m h ?_));rintro L e k ⟨o,n,q⟩;exact Xa (wpAny_isInstance #[o,n,q] isSubtype_stop<|Xl<|fin _ k)
def ZnS(t:Addr)(f:Array Value)(n:Nat)(m:Qj)(C:Array (Qf)):
 Meets (Builtin.«enumerate.__new__» #[[.type "enumerate",.ref t],[]]) (λ_ R s=>s.heap.get? t=some { cls:=.type "tuple",dict:=m,data:=.seq f n,slots:=C }/\
  R (.ok<|.ret<|.ref (s.heap.push { cls:=.type "tuple_iterator",data:=.fields (List.toArray [.ref t,.int 0 0]) }).objs.size)
   { s with heap:=(s.heap.push { cls:=.type "tuple_iterator",data:=.fields (List.toArray [.ref t,.int 0 0]) }).push { cls:=.type "enumerate",data:=.fields (List.toArray [.none,.bool false,.ref s.heap.objs.size,rawInt 0,.none,.none]) } }):=
 .of_wp λprog w A R s h=>by
  obtain⟨M,g,d,B,K⟩:=s;have y:=sub_enumerate;have j:Heap.IsTuple (Shared.heap #[M,g,d,B,K]) t f:=#[_,h.1,rfl,n,rfl]
  wp_walk using AutoSeq1.wpAny_loadPart' h.1
  refine wpAny_stack_any λP=>Xl (?_:_)
  split
  .rename_i c _ _ _ _ _;cases (c==Value.type "enumerate")
   .wp_walk using AutoSeq1.wpAny_loadPart' h.1,wpAny_pyIter_tuple j
    exact#[_,rfl,h.2]
   .wp_walk using AutoSeq1.wpAny_loadPart' h.1,wpAny_pyIter_tuple j
    exact#[_,rfl,h.2]
  .wp_walk using AutoSeq1.wpAny_loadPart' h.1,wpAny_pyIter_tuple j
   exact#[_,rfl,h.2]
def Zs1(B:s.heap.IsTuple t items)
(fin:∀L,IsEnum L (s.heap.objs.size+1) s.heap.objs.size 0 .none->L.IsTupleIter s.heap.objs.size t 0->L.objs.size=s.heap.objs.size+2->
  (∀b o,s.heap.get? b=some o->L.get? b=some o)->Q (.ref<|s.heap.objs.size+1) { s with heap:=L }):wpAny (model prog w) A (call (.type "enumerate") [.ref t]) Q dx s:=by
 apply aR B;rintro⟨c,j,K,y⟩C i n h;replace i:c=.type "tuple" := i;replace h:K=.seq items n:=h;subst i h;refine callType_new F.called_enumerate (by decide) (F.typeCall_enumerate_1 _) (F.newCall_enumerate_1 _) (λg=>F.args_object_init_2 g _) F.entry_enumerate_new (ZnS t items n j y) #[C,?_];show _/\_
 rw[Yt ..];have m:IsEnum ((s.heap.push { cls:=.type "tuple_iterator",data:=.fields (List.toArray [.ref t,.int 0 0]) }).push { cls:=.type "enumerate",data:=.fields (List.toArray [.none,.bool false,.ref s.heap.objs.size,rawInt 0,.none,.none]) }) (s.heap.objs.size+1) s.heap.objs.size 0 .none:=by
  have:=Xn (s.heap.push { cls:=.type "tuple_iterator",data:=.fields (List.toArray [.ref t,.int 0 0]) }) (o:={ cls:=.type "enumerate",data:=.fields (List.toArray [.none,.bool false,.ref s.heap.objs.size,rawInt 0,.none,.none]) }) rfl;rwa[Yt ..]at this
 exact#[#[_,m,rfl],fin _ m #[_,Xc _<|Xn _ rfl,rfl,rfl] (by rw[Yt,Yt ..]) λb o q=>Xc _<|Xc _ q]
end
def SB(K:W.Frag)(a:Addr):It:=
 #[λi H=>∃xs x,SqT K H a xs/\xs[i]?=some x,
  λi H v J=>∃p x,H p=none/\v=.ref p/\J=upd H p (.tup [.int (i:Int),x])/\∀xs,SqT K H a xs->xs[i]?=some x,
  λi H=>∃xs,SqT K H a xs/\i=xs.length]
theorem OG(ne:en≠un)(na:a≠en)(nu:a≠un):
 Turn P w K (.Tuple elts k pos) (SB K a) [en,un] en (λi h=>(∃f,IsEnum h en un i f)/\h.IsTupleIter un a i) where
 mem:=by simp
 obj:=λi h m c q=>by
  apply aX m;rintro⟨f,j⟩o1 e1 c1 d1;simp only[Xd,XW,or_false]at q;rcases q with rfl|rfl
  .exact#[_,j,by rintro v ⟨⟩]
  .exact#[_,e1,λv z=>by rw[d1]at z;cases z]
 keep:=λi h h' m F=>by
  obtain⟨⟨f,j⟩,L⟩:=m;exact#[#[f,F en (by simp) _ j],L.at λo x=>F un (by simp) o x]
 item:=by
  intro X p Z r q i Y s O H dx I C m hg;subst p Z r;refine L0 hg λxs x hq G=>L3 (I.tuple hq) λn U W hz=>At (U.get G) λu S N=>?_;obtain⟨⟨f,j⟩,L⟩:=m;refine ZsT j L W (x:=u) (by simpa using S) ne λM out R hT T kp=>#[_,rfl,wpAny_letOwnedTupleGo_enum out λt l g=>?_];replace g:Heap.SameBut en M t:=g
  refine#[.ref s.heap.objs.size,_,I.trackTup (Qt.turnedL (s:={ s with heap:=M,toks:=s.toks+1 }) (t':=s.toks+1) (ch:=[en]) (I.turnedL (ch:=[en,un]) (λb o B e=>kp b o (λz=>B<|by simp[z]) (λz=>B<|by simp[z]) e) C) (λb o B e=>(g.2 b λz=>B<|by simp[z]).trans e) (λc q=>C c<|by simp only[Xd,XW,or_false]at q ⊢;exact .inl q)) (Xm _) (x:=.int (i:Int)) #[s.toks,rfl] N (#[_,(g.2 _<|VY (Xk j)).trans hT,rfl,_,rfl]),rfl,#[_,x,I.hok.fresh<|Xm _,rfl,rfl,λJ h=>by rw[I.tuple_inj h hq];exact G],#[#[u,by simpa using l],R.at λo z=>(g.2 un<|Ne.symm ne).trans z],λc A=>?_];have d:c<s.heap.objs.size:=by
   simp only[Xd,XW,or_false]at A;rcases A with rfl|rfl
   .exact (Xk j)
   .exact (by exact At L λ_ z _=>Xk z)
  rw[Qv<|Xp d];exact(C c A).1
 done:=by
  intro X p Z r q i Y s O H dx I C m hg;subst p Z r;apply At hg;rintro xs hq rfl;apply L3 (I.tuple hq);intro n U W hz;obtain⟨⟨f,j⟩,L⟩:=m
  exact Iu (I.ok.hd q) j L W (by simp[U.length]) λM kp=>#[rfl,I.turnedL (t':=s.toks) (ch:=[en,un]) (λb o B e=>kp b o (λz=>B<|by simp[z]) e) C]
 self:=λ_ _ _ _ _ m h=>by
  obtain⟨⟨f,j⟩,_⟩:=m;exact wpAny_pyIter_enum j h
def PX(K:W.Frag)(ta:TA):TI:=λO H R=>ta O H λc D=>∃a,c=[.ref a]/\(∃xs,SqT K D a xs)/\R (SB K a) D
def ZjP{ta:TA}   (hg:Gl X "enumerate")(b:X.mg "enumerate"=none)(d:PA X [a] ta)(hs:starEach [a] X.env=[(false,eval a X.env)]:=by rfl):
 PI X (.Tuple elts k tpos) (.Call (.Name "enumerate" p) [a] [] pos) (PX X.K ta):=by
 refine λY s O H R I h=>Call_ (WN I hg b FZ<|PyProof.Rows.callWith_type1 (Q9 (d pos Y s O H _ I h) ?_) hs rfl);rintro t f ⟨r,D,j,C,K⟩;apply L3 K;rintro x e⟨xs,U⟩q;subst e;apply At (VQ C);rintro u rfl B;cases B;apply L3 (j.tuple U);refine λm v P w=>Zs1 P λh' y L W M=>wpAny_pyIter_enum y ?_;have n:x<f.heap.objs.size:=by exact At P λo Z _=>Xk Z
 refine#[_,[f.heap.objs.size+1,f.heap.objs.size],_,_,D,rfl,j.kept (t':=f.toks) M,OG (en:=f.heap.objs.size+1) (un:=f.heap.objs.size) (a:=x) (Nat.succ_ne_self _) (Xp<|JA n)<|Xp n,#[#[_,y],L],λc A=>?_,q];have i:f.heap.objs.size<=c:=by
  simp only[Xd,XW,or_false]at A;rcases A with rfl|rfl
  .exact Nat.le_add_right _ _
  .exact Xm _
 exact j.fpOk i (j.hok.fresh i)
def OV(r:Rep F x (.tuple ds)):∃a xs,x=.ref a/\F a=some (.tup xs)/\Qx F xs ds:=by
 cases r with
 |tup f c=>exact#[_,_,rfl,f,c]
def ZsS(h:Zm K t Z [.fz<|.tuple as]):EvI K (PX K t) Z (U3 as):=λU F O H R S q=>
 h U F O H _ S λb D k m f=>by
  cases f with
  |fz r f=>
   cases f;apply aF (OV r);rintro a xs rfl A s;refine#[a,rfl,#[xs,SqT.of<|m.fh _ _ A],q b D _ m λM Y n c=>?_];have g:SqT K Y a xs:=SqT.of (c _ _<|n _ _ A);refine#[#[xs,g,by rw[BV,s.length]],λi d e=>?_];apply At (Ma e);rintro l X rfl;refine At (s.get X) λj B W=>#[#[xs,j,g,B],λv o P=>?_];apply aB P;rintro p x y rfl rfl k1;have C:=k1 xs g;rw[B]at C;cases C;exact#[_,Q3.new c y,.tup QI<|.cons (.int _)<|.cons ((W.mono n).mono (Q6.new (c.free y))) .nil]
end L2
namespace L2
inductive InK(C:Addr)(f:Str)(Φ:OwnP)(K:W.Frag)(F H:Hp)(v:V)(p:Qg):Prop
 |mk (a E:Addr)(u:V)(q:Qg)(e:v=.ref a)(ep:p=a::E::q)(nd:a≠E)(na:a∉q)(nx:E∉q)(i1:F a=none)(i2:H a=some (.ins C E [(f,u)]))(o1:F E=none)(o2:H E=some (.own a))(k:Φ.ok K F H u q):InK C f Φ K F H v p
def InP(C:Addr)(f:Str)(Φ:OwnP):OwnP where
 ok K F H v p:=InK C f Φ K F H v p
 there:=by
  rintro K F H v p ⟨a,E,u,q,rfl,rfl,nd,na,nx,m,h,j,i,k⟩ b c;rcases Xd.mp c with rfl|c
  .exact#[m,Z8 h]
  .rcases Xd.mp c with rfl|c
   .exact#[j,Z8 i]
   .exact Φ.there k b c
 mono:=by
  rintro K F r H J v p s y n ⟨a,E,u,q,rfl,rfl,nd,na,nx,m,h,j,i,k⟩;exact#[a,E,u,q,rfl,rfl,nd,na,nx,y _<|by simp,by rw[n _<|by simp];exact h,y _<|by simp,by rw[n _<|by simp];exact i,Φ.mono s (λb c=>y b<|by simp[c]) (λb c=>n b<|by simp[c]) k]
 uniq:=by
  rintro K F H v p l ⟨a,E,u,q,rfl,rfl,nd,na,nx,m,h,j,i,k⟩ ⟨o,Y,Z,d,e,rfl,P,U,M,X,g,B,A,W⟩ b c;cases e;rw[h]at g;cases g;rcases Xd.mp c with rfl|c
  .simp
  .rcases Xd.mp c with rfl|c
   .simp
   .simp[Φ.uniq k W b c]
section
variable {α:Type}{Φ:α->OwnP}{N:α}{v:V}{t:TA}{R:α->List OT->(OT->α->Prop)->Prop}{Ψ:OT->α->Prop}
def Dy(S:QF K U F Z O H)(x:Q3 F0 U F H)(e:zg Z i<|zo v<|InP C f<|Φ N):
 ∃a E u p,v=.ref a/\O[i]?=some (some v)/\H a=some (.ins C E [(f,u)])/\(Φ N).ok K F H u p/\∀m J A P,ExtN p F H m J->(Φ P).ok K m J u A->(∀b∈A,b∈p\/H b=none)->
  Q3 F0 U m J/\QF K U m (Z.set i<|zo v<|InP C f<|Φ P) O J/\∀(q:Qg),(∀b∈q,(b∈p\/H b=none)/\b∉A)->(∀b∈q,U b=none)/\∀b∈q,∀(j:Nat) (u:V) (t':OT) (r:Qg),(Z.set i<|zo v<|InP C f<|Φ P)[j]?=some (some t')->O[j]?=some (some u)->Zx K m J u t' r->b∉r:=by
 apply L3 (Y4 (Φ:=λN=>InP C f<|Φ N) S x e);rintro p e1⟨a,E,u,q,G,rfl,T,X,W,i1,M,Q,R,k⟩l;refine#[a,E,u,q,G,e1,M,k,λm J A P t Y B=>?_];have s:∀{b o},H b=some o->b∉q->b∉A:=λ{b o} h n z=>by
  rcases B b z with z|z
  .exact n z
  .rw[h]at z;cases z
 have D:∀{b o},F b=none->H b=some o->b∉q->m b=none:=λ{b o} L d n=>by
  cases z:m b with
  |none=>rfl
  |some w=>
   rcases t.fr b (by rw[z];simp) with y|y|y
   .exact Xt L y
   .rw[d]at y;cases y
   .exact Xt y n
 obtain⟨X',S',dj⟩:=l m J (a::E::A) P #[λb o nb g=>t.hh b o (λz=>nb<|by simp[z]) g,t.ff,t.fh,λb g=>(t.fr b g).imp id λz=>z.imp id λz=>by simp[z]]
  #[a,E,u,A,G,rfl,T,s M X,s R W,D i1 M X,t.hh _ _ X M,D Q R W,t.hh _ _ W R,Y] (λb g=>by
   rcases Xd.mp g with rfl|g
   .simp
   .rcases Xd.mp g with rfl|g
    .simp
    .exact(B b g).imp (λz=>by simp[z]) id)
 refine#[X',S',λI hq=>dj I λb g=>?_];obtain⟨L,d⟩:=hq b g;have n:∀{c o},H c=some o->c∉q->b≠c:=λ{c o} h z y=>by
  grind
 refine#[L.imp (λz=>by simp[z]) id,λz=>?_];rcases Xd.mp z with z|z
 .exact n M X z
 .rcases Xd.mp z with z|z
  .exact n R W z
  .exact d z
def Zrt(c:Cls K C)(k:Vp K C f)(e:zg Z i<|zo v<|InP C f<|Φ N)(w:Zm K t Z ts)(o:R N ts Ψ)(hn:∀r h,Ψ r h->H1.nx (Z.set i<|zo v<|InP C f<|Φ h)):
 QJ K (V2<|ZO (spP K Φ R) [] E'<|Q4 (ZW K (Q8 i) f) t) Z H1:=λF0 U F O H dx x S Q=>by
 apply aT (Dy S x e);rintro a E u p0 B s0⟨M,_⟩;refine#[v,s0,a,C,E,_,u,B,M,c,k,by simp[List.lookup],w U F O H _ S λL D X g b=>?_];apply aQ (Dy (S.ext g) (x.trans g) e);intro a' z u' p A s1 s m y;rw[A]at B;cases B;have:=g.hh _ _ M;rw[s]at this;cases this;exact#[L,_,X++[],p,ts,N,Ψ,rfl,(S.ext g).kt,g.fh,by rw[Xr];exact b,m,o,λP J d h T r q l W n j Y hq=>KE (y P J d h W n j) λG I _=>Q.nx P _ J _ G I (hn r h l)]
def Zp1(c:Cls K C)(z:Vp K C f)(e:zg Z 0<|zo v<|InP C f<|Φ N)(hA:Zm K t Z ts)(T:R N ts Ψ)(hn:∀r h,Ψ r h->Ψ0 r (Z.set 0<|zo v<|InP C f<|Φ h)):
 EvR K (VN<|ZO (spP K Φ R) [] E'<|Q4 (ZW K (Q8 0) f) t) Z Ψ0:=λF0 U F O H dx x S k=>by
 apply aT (Dy S x e);rintro a E u p0 P s0⟨i,_⟩;refine#[v,s0,a,C,E,_,u,P,i,c,z,by simp[List.lookup],hA U F O H _ S λF1 D Y g l=>?_];apply aQ (Dy (S.ext g) (x.trans g) e);intro a' dx' u' p M s1 A n B;rw[M]at P;cases P;have:=g.hh _ _ i;rw[A]at this;cases this;refine#[F1,_,Y++[],p,ts,N,Ψ,rfl,(S.ext g).kt,g.fh,by rw[Xr];exact l,n,T,λW J w h b r q L X y j m Q=>?_];apply KE (B W J w h X y j);intro X' S' dj;obtain⟨d1,d2⟩:=dj q Q;exact k W O J _ b r q X' S' m d1 (λa i u d o I G s=>d2 a i 0 u d o I G s) (hn r h L)
end
end L2
namespace L2
inductive Cnt(w:World):List DictEntry->List (Str×Int)->Prop
 |nil:Cnt w [] []
 |cons {k:Str}{n:Int}{t u:Tok}{es:List DictEntry}{kvs:List (Str×Int)}(h:Cnt w es kvs):Cnt w (#[hashStr w k,.str k t,.int n u]::es) ((k,n)::kvs)
structure KCnt(K:W.Frag)(w:World)(g:Addr)(kvs:List (Str×Int)):Prop where
 ex:∃es ep,K.lookup g=some #[.type "dict",none,.dict es.toArray ep,(List.toArray [])]/\Cnt w es kvs
 ne:(g==sysModules)=false
noncomputable def M6(kvs:List (Str×Int))(x:Str):V:=match kvs.find? λp=>p.1==x with
 |some p=>.int p.2
 |none=>.non
def Cnt.keys{es:List DictEntry}(h:Cnt w es kvs):KeysOf (PySem.strKind P w) es.toArray:=λe c=>by
 have c:=by simpa using c
 induction h with
 |nil=>cases c
 |@cons k n t u es kvs h f=>
  rcases Xd.mp c with rfl|c
  .exact#[k,by simp[PySem.strKind,Value.isStrOf],rfl]
  .exact f (by simpa using c) c
def Cnt.find{es:List DictEntry}(h:Cnt w es kvs)(x:Str):QO (M6 kvs x) ((findBy Value.isStrOf es.toArray x).getD .none):=by
 unfold findBy M6;rw[List.find?_toArray];induction h with
 |nil=>exact rfl
 |@cons k n t u es kvs h c=>
  simp only[List.find?_cons,Value.isStrOf];cases e:k==x with
  |true=>exact#[u,rfl]
  |false=>exact c
def SI(kvs:List (Str×Int))(te:TE):TE:=λO H Q=>te O H λx D=>∃k,x=.str k/\Q (M6 kvs k) D
def Lm   {g:Addr}(n:KCnt X.K X.w g kvs)(K:X.mg x=some (.ref g))(he:PE X e te)(m:M1 X (.Name x p) "get" XD e UH)(hg:Gl X x:=by rfl)(f:(x==("__debug__" : Str))=false:=by decide):
 PE X (.Call (.Attribute (.Name x p) "get" XD) [e] [] UH) (SI kvs te):=by
 intro Y s O H Q I h;apply L0 n.ex;intro es W l i;have j:∀{s:Shared},Qt X Y O H s->s.heap.MapOf (PySem.strKind X.prog X.w) g _:=λI=>#[_,_,_,I.kIn _ _ l,#[rfl,rfl,rfl],rfl,i.keys,λ_=>rfl];refine wpAny_Call_method m.base m.few m.line PySem.F.plainAttrs_dict PySem.F.slot_dict_get PySem.F.type_dict_get (WY I hg K (#[(j I).typeIs,(j I).noDict,?_]) f);rw[m.trees];refine Calls.callWith_builtin rfl (Calls.evalArgs_plain<|Calls.spliced_cons<|Q9 (he Y s O H _ I h) ?_);rintro U B ⟨y,P,A,C,k,M,q⟩;refine Calls.spliced_nil ?_;subst M;obtain⟨t,rfl⟩:=C;have c:B.heap.MapOf (PySem.strKind X.prog X.w) g _:=#[_,_,_,A.kIn _ _ l,#[rfl,rfl,rfl],rfl,i.keys,λ_=>rfl];exact call_meetsIn PySem.F.slot_dict_get c.typeIs PySem.F.entry_dict_get (PySem.F.args_dict_get_2 _ _) (meets_dict_get _ g (by simp[PySem.strKind,Value.isStrOf]) n.ne) #[_,c,_,P,A.tok _,i.find k,q]
def Jl(kvs:List (Str×Int))(x:Str):PyData:=match kvs.find? λp=>p.1==x with
 |some p=>.int p.2
 |none=>.none
def KR(h:Qr K te Z (.str x)):Qr K (SI kvs te) Z (Jl kvs x):=λU F O H Q S q=>
 h U F O H _ S λg D v c f=>by
  cases f;refine#[x,rfl,q g D _ c ?_];unfold M6 Jl;cases kvs.find? λp=>p.1==x with
  |none=>exact .non
  |some p=>exact .int _
def tFs(x:Str)(ta c:TE):TE:=λO H Q=>ta O H λu D=>∃i:Int,u=.int i/\i.natAbs.log2<1920/\(Str.ofString (toString i)++x).length<=sizeLine/\c O D λv f=>∃j:Int,v=.int j/\j.natAbs.log2<1920/\(Str.ofString (toString i)++x++Str.ofString (toString j)).length<=sizeLine/\Q (.str<|Str.ofString (toString i)++x++Str.ofString (toString j)) f
def Az(P:PE X a ta)(he:PE X e (tC<|.str x))(M:PE X b tb):PE X (.JoinedStr [.FormattedValue a (-1) none p1,e,.FormattedValue b (-1) none p2] pos) (tFs x ta tb):=by
 intro Y s O H Q I h;have z:=Str.empty_append;refine JoinedStr_many (joinParts_cons<|FormattedValue_plain<|Q9 (P Y s O H _ I h) ?_);rintro u N ⟨v,D,o,A,i,d,c,C,B⟩;subst d;obtain⟨G,rfl⟩:=A;refine formatField_int_small c #[by rw[z];exact int_text_fits c,?_];rw[z];refine joinParts_cons (Q9 (he Y _ O D (λy J=>y=.str x/\J=D) (o.tok _) #[rfl,rfl]) ?_);rintro w g ⟨t,r,l,n,Z,W⟩;subst Z W;obtain⟨F,rfl⟩:=n;refine#[C,joinParts_cons<|FormattedValue_plain<|Q9 (M Y g O r _ l B) ?_];rintro u L ⟨v,p,k,m,j,U,K,f,q⟩;subst U;obtain⟨E,rfl⟩:=m;exact formatField_int_small K #[f,joinParts_nil #[.str _,p,k.tok _,#[_,rfl],q] f]
def Ay{i j:Int}(y:Qr K ta Z (.int i))(s:Qr K tb Z (.int j))(n:i.natAbs.log2<1920)(m:j.natAbs.log2<1920)(l1:(Str.ofString (toString i)++x).length<=sizeLine)(l2:(Str.ofString (toString i)++x++Str.ofString (toString j)).length<=sizeLine):
 Qr K (tFs x ta tb) Z (.str<|Str.ofString (toString i)++x++Str.ofString (toString j)):=λU F O H Q S q=>
 y U F O H _ S λC D v c h=>by
  cases h;exact#[i,rfl,n,l1,s U C O D _ (S.ext c) λB A M f g=>by
   cases g;exact#[j,rfl,m,l2,q B A _ (c.trans f)<|.str _]]
end L2
namespace L2
inductive RawK(C:Addr)(F H:Hp)(v:V)(p:Qg):Prop
 |mk (a E:Addr)(e:v=.ref a)(ep:p=[a,E])(nd:a≠E)(i1:F a=none)(i2:H a=some (.ins C E []))(o1:F E=none)(o2:H E=some (.own a)):RawK C F H v p
def SD(C:Addr):OwnP where
 ok _ F H v p:=RawK C F H v p
 there:=by
  rintro K F H v p ⟨a,E,rfl,rfl,nd,j,f,i,h⟩ b g;rcases Xd.mp g with rfl|g
  .exact#[j,Z8 f]
  .rw[Xj.mp g];exact#[i,Z8 h]
 mono:=by
  rintro K F W H J v p s n m ⟨a,E,rfl,rfl,nd,j,f,i,h⟩;exact#[a,E,rfl,rfl,nd,n _<|by simp,by rw[m _<|by simp];exact f,n _<|by simp,by rw[m _<|by simp];exact h]
 uniq:=by
  rintro K F H v p P ⟨a,E,rfl,rfl,nd,j,f,i,h⟩ ⟨U,M,e,rfl,A,B,c,y,q⟩ b g;cases e;rw[f]at c;cases c;exact g
def Gb(C:Addr)(f:Str){c:Type}(Φ:c->OwnP):Option c->OwnP
 |none=>SD C
 |some N=>InP C f (Φ N)
section
variable {v:V}
def Zst(c:Cls K C)(l:Vp K C f)(e:zg Z i<|zo v<|SD C)(h:EvX K te Z Φ)(hn:H1.nx (Z.set i<|zo v<|InP C f Φ)):QJ K (SC K (Q8 i) te f) Z H1:=λF0 U F O H T x S I=>
 h U F O H _ S λn J u p j s M=>by
  apply L3 (Y4 (Φ:=Gb C f λ_:Unit=>Φ) (N:=none) S x e);rintro Q s0⟨a,E,X,rfl,P,W,m,Y,q⟩B;have A:∀{b o},F b=none->H b=some o->n b=none:=λ{b o} L R=>by
   cases z:n b with
   |none=>rfl
   |some w=>
    rcases j.fr b #[] with y|y
    .exact Xt L y
    .grind
  have np:∀{b o},H b=some o->b∉p:=λ{b o} h z=>by rw[s b z]at h;cases h
  have d:∀{b},H b=none->b≠a:=λ{b} h z=>by subst z;rw[h]at m;cases m
  refine#[v,s0,a,C,E,[],X,j.hh _ _ m,c,l,by decide,?_];obtain⟨D,G,_⟩:=B n (upd J a<|.ins C E [(f,u)]) (a::E::p) (some Unit.unit) #[λb o k g=>by
   rw[Qv λz=>k<|by simp[z]];exact j.hh b o g,j.ff,λb o g=>by
   rw[Qv λz=>by subst z;rw[A W m]at g;cases g];exact j.fh b o g,λb g=>(j.fr b g).imp id λz=>.inl z]
   #[a,E,u,p,X,rfl,P,np m,np q,A W m,QI,A Y q,by rw[Qv<|Ne.symm P];exact (j.hh _ _ q),Φ.mono (Q6.refl _) (λb g=>(Φ.there M b g).1) (λb g=>Qv<|d<|s b g) M] (λb g=>by
    rcases Xd.mp g with rfl|g
    .simp
    .rcases Xd.mp g with rfl|g
     .simp
     .exact .inr (s b g))
  exact I.nx n _ _ _ D G hn
def ZqZ{i:Type}{Φ:i->OwnP}{R:Option i->List OT->(OT->Option i->Prop)->Prop}{Ψ:OT->Option i->Prop}{Θ:i->Prop}{t:TA}{I:XK}(G:Zm K t Z ts)(u:R none ts Ψ)(hn:∀r n,Ψ r n->r=.fz .none/\∃N,n=some N/\Θ N):
 Zt K (Jp C (spP K (Gb C f Φ) R) [] I t) Z (λr=>∃v N,Θ N/\r=.own v (InP C f<|Φ N)):=λU F O H Q S q=>
 G U F O H _ S λL D e c l x E d j Y=>by
  have W:=S.ext c;have a:∀{b o},D b=some o->b≠x/\b≠E:=λ{b o} h=>#[λz=>#[],λz=>#[]];have s:∀{b o},D b=some o->upd (upd D E<|.own x) x (.ins C E []) b=some o:=λ{b o} h=>by rw[Qv (a h).1,Qv (a h).2];exact h
  refine#[L,.ref x,e++[],[x,E],ts,none,Ψ,rfl,W.kt,λb o g=>s<|c.fh b o g,by rw[Xr];exact l,#[x,E,rfl,rfl,Ne.symm Y,W.sub.free d,QI,W.sub.free j,by rw[Qv Y,QI]],u,λT J p n v r q' P m B y A hq=>?_];apply Do (hn r n P);rintro rfl N rfl w;obtain⟨_,k⟩:=A;cases k;have X:∀{b},upd _ x (.ins C E []) b=none->D b=none:=λ{b} h=>by
   cases z:D b with
   |none=>rfl
   |some o=>rw[s z]at h;cases h
  have M:∀{b},b∈[x,E]->D b=none:=λ{b} h=>by
   rcases Xd.mp h with rfl|h
   .exact d
   .rw[Xj.mp h];exact j
  refine#[rfl,q T J _ p _ #[.ref x,N,w,rfl] #[λb o g=>m.hh b o (λz=>Xt (c.hh b o g)<|by rw[M z];simp)<|s<|c.hh b o g,c.ff.trans m.ff,m.fh,λb g=>?_] (λb g=>?_) #[rfl,B]]
  .rcases m.fr b g with z|z|z
   .exact c.fr b z
   .exact .inr (c.hh.free<|X z)
   .exact .inr (c.hh.free<|M z)
  .rcases y b g with z|z
   .exact c.hh.free (M z)
   .exact c.hh.free (X z)
end
end L2
namespace L2
def IL:bootBuiltins "dict"=some (.type "dict"):=by decide +kernel
def Ts:List V->Hp->VK->Prop:=λf H Q=>∃a c,f=[.ref a]/\H a=some (.dK c)/\∀p,H p=none->Q (.ref p) (upd H p<|.dK c)
def ZtL:ZF X (.type "dict") Ts:=by
 intro Y s O H xs m Q I r h;apply aF h;rintro a f rfl i q;apply At (VQ r);rintro u rfl c;cases c;exact ZtE I (.of i) λp n g j=>#[.ref p,_,j,rfl,q p g]
section
variable {tb:TE}{t:TA}{v u:V}{N:HandS}{kvs:Zw}
def QF.absorb(s:QF K U F Z O H)(d:i≠j)(e:zg Z i<|zo v Φ)(D:zg Z j<|zo u Φj):
 O[i]?=some (some v)/\O[j]?=some (some u)/\∃p q,Φ.ok K F H v p/\Φj.ok K F H u q/\(∀a∈p,U a=none/\F a=none/\H a≠none)/\(∀a∈q,U a=none/\F a=none/\H a≠none)/\(∀a∈q,a∉p)/\
  ∀(J:Hp) (n:OwnP) (B:Qg),Q6 F J->(∀b,b∉p->b∉q->H b≠none->J b=H b)->(∀b,H b≠none->J b≠none)->n.ok K F J v B->(∀a∈B,a∈p\/a∈q\/(H a=none/\U a=none))->
   QF K U F ((Z.set j none).set i (zo v n)) O J:=by
 obtain⟨R,L,T,P,o,y,m⟩:=s;apply L3 (o i _ e);rintro v' G rfl E;apply L3 (o j _ D);rintro r f1 rfl x;refine#[G,f1,P i,P j,E,x,λa c=>#[(m i a c).1,(Φ.there E a c).1,(m i a c).2],λa c=>#[(m j a c).1,(Φj.there x a c).1,(m j a c).2],λa c f=>d (y j i a c f).symm,λJ n B Q S W w A=>#[R,Q,by simp[T],λk=>if k=i then B else if k=j then [] else P k,λk I t=>?_,λk l a c f=>?_,λk a c=>?_]]
 .by_cases h:k=i
  .subst h;rw[XI<|by simpa using ((Xi.mp e).1)]at t;cases t;refine#[_,G,rfl,?_];simp only[if_true];exact w
  .rw[XX<|Ne.symm h]at t
   by_cases g:k=j
   .subst g;rw[XI ((Xi.mp D).1)]at t;cases t
   .rw[XX<|Ne.symm g]at t;refine At (o k I t) λr g1 g2=>#[r,g1,?_];simp only[Xe h,Xe g];exact g2.keep λb f=>S b (λz=>h<|y k i b f z) (λz=>g<|y k j b f z) (m k b f).2
 .have C:∀{k l:Nat} {a:Addr},k≠i->a∈(if k=j then ([]) else P k)->a∈B->False:=λ{k l a} h c f=>by
   by_cases g:k=j
   .rw[Xh g]at c;exact nomatch c
   .rw[Xe g]at c;rcases A a f with z|z|z
    .exact h (y k i a c z)
    .exact g (y k j a c z)
    .exact(m k a c).2 z.1
  by_cases h:k=i
  .by_cases M:l=i
   .lia
   .simp only[Xh h]at c;simp only[Xe M]at f;exact(C (l:=0) M f c).elim
  .simp only[Xe h]at c
   by_cases M:l=i
   .simp only[Xh M]at f;exact(C (l:=0) h c f).elim
   .simp only[Xe M]at f
    by_cases g:k=j
    .rw[Xh g]at c;exact nomatch c
    .by_cases N:l=j
     .rw[Xh N]at f;exact nomatch f
     .rw[Xe g]at c;rw[Xe N]at f;exact y k l a c f
 .by_cases h:k=i
  .simp only[Xh h]at c;rcases A a c with z|z|z
   .exact#[(m i a z).1,W a (m i a z).2]
   .exact#[(m j a z).1,W a (m j a z).2]
   .exact#[z.2,(n.there w a c).2]
  .simp only[Xe h]at c
   by_cases g:k=j
   .rw[Xh g]at c;exact nomatch c
   .rw[Xe g]at c;exact#[(m k a c).1,W a (m k a c).2]
def Ij{m n:Int}(c:HandC K C)(e:zg Z i<|zo v<|QY C N)(hi:Qr K tb Z (.int k))(h0:0<=k)(l:N.given[k.toNat]?=some m)(h:Qr K te Z (.int n))
(hn:H1.nx (Z.set i<|zo v<|QY C { N with given:=N.given.set k.toNat (m+n) })):QJ K (MO (ZW K (Q8 i) "given") tb te (MM K) (ipI λa b=>a+b) Gr) Z H1:=λF0 U F O H dx x S C'=>by
 apply aa (S.hand e);rintro a E kk g d m' y xs as rfl e1 s _;refine#[_,e1,a,C,E,_,.ref g,rfl,s.ins.2,c.cl,c.gv,rfl,hi U F O H _ S λF1 D y1 f R=>?_];cases R;apply Do s.given;intro _ J Q L;have M:(N.given.map PyData.int)[k.toNat]?=some (.int m):=by rw[Xv,l];rfl
 refine At ((L.mono f.ff).get M) λz w r=>#[g,J,k,z,rfl,rfl,SqL.of<|f.hh _ _ Q,h0,w,h U F1 O D _ (S.ext f) λp H2 u t B=>?_];cases B;cases r;refine#[m,n,rfl,rfl,?_];apply aa ((S.ext<|f.trans t).hand e);rintro a' dx' k' o d' m'' G A W ea g1 j⟨hp,I⟩;cases ea;apply aG (s.same j (((f.trans t).hh _ _ s.ins.2).trans s.ins.2.symm));rintro rfl rfl rfl rfl rfl rfl;apply Do j.given;intro q1 X T Y;have hlt:=(Xi.mp l).1;have hr:Qx p (X.set k.toNat<|.int<|m+n) ((N.given.set k.toNat<|m+n).map PyData.int):=by
  rw[List.map_set];exact Y.set (.int _) _
 have q:=hp o (by simp);refine#[o,X,k,k.toNat,rfl,rfl,T,?_,?_]
 .rw[Y.length,Xg];unfold ixN;rw[Xh h0,Xh<|#[]]
 .exact C'.nx p O _ _ ((x.trans<|f.trans t).wr q.1 q.2.1) (I _ _ G A W ((S.ext<|f.trans t).sub.upd q.2.1) (λb P _=>Qv λz=>P<|by rw[z];simp) YH (j.setGiven hr) λb P=>.inl P) hn
theorem MadeD.len{F H:Hp}:∀{as:Qg} {ms:List Zw},MadeD F H as ms->as.length=ms.length
 |_,_,.nil=>rfl
 |_,_,.cons _ _ _ t=>by simp[t.len]
theorem MadeD.snoc{F H:Hp}{b:Addr}{xs:List (Key×V)}{ms:List Zw}(L:F b=none)(f:H b=some (.dK xs))(c:PairK F xs kvs):∀{as:Qg} {ms:List Zw},MadeD F H as ms->MadeD F H (as++[b]) (ms++[kvs])
 |_,_,.nil=>.cons L f c .nil
 |_,_,.cons i h g t=>.cons i h g (MadeD.snoc (ms:=ms) L f c t)
def HandOk.addMade{g m b:Addr}{xs:List (Key×V)}(s:HandOk C N F H a E k g d m y xs as)(i:b∉a::E::k::g::d::m::as)(L:F b=none)(X:H b=some (.dK za))(W:PairK F za kvs):
 HandOk C { N with made:=N.made++[kvs] } F (upd H m<|.lst<|(as++[b]).map V.ref) a E k g d m y xs (as++[b]):=by
 obtain⟨h,⟨P,M⟩,⟨u,t⟩,j,⟨k1,K,k2,k3⟩,⟨o,Y,l,Z⟩,⟨x,w,r⟩,⟨B,m2,A⟩⟩:=s;have c:=h;simp only[XM,Xd,not_or]at c;obtain⟨⟨a1,a2,a3,a4,I,a6⟩,⟨b1,b2,b3,G,b5⟩,⟨c1,c2,D,c4⟩,⟨f1,p,f3⟩,⟨q,Q⟩,n,O⟩:=c;simp only[Xd,not_or]at i;obtain⟨n1,n2,n3,T,S,v,R⟩:=i;have f:(a::E::k::g::d::m::(as++[b])).Nodup:=by
  have e:a::E::k::g::d::m::(as++[b])=(a::E::k::g::d::m::as)++[b]:=rfl;rw[e,Mv];refine#[h,by simp,λz hz J U=>?_]
  grind
 refine#[f,#[P,by rw[Qv I];exact M],#[u,by rw[Qv G];exact t],j,#[k1,K,by rw[Qv D];exact k2,k3],#[o,Y,by rw[Qv p];exact l,Z],#[x,by rw[Qv q];exact w,r],#[B,QI,?_]];exact(A.snoc (ms:=N.made) L X W).other λz=>by
  rcases Xz.mp z with z|z
  .exact n z
  .exact v (Xj.mp z).symm
def HandOk.setNow{g m:Addr}{xs:List (Key×V)}(i:HandOk C N F H a E k g d m y xs as)(n:Int):
 HandOk C { N with now:=n } F (upd H a<|.ins C E<|hfs y n k g d m) a E k g d m y xs as:=by
 obtain⟨f,⟨A,p⟩,⟨q,j⟩,h,⟨k1,v,k2,k3⟩,⟨P,B,M,K⟩,⟨X,W,U⟩,⟨u,t,s⟩⟩:=i;have c:=f;simp only[XM,Xd,not_or]at c;obtain⟨⟨o,l,e,b,Z,Y⟩,_⟩:=c;exact#[f,#[A,QI],#[q,by rw[Qv<|Ne.symm o];exact j],h,#[k1,v,by rw[Qv<|Ne.symm l];exact k2,k3],#[P,B,by rw[Qv<|Ne.symm e];exact M,K],#[X,by rw[Qv<|Ne.symm b];exact W,U],#[u,by rw[Qv<|Ne.symm Z];exact t,s.other Y]]
def Zt0(hj:0≠j)(c:HandC K C)(e0:zg Z 0<|zo v<|QY C N)(ej:zg Z j<|zo u<|dkP kvs)(hl:N.made.length<1000)
(hr:∀w,Ψ (.own w<|dkP kvs)<|(Z.set j none).set 0 (zo v<|QY C { N with made:=N.made++[kvs],now:=N.now+1 })):
 EvR K (V6 (V2<|tBM K "list" Yr (ZW K (Q8 0) "made")<|Q4 (Q8 j) QL)<|V6 (TV K (Q8 0) (tC<|.int 1) S8 "present")<|VN<|tCB Ts<|Q4 (Q8 j) QL) Z Ψ:=λF0 U F O H dx x S kk=>by
 apply KE (S.absorb hj e0 ej);rintro s0 sj⟨p,q,R,Q,hp,hq,hd,wr⟩;obtain⟨a,E,k,g,d,m,y,xs,B,rfl,rfl,P⟩:=R;apply aW Q;rintro b G rfl rfl b1 b2 b3;have l:=hd b Xb;have X:=hp m (by simp);have Y:=hp a (by simp);have i:=P.addMade l b1 b2 b3;have s:=i.setNow (N.now+1);have nb:b≠a/\b≠m:=by
  simp only[Xd,not_or]at l;exact#[l.1,l.2.2.2.2.2.1]
 refine#[_,s0,a,C,E,_,.ref m,rfl,P.ins.2,c.cl,c.md,rfl,.inl #[rfl,_,SqL.of P.made.2.1],_,sj,m,_,_,rfl,rfl,P.made.2.1,by rw[Xg,P.made.2.2.len];exact V9<|#[],?_];have em:B.map V.ref++[V.ref b]=(B++[b]).map V.ref:=by rw[Xx];rfl
 rw[em];refine#[_,s0,a,C,E,_,.int N.now,rfl,i.ins.2,c.cl,c.pr,rfl,N.now,1,rfl,rfl,E,_,i.ins.2,by show 6<1000;decide,?_];have ef:Ye "present" (.int<|N.now+1) (hfs y N.now k g d m)=hfs y (N.now+1) k g d m:=rfl;rw[ef];generalize A:upd H m (.lst<|(B++[b]).map V.ref)=D at i s;generalize t:upd D a (.ins C E<|hfs y (N.now+1) k g d m)=M at s;have e2:∀z,z≠a->z≠m->M z=H z:=λz e z2=>by rw[<- t,Qv e,<- A,Qv z2]
 have X1:Q3 F0 U F D:=by rw[<- A];exact x.wr X.1 X.2.1
 have X2:Q3 F0 U F M:=by rw[<- t];exact X1.wr Y.1 Y.2.1
 have J:∀z,H z≠none->D z≠none:=by rw[<- A];exact YH
 have I:∀z,D z≠none->M z≠none:=by rw[<- t];exact YH
 have o:=wr M (QY C { N with made:=N.made++[kvs],now:=N.now+1 }) (a::E::k::g::d::m::(B++[b])) X2.fh
  (λz e _ _=>e2 z (λh=>e<|by rw[h];simp) λh=>e<|by rw[h];simp) (λz f=>I z<|J z f) #[a,E,k,g,d,m,y,xs,B++[b],rfl,rfl,s] (λz f=>by
   have ee:a::E::k::g::d::m::(B++[b])=(a::E::k::g::d::m::B)++[b]:=rfl;rw[ee]at f;rcases Xz.mp f with f|f
   .exact .inl f
   .exact .inr (.inl f))
 refine#[_,sj,b,G,rfl,(e2 b nb.1 nb.2).trans b2,λr n=>kk F O _ _ (.ref r) (.own (.ref r)<|dkP kvs) [r] (X2.trans (Q3.own o.sub n)) (o.ext (Q3.own o.sub n)) #[rfl,r,G,rfl,rfl,o.sub.free n,QI,b3] (λz f=>by rw[Xj.mp f];exact (X2.hh.free n)) (λz f u' t' q' f1 f2 T W=>?_) (hr _)];rw[Xj.mp f]at W;refine L3 o.fp λfp g1 g2 g3=>At (g1 0 _ f1) λv2 L h2=>?_;rw[f2]at L;cases L;exact(g3 0 r<|UO (h2.ext (Q3.own o.sub n)) T r W).2 n
def E4{t:TS}(i:Nat)(e:Z[i]?=some (some r))(j:Bf r=some d)(h:EvR K t (Z.set i<|zf d) Ψ):EvR K t Z Ψ:=λF0 U F O H m x S C=>by
 refine At (S.freezeG e j) λp f g=>h F0 U _ O H m #[x.hh,x.ff.trans<|Wz λa c=>(f a c).1,g.sub,λa c=>?_] g C
 by_cases z:a∈p
 .exact .inr (f a z).2.2
 .rw[J5 z]at c;exact x.fr a c
end
end L2
namespace L2
section
variable {t:TA}
theorem MadeZ.at{F:Hp}:∀{as:Qg} {ms:List Zw},MadeZ F as ms->∀(i:Nat) (a:Addr),as[i]?=some a->∃xs k,ms[i]?=some k/\F a=some (.dK xs)/\PairK F xs k
 |_,_,.nil,i,a,e=>by simp at e
 |_,_,.cons L c t,0,a,e=>by
  simp at e;subst e;exact#[_,_,rfl,L,c]
 |_,_,.cons L c t,i+1,a,e=>t.at i a (by simpa using e)
theorem MadeD.at{F H:Hp}:∀{as:Qg} {ms:List Zw},MadeD F H as ms->∀(i:Nat) (a:Addr),as[i]?=some a->∃xs k,ms[i]?=some k/\H a=some (.dK xs)/\PairK F xs k
 |_,_,.nil,i,a,e=>by simp at e
 |_,_,.cons _ L c t,0,a,e=>by
  simp at e;subst e;exact#[_,_,rfl,L,c]
 |_,_,.cons _ L c t,i+1,a,e=>t.at i a (by simpa using e)
end
end L2
namespace L2
section
variable {kvs:Zw}{k:Key}
def EJ(k:Key):Rep F (kV k) (JL k):=by
 cases k with
 |inl i=>exact .int i
 |inr x=>exact .str x
theorem PairK.key{F:Hp}:∀{xs:List (Key×V)} {kvs:Zw},PairK F xs kvs->xs.map (·.1)=kvs.map (·.1)
 |_,_,.nil=>rfl
 |_,_,.cons _ t=>by simp[t.key]
end
end L2
namespace L2
def BD(C:Addr)(f:Str):Sp:=λc H Q _=>∃(e:Addr) (x:V),c=[.ref e,x]/\H e=some (.ext<|phX C e none)/\
 ∀E,H E=none->E≠e->Q .non (upd (upd H e<|.ext<|phX C e<|some E) E<|.xd [(f,x)])
def OR(h:BD C f vs H Q dx):
 V6 (V2<|tXI C 0) (sXF C (Q8 0) (Q8 1) f) { nx:=λ_ J=>Q .non J,rt:=Q } (vs.map some++List.replicate n none) H:=by
 apply aF h;rintro e x rfl i j;exact#[e,none,rfl,i,x,rfl,.ref e,rfl,e,rfl,i,λE c g=>j E c g]
structure FldW(f:Str)(e:Addr)(F H U:Hp)(w:V)(E:Addr):Prop where
 hd:H E=some (.xd [(f,w)])
 nd:E≠e
 fe:F e=none
 fd:F E=none
 d0:U E=none
def Jo(f:Str)(e:Addr)(F H U:Hp)(c:Qj)(w:V):Prop := ∃E,c=some E/\FldW f e F H U w E
def Jo.back{w:V}(h:Jo f e F H D dct w)(s:Q6 U D):Jo f e F H U dct w:=by
 exact At h λE a b=>#[E,a,b.hd,b.nd,b.fe,b.fd,s.free b.d0]
abbrev W8(K:W.Frag)(C:Addr)(f:Str)(R:List OT->(OT->Prop)->Prop)(Rx:List OT->(V->Prop)->Prop):Sp:=ZI K C (Jo f) R Rx
section
variable {dx:XK}
def Zpw{Φx:V->Prop}{d:PyData}{w:V}(h:Qr K ta Z d)(X:Vf d=some w)(Y:Φx w)(W:∀A J e n d,Φx d->Q3 F0 U A J->U e=none->Jo f e A J U n d->RR e n J):EvZ K F0 U (sXR C (M7 C (BD C f) dx<|Q4 ta QL) RR) Z:=by
 refine λF O H H1 x S=>h U F O H _ S λl D u B M=>#[by simp,λe q=>?_];have a:=M.flat X;subst a;refine#[e,u,rfl,QI,λE m c=>#[rfl,e,some E,rfl,?_,?_]]
 .rw[Qv<|Ne.symm c,QI]
 .have g:=by rw[Qv c]at m;exact m
  have s:Q6 D (upd (upd (upd D e<|.ext<|phX C e none) e<|.ext<|phX C e<|some E) E<|.xd [(f,u)]):=λb o i=>by
   have y:b≠e:=λz=>by subst z;rw[q]at i;cases i
   have P:b≠E:=λz=>by subst z;rw[g]at i;cases i
   rw[Qv P,Qv y,Qv y];exact i
  have j:=x.trans B;exact W l _ e _ u Y (j.trans #[s,Q6.refl _,j.fh.trans s,λb i=>.inl i]) (j.hh.free q) #[E,rfl,QI,c,j.fh.free q,j.fh.free g,j.hh.free g]
end
def excV(C:Addr)(f:Str)(w:V)(e E:Addr):OwnP where
 ok:=λK F H v p=>p=[e,E]/\(F e=none/\F E=none)/\(∃T,H e=some (.ext<|phF C e (some E) T))/\H E=some (.xd [(f,w)])
 there:=λ{K F H v p} h a c=>by
  obtain⟨rfl,⟨n,m⟩,⟨T,L⟩,g⟩:=h;rcases Xd.mp c with rfl|c
  .exact#[n,Z8 L]
  .rcases Xd.mp c with rfl|c
   .exact#[m,Z8 g]
   .cases c
 mono:=λ{K F y H J v p} s j i h=>by
  apply aJ h;rintro rfl⟨n,m⟩⟨T,L⟩g;exact#[rfl,#[j _ Xb,j _ (Xf _ Xb)],#[T,(i _ Xb).trans L],(i _ (Xf _ Xb)).trans g]
 uniq:=λ{K F H v p q} h h' a c=>by
  obtain⟨rfl,_⟩:=h;obtain⟨rfl,_⟩:=h';exact c
section
variable {tb:Ends->TS}
def Zpq(Φx:V->Prop)(hj:j<n)(hth:∀w e E,Φx w->QJ K (th e) ((List.replicate n none).set j (zo (.ref e)<|excV C f w e E)) { nx:=λP=>H1.nx<|P.set j none,rt:=λ_=>False })
(hz:∀(y:Ends) (F0 U F:Hp) (O:St) (H:Hp),Q3 F0 U F H->QF K U F Z O H->(∀M J e m w,Φx w->Q3 F H M J->H e=none->Jo f e M J H m w->∀(g:St) b T,g.length=n->Lefts C e m J b->b T=none->T≠e->th e (Dh y j) (g.set j<|some<|.ref e) (left C e m T b))->tb y y O H):QJ K (Uy tb) Z H1:=λF0 U F O H y x S c=>by
 refine hz y F0 U F O H x S λM J e m w Y A v i g b T R d hT s=>?_;obtain⟨E,rfl,i⟩:=i;have o:=LQ d i.nd i.hd;have W:E≠T:=λz=>by subst z;rw[hT]at o;cases o
 have p:=Mi (.step d hT s) A.fh i.fe;have u:left C e (some E) T b e=some (.ext<|phF C e (some E) T):=by unfold left;rw[Qv<|Ne.symm s,QI]
 have r:left C e (some E) T b E=some (.xd [(f,w)]):=by unfold left;rw[Qv W,Qv i.nd];exact o
 refine hth w e E Y F0 U M (g.set j<|some<|.ref e) _ (Dh y j) (x.trans #[Mi (.step d hT s) A.hh v,A.ff,p,A.fr]) #[S.kt.mono A.ff,p,by simp[R],λk=>if k=j then [e,E] else [],λk t B=>?_,λk l a h hb=>?_,λk a h=>?_] #[λF4 D H4 G I S4 N=>c.nx F4 _ H4 _ I (S4.setN none) N,λ_ _ _ _ _ _ _ _ z=>False.elim z,λ_ _ _ _ _ _ z=>False.elim z,λ_ _ _ _ _ _ z=>False.elim z]
 .by_cases q:k=j
  .subst q;rw[XI<|by simpa using hj]at B;cases B;refine#[.ref e,XI #[],?_];dsimp only;rw[Xh rfl];exact#[rfl,rfl,#[i.fe,i.fd],#[T,u],r]
  .rw[XX<|Ne.symm q,Hf]at B;split at B<;>cases B
 .by_cases q:k=j
  .by_cases Q:l=j
   .lia
   .simp[Q]at hb
  .simp[q]at h
 .dsimp only at h
  by_cases q:k=j
  .rw[Xh q]at h;rcases Xd.mp h with rfl|h
   .exact#[x.hh.free v,Z8 u]
   .rcases Xd.mp h with rfl|h
    .exact#[x.hh.free i.d0,Z8 r]
    .cases h
  .simp[q]at h
variable {w:V}{e E:Addr}
def QF.excV(S:QF K U F Z O H)(h:zg Z i<|zo v<|excV C f w e E):O[i]?=some (some v)/\(∃T,H e=some (.ext<|phF C e (some E) T))/\H E=some (.xd [(f,w)]):=by
 obtain⟨n,L,A,B,j,y,s⟩:=S;obtain⟨u,m,c,q,_,hT,g⟩:=j i _ h;subst c;exact#[m,hT,g]
def Im(h:zg Z i<|zo (.ref e)<|excV C f w e E)(j:M8 c=some cv)(g:W.kitOne K (.ref C) cv=some b):Qr K (tCB (W7 K C)<|Q4 (Q8 i)<|Q4 (tC c) QL) Z (.bool b):=λU F O H Q S k=>by
 apply KE (S.excV h);rintro n⟨T,L⟩m;exact#[.ref e,n,.ref e,c,cv,b,rfl,j,.inl #[e,E,T,_,rfl,L,m,g],k F H _ (Q3.refl S.sub)<|.bl b]
def E5(h:zg Z i<|zo (.ref e)<|excV C f w e E)(c:∀F,Rep F w d):Qr K (tXG C (Q8 i) f) Z d:=λU F O H Q S k=>by
 apply KE (S.excV h);rintro j⟨T,L⟩g;exact#[.ref e,j,e,E,T,w,rfl,L,g,k F H _ (Q3.refl S.sub)<|c F]
end
structure Ap(K:W.Frag)(mg:Str->Qf)(Xa4 C:Addr):Prop where
 em:W.exmOne K (.ref C) (.ref Xa4)=some true
 my:mg "YardError"=some (.ref Xa4)
 gt:Ao K C
 na:Vp K C "number"
 is:Hj K C
 k1:W.kitOne K (.ref C) (.ref C)=some true
 k2:W.kitOne K (.ref C) (.type "ValueError")=some true
end L2
namespace L2
section
variable {w:World}{base:Heap}{CR:Addr}
def Mf.evZ{m qual:Str}{st:Stmt}{N ps:Qh}{k:Nat}{δ:Type}{FL:Addr->Hp->Hp->Hp->Qj->δ->Prop}{R:List OT->(OT->Prop)->Prop}{n:List OT->(δ->Prop)->Prop}(H1:Mf K C m qual st ps)(S:Qo N ps (QD st))(g:∀f,ZR P w K mg base N qual st k CR R f)(i:∀f,ZX P w K mg base N qual st k CR FL n f)(j:∀ts Φ,R ts Φ->ts.length=ps.length:=by intro _ _ h;cases h<;>rfl)(c:∀ts Φ,n ts Φ->ts.length=ps.length:=by intro _ _ h;cases h<;>rfl):ZZ P w K mg base C m ps (k+1) (ZI K CR FL R n):=H1.go λf _ F=>F.evZ S j c (g f) (i f)
end
structure BackF{δ:Type}(FL:Addr->Hp->Hp->Hp->Qj->δ->Prop):Prop where
 back:∀{e:Addr} {F H U D:Hp} {dct:Qj} {d:δ},FL e F H D dct d->Q6 U D->FL e F H U dct d
def bkV:BackF (Jo f):=#[λh s=>h.back s]
section
variable {t:TA}{v:V}{CR:Addr}{N:HandS}{R:List OT->(OT->Prop)->Prop}
def GL(X:NoH m)(e:zg Z i<|zz<|Zd C N)(h:Zm K t Z ts)(l:R (.zow (Zd C N)::ts) Φ)(st:ZQ CR RR):
 Zt K (ZU C m (ZI K CR FL R Rx) [] (XE CR RR) (Q8 i) t) Z Φ:=λU F O H Q S q=>by
 apply ah (S.hz e);rintro a E k g d B y M o xs u⟨r,j⟩;exact#[_,r,a,E,_,rfl,S.sub _ _ j.ins,X _ _ _ _ _ _,h U F O H _ S λz D G c s=>#[z,_,(S.ext c).kt,c.fh,.zow ((Zd C N).mono c.ff #[a,E,k,g,d,B,y,M,o,xs,u,rfl,j])<|by rw[Xr];exact s,RR,rfl,st,.inl #[Φ,l,λx w v p A P n W f=>q x w v p A P (c.trans n) (λb Y=>c.hh.free<|W b Y) f]]]
def DP(c:NoH m)(e:zg Z i<|zz<|Zd C N)(h:Zm K t Z ts)(f:R (.zow (Zd C N)::ts) (λr=>r=.fz d))(st:ZQ CR RR):Qr K (ZU C m (ZI K CR FL R Rx) [] (XE CR RR) (Q8 i) t) Z d:=EvO.e (Zt.o<|GL c e h f st)
def Fa(p:BackF FL)(M:NoH m)(e:zg Z i<|zz<|Zd C N)(b:Zm K t Z ts)(Y:Rx (.zow (Zd C N)::ts) Φx)(st:ZQ CR RR)
(B:∀h J e c d,Φx d->Q3 F0 U h J->U e=none->FL e h J U c d->RR e c J)(x:Q3 F0 U F H)(S:QF K H9 F Z O H):
 ZU C m (ZI K CR FL R Rx) [] (XE CR RR) (Q8 i) t O H Q:=by
 apply ah (S.hz e);rintro a E k g d v y A l xs r⟨o,n⟩;refine#[_,o,a,E,_,rfl,x.fh _ _ n.ins,M _ _ _ _ _ _,b H9 F O H _ S λu z w f s=>?_];have j:=x.trans f;exact#[u,_,(S.ext f).kt,f.fh,.zow ((Zd C N).mono f.ff #[a,E,k,g,d,v,y,A,l,xs,r,rfl,n])<|by rw[Xr];exact s,RR,rfl,st,.inr #[Φx,Y,λh J e c d X q W P=>B h J e c d X (j.trans q) (j.hh.free W)<|p.back P j.hh]]
def NN(q:BackF FL)(h:NoH m)(e:zg Z i<|zz<|Zd C N)(n:Zm K t Z ts)(j:Rx (.zow (Zd C N)::ts) Φx)(st:ZQ CR RR)
(g:∀f J e c d,Φx d->Q3 F0 U f J->U e=none->FL e f J U c d->RR e c J):EvZ K F0 U (V2<|ZU C m (ZI K CR FL R Rx) [] (XE CR RR) (Q8 i) t) Z:=λF O H s x S=>Fa q h e n j st g x S
end
end L2
namespace L2
structure Hk(K:W.Frag)(C:Addr):Prop where
 cls:∀h:Heap,K.In h->∃(S0 bm:Qe) (nm q:Str) (N:Addr) (bs:Qe) (T1:Bool) (sn:Qh) (sub:Qe) (ab:Bool) (col:Option Bool) (dd:Qj) (k0 k1 k2 k3 k5:Qf),
  ExcBaseFacts "ValueError" "ValueError.__new__" "ValueError.__init__" S0/\OwnTail h S0 bm/\h.get? C=some (excClassObj nm q C N bs bm T1 sn sub ab col dd k0 k1 k2 k3 k5 "ValueError.__new__")/\
  ∃mN:Str->Qf,h.Ns N mN/\mN "__init__"=none
open PySem.W in
noncomputable def MV(K:Frag)(C:Addr):Bool:=match K.lookup C with
 |some #[.type "type",_,.cls cd,c]=>(match cd.mro,c.toList with
   |.ref f::bm,[_,_,_,_,some<|.builtin n,_]=>f==C&&n == "ValueError.__new__" && !cd.hasDel&&tailIn K MD bm&&nsOkIn K cd.ns&&nsIn K cd.ns "__init__" == some none
   |_,_=>false)
 |_=>false
open PySem.W in
theorem PQ{K:Frag}(q:MV K C=true):Hk K C where
 cls:=λh X=>by
  unfold MV at q;split at q
  .rename_i dd cd i A;split at q
   .rename_i P bm k0 k1 k2 k3 n k5 j M;simp only[W4,beq_iff_eq,Bool.not_eq_true']at q;obtain⟨⟨⟨⟨⟨rfl,rfl⟩,c⟩,y⟩,hok⟩,f⟩:=q;obtain⟨nm,bs,s,ns,m,hd,sn,sub,ab,col,B⟩:=cd;dsimp only at j c hok f;subst j c;have g:i=(List.toArray [k0,k1,k2,k3,some<|.builtin "ValueError.__new__",k5]):=by
     obtain⟨l⟩:=i;simp_all
    subst g;exact#[MD,bm,nm,m,ns,bs,hd,sn,sub,ab,col,dd,k0,k1,k2,k3,k5,PySem.F.excBase_ValueError,tail_of_in X y,X _ _ A,_,.of_isNs<|isNs_of_in X hok,nsMap_none_of_in X hok f]
   .cases q
  .cases q
structure M5(K:W.Frag)(mg:Str->Qf)(x:Str)(C:Addr):Prop where
 cl:Hk K C
 kp:W.keepIn K (.ref C)=true
 m:mg x=some (.ref C)
def HP(C:Addr)(t:TA):TE:=λO H Q=>t O H λc D=>c.length<=1000/\∀x,D x=none->Q (.ref x) (upd D x<|.ext<|phX C x none)
section
variable {w:World}{dx:Qb}{d:Drawn}{t:Nat}{os:OsState}
variable {N:Addr}{bs:Qe}{sub:Qe}
def IY(F:ExcBaseFacts B newId initId S0)(T:OwnTail h S0 bm){rest:Qe}
(i:h.get? C=some (excClassObj nm q C N bs bm T1 sn sub ab col dd k0 k1 k2 k3 k5 newId))(hn:h.Ns N mN)(s:mN "__init__"=none)(c:rest.length<=sizeLine)
(P:∀h':Heap,(∀b o,h.get? b=some o->h'.get? b=some o)->phX C (h.objs.size+1) none h'->Q (.done<|.ret<|.ref<|h.objs.size+1) #[h',g,d,t,os]):
 wpAny (model prog w) A (Builtin.«type.__call__» #[.ref C::rest,[]]) Q dx #[h,g,d,t,os]:=by
 have m:∀b o,h.get? b=some o->(Wj h C rest).get? b=some o:=λb o e=>Xc _ (Xc _ e)
 repeat (first
  |with_reducible refine wpAny_loadPart_at i ?_
  |with_reducible refine wpAny_madeBy_exc i ?_
  |wp_step)
 refine codeAny_call_builtin_code (Code.quiet_builtin _ F.quiet)
  (wpAny_check_new_subT F T i ?_)
 refine codeAny_exc_new_subT F T i ?_ c;show wpAny _ _ _ _ _ #[Wj h C rest,g,d,t,os];have j:(Wj h C rest).get? (h.objs.size+1)=some _:=Hi (by rw[Yt]) rfl;have f:=m _ _ i;have M:=T.keeps m;have n:(Value.ref C::bm).contains (.ref C)=true:=by simp
 repeat (first
  |with_reducible refine wpAny_loadPart_at j ?_
  |(with_reducible refine wpAny_isSubtype_exc f ?_;rw[n])
  |wp_step)
 refine wpAny_typeLookup_tail f (hn.keeps m) M F.mroIs F.init.lookup ?_;rw[s];refine wpAny_holding (Xa<|wpAny_of_eq (F.init.bind _) (Xa (wpAny_call<|codeAny_call_builtin F.init.plain F.initEntry<|wpAny_check_init_subT F M f j rfl ?_)))
 wp_walk using AutoSeq1.wpAny_loadPart' j
 refine P _ (λb o K=>?_) #[(Wj h C rest).objs.size,(List.toArray []),?_]
 .rw[XV _ _<|VY<|JA<|Xk K];exact Xc _ (m _ _ K)
 .rw[X9 _ (Xc _ j) rfl];rfl
def AV(F:ExcBaseFacts B newId initId S0)(T:OwnTail h S0 bm){rest:Qe}
(f:h.get? C=some (excClassObj nm q C N bs bm T1 sn sub ab col dd k0 k1 k2 k3 k5 newId))(hn:h.Ns N mN)(i:mN "__init__"=none)(c:rest.length<=sizeLine)
(j:∀h':Heap,(∀b o,h.get? b=some o->h'.get? b=some o)->phX C (h.objs.size+1) none h'->Q (.ref<|h.objs.size+1) #[h',g,d,t,os]):
 wpAny (model prog w) A (call (.ref C) rest) Q dx #[h,g,d,t,os]:=by
 have s:=tc_lookup;have n:=tc_bind (.ref C);have m:(#[h,g,d,t,os]:Shared).TypeIs (.ref C) "type" := #[_,f,rfl];refine wpAny_call (codeAny_of_tree ?_)
 repeat (any_goals (first
  |assumption
  |with_reducible refine wpAny_loadPart_at f ?_
  |wp_step))
 exact#[rfl,codeAny_call_builtin_at (Code.quiet_builtin _<|by decide +kernel) entry_typeCall (wpAny_check_type_call_sub f (IY F T f hn i c j))]
end
section
variable {x:Str}{p:Pos}{e:Expr}{t:TA}{R:Addr->Qj->Hp->Prop}
def ZpP(c:Hk X.K C)(M:W.keepIn X.K (.ref C)=true)(hg:Gl X x)(P:X.mg x=some (.ref C))
(U:PA X (e::es) t)(j:(x==("__debug__" : Str))=false:=by decide)(he:zs X e es:=by rfl)(hpl:zb X pos es:=by rfl):
 PE X (.Call (.Name x p) (e::es) [] pos) (HP C t):=by
 refine λY s O H Q I h=>wpAny_Call_Name_kw (WY I hg P (W.callWith_K I.ok.mod.kin M (Q9 (U pos Y s O H _ I h) ?_) he hpl) j);rintro y B ⟨k,D,f,r,w,q⟩;refine#[f.kIn,?_];apply ae (c.cls _ f.kIn);rintro S0 bm nm o N z T1 sn A ab col dd k0 k1 k2 k3 k5⟨b,T,a,v,Z,R⟩;refine AV b T a Z R (by show y.length<=_;rw[<- r.length,sizeLine_eq];lia) λh' i K=>?_
 exact#[.ref _,_,f.laid i (UT _)<|MX K,rfl,q _<|f.hok.fresh (UT _)]
def Zp4(c:Hk X.K C)(g:X.calm=true)(A:PE X e te)(y:∀Y O H s a f,Qt X Y O H s->H a=some (.ext<|phX C a f)->R a f H->X.xe (.ref a) s):PS X (.Raise (some e) none pos) (sXR C te R):=by
 refine λY s O H H1 I h=>Xa (wpAny_standAt<|TN (C:=C) (I.ok.hd g)<|Xa<|Q9 (A Y s O H _ I h) ?_);rintro u U ⟨v,D,m,r,a,f,rfl,n,q⟩;refine Xa<|wpAny_standAt<|Xl ?_;obtain rfl:=r;apply KE (m.hok a _ n);rintro⟨t,p,j⟩_ _;apply ae (c.cls _ m.kIn);rintro S0 bm nm x N M T1 sn i ab col dd k0 k1 k2 k3 k5⟨P,T,B,_⟩
 exact#[a,t,f,p,bm,nm,x,N,M,T1,sn,i,ab,col,dd,k0,k1,k2,k3,k5,_,rfl,T.hasType P.hasBase,B,j,y _ _ _ _ _ _ m n q]
def F9  {o:Expr}  {k:Nat}{e:XK}{g:Sem Bool}(M:ZZ X.prog X.w X.K X.mg X.base C m ps j sp)(c:HandC X.K C)(n:Room k X.A)(h:Yh (CX1 X.prog X.w) X e)(he:PE X o ta)(q:j<=k:=by walk_at"j")
(i:eval (.Call (.Attribute o m XD) [] [] pos) X.env=(do
  let ov <- eval o X.env
  standAt XD.atName
  let (f,first) <- holding [ov] (getMethod ov m g)
  callWith pos f first (backTo pos<|starEach [] X.env)<|backToKw pos<|keywordEach [] X.env):=by rfl):
 PE X (.Call (.Attribute o m XD) [] [] pos) (ZU C m sp [] e ta QL):=by
 exact aF M λf fd p s F=>Fq he c.cl p F (n.mono q) s .nil h i
end
section
variable {w:World}{base:Heap}{N:Qh}
def GH{x:Str}{p:Pos}{e:Expr}{t:TA}(c:M5 K mg x C)(f:ZQ C RR)
(h:PA (cx1 P w K mg base N qual scope f0 cd A outer s0 U<|XE C RR) (e::es) t)(hg:Gl (cx1 P w K mg base N qual scope f0 cd A outer s0 U<|XE C RR) x:=by rfl)
(g:(x==("__debug__" : Str))=false:=by decide)(he:starEach (e::es) (cx1 P w K mg base N qual scope f0 cd A outer s0 U<|XE C RR).env=(false,eval e (cx1 P w K mg base N qual scope f0 cd A outer s0 U<|XE C RR).env)::starEach es (cx1 P w K mg base N qual scope f0 cd A outer s0 U<|XE C RR).env:=by rfl)
(hpl:(backTo pos<|starEach es (cx1 P w K mg base N qual scope f0 cd A outer s0 U<|XE C RR).env).any (·.1)=false:=by rfl):
 PS (cx1 P w K mg base N qual scope f0 cd A outer s0 U<|XE C RR) (.Raise (some<|.Call (.Name x p) (e::es) [] pos) none pos') (sXR C (HP C t) RR):=
 Zp4 c.cl rfl (ZpP c.cl c.kp hg c.m h g he hpl) (λY O H s a i I he r=>Fc f I he r)
end
def Yv(e:Addr)(F H U:Hp)(c:Qj)(_:Unit):Prop:=c=none/\F e=none
def bkN:BackF Yv:=#[λh _=>h]
def NP{Φx:Unit->Prop}{d:PyData}(h:Qr K ta Z d)(y:Φx ())(s:∀m J e f d,Φx d->Q3 F0 U m J->U e=none->Yv e m J U f d->RR e f J):EvZ K F0 U (sXR C (HP C<|Q4 ta QL) RR) Z:=λF O H H1 x S=>
 h U F O H _ S λA D u n B=>#[by simp,λe i=>by
  have g:=x.trans n;have j:Q6 D (upd D e<|.ext<|phX C e none):=λb o c=>by
   have q:b≠e:=λz=>by subst z;rw[i]at c;cases c
   rw[Qv q];exact c
  exact#[e,none,rfl,QI,s A _ e none () y (g.trans #[j,Q6.refl _,g.fh.trans j,λb c=>.inl c]) (g.hh.free i) #[rfl,g.fh.free i]]]
def UZ(C e:Addr):OwnP where
 ok:=λK F H v p=>p=[e]/\F e=none/\∃T,H e=some (.ext<|phF C e none T)
 there:=λ{K F H v p} h a c=>by
  obtain⟨rfl,f,T,L⟩:=h;cases Xj.mp c;exact#[f,Z8 L]
 mono:=λ{K F m H J v p} s i g h=>by
  obtain⟨rfl,f,T,L⟩:=h;exact#[rfl,i _ Xb,T,(g _ Xb).trans L]
 uniq:=λ{K F H v p j} h h' a c=>by
  obtain⟨rfl,_⟩:=h;obtain⟨rfl,_⟩:=h';exact c
section
variable {tb:Ends->TS}{e:Addr}
def ZqO(Φx:Unit->Prop)(G:j<n)(hth:∀e,QJ K (th e) ((List.replicate n none).set j (zo (.ref e)<|UZ C e)) { nx:=λA=>H1.nx<|A.set j none,rt:=λ_=>False })
(hz:∀(q:Ends) (F0 U F:Hp) (O:St) (H:Hp),Q3 F0 U F H->QF K U F Z O H->(∀y J e g u,Φx u->Q3 F H y J->H e=none->Yv e y J H g u->∀(f:St) b T,f.length=n->Lefts C e g J b->b T=none->T≠e->th e (Dh q j) (f.set j<|some<|.ref e) (left C e g T b))->tb q q O H):QJ K (Uy tb) Z H1:=λF0 U F O H q x S c=>by
 refine hz q F0 U F O H x S λy J e g u _ s X L f b T E Y hT i=>?_;obtain⟨rfl,d⟩:=L;have P:=Mi (.step Y hT i) s.fh d;have W:left C e none T b e=some (.ext<|phF C e none T):=by unfold left;rw[Qv<|Ne.symm i,QI]
 refine hth e F0 U y (f.set j<|some<|.ref e) _ (Dh q j) (x.trans #[Mi (.step Y hT i) s.hh X,s.ff,P,s.fr]) #[S.kt.mono s.ff,P,by simp[E],λk=>if k=j then [e] else [],λk t M=>?_,λk l a m I=>?_,λk a m=>?_] #[λF4 o R p r Q w=>c.nx F4 _ R _ r (Q.setN none) w,λ_ _ _ _ _ _ _ _ z=>False.elim z,λ_ _ _ _ _ _ z=>False.elim z,λ_ _ _ _ _ _ z=>False.elim z]
 .by_cases h:k=j
  .subst h;rw[XI<|by simpa using G]at M;cases M;refine#[.ref e,XI #[],?_];dsimp only;rw[Xh rfl];exact#[rfl,rfl,d,T,W]
  .rw[XX<|Ne.symm h,Hf]at M
   grind
 .by_cases h:k=j
  .by_cases D:l=j
   .lia
   .simp[D]at I
  .simp[h]at m
 .dsimp only at m
  by_cases h:k=j
  .rw[Xh h]at m;cases Xj.mp m;exact#[x.hh.free X,Z8 W]
  .simp[h]at m
def Eu{b:Bool}(h:zg Z i<|zo (.ref e)<|UZ C e)(g:M8 c=some cv)(f:W.kitOne K (.ref C) cv=some b):Qr K (tCB (W7 K C)<|Q4 (Q8 i)<|Q4 (tC c) QL) Z (.bool b):=λU F O H Q S k=>by
 apply At S.fp;intro n j _;apply aI (j i _ h);rintro u m rfl _⟨_,T,L⟩;exact#[.ref e,m,.ref e,c,cv,b,rfl,g,.inr<|.inl #[e,T,rfl,L,f],k F H _ (Q3.refl S.sub)<|.bl b]
end
end L2
namespace L2
section
variable {R:List OT->(OT->Prop)->Prop}{Rx:List OT->(δ->Prop)->Prop}{t:TA}
def ZsE(A:BackF FL)(y:Zm K t Z ts)(s:Rx ts Φx)(st:ZQ C RR)(j:∀g J e c d,Φx d->Q3 F0 U g J->U e=none->FL e g J U c d->RR e c J)(x:Q3 F0 U F H)(S:QF K H9 F Z O H):
 ZO (ZI K C FL R Rx) [] (XE C RR) t O H Q:=y H9 F O H _ S λB D M f i=>
 #[B,ts,(S.ext f).kt,f.fh,by rw[Xr];exact i,RR,rfl,st,.inr #[Φx,s,λg J e c d q h n m=>j g J e c d q ((x.trans f).trans h) ((x.trans f).hh.free n)<|A.back m (x.trans f).hh]]
def O6(s:Zm K t Z ts)(n:R ts Φ)(st:ZQ C RR):Zt K (ZO (ZI K C FL R Rx) [] (XE C RR) t) Z Φ:=λU F O H Q S q=>
 s U F O H _ S λB D M c g=>
  #[B,ts,(S.ext c).kt,c.fh,by rw[Xr];exact g,RR,rfl,st,.inl #[Φ,n,λA y v p r i f j h=>q A y v p r i (c.trans f) (λa m=>c.hh.free<|j a m) h]]
def Nx(f:Zm K t Z ts)(c:R ts (λr=>r=.fz d))(st:ZQ C RR):Qr K (ZO (ZI K C FL R Rx) [] (XE C RR) t) Z d:=EvO.e (Zt.o<|O6 f c st)
end
end L2
namespace L2
def HQ(C e:Addr):ZP where
 ok:=λK F v=>v=.ref e/\∃T,F e=some (.ext<|phF C e none T)
 mono:=by
  rintro K F c v s ⟨rfl,T,L⟩;exact#[rfl,T,s _ _ L]
section
variable {e:Addr}
def UZ.fz(h:(UZ C e).ok K F H (.ref e) p)(s:Q6 F F')(he:∀b∈p,F' b=H b):(HQ C e).ok K F' (.ref e):=by
 apply KE h;rintro rfl _⟨T,L⟩;exact#[rfl,T,by rw[he _<|by simp];exact L]
def Zrl(h:zg Z i<|zz<|HQ C e)(q:Zm K t Z [.fz<|.int k])(L : -(2^62)<=k)(A:k<2^62):EvI K (Bi C e t) Z (ZM 0 k.toNat):=λU F O H R S r=>
 q U F O H _ S λP D W c m=>by
  cases m with
  |fz a b=>
   cases b;cases a;apply At ((S.ext c).fp);intro X g _;apply aI (g i _ h);rintro v _ _ _⟨T,B⟩;refine#[k,rfl,L,A,r P D _ c λM l j f=>#[#[?_,_,T,f _ _<|j _ _ B],λi d y=>?_]]
   .rw[Wh];exact Xm _
   .obtain⟨s,rfl⟩:=Yq y;exact#[s,λx Y n=>by
     obtain⟨rfl,rfl⟩:=n;exact#[M,Q3.refl f,.int _]]
end
end L2
namespace L2
def WR  {e:Expr}{t:TA}{p:Pos}(c:Hj K C)(f:X.mg "isinstance"=none)(g:PA X (e::es) t)(h:X.K=K:=by rfl)(hg:Gl X "isinstance" := by rfl)
(he:zs X e es:=by rfl)(hpl:zb X pos es:=by rfl):PE X (.Call (.Name "isinstance" p) (e::es) [] pos) (tCB (W7 K C) t):=by
 subst h;exact Zk (AB c) f JV g (hg:=hg) (he:=he) (hpl:=hpl)
def K8(h:EvR K t Z Ψ):EvR K (V6 t u) Z Ψ:=λF0 U F O H c x S k=>h F0 U F O H _ x S k
end L2
namespace L2
section
def EvN(K:W.Frag)(t:TE)(Z:ZbI)(Θ:PyData->ZbI->Prop):Prop := ∀(F0 U F:Hp) (O:St) (H:Hp) (Q:VK),Q3 F0 U F H->QF K U F Z O H->
 (∀f J d w c,Θ d c->Vf d=some w->Q3 F0 U f J->QF K U f c O J->Q w J)->t O H Q
variable {Θ:PyData->ZbI->Prop}
def EO{s:TE->TS}(hw:EvN K te Z Θ)(hs:∀(U F:Hp) (O:St) (H:Hp) (g:Ends),QF K U F Z O H->(∀Q:VK,(∀w D,s (tC w) g O D->Q w D)->te O H Q)->s te g O H)
(hn:∀d w f,Θ d f->Vf d=some w->QJ K (s<|tC w) f H1):QJ K (s te) Z H1:=λF0 U F O H g x S c=>
 hs U F O H g S λQ m=>hw F0 U F O H Q x S λq J d w f h j i n=>m w J (hn d w f h j F0 U q O J g i n c)
end
end L2
namespace L2
def HE(t:St->TE):TE:=λO H Q=>t O O H Q
def RHq(C:Addr)(th:Addr->TS)(H1:Ends)(j:Nat)(O:St)(e:Addr)(c:Qj)(H:Hp):Prop := ∀J T,Lefts C e c H J->J T=none->T≠e->th e (Dh H1 j) (O.set j<|some<|.ref e) (left C e c T J)
def EHq(C:Addr)(th:Addr->TS)(H1:Ends)(j:Nat):St->XK:=λO=>XE C (RHq C th H1 j O)
def Cb{H1:Ends} : ZQ C (RHq C th H1 j O):=λ_ _ _ _ r hT c J g f=>r J g (.head hT c f)
section
variable {o e:Expr}{t:TA}{k:Nat}{Eσ:St->XK}{pl:Sem Bool}
def IH{O:St}{H:Hp}{Q:VK}{us:Qe}{vs:List V}{f:Addr}(F:FnOk X.prog X.w X.K X.mg X.base (CX1 X.prog X.w) j f fd ps sp)(m:Room j X.A)(n:ZY X.K fd ps [])(k:Nc (CX1 X.prog X.w) X Eσ)
(I:Qt X Y O H s)(r:QS vs us)(h:sp (vs++[]) H Q (Eσ O)):wpAny (model X.prog X.w) X.A (call (.ref f) us) (EP X Y O Q) X.xe s:=by
 have g:=r.append .nil;refine wpAny_call (codeAny_mono (F.run X.A X.stack s H _ _ _ Q _ m I.env0 (n s us I.kIn<|by exact g.length▸(F.len _ _ _ _ h)) g h) λr i c=>?_)
 match r with
 |.error e=>exact k Y O H s e i I c
 |.ok (.ret u)=>exact I.after c
 |.ok .next=>exact False.elim c
 |.ok .brk=>exact False.elim c
 |.ok .cont=>exact False.elim c
def ZtF(M:ZZ X.prog X.w X.K X.mg X.base C m ps j sp)(c:HandC X.K C)(Z:Room k X.A)(P:Nc (CX1 X.prog X.w) X Eσ)(he:PE X o ta)(p:PA X (e::es) t)(b:j<=k:=by walk_at"j")
(g:zs X e es:=by rfl)(hpl:zb X pos es:=by rfl)
(U:eval (.Call (.Attribute o m XD) (e::es) [] pos) X.env=(do
  let ov <- eval o X.env
  standAt XD.atName
  let (f,first) <- holding [ov] (getMethod ov m pl)
  callWith pos f first (backTo pos<|starEach (e::es) X.env)<|backToKw pos<|keywordEach [] X.env):=by rfl):
 PE X (.Call (.Attribute o m XD) (e::es) [] pos) (HE λO=>ZU C m sp [] (Eσ O) ta t):=by
 apply aF M;refine λf fd i d F=>λY s O H Q I h=>W.methodCall_KW (Q9 (he Y s O H _ I h) ?_) U;rintro u A ⟨x,D,y,B,a,E,J,v,w,l,q⟩;subst v;obtain rfl:=B;refine Rm y w c.cl i l (W.callWith_K I.ok.mod.kin i.kp (Q9 (p pos Y A O D _ y q) ?_) g hpl);rintro z G ⟨vs,L,n,r,K⟩;exact#[n.kIn,IH (vs:=.ref a::vs) F (Z.mono b) d P n (.cons rfl r) K]
end
section
variable {B:Addr}{tb:Ends->TS}{x:Str}
def ZtG(cm:W.exmOne X.K (.ref C) (.ref B)=some true)(c:X.stack=X.env::X.outer)(a:X.env.frame=some X.env.locals)(hg:Gl X x)(Q:X.mg x=some (.ref B))(R:X.N.length=j)
(hb:∀H1 M,PSs (PL X (EHq C th H1 j) M) body<|tb H1)(S:∀e M,PSs (W1 X e M) (b0::suite)<|th e)(hd:(x==("__debug__" : Str))=false:=by decide):
 PS X (.Try body (.ExceptHandler (some<|.Name x np) none (b0::suite) hpos::rest) [] [] pos) (Uy tb):=by
 refine λY s0 A U H1 D h=>wpAny_Try_except (wpAny_mono (hb H1 (X.pn++Y) [] s0 A U H1 (D.toPn.wish _) h) (λk s1 q=>?_) λv s q=>?_)
 .have n:=SP.ofPn q;cases k with
  |next=>exact wpAny_execs_nil n
  |ret u=>exact n
  |brk=>exact n
  |cont=>exact n
 .apply L1 q;rintro O H f I⟨e,rfl,⟨T0,b,o,hT⟩,N⟩;have g:=D.ok;apply KE (I.hok e _ o);rintro⟨vs,sl,Z,L,d⟩_ _;apply KE (I.hok T0 _ hT);rintro⟨oT,ts,P,p,h3⟩_ _;have ff:s.heap.FunFrames X.base (X.env::X.outer):=by rw[<- c];exact I.stack
  refine R9 (by rw[g.frames,c]) ff a Z rfl L b P p h3 λh' T m=>?_;have E:=DJ I (by rw[o];trivial) Z (Array.getElem?_eq_some_iff.mp L).1 d (by exact c▸m);have i:=VY (XG (Xk Z) m.new);have y:Qt (W1 X e _) [] O _ { s with heap:=h' }:=E.toHandler;refine wpAny_handleBy_cons (codeAny_handlers_test<|WY y hg Q ((W.exm_one E.kIn ((W.Looks.ld m.exc).andThen .now) cm).here (codeAny_handlers_suite ?_)) hd) (by intro q;cases q);have G:left C e f T H e=some (.ext<|phF C e f T):=by unfold left;rw[Qv<|Ne.symm i,QI]
  have F:left C e f T H T=some (.ext<|phT T):=by unfold left;rw[QI]
  refine CO (y.hok e _ G).1 (y.hok T _ F).1 λp k2=>?_;have r:=y.kept (t':=s.toks) k2;refine wpAny_mono (S e _ [] _ O _ (Dh H1 j) r (((λI=>List.set_eq_of_length_le (by rw[I.len];exact Nat.le_of_eq R)) r)▸(N _ T .nil (I.hok.fresh m.new) i))) (λk s4 z=>?_) λ_ _ z=>False.elim z
  cases k with
  |next=>
   exact L0 z λK J t q=>#[K,J,(t.ofHandler g).ofPn,by have q:H1.nx _ J:=q;rwa[(λI=>List.set_eq_of_length_le (by rw[I.len];exact Nat.le_of_eq R)) t]at q]
  |ret u=>exact aA z λ_ _ _ _ _ z=>False.elim z
  |brk=>exact L0 z λ_ _ _ z=>False.elim z
  |cont=>exact L0 z λ_ _ _ z=>False.elim z
end
structure An(K:W.Frag)(C:Addr){δ:Type}(FL:Addr->Hp->Hp->Hp->Qj->δ->Prop)(ok:δ->Prop)(XO:δ->Addr->OT->Prop):Prop where
 go:∀{F F' H J H'':Hp} {e T:Addr} {dct:Qj} {d:δ},ok d->Q6 F F'->H e=none->FL e F' J H dct d->Lefts C e dct J H''->H'' T=none->T≠e->∃o p,XO d e o/\Zx K F (left C e dct T H'') (.ref e) o p/\∀a∈p,H a=none
def xoP(C:Addr)(f:Str)(ds:Qd)(e:Addr)(o:OT):Prop := ∃E q,o=.own (.ref e) (Z0n C f ds e E q)
def TX{b:Addr}(f:Lefts C e dct J H'')(hT:H'' T=none)(c:b≠e)(h:J b=some o):left C e dct T H'' b=some o:=by
 have a:=LQ f c h;unfold left;rw[Qv (λz=>by subst z;rw[hT]at a;cases a),Qv c];exact a
def E9(h:T≠e):left C e dct T H e=some (.ext<|phF C e dct T):=by unfold left;rw[Qv<|Ne.symm h,QI]
theorem xfP:An K C (Fld f) Jv (xoP C f) where
 go:=by
  rintro F n H J m e T _ ds i s j ⟨E,q,xs,rfl,fl⟩ h hT c;refine#[_,[e,E,q],#[E,q,rfl],#[rfl,rfl,#[s.free fl.fe,s.free fl.fd,s.free fl.fq],#[T,E9 c],TX h hT fl.nd fl.hd,xs,TX h hT fl.nq fl.hq,fl.rp.flats i],λa g=>?_];simp only[Xd,List.mem_nil_iff,or_false]at g;rcases g with rfl|rfl|rfl
  .exact j
  .exact fl.d0
  .exact fl.q0
section
variable {t:TA}{v:V}
def QF.setFr{t:OT}(S:QF K U F Z O H)(x:Q3 F H F1 D)(n:∀a∈p,H a=none)(h0:∀a∈p,U a=none)(h:Zx K F1 D v t p):QF K U F1 (Z.set i<|some t) (O.set i<|some v) D:=
 (S.ext x).set h h0 (hn:=λa s j w g q M C c m=>by
  refine L3 S.fp λX A W y=>At (A j g M) λP f B=>?_;rw[C]at f;cases f;exact(y j a<|UO (B.ext x) c a m).2 (n a s))
end
end L2
namespace L2
section
variable {r:R2}
def Ed{th:TS}(j:QM K tA Z true)(hw:EvW K te Z i Θ)(hn:∀n o,Θ n o->QJ K (Jj (WC<|tOp r (tC<|.int n)<|tC c) th el) (Z.set i<|some o) H1):QJ K (Jj (HB tA<|WC<|tOp r te<|tC c) th el) Z H1:=λF0 U F O H m x S C=>
 j U F O H _ S λs D g=>(Xh rfl).mpr <| hw F0 U s O D _ (x.trans g) (S.ext g) λy J n o f h _ q=>hn n o f F0 U y O J m h q C
end
section
variable {e:Addr}
def Zp9(i:Nat)(h:zg Z i<|zo (.ref e)<|UZ C e)(q:Jv fs)(k:EvO K t (Z.set i<|zz<|HQ C e) (.ol fs)):EvO K t Z (.ol fs):=λU F O H Q S r=>by
 refine At (S.freezeZX h (λa b c=>UZ.fz a b c)) λp n s=>k U _ O H Q s λy J u j x g m=>r _ J u j (Ul (λa f=>#[(n a f).1,(n a f).2.1]) x) g (KH q K y _ J u j (λa f=>?_) m)
 by_cases z:a∈p
 .rw[Xh z]
 .rw[Xe z];exact(m.there a f).1
def Td{g:TG}(f:Qr K tx Z d0)(x:Q3 F0 U F H)(S:QF K H9 F Z O H)(k:∀c D,Q3 F0 U c D->QF K H9 c Z O D->∀Q,te O D Q):ZN (Y8<|Q4 tx<|Q4 te QL) g dx O H:=
 f H9 F O H _ S λc D u e _=>k c D (x.trans e) (S.ext e) _
end
end L2
namespace L2
def SY(xs:List V)(H:Hp)(Q:VK):Prop := ∃x,xs=[.str x,.ty "str"]/\Q (.bl true) H
def Ew:ZF X (.builtin "isinstance") SY:=by
 intro Y s O H xs i Q I r h;apply At h;rintro x rfl q;apply aF (Gw r);rintro u g rfl c f;cases (f);obtain⟨t,rfl⟩:=c;exact IsiPair.str_str #[.bl true,H,I.tok _,rfl,q]
def AZ(h:Qr K ta Z (.str x)):Qr K (tCB SY<|Q4 ta<|Q4 (tC<|.ty "str") QL) Z (.bool true):=λU F O H Q S q=>
 h U F O H _ S λg D v c f=>by
  cases f;exact#[x,rfl,q g D _ c<|.bl _]
end L2
namespace L2
section
variable {CR:Addr}{N:HandS}{v:V}{t:TA}
def ZqR(w:NoH m)(e:zg Z i<|zo v<|QY CH N)(D:Zm K t Z ts)(z:R N ts Ψ)
(hn:∀r f,Ψ r f->H1.nx (Z.set i<|zo v<|QY CH f)):
 QJ K (Uy λP=>V2<|HE λO=>ZU CH m (JE K CH CR FL R Rx) [] (EHq CR th P j O) (Q8 i) t) Z H1:=λF0 U F O H P x S c=>by
 apply L3 (Y4 S x e);intro p0 s0 B _;apply ac (QY.at B);rintro W E y n k g d e'⟨rfl,L⟩;exact#[.ref W,s0,W,E,_,rfl,L,w _ _ _ _ _ _,D U F O H _ S λQ H2 a h l=>.inl #[_,rfl,Cb,L3 (Y4 (S.ext h) (x.trans h) e) λp s1 A M=>#[Q,_,a++[],p,ts,N,Ψ,rfl,(S.ext h).kt,h.fh,by rw[Xr];exact l,A,z,λX J o f T r q u Y C s b hq=>KE (M X J o f Y C s) λG I _=>c.nx X _ J _ G I (hn r f u)]]]
def ZtC(k:∀vs H Q C,ZI K CR FL (λ_ _=>False) Rx vs H Q C->sp vs H Q C)(xf:An K CR FL ok XO)(hm:NoH m)(e:zg Z i<|zo v<|QY CH N)(hA:Zm K t Z ts)(hR:Rx (.zow (Zd CH N)::ts) Φx)
(hth:∀d e o,Φx d->XO d e o->QJ K (th e) (Z.set j<|some o) { nx:=λX=>H1.nx<|X.set j none,rt:=λ_=>False })(l:∀d,Φx d->ok d):
 QJ K (Uy λC=>V2<|HE λO=>ZU CH m sp [] (EHq CR th C j O) (Q8 i) t) Z H1:=λF0 U F O H C x S c=>by
 apply L3 (Y4 S x e);intro p0 s0 Y _;apply ac (QY.at Y);rintro a0 E y n k' g d e'⟨rfl,L⟩;refine#[.ref a0,s0,a0,E,_,rfl,L,hm _ _ _ _ _ _,hA U F O H _ S λf D vs P r1=>k _ _ _ _ ?_];have M:=S.ext P;apply L3 (Y4 M (x.trans P) e);intro p _ s _;have W:Q6 f (frF f D p):=Wz λa r=>((QY CH N).there s a r).1;refine#[frF f D p,_,M.kt.mono W,Dq M.sub,.zow (QY.fz s W λb hb=>WM hb)<|by rw[Xr];exact r1.mono W,_,rfl,Cb,.inr #[Φx,hR,λF' J e dct d R w I fl H'' T hL hT B=>?_]];apply aF (xf.go (l d R) (W.trans w.ff) I fl hL hT B);intro o q u so A;have G:=Mi (.step hL hT B) w.hh I;have X0:Q3 f D f _:=#[G,Q6.refl _,M.sub.trans G,λ_ h=>.inl h];exact hth d e o R u F0 U f _ _ _ ((x.trans P).trans X0) (M.setFr X0 A (λa r=>(x.trans P).hh.free (A a r)) so) #[λF4 σ4 H4 ρ4 x4 S4 q4=>c.nx F4 _ H4 _ x4 (S4.setN none) q4,λ_ _ _ _ _ _ _ _ z=>False.elim z,λ_ _ _ _ _ _ z=>False.elim z,λ_ _ _ _ _ _ z=>False.elim z]
end
def Fun.evPN{w:World}{base:Heap}{i:Type}{Φ:i->OwnP}{x:Str}{st:Stmt}{f:Addr}{B:Qh}{k:Nat}{R:i->List OT->(OT->i->Prop)->Prop}(F:Fun K x qual st f fd)(S:Qo B ps (QD st))
(c:∀v M ts Ψ,R M ts Ψ->∀H g,B0 P w K mg base B qual st k f H g λt=>EvR K (V6 t<|VN<|tC .non) (ini B (.own v (Φ M)::ts))<|fiO v Φ Ψ)(m:∀M ts Ψ,R M ts Ψ->ts.length+1=ps.length:=by intro _ _ _ h;cases h<;>rfl):FnOk P w K mg base CX0 (k+1) f fd ps (spP K Φ R):=by
 refine F.ok S (λW H Q g h=>?_) λW H Q g h C A outer s a=>?_
 .obtain⟨F,U,j,p,ts,M,Ψ,e,_,_,n,_,y,_⟩:=h;rw[e,X4,n.length];exact m _ _ _ y
 .obtain⟨F,U,j,p,ts,M,Ψ,rfl,Z,X,n,Y,y,q⟩:=h;exact At (c U M ts Ψ y H g C A outer s a) λt L b=>#[t,L,D4 (R:=R) (q0:=λ_ _=>True) b Z X n Y q]
def Df.evPN{w:World}{base:Heap}{g:Type}{Φ:g->OwnP}{x:Str}{st:Stmt}{j:Qh}{k:Nat}{R:g->List OT->(OT->g->Prop)->Prop}(H1:Df K mg x st ps)(S:Qo j ps (QD st))
(c:∀f v M ts Ψ,R M ts Ψ->∀H m,B0 P w K mg base j x st k f H m λt=>EvR K (V6 t<|VN<|tC .non) (ini j (.own v (Φ M)::ts))<|fiO v Φ Ψ)(i:∀M ts Ψ,R M ts Ψ->ts.length+1=ps.length:=by intro _ _ _ h;cases h<;>rfl):Q2 P w K mg base x ps (k+1) (spP K Φ R):=
 H1.go λf fd F=>F.evPN S (c f) i
end L2
namespace L2
def InZ(C:Addr)(f:Str)(c:ZP):ZP where
 ok K F v := ∃a E u,v=.ref a/\F a=some (.ins C E [(f,u)])/\c.ok K F u
 mono:=by
  rintro K F h v s ⟨a,E,u,rfl,L,g⟩;exact#[a,E,u,rfl,s _ _ L,c.mono s g]
def InP.fz(hz:∀{g c D:Hp} {u:V} {q:Qg},Φ.ok K g D u q->Q6 g c->(∀b∈q,c b=D b)->ρ.ok K c u)(h:(InP C f Φ).ok K F H v p)(s:Q6 F F')(he:∀b∈p,F' b=H b):(InZ C f ρ).ok K F' v:=by
 obtain⟨a,E,u,q,rfl,rfl,A,B,y,M,i,n,m,k⟩:=h;exact#[a,E,u,rfl,by rw[he _<|by simp];exact i,hz k s λb j=>he b<|by simp[j]]
section
variable {ρ:ZP}{t:TA}
def L4(c:Cls K C)(m:Vp K C f)(e:zg Z i<|zz<|InZ C f ρ)(h:Zm K t Z ts):Zm K (Q4 (ZW K (Q8 i) f) t) Z (.zow ρ::ts):=λU F O H Q S q=>by
 apply At S.fp;intro M s _;apply aR (s i _ e);rintro v y _ a⟨E,u,rfl,L,n⟩;refine#[_,y,a,C,E,_,u,rfl,S.sub _ _ L,c,m,by simp[List.lookup],h U F O H _ S λA D B g j=>q A D _ g<|.zow (ρ.mono g.ff n) j]
def Ie(A:(m==f)=false)(e:zg Z i<|zz<|InZ C f ρ)(P:Zm K t Z ts)(M:R (.zow (InZ C f ρ)::ts) Φ):Zt K (ZU C m (Zi K R) [] dx (Q8 i) t) Z Φ:=λU F O H Q S q=>by
 apply At S.fp;intro r X _;apply aR (X i _ e);rintro v Y _ a⟨E,u,rfl,L,W⟩;exact#[_,Y,a,E,_,rfl,S.sub _ _ L,by simp[List.lookup,A],P U F O H _ S λl D o c j=>#[l,_,Φ,(S.ext c).kt,c.fh,.zow ((InZ C f ρ).mono c.ff #[a,E,u,rfl,L,W])<|by rw[Xr];exact j,M,λk d v p n s h y g=>q k d v p n s (c.trans h) (λb B=>c.hh.free<|y b B) g]]
def IM(c:(m==f)=false)(e:zg Z i<|zz<|InZ C f ρ)(h:Zm K t Z ts)(g:R (.zow (InZ C f ρ)::ts) (λr=>r=.fz d)):Qr K (ZU C m (Zi K R) [] dx (Q8 i) t) Z d:=EvO.e (Zt.o<|Ie c e h g)
def Zr3{t:TE}(i:Nat)(e:zg Z i<|zo v<|InP C f<|QY CH N)(g:∀r,Φ r->JG r)(h:Zt K t (Z.set i<|zz<|InZ C f<|Zd CH N) Φ):Zt K t Z Φ:=
 Nu i e (λa b c=>InP.fz (λa b c=>QY.fz a b c) a b c) g h
def FD{t:TE}(i:Nat)(e:zg Z i<|zo v<|InP C f<|QY CH N)(g:Vf d=some u)(h:Qr K t (Z.set i<|zz<|InZ C f<|Zd CH N) d):Qr K t Z d:=
 EvO.e (Zt.o<|Zr3 i e (λr c=>by subst c;exact GK g)<|h.o.d rfl)
def ZrP{t:TT}(i:Nat)(e:zg Z i<|zo v<|InP C f<|QY CH N)(h:QM K t (Z.set i<|zz<|InZ C f<|Zd CH N) b):QM K t Z b:=λU F O H Q S q=>by
 exact At (S.freezeZ e (λa b c=>InP.fz (λa b c=>QY.fz a b c) a b c)) λp g m=>h U _ O H Q m λn J x=>q _ J (Ul (λa j=>#[(g a j).1,(g a j).2.1]) x)
end
end L2
namespace L2
section
variable {w:World}{dx:Qb}
def Es(hn:1<=n)(i:∀m (C:Bool->Shared->Prop),1<=m->m<n->C false s->cmp m (m-1) C s)(q:Q (List.toArray<|List.range n) s):(W.kas_sort n).kasWp cmp Q s:=by
 have c:∀f m (G),1<=m->m+f=n->G n s->(W.kas_asc (List.toArray<|List.range n) f m).kasWp cmp G s:=λf=>by
  induction f with
  |zero=>
   intro m G L j g;obtain rfl:m=n:=#[]
   exact g
  |succ f h=>
   intro m G L j g;have y:(List.toArray<|List.range n).getD m 0=m:=by simp[Array.getD,show m<n by lia]
   have w:(List.toArray<|List.range n).getD (m-1) 0=m-1:=by simp[Array.getD,show m-1<n by lia]
   show cmp _ _ _ s;rw[y,w];exact i m _ L #[] (h (m+1) G #[] #[] g)
 unfold W.kas_sort;rw[W.KasT.kasWp_bind];unfold W.kas_count;rw[W.KasT.kasWp_bind];refine c (n-1) 1 _ (Xm 1) #[] ?_;rw[Xh<|by simp];show W.KasT.kasWp cmp (if n<n then _ else _) Q s;rw[Xe<|Y5 n];exact q
def A2  {P:Fin->Shared->Prop}(r:s.heap.get? a=some (seqObj "list" vs.toArray n))(F:vs.length<64)(o:Qn)
(hk:∀j v,vs[j]?=some v->∃b x t y,v=.ref b/\b≠a/\s.heap.get? b=some { cls:=.type "tuple",data:=.seq (List.toArray [.int x t,y]) }/\x=o j)(up:∀j,j+1<vs.length->o j<o (j+1))
(h:P (.done<|.ret .none) { s with heap:=sortedHeap s.heap a vs vs.toArray }):wpAny (model prog w) A (Builtin.«list.sort» #[[.ref a],[]]) P dx s:=by
 rw[list_sort_plain];have Y:vs.length<=sizeLine:=by rw[sizeLine_eq];lia
 refine Xa (listItems_at r rfl (Xa (listUpdate_at r rfl ?_ (Y)<|XH _)));obtain⟨O,k⟩:∃O,(s.heap.update a<|Obj.mapSeq λ_=>(List.toArray [])).get? a=some (seqObj "list" (List.toArray []) O):=⟨_,get?_update_seq r λ_=>(List.toArray [])⟩;refine Xa (seqEpoch_at k rfl (Xa (wpAny_newTuple (Xa (wpAny_newList (wpAny_holding ?_)<|XH _))<|Y)));have c:(((s.heap.update a<|Obj.mapSeq λ_=>(List.toArray [])).push (seqObj "tuple" vs.toArray 0)).push (seqObj "list" (List.toArray []) 0)).get? a=some (seqObj "list" (List.toArray []) O):=by
  rw[Heap.get?_push_ne _ _ _<|by rw[size_push',Heap.size_update];exact Xp<|JA (Xk r),Heap.get?_push_ne _ _ _<|by rw[Heap.size_update];exact Xp (Xk r)];exact k
 have B:∀j v,vs[j]?=some v->∃b x t y,v=.ref b/\(((s.heap.update a<|Obj.mapSeq λ_=>(List.toArray [])).push (seqObj "tuple" vs.toArray 0)).push (seqObj "list" (List.toArray []) 0)).get? b=some { cls:=.type "tuple",data:=.seq (List.toArray [.int x t,y]) }/\x=o j:=λj v e=>by
  apply aT (hk j v e);rintro b x t y rfl ne⟨g,e⟩;exact#[b,x,t,y,rfl,Xc _<|Xc _<|(XV _ _<|Ne.symm ne).trans g,e]
 have M:P (.done<|.ret .none) { s with heap:=(((s.heap.update a<|Obj.mapSeq λ_=>(List.toArray [])).push (seqObj "tuple" vs.toArray 0)).push (seqObj "list" (List.toArray []) 0)).update a (Obj.mapSeq λ_=>vs.toArray) }:=h;generalize (((s.heap.update a<|Obj.mapSeq λ_=>(List.toArray [])).push (seqObj "tuple" vs.toArray 0)).push (seqObj "list" (List.toArray []) 0))=H at c B M;dsimp only;have d:vs.toArray.size=vs.length:=by simp
 by_cases l:vs.toArray.size<2
 .rw[Xh l,Xh l];refine Xa (Xl (Xa (Xl ?_)));dsimp only;have e:=by
   show(vs.toArray.zip vs.toArray).map (·.2)=vs.toArray
   apply Array.toList_inj.mp;simp only[Array.toList_map,Array.toList_zip];exact(List.map_snd_zip<|Xm _)
  rw[e];refine Xa (seqEpoch_at c rfl (Xa (listUpdate_at c rfl ?_ (XH _)<|by rw[d];lia)));simp only[failedOf,bne_self_eq_false,DZ,if_false];exact Xl M
 .rw[Xe l,Xe l]
  have D:∀(U:Qe) (i:Nat),(∀j v,U[j]?=some v->vs[i+j]?=some v)->∃X,W.KatTups H U X/\X.length=U.length/\∀f∈X,∃x t,f=.int x t:=λU=>by
   induction U with
   |nil=>intro i E;exact#[[],.nil,rfl,by rintro _ ⟨⟩]
   |cons u U ih=>
    intro i E;apply L3 (ih (i+1) λj v e=>by rw[Nat.add_assoc,Nat.add_comm 1 j];exact E (j+1) v (by simpa using e));intro X J f2 I
    apply aT (B i u (E 0 u rfl));rintro b x t y rfl g _;exact#[_::X,.cons g rfl rfl rfl J,by simp[f2],λf K=>by
     rcases Xd.mp K with rfl|K
     .exact#[_,_,rfl]
     .exact I f K]
  refine L3 (D vs 0 (λj v e=>by rw[Nat.zero_add];exact e)) λX J f2 I=>Xa (W.kat_kind (T:=.type "int") J #[] (λf K=>?_) rfl ?_)
  .apply aO (I f K);rintro x t rfl;exact W.Looks.of_pure rfl
  refine Xa (wpAny_mono (W.kat_run (Q:=λq Z=>Z={ s with heap:=H }/\(arrOf q).map (·.2)=vs.toArray/\failedOf q=none) (G:=λp Z=>p=List.toArray (List.range vs.length)/\Z={ s with heap:=H }) rfl #[] F (λp q Z a1 a2 a3 ⟨a4,a5⟩=>#[a5,?_,a3])<|Es #[] (λm C m1 R hC=>?_) #[rfl,rfl]) ?_ λ_ _ e=>e)
  .rw[W.kat_snds rfl a2,a4];apply Array.toList_inj.mp;apply List.ext_getElem (by simp);intro i L l;simp at L;simp[L]
  .refine aT (B m _ (XT R)) λb x t y eb g ex=>aT (B (m-1) _ (XT (show m-1<vs.length by lia))) λb' x' t' y' N g' ex'=>?_;show wpAny (model prog w) A (keyLt' _ (vs.getD m Value.none)<|vs.getD (m-1) Value.none) C _ _;have d1:vs.getD m Value.none=.ref b:=by rw[<- eb];simp[R]
   have d2:vs.getD (m-1) Value.none=.ref b':=by rw[<- N];simp[show m-1<vs.length by lia]
   rw[d1,d2];have lt:=up (m-1) #[];rw[show m-1+1=m by lia]at lt;refine W.kat_lt g rfl g' rfl (W.kat_cons<|wpAny_eqBool_int ?_);rw[show(x==x')=false by simp;lia];refine oneLt_int ?_;rw[XJ<|#[]];exact hC
  .rintro⟨⟨⟩,q⟩ Z ⟨rfl,hs,K⟩;rw[hs];refine Xa (seqEpoch_at c rfl (Xa (listUpdate_at c rfl ?_ (XH _)<|by rw[d];lia)));rw[K];simp only[bne_self_eq_false,DZ,if_false];exact Xl M
def Iv(T:A.handled=none)(u:s.heap.IsItemsView r d)(R:s.heap.DictAt (VH prog w) d kvs ep)(N:s.heap.objs.size=r+1)(M:kvs.length<64)(f:Ql)(E:kvs.map (·.1)=f.map Sum.inl)(H:f.Pairwise (· < ·))
(q:∀(K:Heap) (n:Nat) (l e:Nat) (as:Qg),(∀b o,s.heap.get? b=some o->K.get? b=some o)->s.heap.objs.size<=l->(∀a∈as,s.heap.objs.size<=a/\a≠l)->as.Nodup->K.get? l=some (seqObj "list" (as.map Value.ref).toArray e)->as.length=kvs.length->
  (∀(j:Nat) (a:Addr),as[j]?=some a->∃c k x,kvs[j]?=some (k,x)/\(VH prog w).is k c=true/\K.get? a=some { cls:=.type "tuple",data:=.seq (List.toArray [c,x]) })->Q (.ref l) { s with heap:=K,toks:=n }):
 wpAny (model prog w) A (call (.builtin "sorted") [.ref r]) Q dx s:=by
 refine Calls.call_function_entry kind_sorted plain_sorted entry_sorted (args_sorted1 _)<|Xa (Xl ?_);have z:kvs.length<=sizeLine:=by rw[sizeLine_eq];lia
 refine Xa (W.kdx_collect T u R z λh' n as D B m=>Xa (wpAny_newList ?_<|by rw[Xg,B];exact z))
 have J:∀(j:Nat) (k) (x),kvs[j]?=some (k,x)->k=.inl (f.getD j 0):=λj k x e=>by
  have L:(kvs.map (·.1))[j]?=some k:=by rw[Xv,e];rfl
  rw[E,Xv]at L;cases z:f[j]? with
  |none=>rw[z]at L;cases L
  |some i=>rw[z]at L;simp at L;rw[<- L];simp[List.getD,z]
 have li:=by
  have:=XS List.length E;simpa using this.symm
 refine Xa (wpAny_holding<|wpAny_call_entry slot_list_sort #[_,Xn _ rfl,rfl] entry_list_sort (A2 (s:={ s with heap:=h'.push (seqObj "list" (as.map Value.ref).toArray 0),toks:=n }) (Xn _ rfl) (by rw[Xg,B];exact M) (λj=>f.getD j 0) (λj v e=>?_) (λj S=>?_) #[_,rfl,?_])<|args_list_sort _)
 .rw[Xv]at e;apply At (Mq.mp e);rintro a G rfl;apply aA (m.pairs j a G);intro c k x Z Y X;have:=J j k x Z;subst this;rcases W0 (k:=.inl (f.getD j 0)) Y with ⟨i,t,U,F⟩|⟨y,t,U,F⟩
  .cases U;subst F;exact#[a,_,t,x,rfl,Xp<|(λa C=>m.there C) a<|List.mem_of_getElem? G,Xc _ X,rfl]
  .cases U
 .rw[Xg,B]at S;have:=List.pairwise_iff_getElem.mp H j (j+1) #[] #[] #[];simpa [show j<f.length by lia,show j+1<f.length by lia] using this
 .refine Xl #[_,rfl,?_];obtain⟨e,he⟩:=sortedHeap_at (out:=(as.map Value.ref).toArray) (Xn _ rfl);have g:∀b o,h'.get? b=some o->(sortedHeap (h'.push<|seqObj "list" (as.map Value.ref).toArray 0) h'.objs.size (as.map Value.ref) (as.map Value.ref).toArray).get? b=some o:=λb o e=>by
   rw[sortedHeap_old (Xp (Xk e))<|by rw[size_push'];exact JA (Xk e)];exact Xc _ e
  have I:s.heap.objs.size<=h'.objs.size:=by
   apply At u;intro o O _;rw[N];exact Xk (D r o O)
  exact q _ n h'.objs.size e as (λb o hb=>g b o<|D b o hb) I (λa C=>#[YV<|m.above a C,Xp<|(λa C=>m.there C) a C]) (m.rise.imp λh=>Xp h) he B (λj a ej=>by
   exact aA (m.pairs j a ej) λc k x Z Y X=>#[c,k,x,Z,Y,g _ _ X])
end
def Qt.lays{O:St}{H J:Hp}{t':Nat}(I:Qt X Y O H s)(k:∀b u,s.heap.get? b=some u->h'.get? b=some u)(f:Q6 H J)(nw:∀b o,J b=some o->H b=some o\/s.heap.objs.size<=b/\ZT X.prog X.w J h' b o):
 Qt X Y O J { s with heap:=h',toks:=t' }:=
 I.un #[λb u q _ _ _=>k b u q,λb u q _ _ _=>#[u.slots,k b u q],λb u q n _=>by
  cases z:J b with
  |none=>rfl
  |some o=>
    rcases nw b _ z with y|y
    .grind
    .exact Xt (Xk q) (Nat.not_lt.mpr y.1),λb u q _=>#[u,k b u q],λb xs q=>f _ _ q,λb u xs q=>f _ _ q,λb _ g _ e _=>k b g e,λb ps q=>#[(List.toArray []),by rw[f _ _ q];simp]]
  λb u e=>by
   rcases nw b u e with y|y
   .exact(I.hok b u y).stay (λc v _ q=>k c v q) (λc q=>f _ _ q) λc xs q=>f _ _ q
   .exact y.2
theorem Paired.get{i g:Type}{F:i->g->Prop}:∀{l:List i} {m:List g} {j:Nat} {a:i} {b:g},_root_.PySem.Paired F l m->l[j]?=some a->m[j]?=some b->F a b
 |_,_,0,_,_,.cons h _,f,c=>by simp at f c;subst f c;exact h
 |_,_,j+1,_,_,.cons _ t,f,c=>Paired.get t (by simpa using f) (by simpa using c)
def Pf(te:TE):TE:=λO H Q=>te O H λx D=>∃(a:Addr) (c:List (Key×V)) (h:Ql),x=.ref a/\D a=some (.dK c)/\c.map (·.1)=h.map Sum.inl/\h.Pairwise (· < ·)/\c.length<64/\
 ∀(J:Hp) (f:Qg) (l:Addr),f.length=c.length->(∀b∈l::f,D b=none)->Q6 D J->(∀b,b∉l::f->J b=D b)->J l=some (.lst<|f.map V.ref)->(∀(j:Nat) (b:Addr) (g:Key×V),f[j]?=some b->c[j]?=some g->J b=some (.tup [kV g.1,g.2]))->Q (.ref l) J
open Classical in
def ZsO{e:Expr}{p:Pos}(hc:X.calm=true)(he:PE X e te)(hg:Gl X "sorted")(hm:X.mg "sorted"=none)(hv:bootBuiltins "sorted"=some (.builtin "sorted"))(d:attributeBase e "items" X.env (eval e X.env)=eval e X.env:=by rfl)(W:(XD.endLine==UH.line)=true:=by rfl)
(hs:starEach [Expr.Call (.Attribute e "items" XD) [] [] UH] X.env=(false,eval (Expr.Call (.Attribute e "items" XD) [] [] UH) X.env)::starEach [] X.env:=by rfl)(hpl:(backTo pos<|starEach [] X.env).any (·.1)=false:=by rfl):
 PE X (.Call (.Name "sorted" p) [.Call (.Attribute e "items" XD) [] [] UH] [] pos) (Pf te):=by
 intro Y s O H Q I h;refine wpAny_Call_Name_kw (WN I hg hm hv ?_ (by decide)<|by decide);refine PyProof.Rows.callWith_builtin1 ?_ hs hpl;rw[hs];show wpAny _ _ (spliced ((false,eval _ X.env)::backTo pos _)) _ _ s;refine Calls.spliced_cons (wpAny_Call_method0_late d W<|Q9 (he Y s O H _ I h) ?_);rintro v R ⟨x,D,I1,r1,a,m,is,ex,T,hi,up,l64,q⟩;subst ex;cases r1;obtain⟨z,n1,vs,K,L⟩:=I1.hok _ _ T;obtain⟨ep,hat⟩:=L.dictAt;refine#["dict","dict.items",PySem.F.plainAttrs_dict,PySem.F.slot_dict_items,PySem.F.type_dict_items,L.typeIs,(λb eb=>by cases eb;obtain⟨o,es,ep',g1,g2,_⟩:=L;exact#[o,g1,g2.2.1]),Calls.callWith_builtin rfl (PySem.evalArgs_none<|call_meetsIn PySem.F.slot_dict_items L.typeIs PySem.F.entry_dict_items (PySem.F.args_dict_items_1 _) (meets_dict_items (VH X.prog X.w) a n1) #[#[vs,L],?_])];refine Calls.spliced_nil ?_;have lv:=K.length;refine Iv (I.ok.hd hc) #[_,Xn _ rfl,rfl,rfl] (hat.push _) (by show(Heap.push _ _).objs.size=_;rw[Yt]) #[] is (by rw[<- K.keys];exact hi) up λh2 tk l e A old le P nd hl hal u=>?_;have w:∀b o,R.heap.get? b=some o->h2.get? b=some o:=λb o q=>old b o (Xc _ q);have E:R.heap.objs.size<=l:=Xq (by show _<=(Heap.push _ _).objs.size;rw[Yt];exact UT _) le;have n:∀a∈A,R.heap.objs.size<=a/\a≠l:=λa T=>#[Xq (by show _<=(Heap.push _ _).objs.size;rw[Yt];exact UT _) (P a T).1,(P a T).2]
 have g:∀b∈l::A,D b=none:=λb f=>by
  rcases Xd.mp f with rfl|f
  .exact I1.hok.fresh E
  .exact I1.hok.fresh (n b f).1
 let J:Hp:=λb=>if b=l then some (.lst<|A.map V.ref) else if z:∃(j:Nat) (B:Key×V),A[j]?=some b/\m[j]?=some B then some (.tup [kV z.choose_spec.choose.1,z.choose_spec.choose.2]) else D b
 have Z:J l=some (.lst<|A.map V.ref):=Xh rfl;have U:∀(j:Nat) (b:Addr) (B:Key×V),A[j]?=some b->m[j]?=some B->J b=some (.tup [kV B.1,B.2]):=λj b B C e2=>by
  have z:∃(j:Nat) (B:Key×V),A[j]?=some b/\m[j]?=some B:=#[j,B,C,e2]
  show(if b=l then _ else if z:_ then _ else _)=_
  rw[Xe (n b<|List.mem_of_getElem? C).2,dif_pos z];obtain⟨g1,g2⟩:=z.choose_spec.choose_spec;have N:z.choose=j:=(List.getElem?_inj (Xi.mp g1).1 nd).mp (g1.trans C.symm);have e3:m[z.choose]?=some B:=by rw[N];exact e2
  rw[Option.some.inj<|g2.symm.trans e3]
 have sm:Q6 D J:=λb o f=>by
  show(if b=l then _ else if z:_ then _ else _)=_
  rw[Xe (λc=>by rw[c,g l Xb]at f;cases f),dif_neg (λ⟨j,B,C,_⟩=>by rw[g b<|Xf _<|List.mem_of_getElem? C]at f;cases f)];exact f
 have M:∀b,b∉l::A->J b=D b:=λb f=>by
  show(if b=l then _ else if z:_ then _ else _)=_
  rw[Xe (λc=>f<|by rw[c];exact Xb),dif_neg (λ⟨j,B,C,_⟩=>f<|Xf _<|List.mem_of_getElem? C)]
 refine#[.ref l,J,I1.lays (s:=R) (t':=tk) w sm λb o f=>?_,rfl,q J A l #[] g sm M Z U]
 by_cases G:b=l
 .subst G;rw[Z]at f;cases f;refine .inr #[E,by rw[Xg];lia,A.map Value.ref,e,?_,hl];clear hl hal u U P n g M sm nd Z J;induction A with
  |nil=>exact .nil
  |cons a A ih=>exact .cons rfl ih
 .by_cases r:b∈A
  .obtain⟨j,N⟩:=List.mem_iff_getElem?.mp r;obtain⟨F,k,x,C,e2,e3⟩:=u j b N;have hj:j<m.length:=by
    have:=(Xi.mp N).1;lia
   have e4:m[j]?=some m[j]:=XT hj;rw[U j b _ N e4]at f;cases f;have S:=Paired.get K e4 C;have rk:QO (kV m[j].1) F:=by
    rw[S.1];rcases W0 (k:=k) e2 with ⟨i,t,e5,e6⟩|⟨y,t,e5,e6⟩
    .rw[e5,e6];exact#[t,rfl]
    .rw[e5,e6];exact#[t,rfl]
   have S:=S.2;exact .inr #[(n b r).1,by show(2:Nat)<=_;decide,[F,x],.cons rk<|.cons S .nil,_,e3,rfl,_,rfl]
  .rw[M b λc=>by rcases Xd.mp c with c|c;exact G c;exact r c]at f;exact .inl f
theorem FU{F f:Hp}(s:Q6 F f):∀{xs:List (Key×V)} {kvs:Zw} {as:Qg},PairK F xs kvs->as.length=xs.length->(∀(j:Nat) (b:Addr) (c:Key×V),as[j]?=some b->xs[j]?=some c->f b=some (.tup [kV c.1,c.2]))->Qx f (as.map V.ref) (kvs.map λc=>.tuple [JL c.1,c.2])
 |_,_,[],.nil,_,_=>.nil
 |_,_,a::as,.cons r t,g,h=>.cons (.tup (h 0 a _ rfl rfl)<|.cons (EJ _)<|.cons (r.mono s) .nil) (FU s t (by simpa using g) λj b c m i=>h (j+1) b c (by simpa using m)<|by simpa using i)
def Zsy{B:Ql}(e:zg Z i<|zz<|DkZ kvs)(r:kvs.map (·.1)=B.map Sum.inl)(X:B.Pairwise (· < ·))(l:kvs.length<64):Qr K (Pf<|Q8 i) Z (.list<|kvs.map λy=>.tuple [JL y.1,y.2]):=λU F O H Q S q=>by
 apply aF (S.dkz e);intro a xs A u C;have w:=C.length;refine#[_,A,a,xs,B,rfl,S.sub _ _ u,by rw[C.key];exact r,X,#[],λJ s p t g M Y k d=>?_]
 classical
 have n:∀{b},b∈p::s->(λb=>if b∈p::s then J b else F b:Hp) b=J b:=λh=>Xh h;have m:∀{b},b∉p::s->(λb=>if b∈p::s then J b else F b:Hp) b=F b:=λh=>Xe h;generalize (λb=>if b∈p::s then J b else F b:Hp)=W at n m
 have P:Q6 F W:=λb o f=>by
  rw[m λc=>by rw[S.sub.free<|g b c]at f;cases f];exact f
 refine q W J (.ref p) #[M,P,λb o f=>?_,λb f=>?_] (.lst (by rw[n Xb];exact k)<|FU P C #[] λj b y A v=>by rw[n<|Xf _<|List.mem_of_getElem? A];exact d j b y A v)
 .by_cases c:b∈p::s
  .rwa[n c]at f
  .rw[m c]at f;exact M _ _ (S.sub _ _ f)
 .by_cases c:b∈p::s
  .exact .inr (g b c)
  .exact .inl ((m c)▸f)
end L2
namespace L2
def SS(xs:List V)(H:Hp)(Q:VK):Prop := ∃x T,xs=[x,.ty "str"]/\TyN H x T/\Q (.bl<|T == "str") H
def PY:ZF X (.builtin "isinstance") SS:=by
 intro Y s O H xs Z Q I r h;apply aF h;rintro x T rfl y q;apply aF (Gw r);rintro u U rfl f C;cases (C);have c:∀t,EP X Y O Q _ { s with toks:=t }:=λt=>#[.bl _,H,I.tok t,rfl,q]
 cases y with
 |non=>cases f;exact IsiPair.NoneType_str (c _)
 |bl b=>cases f;exact IsiPair.bool_str (c _)
 |int i=>obtain⟨t,rfl⟩:=f;exact IsiPair.int_str (c _)
 |str x=>obtain⟨t,rfl⟩:=f;exact IsiPair.str_str (c _)
 |lst g=>
  cases f;exact By (I.hok _ _ g) λz j n A m=>IsiPair.list_str m rfl (c _)
 |tup g=>
  cases f;exact aV (I.hok _ _ g) λz j A o m P n dd=>IsiPair.tuple_str m P (c _)
 |dct g=>
  cases f;apply Hs (I.hok _ _ g);rintro z a W B o es d M⟨K,_⟩;exact IsiPair.dict_str M K.1 (c _)
def Kz(h:Qr K ta Z a):Qr K (tCB SS<|Q4 ta<|Q4 (tC<|.ty "str") QL) Z (.bool<|tyD a == "str"):=λU F O H Q S q=>
 h U F O H _ S λg D v c f=>#[v,_,rfl,(f.mono c.fh).ty,q g D _ c<|.bl _]
def D1{i:XK}{n:CXT}  {o e:Expr}{h:TE}{t:TA}{k:Nat}{q:Sem Bool}(M:∃f fd,Meth X.K C m f/\ZY X.K fd ps []/\FnOk X.prog X.w X.K X.mg X.base n j f fd ps sp)(c:Cls X.K C)(A:Room k X.A)(s:Yh n X i)(he:PE X o h)(U:PA X (e::es) t)(K:j<=k:=by walk_at"j")
(g:zs X e es:=by rfl)(hpl:zb X pos es:=by rfl)
(y:eval (.Call (.Attribute o m XD) (e::es) [] pos) X.env=(do
  let ov <- eval o X.env
  standAt XD.atName
  let (f,first) <- holding [ov] (getMethod ov m q)
  callWith pos f first (backTo pos<|starEach (e::es) X.env)<|backToKw pos<|keywordEach [] X.env):=by rfl):
 PE X (.Call (.Attribute o m XD) (e::es) [] pos) (ZU C m sp [] i h t):=by
 exact aF M λf fd B P F=>KL he c B F (A.mono K) P .nil s U g hpl y
section
variable {CR:Addr}{v:V}{t:TA}
def LJ(k:BackF FL)(y:(m==f)=false)(e:zg Z i<|zz<|InZ C f ρ)(W:Zm K t Z ts)(P:Rx (.zow (InZ C f ρ)::ts) Φx)(st:ZQ CR RR)
(s:∀h J e c d,Φx d->Q3 F0 U h J->U e=none->FL e h J U c d->RR e c J)(x:Q3 F0 U F H)(S:QF K H9 F Z O H):
 ZU C m (ZI K CR FL R Rx) [] (XE CR RR) (Q8 i) t O H Q:=by
 apply At S.fp;intro p Y _;apply aR (Y i _ e);rintro v b _ a⟨E,u,rfl,L,X⟩;refine#[_,b,a,E,_,rfl,S.sub _ _ L,by simp[List.lookup,y],W H9 F O H _ S λl r o g q=>?_];have j:=x.trans g;exact#[l,_,(S.ext g).kt,g.fh,.zow ((InZ C f ρ).mono g.ff #[a,E,u,rfl,L,X])<|by rw[Xr];exact q,RR,rfl,st,.inr #[Φx,P,λh J e c d M n B A=>s h J e c d M (j.trans n) (j.hh.free B)<|k.back A j.hh]]
def Ia(j:BackF FL)(i:Zm K t Z ts)(h:Rx ts Φx)(st:ZQ C RR)(g:∀f J e c d,Φx d->Q3 F0 U f J->U e=none->FL e f J U c d->RR e c J):EvZ K F0 U (VN<|ZO (ZI K C FL R Rx) [] (XE C RR) t) Z:=λF O H m x S=>ZsE j i h st g x S
def ED(hm:NoH m)(e:zg Z i<|zo v<|QY C N)(hA:Zm K t Z ts)(hR:R N ts Ψ)(st:ZQ CR RR)
(hs:∀r h,Ψ r h->∃u kvs Φ,r=.own u (dkP kvs)/\Rf [.zow<|DkZ kvs] Φ/\∀s,Φ s->∃d w,s=.fz d/\Vf d=some w/\Ψ0 (.fz d) (Z.set i<|zo v<|QY C h)):
 EvR K (VN<|ZO (Zi K Rf) [] E'<|Q4 (ZU C m (JE K C CR FL R Rx) [] (XE CR RR) (Q8 i) t) QL) Z Ψ0:=λF0 U F O H dx x S k=>by
 apply L3 (Y4 S x e);intro p0 s0 W _;apply ac (QY.at W);rintro a0 E y n k' g d e'⟨rfl,L⟩;refine#[.ref a0,s0,a0,E,_,rfl,L,hm _ _ _ _ _ _,hA U F O H _ S λF2 H2 vs j s=>.inl #[RR,rfl,st,L3 (Y4 (S.ext j) (x.trans j) e) λp s1 P G=>#[F2,_,vs++[],p,ts,N,Ψ,rfl,(S.ext j).kt,j.fh,by rw[Xr];exact s,P,hR,λA J p' h v' r q hr xn X B M hq=>?_]]];apply KE (G A J p' h xn X B);intro X' I _;apply aA (hs r h hr);rintro u kvs Φ rfl hf l;have th:=λa D=>(dkP kvs).there M.2 a D;refine#[frF A J q,_,Φ,I.kt.mono (Wz λa D=>(th a D).1),Dq I.sub,.zow (dkP.fz M.2 (Wz λa D=>(th a D).1) λb hb=>WM hb) .nil,hf,λF4 H4 v4 q4 r4 o x4 hq4 c=>?_];apply aF (l r4 o);rintro d4 w4 rfl fl Y;have Q:=Ul th x4;exact k _ O H4 _ v4 (.fz d4) [] (X'.trans Q) (I.ext Q) #[rfl,c.2.thin fl] (by rintro _ ⟨⟩) (by rintro _ ⟨⟩) Y
end
end L2
namespace L2
def Ka(P:Program)(w:World)(K:W.Frag)(mg:Str->Qf)(base:Heap)(x:Str)(C:Addr)(ps:Qh)(k:Nat)(sp:Sp):Prop:=
 ∃f fd,Mk K C f/\mg x=some (.ref C)/\ZY K fd ps []/\FnOk P w K mg base CX0 k f fd ps sp
def Ft  {x:Str}{p:Pos}{e:Expr}{t:TA}{k:Nat}(M:Ka X.prog X.w X.K X.mg X.base x C ps j sp)(g:Room k X.A)(n:PA X (e::es) t)(i:j+1<=k:=by walk_at"j")(hg:Gl X x:=by rfl)(c:(x==("__debug__" : Str))=false:=by decide +kernel)
(he:zs X e es:=by rfl)(hpl:zb X pos es:=by rfl):
 PE X (.Call (.Name x p) (e::es) [] pos) (Jp C sp [] E0 t):=by
 exact aB M λf fd M h m F=>TR M F (g.mono i) hg h m .nil Jq n c he hpl
end L2
namespace L2
def Kc(C e E:Addr):ZP where
 ok:=λK F v=>v=.ref e/\∃T,F e=some (.ext<|phF C e (some E) T)
 mono:=by
  rintro K F c v s ⟨rfl,T,L⟩;exact#[rfl,T,s _ _ L]
section
variable {e E:Addr}{w:V}
def excV.fz(h:(excV C f w e E).ok K F H (.ref e) p)(s:Q6 F F')(he:∀b∈p,F' b=H b):(Kc C e E).ok K F' (.ref e):=by
 apply aJ h;rintro rfl _⟨T,L⟩_;exact#[rfl,T,by rw[he _<|by simp];exact L]
def Zpl(h:zg Z i<|zz<|Kc C e E)(q:Zm K t Z [.fz<|.int k])(L : -(2^62)<=k)(y:k<2^62):EvI K (Bi C e t) Z (ZM 0 k.toNat):=λU F O H R S r=>
 q U F O H _ S λM D P c m=>by
  cases m with
  |fz a b=>
   cases b;cases a;apply At ((S.ext c).fp);intro W g _;apply aI (g i _ h);rintro v _ _ _⟨T,A⟩;refine#[k,rfl,L,y,r M D _ c λB Y j f=>#[#[?_,_,T,f _ _<|j _ _ A],λi d w=>?_]]
   .rw[Wh];exact Xm _
   .obtain⟨s,rfl⟩:=Yq w;exact#[s,λx X n=>by
     obtain⟨rfl,rfl⟩:=n;exact#[B,Q3.refl f,.int _]]
def Zq6(i:Nat)(h:zg Z i<|zo (.ref e)<|excV C f w e E)(s:Jv fs)(k:EvO K t (Z.set i<|zz<|Kc C e E) (.ol fs)):EvO K t Z (.ol fs):=λU F O H Q S r=>by
 refine At (S.freezeZX h (λa b c=>excV.fz a b c)) λp q y=>k U _ O H Q y λA J u m x j n=>r _ J u m (Ul (λa g=>#[(q a g).1,(q a g).2.1]) x) j (KH s K A _ J u m (λa g=>?_) n)
 by_cases z:a∈p
 .rw[Xh z]
 .rw[Xe z];exact(n.there a g).1
end
section
variable {CR:Addr}{v:V}{t:TA}{N:HandS}
def ZsK(p:BackF FL)(M:NoH m)(e:zg Z i<|zz<|Zd C N)(b:Zm K t Z ts)(Y:Rx (.zow (Zd C N)::ts) Φx)(st:ZQ CR RR)
(B:∀h J e c d,Φx d->Q3 F0 U h J->U e=none->FL e h J U c d->RR e c J)(x:Q3 F0 U F H)(S:QF K H9 F Z O H):
 ZU C m (JE K C CR FL R Rx) [] (XE CR RR) (Q8 i) t O H Q:=by
 apply ah (S.hz e);rintro a E k g d v y A l xs r⟨o,n⟩;refine#[_,o,a,E,_,rfl,x.fh _ _ n.ins,M _ _ _ _ _ _,b H9 F O H _ S λu z w f s=>.inr ?_];have j:=x.trans f;exact#[u,_,(S.ext f).kt,f.fh,.zow ((Zd C N).mono f.ff #[a,E,k,g,d,v,y,A,l,xs,r,rfl,n])<|by rw[Xr];exact s,RR,rfl,st,.inr #[Φx,Y,λh J e c d X q W P=>B h J e c d X (j.trans q) (j.hh.free W)<|p.back P j.hh]]
def ZpR{g:Type}{Φ:g->OwnP}{N:g}{R:g->List OT->(OT->g->Prop)->Prop}{Ψ:OT->g->Prop}{d0:PyData}{w0:V}(hm:(m==f)=false)(e:zg Z i<|zo v<|InP C f<|Φ N)(hx:Qr K tx Z d0)(hf:Vf d0=some w0)(hA:Zm K t Z ts)(hR:R N ts Ψ)
(hn:∀r h,Ψ r h->∃d w,r=.fz d/\Vf d=some w/\H1.nx ((Z.set i<|zo v<|InP C f<|Φ h).set j (some<|.ol [d0,d]))):
 QJ K (ZN (Y8<|Q4 tx<|Q4 (ZU C m (spP K (λN=>InP C f<|Φ N) R) [] E' (Q8 i) t) QL)<|Vs j) Z H1:=λF0 U F O H dx x S C'=>
 hx U F O H _ S λF1 D u c r1=>by
  apply L3 (Y4 (S.ext c) (x.trans c) e);rintro p0 s0⟨a,E,u0,q,rfl,_,_,_,_,_,i2,_⟩_;refine#[_,s0,a,E,_,rfl,i2,by simp[List.lookup,hm],hA U F1 O D _ (S.ext c) λF2 H2 vs n r2=>L3 (Y4 (Φ:=λN=>InP C f<|Φ N) (S.ext<|c.trans n) (x.trans<|c.trans n) e) λp s1 P G=>#[F2,_,vs++[],p,ts,N,Ψ,rfl,(S.ext<|c.trans n).kt,n.fh,by rw[Xr];exact r2,P,hR,λA J p' h v' r q hr T X B M hq=>?_]];apply aF (hn r h hr);rintro d w rfl hfd Y;refine KE (G A J p' h T X B) λQ y _=>#[YV<|V9<|by show(2)<=1000;decide,λz hz=>C'.nx A _ _ _ (Q.trans (Q3.own y.sub hz)) ((y.ext (Q3.own y.sub hz)).set (t:=.ol [d0,d]) #[z,rfl,rfl,y.sub.free hz,_,QI,.cons (r1.thin hf)<|.cons M.2 .nil] (λb o=>?_) (hn:=λb o k u' t' q' m1 L W l=>?_)) Y]
  .cases Xj.mp o;exact Q.hh.free hz
  .cases Xj.mp o;refine L3 y.fp λfp g1 g2 g3=>At (g1 k t' m1) λu2 f1 f2=>?_;rw[f1]at L;cases L;exact(g3 k z<|UO (f2.ext (Q3.own y.sub hz)) W z l).2 hz
def AF{c:Type}{Φ:c->OwnP}{N:c}{R:c->List OT->(OT->c->Prop)->Prop}{Ψ:OT->c->Prop}{Θ:PyData->ZbI->Prop}(e:zg Z i<|zo v<|Φ N)(l:Zm K t Z ts)(k:R N ts Ψ)
(hs:∀r f,Ψ r f->∃d w ds,r=.ol (d::ds)/\Vf d=some w/\Θ d (Z.set i<|zo v<|Φ f)):EvN K (tOp (rIx K) (ZO (spP K Φ R) [] E'<|Q4 (Q8 i) t)<|tC<|.int 0) Z Θ:=λF0 U F O H Q x S q=>by
 refine At (Y4 S x e) λp0 s0 _=>#[_,s0,l U F O H _ S λI D M g X=>L3 (Y4 (S.ext g) (x.trans g) e) λp T m y=>#[I,v,M++[],p,ts,N,Ψ,rfl,(S.ext g).kt,g.fh,by rw[Xr];exact X,m,k,λB J Y f L r qq b C n h j hq=>?_]];apply aA (hs r f b);rintro d w ds rfl A s;apply KE (y B J Y f C n h);intro E G _;apply aY j;rintro a rfl rfl _ xs z o;cases o with
 |@cons u P _ _ W rs=>exact .inl #[a,u::P,0,u,rfl,rfl,SqL.of z,Z9 rfl,q B J d u _ s (by rw[W.flat A];exact A) E G]
end
structure Bb(K:W.Frag)(mg:Str->Qf)(Xa4 C cg ct CR CQ cu:Addr)(b1 b2 b3 b4 b5:Bool):Prop where
 em:W.exmOne K (.ref C) (.ref Xa4)=some true
 my:mg "YardError"=some (.ref Xa4)
 is:Hj K C
 k1:W.kitOne K (.ref C) (.ref cg)=some b1
 k2:W.kitOne K (.ref C) (.ref ct)=some b2
 k3:W.kitOne K (.ref C) (.ref CR)=some b3
 k4:W.kitOne K (.ref C) (.ref CQ)=some b4
 k5:W.kitOne K (.ref C) (.ref cu)=some b5
 m1:mg "NoGuest"=some (.ref cg)
 m2:mg "NoTime"=some (.ref ct)
 m3:mg "NoRoom"=some (.ref CR)
 m4:mg "NoNumber"=some (.ref CQ)
 m5:mg "NoRow"=some (.ref cu)
end L2
section
namespace My
open PySem L2 Mir
def zc(s:String):Lean.MacroM (Lean.TSyntax `tactic):=match s with
 |"d"=>`(tactic| dsimp only [List.set])
 |"e"=>`(tactic| dsimp only [List.set,JO,List.map,WL])
 |"x"=>`(tactic| try dsimp only [ZV,OJ])
 |"p"=>`(tactic| exact ⟨rfl,rfl,rfl,by decide +kernel,rfl,by decide +kernel,by decide +kernel⟩)
 |"j"=>`(tactic| first | decide | omega)
 |_=>Lean.Macro.throwUnsupported
local macro_rules|`(tactic| walk_at $s:str)=>zc s.getString
seal PA PE PI PS PSs PT PG
noncomputable def top(i:Nat):Stmt:=PySem.Challenge.pw_chargeyard_k82_guests_of_the_text.main.body.getD i (.Pass #[0,0,0,0])
abbrev Rr:Stmt:=top 10
abbrev Sx:Stmt:=top 11
abbrev RG:Stmt:=top 12
abbrev RP:Stmt:=top 13
abbrev Rk:Stmt:=top 14
abbrev Sa:Stmt:=top 15
abbrev NK:Stmt:=top 16
abbrev R6:Stmt:=top 17
abbrev N9:Stmt:=top 18
abbrev Rw:Stmt:=top 19
abbrev Rg:Stmt:=top 20
abbrev RK:Stmt:=top 21
abbrev Rc:Stmt:=top 22
abbrev Ru:Stmt:=top 23
abbrev NO:Stmt:=top 24
abbrev Ry:Stmt:=top 25
abbrev NI:Stmt:=top 26
abbrev N5:Stmt:=top 27
abbrev R3:Stmt:=top 28
abbrev So:Stmt:=top 29
abbrev RX:Stmt:=top 35
abbrev RB:Stmt:=top 36
abbrev RC:Stmt:=top 37
abbrev Rt:Stmt:=top 38
abbrev RW:Stmt:=top 39
abbrev Rl:Stmt:=top 40
abbrev Sq:Stmt:=top 41
abbrev Sv:Stmt:=top 42
abbrev RS:Stmt:=top 44
abbrev Rh:Stmt:=top 45
abbrev RZ:Stmt:=top 46
abbrev Re:Stmt:=top 47
abbrev Sk:Stmt:=top 49
abbrev Sh:Stmt:=top 50
abbrev Sd:Stmt:=top 51
abbrev R5:Stmt:=top 55
abbrev Se:Stmt:=top 56
abbrev RT:Stmt:=top 57
abbrev Sg:Stmt:=top 58
abbrev Sn:Stmt:=top 59
abbrev R7:Stmt:=top 60
abbrev NL:Stmt:=top 61
abbrev RY:Stmt:=top 62
abbrev R1:Stmt:=top 63
abbrev RF:Stmt:=top 64
abbrev RO:Stmt:=top 65
abbrev K0:Stmt:=top 66
abbrev NV:Stmt:=top 69
abbrev Nv:Stmt:=top 70
abbrev Sm:Stmt:=top 71
abbrev GD:Stmt:=top 73
abbrev Ni:Stmt:=top 74
abbrev Sj:Stmt:=top 77
abbrev RE:Stmt:=top 78
abbrev RV:Stmt:=top 79
abbrev R8:Stmt:=top 80
abbrev RL:Stmt:=top 81
abbrev RN:Stmt:=top 82
abbrev RJ:Stmt:=top 83
abbrev Sb:Stmt:=top 85
abbrev R4:Stmt:=top 86
abbrev GN:Stmt:=top 87
abbrev Sc:Stmt:=top 88
abbrev Jr:Stmt:=top 89
abbrev GQ:Stmt:=Vw (top 4) 0
abbrev GS:Stmt:=Vw (top 6) 0
abbrev GR:Stmt:=Vw (top 34) 0
abbrev NJ:Stmt:=Vw (top 34) 1
abbrev Sf:Stmt:=Vw (top 34) 2
abbrev Ro:Stmt:=Vw (top 34) 3
abbrev RQ:Stmt:=Vw (top 34) 4
abbrev Rs:Stmt:=Vw (top 34) 5
abbrev NY:Stmt:=Vw (top 34) 6
abbrev RU:Stmt:=Vw (top 34) 7
abbrev GO:Stmt:=Vw (top 53) 0
abbrev Rj:Stmt:=Vw (top 53) 1
abbrev RD:Stmt:=Vw (top 53) 2
abbrev Rz:Stmt:=Vw (top 53) 3
abbrev Ra:Stmt:=Vw (top 53) 5
abbrev R0:Stmt:=Vw (top 53) 6
abbrev Ss:Stmt:=Vw (top 53) 8
abbrev Sz:Stmt:=Vw (top 53) 11
abbrev Sy:Stmt:=Vw (top 53) 12
abbrev S5:Stmt:=Vw (top 53) 13
abbrev GP:Stmt:=Vw (top 75) 0
abbrev Mh:Stmt:=Vw (top 75) 1
structure Bl(mg:Str->Qf):Prop where
 abs:mg "abs"=none
 len:mg "len"=none
 max:mg "max"=none
 min:mg "min"=none
 sum:mg "sum"=none
 any:mg "any"=none
 all:mg "all"=none
 isi:mg "isinstance"=none
 int:mg "int"=none
 bool:mg "bool"=none
 list:mg "list"=none
 tuple:mg "tuple"=none
 range:mg "range"=none
 zip:mg "zip"=none
 enumerate:mg "enumerate"=none
 str:mg "str"=none
 sorted:mg "sorted"=none
 set:mg "set"=none
 dict:mg "dict"=none
 ValueError:mg "ValueError"=none
structure Tx(K:W.Frag)(mg:Str->Qf)(C gS gE:Addr):Prop where
 net:NetC K C
 mSTART:mg "START"=some (.ref gS)
 mEND:mg "END"=some (.ref gE)
 aS:W.nsIn K mainGlobals "START"=some (some<|.ref gS)
 aE:W.nsIn K mainGlobals "END"=some (some<|.ref gE)
noncomputable def upD:Option Nat->PyData
 |none=>.none
 |some a=>.int (a:Int)
noncomputable def V4(l:Ln):PyData:=.tuple [upD l.up,.tuple<|l.bs.map PyData.int]
noncomputable def Za(y:Yd):PyData:=.tuple [.int (y.T:Int),.tuple<|y.ls.map V4]
def ZA(l:Qk):Qd:=l.map λ(j:Nat)=>PyData.int (j:Int)
def cdl{i j:Int}(L:0<j)(c:j<=10^60):Gq i j:=#[L,DY c<|by decide +kernel]
def MF{j:Int}(h0:0<=j)(L:j<=1000000):ST 10 j:=#[h0,L,by decide]
def z60:(10:Int)^60=1000000000000000000000000000000000000000000000000000000000000:=by decide +kernel
def HA{i j:Int}(L:0<j)(c:j<=1000000000000000000000000000000000000000000000000000000000000):Gq i j:=cdl L (by exact z60▸c)
def Ar{c:Type}[Inhabited c]{f:c->PyData}{xs:List c}{k:Int}(h0:0<=k)(L:k<(xs.length:Int)):atI (xs.map f) k=some (f<|xs.getD k.toNat default):=by
 have h:k.toNat<xs.length:=#[]
 have e:(xs.map f)[k.toNat]?=some (f<|xs.getD k.toNat default):=by simp[h]
 have g:=Z9 e;rwa [W5 h0]at g
def TB{xs:Ql}{k:Int}(h0:0<=k)(L:k<(xs.length:Int)):atI (xs.map PyData.int) k=some (.int<|xs.getD k.toNat 0):=by
 have h:k.toNat<xs.length:=#[]
 have e:(xs.map PyData.int)[k.toNat]?=some (.int<|xs.getD k.toNat 0):=by simp[h]
 have c:=Z9 e;rwa [W5 h0]at c
def A0{xs:Ql}(h0:0<=k)(L:k<(xs.length:Int)):atI xs k=some (xs.getD k.toNat 0):=by
 have h:k.toNat<xs.length:=#[]
 have e:xs[k.toNat]?=some (xs.getD k.toNat 0):=by simp[h]
 have c:=Z9 e;rwa [W5 h0]at c
def UI{f:Nat->PyData}{k:Int}(h0:0<=k)(L:k<(n:Int)):atI ((List.range n).map f) k=some (f k.toNat):=by
 have h:k.toNat<n:=#[]
 have e:((List.range n).map f)[k.toNat]?=some (f k.toNat):=by simp[h]
 have c:=Z9 e;rwa [W5 h0]at c
def MS{k:Int}(h0:0<=k)(L:k<(n:Int)):ixN n k=some k.toNat:=by
 unfold ixN;rw[Xh h0,Xh L]
instance:Inhabited Ln:=#[#[none,[]]]
def QQ(g:Gs):PyData:=.tuple [.int (g.line:Int),.int (g.first:Int),.int (g.last:Int),.int g.want,.int g.most]
instance:Inhabited Gs:=#[#[0,0,0,1,1]]
def Zlm{m:Nat}(h:∀d∈ds,d.canLay0=true/\d.depth<=m):PyData.canLayAll0 ds=true/\PyData.depthAll ds<=m:=by
 induction ds with
 |nil=>exact#[rfl,XH _]
 |cons d ds f=>
  obtain⟨a,b⟩:=h d Xb;obtain⟨c,e⟩:=f λx g=>h x (Xf _ g);refine#[by rw[PyData.canLayAll0,a,c];rfl,?_];rw[PyData.depthAll];lia
def Js(m:Nat)(d:PyData):Prop:=d.canLay0=true/\d.depth<=m
def Js.fine{m:Nat}(h:Js m d)(c:m<=60):Yl d:=#[h.1,Xq h.2 c]
def KP{m:Nat}(h:∀d∈ds,Js m d):Js (m+1) (.list ds):=by
 obtain⟨a,b⟩:=Zlm h;refine#[by rw[PyData.canLay0];exact a,?_];rw[PyData.depth];lia
def A8(i:Int)(m:Nat):Js m (.int i):=#[rfl,XH _]
def K3{m:Nat}:∀d∈([]:Qd),Js m d:=λd c=>(nomatch c)
def BM{m:Nat}(h:Js m d)(f:∀d∈ds,Js m d):∀x∈d::ds,Js m x:=λx c=>by
 rcases Xd.mp c with rfl|c
 .exact h
 .exact f x c
def HC(w:String):Lean.MacroM (Lean.TSyntax `tactic):=do
 let n:=Lean.mkIdent (w.drop 1).toString.toName
 match w.front with
 |'@' => `(tactic| with_reducible apply $n)
 |'!' => `(tactic| with_reducible exact $n)
 |'~' => `(tactic| apply $n)
 |_ => `(tactic| walk_at $(Lean.Syntax.mkStrLit w))
def VO(s:String):Lean.MacroM (Lean.TSyntax `tactic):=do
 let l ← (s.splitOn "|").mapM λa=>do
  match a.splitOn "<" with
  |[x,z] => `(tactic| ($(← HC x):tactic <;> $(← HC z):tactic))
  |_=>
   let ts ← (a.splitOn " ").mapM HC
   `(tactic| ($[$ts.toArray:tactic];*))
 `(tactic| first $[| $l.toArray:tactic]*)
def zd(s:String):Lean.MacroM (Lean.TSyntax `tactic):=match s with
 |"rfl"=>`(tactic| rfl)
 |"hc"=>`(tactic| intro hc)
 |"ls"=>zc "d"
 |"om"=>`(tactic| lia)
 |"asm"=>`(tactic| with_reducible assumption)
 |"ble"=>`(tactic| first | with_reducible rfl | decide | exact Nat.le_of_ble_eq_true rfl)
 |"smo"=>`(tactic| (focus (simp; (first | done | walk_at "om"))))
 |"dso"=>`(tactic| (focus (dsimp only; walk_at "om")))
 |"r4"=>`(tactic| (refine ⟨?_,?_,?_,?_⟩ <;> walk_at "r62"))
 |"r62"=>`(tactic| (rw [z62]; walk_at "side"))
 |"call"=>`(tactic| (constructor <;> walk_at "side"))
 |"rg"=>`(tactic| first | with_reducible rfl | (apply YI <;> walk_at "rs") | (apply FK <;> walk_at "rs"))
 |"rs"=>VO "om|smo"
 |"side"=>VO "om|asm|ble|smo"
 |"arith"=>VO "om|asm|ble|smo"
 |"ev"=>VO "@Qp rfl|!Q0|!U2|!Wq|!QT|@ZB ev ev|@V8 ev ev|@Vo ev ev cond|@Z0m ev|@WS ev ev|@P0 ev ev|@P5 ev|@Dl ev|@Uk ev ev ev|@VE ev hc ev|@ME ev hc ev|@HZ ev|@Gz rfl ev item|@A4 rfl ev item|@Vt evd ev item|@Z2 evd ev item|@YM eas side|@QN ea call|@AS ea call|@PH ev ev|@Kk ev ev|@PB ev|@Bq ev rfl|@AR rfl|@PF rfl|@BA evd|@VT evd|@Dd rfl|@PJ evd|@MR ev ev fine fine|@Bp ev ev fine fine|@MP ev rfl|@EvO.fz eo"
 |"evd"=>VO "~Qp rfl|ev|@EvO.fz eo"
 |"ea"=>VO "!Q1|@P4 rfl ea|@Qu ev ea"
 |"ep"=>VO "!WU|@WV ev"
 |"eas"=>VO "~Z5|~QZ ev eas"
 |"eo"=>VO "@Vh eas side|@BC ea call|@WI evd ep ep|@K4 evd|@MQ evd evd side"
 |"et"=>VO "!Po|@Zn ev|@Z3 ev|@Br et hc et|@Wd et hc et|@Vg et"
 |"g"=>VO "!Zg|!WT|@Vv g g|@WA g rfl|~WA g rfl"
 |"ei"=>VO "@VS ea r62 r62|@KU ea r4|@AO ea r4|@BB ea|@Yi evd|@Gy evd"
 |"s1"=>VO "@QB s1|@Vi eo ls|@Z6 ev ls|@HY ev g ls|@Wx rfl ev side ls|@Dv rfl ev ev item ls"
 |"ret"=>VO "@UJ rfl|@Zj evd|@JR eo"
 |"if"=>VO "@QB if|@Zb et"
 |"eir"=>VO "~EvI.cast ei rg"
 |"item"=>VO "rfl|asm|@TB<arith|@A0<arith|@UI<arith|@MS<arith|~Ar<arith"
 |"cond"=>VO "asm|@HA<om|@MF<om|om|dso"
 |_=>Lean.Macro.throwUnsupported
local macro_rules|`(tactic| walk_at $s:str)=>zd s.getString
section
variable {w:World}{base:Heap}{gS gE YR CR fR cg ct CQ fQ q1 q2 q3 cu CD gC:Addr}
inductive R_cell:List OT->OT->Prop
 |mk {ns:Ql}{k:Int}(h:0<=k):R_cell [.scr ns,.fz<|.int k] (.fz<|.int<|WE ns k)
def ZhA:Qo ZaA ZaA (QD Sj):=by walk_at"p"
def O2(T:Bl mg)(H1:Df K mg "_law_cell_at" Sj ZaA):Q2 P w K mg base "_law_cell_at" ZaA 1 (QC (K:=K) R_cell):=by
 refine H1.ev ZhA (λf ts r h H n i A outer s j=>?_);cases h with
 |@mk g k m=>
  refine#[_,(Qy (QW (Zo Jt vb1<|Zk ZH T.len ZD y0) (Qz<|QK<|QG QH g0 vb1) QV)
 (Qz<|QK Qw)),?_]
  try dsimp only[ZV]
  walk_at"if"
  .
   intro c;walk_at"ret";rfl
  .
   refine λc=>Zf ?_;walk_at"ret";have e:WE g k=0:=by
    have:g.length<=k.toNat:=#[]
    simp[WE,List.getD,this]
   rw[e]
noncomputable def V5(y:Yd)(k:Nat):Ln:=y.ls.getD k default
def upN(y:Yd)(k:Nat):Nat:=(Zq y k).getD 0
def NC{y:Yd}(h:k<y.ls.length):Zq y k=(V5 y k).up:=by simp[Zq,V5,h]
def NW{y:Yd}(h:k<y.ls.length):Z7 y k t=(V5 y k).bs.getD t 0:=by simp[Z7,V5,h]
def N4{y:Yd}(c:y.Ok)(h:k<y.ls.length):(V5 y k).bs.length=y.T:=c.bl _ (by simp[V5,h])
inductive R_turns:List OT->OT->Prop
 |mk {y:Yd}:R_turns [.fz<|Za y] (.fz<|.int (y.T:Int))
def Zm6:Qo ZaD ZaD (QD Rg):=by walk_at"p"
def ZrV(T:Bl mg)(H1:Df K mg "turns_of" Rg ZaD):Q2 P w K mg base "turns_of" ZaD 1 (QC (K:=K) R_turns):=by
 refine H1.ev Zm6 (λf ts r h H i c A outer s g=>?_);cases h with
 |@mk y=>
  refine#[_,(Qz<|QK<|QG QH g0 Qw),?_]
  try dsimp only[ZV]
  walk_at"ret";rfl
inductive R_count:List OT->OT->Prop
 |mk {y:Yd}:R_count [.fz<|Za y] (.fz<|.int (y.ls.length:Int))
def ZjJ:Qo ZaD ZaD (QD RK):=by walk_at"p"
def Zsx(T:Bl mg)(H1:Df K mg "line_count" RK ZaD):Q2 P w K mg base "line_count" ZaD 1 (QC (K:=K) R_count):=by
 refine H1.ev ZjJ (λf ts r h H i c A outer s g=>?_);cases h with
 |@mk y=>
  refine#[_,(Qz<|QK<|Zk ZH T.len ZD<|Qs (QG QH g0 Qw) Qq),?_]
  try dsimp only[ZV]
  walk_at"ret";rw[Xg]
inductive R_above:List OT->OT->Prop
 |mk {y:Yd}{k:Int}(ok:y.Ok)(h0:0<k)(L:k<(y.ls.length:Int)):R_above [.fz<|Za y,.fz<|.int k] (.fz<|.int (upN y k.toNat:Int))
 |zero {y:Yd}(ok:y.Ok):R_above [.fz<|Za y,.fz<|.int 0] (.fz .none)
def Zmn:Qo ZaI ZaI (QD Rc):=by walk_at"p"
def Zsb(T:Bl mg)(H1:Df K mg "above_of" Rc ZaI):Q2 P w K mg base "above_of" ZaI 1 (QC (K:=K) R_above):=by
 refine H1.ev Zmn (λf ts r h H q i A outer s m=>?_);cases h with
 |@mk y k c n L=>
  refine#[_,(Qz<|QK<|QG QH (QG QH (QG QH g0 Qw) vb1) Qw),?_]
  try dsimp only[ZV]
  walk_at"ret";apply At (c.ups k.toNat #[] #[]);intro a e l;have g:(V5 y k.toNat).up=some a:=by rw[<- NC #[]];exact e
  show OT.fz (upD (V5 y k.toNat).up)=_;rw[g];simp[upN,e,upD]
 |@zero y c=>
  refine#[_,(Qz<|QK<|QG QH (QG QH (QG QH g0 Qw) vb1) Qw),?_]
  try dsimp only[ZV]
  have j:=c.l1;walk_at"ret";have g:(V5 y 0).up=none:=by rw[<- NC #[]];exact c.up0
  show OT.fz (upD (V5 y 0).up)=_;rw[g];rfl
inductive R_bound:List OT->OT->Prop
 |mk {y:Yd}{k t:Int}(ok:y.Ok)(h0:0<=k)(L:k<(y.ls.length:Int))(h2:0<=t)(h3:t<(y.T:Int)):R_bound [.fz<|Za y,.fz<|.int k,.fz<|.int t] (.fz<|.int<|Z7 y k.toNat t.toNat)
def ZlZ:Qo Zat Zat (QD Ru):=by walk_at"p"
def Zsz(T:Bl mg)(H1:Df K mg "bound_at" Ru Zat):Q2 P w K mg base "bound_at" Zat 1 (QC (K:=K) R_bound):=by
 refine H1.ev ZlZ (λf ts r h H B g A outer s i=>?_);cases h with
 |@mk y k t c q L n m=>
  refine#[_,(Qz<|QK<|QG QH (QG QH (QG QH (QG QH g0 Qw) vb1) Qw) va2),?_]
  try dsimp only[ZV]
  have j:(y.ls.getD k.toNat default).bs.length=y.T:=N4 c #[];walk_at"ret";show _=_;rw[NW<|#[]];rfl
inductive R_lineof:List OT->OT->Prop
 |mk {g:Gs}:R_lineof [.fz<|QQ g] (.fz<|.int (g.line:Int))
def Zod:Qo Zax Zax (QD NO):=by walk_at"p"
def ZqV(T:Bl mg)(H1:Df K mg "line_of" NO Zax):Q2 P w K mg base "line_of" Zax 1 (QC (K:=K) R_lineof):=by
 refine H1.ev Zod (λf ts r h H j c A outer s i=>?_);cases h with
 |@mk g=>
  refine#[_,(Qz<|QK<|QG QH g0 Qw),?_]
  try dsimp only[ZV]
  walk_at"ret";rfl
inductive R_there:List OT->OT->Prop
 |mk {g:Gs}{t:Int}:R_there [.fz<|QQ g,.fz<|.int t] (.fz<|.bool<|VW g t)
def Zma:Qo Zaq Zaq (QD Ry):=by walk_at"p"
def Zsc(T:Bl mg)(H1:Df K mg "is_there" Ry Zaq):Q2 P w K mg base "is_there" Zaq 1 (QC (K:=K) R_there):=by
 refine H1.ev Zma (λf ts r h H j c A outer s i=>?_);cases h with
 |@mk g t=>
  refine#[_,(Qz<|QK<|Fp WF WF (QG QH g0 Qw) vb1<|QG QH g0 Qw),?_]
  try dsimp only[ZV]
  walk_at"ret";rfl
inductive R_most:List OT->OT->Prop
 |mk {g:Gs}:R_most [.fz<|QQ g] (.fz<|.int g.most)
def Zo9:Qo Zax Zax (QD N5):=by walk_at"p"
def IJ(T:Bl mg)(H1:Df K mg "most_of" N5 Zax):Q2 P w K mg base "most_of" Zax 1 (QC (K:=K) R_most):=by
 refine H1.ev Zo9 (λf ts r h H j c A outer s i=>?_);cases h with
 |@mk g=>
  refine#[_,(Qz<|QK<|QG QH g0 Qw),?_]
  try dsimp only[ZV]
  walk_at"ret";rfl
inductive R_want:List OT->OT->Prop
 |mk {g:Gs}:R_want [.fz<|QQ g] (.fz<|.int g.want)
def ZoN:Qo Zax Zax (QD NI):=by walk_at"p"
def IP(T:Bl mg)(H1:Df K mg "want_of" NI Zax):Q2 P w K mg base "want_of" Zax 1 (QC (K:=K) R_want):=by
 refine H1.ev ZoN (λf ts r h H j c A outer s i=>?_);cases h with
 |@mk g=>
  refine#[_,(Qz<|QK<|QG QH g0 Qw),?_]
  try dsimp only[ZV]
  walk_at"ret";rfl
structure SetOk(gs:List Gs)(some:Qk):Prop where
 mem:∀k∈some,k<gs.length
 len:some.length<=8
def JT(f:List Gs)(t:Nat)(c:Qk):Qn:=λl=>ZG f (t:Int) l c
noncomputable def G4(y:Yd)(f:List Gs)(c:Qk)(t:Nat):Ql:=(List.range y.ls.length).map λl=>VC y (λk=>Z7 y k t) (JT f t c) l
inductive R_reaching:List OT->OT->Prop
 |mk {y:Yd}{gs:List Gs}{sm:Qk}{t:Int}(ok:y.Ok)(hg:∀g∈gs,g.line<y.ls.length)(hs:SetOk gs sm)(h0:0<=t)(L:t<(y.T:Int)):
  R_reaching [.fz<|Za y,.fz<|.list<|gs.map QQ,.fz<|.list<|ZA sm,.fz<|.int t] (.ol<|(G4 y gs sm t.toNat).map PyData.int)
def BF{f g:Qn}(m:j<n)(e1:∀l,l<n->l≠j->g l=f l){v:Int}(q:g j=v):
 (((List.range n).map λl=>PyData.int<|f l).set j (.int v))=(List.range n).map λl=>PyData.int (g l):=by
 apply List.ext_getElem?;intro i;by_cases c:i=j
 .simp_all
 .rw[XX<|Ne.symm c]
  by_cases h:i<n
  .simp[h,e1 i h c]
  .simp[h]
def Mm:Qo ["yard","guests","some","turn","reaching","number","guest","line"] Zae (QD RS):=by walk_at"p"
def ZmJ(T:Bl mg)(H1:Df K mg "reaching_at" RS Zae)(C:Q2 P w K mg base "line_count" ZaD 1 (QC (K:=K) R_count))(v:Q2 P w K mg base "is_there" Zaq 1 (QC (K:=K) R_there))
(D:Q2 P w K mg base "line_of" Zax 1 (QC (K:=K) R_lineof))(u:Q2 P w K mg base "most_of" Zax 1 (QC (K:=K) R_most))(p:Q2 P w K mg base "above_of" ZaI 1 (QC (K:=K) R_above))
(E:Q2 P w K mg base "bound_at" Zat 1 (QC (K:=K) R_bound)):Q2 P w K mg base "reaching_at" Zae 2 (QC (K:=K) R_reaching):=by
 refine H1.ev Mm (λf ts r h H dx cdv A outer s q=>?_);cases h with
 |@mk y j g t Y O G Q L=>
  refine#[_,(Qy (Me 4 Mm ["line"] [none] (VI rfl T.range<|Qs (Q7 C q y0) Qq) λ_=>Qw)
 (Qy (Va zN rfl (by exact(VV va2)) (Zy 5 Mm.nd) (by exact(Qy (QR 6 Mm.nd<|QG QH vb1<|pv 5)
 (Qz<|QW (ZL<|Q7 v q<|av 6 v3) (Qz<|BI g4 (Q7 D q<|av 6 Qq) BQ (Q7 u q<|av 6 Qq) Dc Wv) QV))))
 (Qy (Va zN rfl (by exact(FQ rfl T.range<|Qs (QX YD (Q7 C q y0) Qw)<|Qs Qw<|Qs (HL Km Qw) Qq)) (Zy 7 Mm.nd)<|by exact(Qz<|BI g4 (Q7 p q<|av 0<|av 7 Qq) BQ (Zk (MZ rfl) T.min Bx<|Qs (QG QH g4<|pv 7)<|Qs (Q7 E q<|av 0<|av 7 v3) Qq) Dc Wv))
 (Qz<|QK g4)))),?_]
  show QJ K _ [_,_,_,_,_,_,_,_] _
  walk_at"x";have l1:=Y.l1;have l5:=Y.l5;have n8:=G.len;refine QB (Vi (Db (lo:=0) (n:=y.ls.length) (h:=λ_=>.int 0) ?ei #[] ?el) ?_)
  case ei=>walk_at"eir"
  case el=>
   exact λx hx c=>#[_,by walk_at"g",by walk_at"ev"]
  walk_at"d";refine QB (Ud (λi=>[zf<|Za y,zf<|.list<|j.map QQ,zf<|.list<|ZA g,zi t,some<|.ol<|(List.range y.ls.length).map λl=>PyData.int<|ZG j t l<|g.take i,none,none,none]) (by walk_at"ei") #[rfl,rfl,rfl,rfl,rfl,trivial] ?st ?fin)
  case st=>
   intro i d U;have M:i<g.length:=by
    have:=(Xi.mp U).1;simpa [ZA] using this
   obtain rfl:d=.int ((g[i]:Nat):Int):=by simpa [ZA,M] using U.symm
   have B:g[i]<j.length:=G.mem _ (X6 M);refine#[_,by walk_at"g",?_];walk_at"d";walk_at"s1";have R:j.getD ((g[i]:Nat):Int).toNat default=j[g[i]]:=by simp[B]
   rw[R];have e:=O j[g[i]] (X6 B);have X:g.take (i+1)=g.take i++[g[i]]:=by rw[Jf];simp[M]
   refine Zb (by walk_at"et") (λc=>?_) (λc=>?_)
   .refine Ld (m:=ZG j t j[g[i]].line (g.take i)) rfl (by walk_at"ev") #[] ?_ (by walk_at"ev") ?_
    .simp[e]
    .walk_at"d";refine#[rfl,rfl,rfl,rfl,?_,trivial];rw[XF];congr 2;refine BF e (λl J Z=>?_) ?_
     .rw[X,UQ];simp[ZG,B,Ne.symm Z]
     .rw[X,UQ];simp[ZG,B,c]
   .refine Zf #[rfl,rfl,rfl,rfl,XS (λz=>some<|OT.ol z) (W6 λl _=>?_),trivial];rw[X,UQ];simp[ZG,B,c]
  case fin=>
   refine λW b=>JU b ?_;have el:(ZA g).length=g.length:=by simp[ZA]
   rw[el,W3];refine QB (Ud (λi=>[zf<|Za y,zf<|.list<|j.map QQ,zf<|.list<|ZA g,zi t,some<|.ol<|(List.range y.ls.length).map λl=>PyData.int<|Vj y (λk=>Z7 y k t.toNat) (λl=>ZG j t l g) i l,none,none,none]) (by walk_at"ei") #[rfl,rfl,rfl,rfl,rfl,trivial] ?st2 ?fin2)
   case st2=>
    intro i d U;obtain⟨M,rfl⟩:=Nf U;have N:i<y.ls.length-1:=#[]
    refine#[_,by walk_at"g",?_];walk_at"d";have I:((y.ls.length:Int)-1-(i:Int)).toNat=y.ls.length-1-i:=#[]
    apply At (Y.ups (y.ls.length-1-i) #[] #[]);intro a o la;have F:upN y ((y.ls.length:Int)-1-(i:Int)).toNat=a:=by rw[I];simp[upN,o]
    refine Ld (m:=Vj y (λk=>Z7 y k t.toNat) (λl=>ZG j t l g) i a) rfl (by walk_at"ev") #[] ?_ (by walk_at"ev") ?_
    .rw[F,XF];have:a<y.ls.length:=#[]
     simp[this]
    .walk_at"d";refine#[rfl,rfl,rfl,rfl,?_,trivial];rw[F,XF];refine XS (λz=>some<|OT.ol z) (BF #[] (λl J Z=>?_) ?_)
     .simp only[Vj,WG];rw[o,Xe<|by simpa using λz=>Z z.symm];lia
     .simp only[Vj,WG];rw[o,Xh rfl,I]
   case fin2=>
    refine λW b=>JU b ?_;walk_at"ret";show _=_;have S:(Jh ((y.ls.length:Int)-1) ((y.ls.length:Int)-1-0).toNat).length=y.ls.length-1:=by rw[Ng];lia
    rw[S];unfold G4 VC JT;rw[W5 Q,XA];rfl
def Zoj(y:Yd)(f:List Gs)(c:Qk)(t:Nat):(G4 y f c t).length=y.ls.length:=by simp[G4]
def Zqp{y:Yd}(h:l<y.ls.length):(G4 y gs sm t).getD l 0=VC y (λk=>Z7 y k t) (JT gs t sm) l:=by simp[G4,List.getD,h]
def Ua(y:Yd)(f:List Gs)(c:Qk)(t:Nat):Int:=passes y (λk=>Z7 y k t) (JT f t c) 0
def GJ(y:Yd)(f:List Gs)(c:Qk):Int:=((List.range y.T).map λt=>Ua y f c t).sum
def Bj(f:Qn)(i:Nat):Int:=((List.range i).map f).sum
def Zo7(f:Qn)(i:Nat):Bj f (i+1)=Bj f i+f i:=by simp[Bj,YY]
def IK(y:Yd)(c:List Gs)(t:Nat):JT c t []=λ_=>0:=rfl
theorem C9{y:Yd}(f:y.Ok)(t:Nat):∀i l,Vj y (λk=>Z7 y k t) (λ_=>0) i l=0
 |0,l=>rfl
 |i+1,l=>by
  have b0:∀k,0<=Z7 y k t:=λk=>by
   unfold Z7;cases e:y.ls[k]? with
   |none=>simp
   |some c=>
    have:=f.bb c (List.mem_of_getElem? e);simp only[YX,Option.getD_some];by_cases h:t<c.bs.length
    .have g:=this (c.bs[t]) (X6 h);simp only[List.getD,XT h,Option.getD_some];exact g.1
    .simp[List.getD,h]
  simp only[Vj,WG,C9 f t i];have:=b0 (y.ls.length-1-i);split<;>lia
def Kv{y:Yd}(f:y.Ok)(k t:Nat):0<=Z7 y k t:=by
 unfold Z7;cases e:y.ls[k]? with
 |none=>simp
 |some c=>
  have:=f.bb c (List.mem_of_getElem? e);simp only[YX,Option.getD_some];by_cases h:t<c.bs.length
  .simp_all
  .simp[ h]
def ZjY{y:Yd}(c:y.Ok)(f:List Gs):GJ y f []=0:=by
 have h:∀t,Ua y f [] t=0:=λt=>by
  unfold Ua passes VC;rw[IK y,C9 c];have:=Kv c 0 t;dsimp only;lia
 unfold GJ;rw[DN,Zs (g:=λ_=>0) λt _=>h t,Vq]
inductive R_given:List OT->OT->Prop
 |mk {y:Yd}{gs:List Gs}{sm:Qk}{t:Int}(ok:y.Ok)(hg:∀g∈gs,g.line<y.ls.length)(hs:SetOk gs sm)(h0:0<=t)(L:t<(y.T:Int)):
  R_given [.fz<|Za y,.fz<|.list<|gs.map QQ,.fz<|.list<|ZA sm,.fz<|.int t] (.fz<|.int<|Ua y gs sm t.toNat)
def Zmz:Qo Zae Zae (QD Rh):=by walk_at"p"
def Zsa(T:Bl mg)(H1:Df K mg "given_at" Rh Zae)(g:Q2 P w K mg base "reaching_at" Zae 2 (QC (K:=K) R_reaching))(c:Q2 P w K mg base "bound_at" Zat 1 (QC (K:=K) R_bound)):
 Q2 P w K mg base "given_at" Zae 3 (QC (K:=K) R_given):=by
 refine H1.ev Zmz (λf ts r h H X q A outer s i=>?_);cases h with
 |@mk y n j t m U M W L=>
  refine#[_,(Qz<|QK<|Zk (MZ rfl) T.min Bx<|Qs (QG QH (Q7 g i<|av 0<|av 1<|av 2 v3) Qw)<|Qs (Q7 c i<|av 0<|Qs Qw v3) Qq),?_]
  try dsimp only[ZV]
  have C:=m.l1;have B:=Zoj y n j t.toNat
  walk_at"ret";show _=_;rw[ Zqp #[]];rfl
inductive R_givenm:List OT->OT->Prop
 |mk {y:Yd}{gs:List Gs}{sm:Qk}(ok:y.Ok)(hg:∀g∈gs,g.line<y.ls.length)(hs:SetOk gs sm):
  R_givenm [.fz<|Za y,.fz<|.list<|gs.map QQ,.fz<|.list<|ZA sm] (.fz<|.int<|GJ y gs sm)
def Ad:Qo Zah Zah (QD RZ):=by walk_at"p"
def Zph(T:Bl mg)(H1:Df K mg "given_most" RZ Zah)(i:Q2 P w K mg base "turns_of" ZaD 1 (QC (K:=K) R_turns))(g:Q2 P w K mg base "given_at" Zae 3 (QC (K:=K) R_given)):
 Q2 P w K mg base "given_most" Zah 4 (QC (K:=K) R_givenm):=by
 refine H1.ev Ad (λf ts r h H Y C A outer s m=>?_);cases h with
 |@mk y X U j B q=>
  refine#[_,(Qz<|QK<|Zk Kq T.sum Kh<|Qs (V3 Ad ["turn","yard","guests","some"] [none,some 0,some 1,some 2] (VI rfl T.range<|Qs (Q7 i m y0) Qq) λ_=>(Q7 g m<|av 1<|av 2<|av 3 y0)) Qq),?_];show QJ K _ [_,_,_] _
  walk_at"x";have M:=j.t8;refine Zj (MP (EvO.fz ?_) rfl) rfl;rw[XA];refine Db (lo:=0) (n:=y.T) ?_ #[] ?_
  .walk_at"eir"
  .refine λx W c=>#[_,by walk_at"g",?_];rw[Ys];exact QN (by walk_at"ea") (R_given.mk (t:=(x:Int)) j B q #[] #[])
def Ds:NoF "lay" := λ_ _ _ _=>rfl
def LN:NoF "lay_one" := λ_ _ _ _=>rfl
def Zt6:NoF "flow" := λ_ _ _ _=>rfl
def Cw:NoF "reached" := λ_ _ _ _=>rfl
def ZrY:NoF "push" := λ_ _ _ _=>rfl
def Zsq:NoF "fill" := λ_ _ _ _=>rfl
def Ib:NoF "way_to" := λ_ _ _ _=>rfl
def ZhR:Qo Zav Zav (QD GR):=by walk_at"p"
def AI{f:Addr}(T:Bl mg)(i:Tx K mg C gS gE)(F:Fun K "__init__" "Net.__init__" GR f fd):FnOk P w K mg base CX0 1 f fd Zav (spI P w C):=by
 refine F.ok ZhR (by rintro t H Q v ⟨x,E,e,_⟩;rw[e];rfl) ?_;rintro t H Q v ⟨x,E,rfl,Y,q⟩ z A outer s L;refine#[_,(Qy (Wr g0 (Zz Qq) rfl)
 (Qy (Wr g0 (Zz Qq) rfl)
 (Qy (Wr g0 Zss rfl)
 (Qz<|Wr g0 OF rfl)))),?_]
 refine#[XH _,λe Z=>#[_,rfl,x,C,E,[],rfl,?_,i.net.cl,i.net.ends,by decide,?_]]
 .rw[Qv<|Z1 Y Z];exact Y
 have y:=Z1 Y Z;refine#[XH _,λr g=>#[_,rfl,x,C,E,[("ends",.ref e)],rfl,?_,i.net.cl,i.net.rooms,(by show(1)<1000;decide),?_]]
 .have j:=Z1 QI g;rw[Qv j,QI];rfl
 have j:=Z1 QI g;have M:=by rw[Qv<|Ne.symm j]at g;exact g
 have a:=Z1 QI M;have u:=by rw[Qv<|Ne.symm a]at M;exact M
 refine λl h=>#[_,rfl,x,C,E,[("ends",.ref e),("rooms",.ref r)],rfl,?_,i.net.cl,i.net.leav,(by show(2)<1000;decide),?_]
 .have m:=Z1 QI h;rw[Qv m,QI];rfl
 have m:=Z1 QI h;rw[Qv<|Ne.symm m]at h;have U:=Z1 QI h;rw[Qv<|Ne.symm U,Qv<|Ne.symm m]at h;have k:=Z1 QI h;rw[Qv<|Ne.symm k]at h;refine λd c=>#[_,rfl,x,C,E,[("ends",.ref e),("rooms",.ref r),("leaving",.ref l)],rfl,?_,i.net.cl,i.net.laid,(by show(3)<1000;decide),?_]
 .have n:=Z1 QI c;rw[Qv n,QI];rfl
 have n:=Z1 QI c;rw[Qv<|Ne.symm n]at c;have X:=Z1 QI c;rw[Qv<|Ne.symm X,Qv<|Ne.symm n]at c;have W:=Z1 QI c;rw[Qv<|Ne.symm W,Qv<|Ne.symm n]at c;have o:=Z1 QI c;rw[Qv<|Ne.symm o]at c;refine q e r l d _ Z u h c ?_ ?_ ?_ ?_ ?_ ?_ (λb p=>?_)
 .simp only[XM,Xd,XW,or_false,not_or,not_false_eq_true,Ms,and_true];exact#[#[y,j,m,n],#[a,k,o],#[U,W],X]
 .rw[QI];rfl
 .rw[Qv<|Ne.symm y,Qv o,Qv<|Ne.symm y,Qv k,Qv<|Ne.symm y,Qv a,Qv<|Ne.symm y,QI]
 .rw[Qv<|Ne.symm j,Qv W,Qv<|Ne.symm j,Qv U,Qv<|Ne.symm j,QI]
 .rw[Qv<|Ne.symm m,Qv X,Qv<|Ne.symm m,QI]
 .rw[Qv<|Ne.symm n,QI];rfl
 .simp only[Xd,XW,or_false,not_or]at p;apply JH p;intro B J I G D;rw[Qv B,Qv D,Qv B,Qv G,Qv B,Qv I,Qv B,Qv J]
inductive R_lay1:QE->List OT->(QE->Prop)->Prop
 |mk {N:QE}{s e:List Key}{r:Int}(L:N.ends.length<900)(h2:N.rooms.length<900)(h3:N.leav.length<900)(h4:∀k ns,QU N.leav k=some ns->ns.length<900):R_lay1 N [.fz<|Zh s,.fz<|Zh e,.fz<|.int r] (λN'=>N'=Gf N s e r)
def Ziz:Qo Zac Zac (QD Sf):=by walk_at"p"
def Oo(T:Bl mg)(g:Tx K mg C gS gE)(H1:Mf K C "lay_one" "Net.lay_one" Sf Zac):ZC P w K mg base C "lay_one" Zac 1 (spN K P w C R_lay1):=by
 refine H1.evN Ziz (λf v M ts y h H X q A outer s m=>?_);cases h with
 |@mk i e r L W U n=>
  refine#[_,(Qy (Z0<|ZK zP zS zT VJ (OP (Wn m) (Zv g0) vb1 (Zz Qq) #[rfl,rfl,rfl,rfl])<|Qs (Zk ZH T.len ZD<|Qs (Zv g0) Qq) Qq)
 (Qy (Z0<|ZK zP zS zT VJ (Zv g0) y2)
 (Qz<|Z0<|ZK zP zS zT VJ (Zv g0) v3))),?_]
  refine QB (ZoK g.net rfl Qp #[] (λB c=>?_) (Cn (N:={ M with leav:=Yj M.leav i }) g.net rfl) ?_)
  .rw[Nb,Xh rfl]at c;cases c;cases z:QU M.leav i with
   |none=>decide
   |some j=>have:=n i j z;show j.length<1000;lia
  exact QB (Zok g.net rfl Qp (show M.ends.length<1000 by lia) (Zor g.net rfl Qp (show M.rooms.length<1000 by lia) (#[_,rfl,rfl])))
abbrev WD:Zp Nd:=λ_ _=>0
inductive R_lay:QE->List OT->(QE->Prop)->Prop
 |mk {N:QE}{h1:Lay Nd}{s e:Nd}{r:Int}(h:NetR N h1 WD)(new:(s,e)∉h1.map (λx=>(x.1,x.2.1)))(l:h1.length<400):R_lay N [.fz<|Zh<|nk s,.fz<|Zh<|nk e,.fz<|.int r] (λN'=>NetR N' (h1++[(s,e,r)]) WD)
def Zoc:Qo Zac Zac (QD NJ):=by walk_at"p"
def AY(T:Bl mg)(n:Tx K mg C gS gE)(H1:Mf K C "lay" "Net.lay" NJ Zac)(j:ZC P w K mg base C "lay_one" Zac 1 (spN K P w C R_lay1)):ZC P w K mg base C "lay" Zac 2 (spN K P w C R_lay):=by
 refine H1.evN Zoc (λf v M ts o h H u b A outer s W=>?_);cases h with
 |@mk m c e r h B l=>
  refine#[_,(Qy (II (K2 W) (Zv g0) (YN<|av 1 y2) (Zk ZH T.len ZD<|Qs (Zv g0) Qq) rfl)
 (Qy (Z0<|YO j n.net W g0<|av 1<|av 2 v3)
 (Qz<|Z0<|YO j n.net W g0<|av 2<|av 1<|Qs Qw Qq))),?_]
  try dsimp only[ZV]
  have a:=h.elen;have Z:M.rooms.length=2*m.length:=by rw[h.rooms,NZ]
  have t:=h.l1;have p:=h.l2;refine QB (ZpC n.net rfl (Cn n.net rfl) (YM (QZ Qp<|QZ Qp Z5)<|by show(2)<=1000;decide) #[] (QB (Uj LN rfl (Jx (Qu Qp<|Qu Qp<|Qu Qp Q1) rfl) λts g=>?_)));subst g;refine#[_,R_lay1.mk (show M.ends.length<900 by lia) (show M.rooms.length<900 by lia) (show M.leav.length<900 by lia) (λk y i=>by have:=h.l3 k y i;lia),λd X=>?_];subst X;walk_at"d";refine Uj LN rfl (Jx (Qu Qp<|Qu Qp<|Qu Q0 Q1) rfl) (λts g=>?_);subst g;refine#[_,R_lay1.mk ?a1 ?a2 ?a3 ?a4,λd X=>?_]
  case a1=>show(M.ends++[nk e]).length<900;rw[Xs,a];show 2*m.length+1<900;lia
  case a2=>show(M.rooms++[r]).length<900;rw[Xs,Z];show 2*m.length+1<900;lia
  case a3=>
   show(Ya (Yj M.leav<|nk c) (nk c) _).length<900
   rw[DE];have:=KC M.leav (nk c);lia
  case a4=>
   intro k y i;rw[GI]at i;by_cases z:k=nk c
   .rw[Xh z]at i;cases i;have:((QU M.leav<|nk c).getD []).length<=2*m.length:=by
     cases q:QU M.leav (nk c) with
     |none=>exact XH _
     |some Y=>exact h.l3 _ Y q
    show((QU M.leav<|nk c).getD []++[_]).length<900
    rw[Xs];show _+1<900
    lia
   .rw[Xe z]at i;have:=h.l3 k y i;lia
  subst X;exact#[_,ZsW h rfl B,rfl]
noncomputable def B7(c:Lay Nd)(φ:Zp Nd)(p q:Nd):Int:=if (p,q)∈c.map (λx=>(x.1,x.2.1)) then φ p q else 0
inductive R_flow(P:Program)(w:World)(C:Addr):List OT->(OT->Prop)->Prop
 |mk {N:QE}{h1:Lay Nd}{φ:Zp Nd}{p q:Nd}(h:NetR N h1 φ):R_flow P w C [.zow<|Vm P w C N,.fz<|Zh<|nk p,.fz<|Zh<|nk q] (λr=>r=.fz (.int<|B7 h1 φ p q))
def ZlU:Qo Zan Zan (QD Ro):=by walk_at"p"
def Ot(T:Bl mg)(W:Tx K mg C gS gE)(H1:Mf K C "flow" "Net.flow" Ro Zan):ZC P w K mg base C "flow" Zan 1 (Zi K<|R_flow P w C):=by
 refine H1.evD ZlU (λf ts r h H u o A outer s Y=>?_);cases h with
 |@mk N t X p q h=>
  refine#[_,(Qy (QW (UF<|Zqt (K2 Y) (YN<|av 1 y2)<|Zv g0) (Qz<|QK Qw) QV)
 (Qz<|QK<|QG QH (Zv g0)<|QX Kl (IC (K2 Y) (Zv g0) (YN<|av 1 y2) λ_ _=>rfl) Qw)),?_]
  try dsimp only[ZV]
  refine QB (Zb (Z3<|ZpW W.net ((λB y=>YM (QZ (Qp B)<|QZ (Qp y) Z5) (by show(2)<=1000;decide)) rfl rfl) rfl) (λc=>Zj Q0 ?_) λc=>Zf ?_)
  .have c:Ve N.laid (nk p,nk q)=none:=by
    cases z:Ve N.laid (nk p,nk q) with
    |none=>rfl
    |some n=>rw[z]at c;cases c
   show OT.fz (.int 0)=_;unfold B7;rw[Xe λj=>?_];apply At (Xo.mp j);intro x M e;obtain⟨i,m⟩:=List.mem_iff_getElem?.mp M
   have:=h.laid i x m
   grind
  .have j:=by
    apply Classical.byContradiction;intro k;rw[h.laid0 p q k]at c;cases c
   apply At (Xo.mp j);intro x M e;obtain⟨i,m⟩:=List.mem_iff_getElem?.mp M;have d:=h.laid i x m;injection e with B y;rw[B,y]at d;have U:N.rooms[2*i+1]?=some (X p q):=by
    rw[h.rooms,GA];unfold rmE;have a:(2*i+1)/2=i:=#[]
    have b:¬(2*i+1)%2=0:=#[]
    rw[a,m];simp only[YX,Xe b,B,y]
   have l:atI (N.rooms.map PyData.int) (Builtin.bitXor ((2*i:Nat)) 1)=some (.int<|X p q):=by
    rw[RH];have a:Zhh (2*i)=2*i+1:=by unfold Zhh;rw[Xh<|#[]]
    rw[a];exact Z9 (by rw[Xv,U];rfl)
   refine Zj (Nh W.net rfl (ZB (OM W.net rfl ((λB y=>YM (QZ (Qp B)<|QZ (Qp y) Z5) (by show(2)<=1000;decide)) rfl rfl) d) Q0) l) ?_;unfold B7;rw[Xh j]
def TD(h:Qr K ta Z (.list ds)):QM K (λO H Q=>ta O H λx J=>∃k,Hn K x J k/\Q k J) Z (!ds.isEmpty):=λU F O H Q S q=>h U F O H _ S λi D v c f=>by
 apply aB (Jc (K:=K) f c.fh);rintro a xs rfl L g _;refine#[_,.inl #[xs,L,rfl],?_];have e:xs.isEmpty=ds.isEmpty:=by
  have:=g.length;cases xs<;>cases ds<;>simp at this ⊢
 rw[e];exact q i D c
def Ux(n:Nd):PyData:=Zh (nk n)
inductive R_reached(P:Program)(w:World)(C:Addr):List OT->(OT->Prop)->Prop
 |mk {N:QE}{h1:Lay Nd}{φ:Zp Nd}{s:Nd}(h:NetR N h1 φ)(l:h1.length<400):R_reached P w C [.zow<|Vm P w C N,.fz<|Zh<|nk s] (λr=>∃v es,r=.own v (VL<|kvG es)/\Tree h1 φ s es/\Yz h1 φ es)
structure ReachI(h1:Lay Nd)(φ:Zp Nd)(s:Nd)(es0 es:Got Nd)(H0 fu:List Nd):Prop where
 tree:Tree h1 φ s es
 fin:∀n∈fu,n∈Zc es
 sub:∀n∈Zc es0,n∈Zc es
 done:U0 h1 φ es (H0++fu)
 len:es.length=es0.length+fu.length
def UP:Qo ["self","start","edges","latest","further","node","edge"] ZaN (QD RQ):=by walk_at"p"
def Zol(T:Bl mg)(H0:Tx K mg C gS gE)(H1:Mf K C "reached" "Net.reached" RQ ZaN):ZC P w K mg base C "reached" ZaN 1 (Zi K<|R_reached P w C):=by
 refine H1.evD UP (λf ts Φ h H dx cdv A outer s hr=>?_);cases h with
 |@mk N M F u h l=>
  refine#[_,(Qy (QR 2 UP.nd<|Zt4 (Wn hr) vb1 U8)
 (Qy (QR 3 UP.nd<|Zz va1)
 (Qy (Nj zN (Fy y3 λ_=>rfl) (Qy (QR 4 UP.nd<|Zz Qq)
 (Qy (Va zN rfl (by exact(VV y3)) (Zy 5 UP.nd) (by exact(Qz (Va zN rfl (by exact(VV<|Zso (Wn hr) (Zv g0) (pv 5) (Zz Qq) #[rfl,rfl,rfl,rfl])) (Zy 6 UP.nd) (by exact(Qz (QW (PW.pt<|De (Zo YL (QG QH (Zv g0)<|pv 6) Qw)<|Dp<|UF<|Zqy (Wn hr) (QG QH (Zv g0)<|pv 6) va2) (Qy (TL (Wn hr) va2 (QG QH (Zv g0)<|pv 6) (pv 6) rfl)
 (Qz<|Z0<|ZK zP zS zT VJ g4<|Qs (QG QH (Zv g0)<|pv 6) Qq)) QV)))))))
 (Qz<|QR 3 UP.nd g4))))
 (Qz<|QK va2)))),?_]
  show QJ K _ [_,_,_,_,_,_,_] _
  walk_at"x";refine QB (KI (ZsZ (d:=.none) Qp Wq) λv=>QB (Vi (Vh (QZ Qp Z5) Be) (We 3 rfl ?_)));walk_at"d";have bnd:∀es,Tree M F u es->es.length<=2*M.length+1:=λes t=>by have:=t.len;rwa[FP]at this
  refine QB (N0 (λm X=>∃(es:Got Nd) (q:List Nd) (u4 u5 S:Option OT),Tree M F u es/\(∀n∈q,n∈Zc es)/\U0 M F es q/\m=2*(2*M.length+2-es.length)+(if q=[] then 0 else 1)/\
   X=[zz<|Vm P w C N,zf<|Zh<|nk u,zo v<|VL<|kvG es,zf<|.list<|q.map Ux,u4,u5,S]) _ #[[(u,none)],[u],none,none,none,.root,(λn D=>by simpa [Zc] using D),?d0,rfl,rfl] ?ws)
  case d0=>
   intro e m n r L h2 h3 h4 h5 h6;have:m=u:=by simpa [Zc] using h5
   exact Xt (by exact this▸Xb) h6
  case ws=>
   rintro m _ ⟨es,q,u4,u5,S,tr,sb,dn,rfl,rfl⟩;refine#[_,TD Qp,λc=>?_,λc=>?_]
   .have O:q≠[]:=λz=>by rw[z]at c;cases c
    rw[Xe O];refine QB (Vi (Vh (ds:=[]) Z5<|by decide) ?_);walk_at"d";refine QB (VF (λi X=>∃(W:Got Nd) (R:List Nd) (u5 S:Option OT),ReachI M F u es W (q.drop i) R/\
     X=[zz<|Vm P w C N,zf<|Zh<|nk u,zo v<|VL<|kvG W,zf<|.list<|q.map Ux,some<|.ol<|R.map Ux,u5,S]) (Yi Qp) #[es,[],_,_,#[tr,(by rintro n ⟨⟩),λn D=>D,by rw[List.drop_zero,Xr];exact dn,by simp],rfl] ?st ?fin)
    case fin=>
     rintro _ ⟨W,R,w5,w6,I,rfl⟩;rw[Xg]at I;have dn':=I.done;rw[List.drop_length,Mt]at dn';refine We 4 rfl<|Z6 Qp ?_;walk_at"d";refine#[2*(2*M.length+2-W.length)+(if R=[] then 0 else 1),?_,W,R,_,_,_,I.tree,I.fin,dn',rfl,rfl];have b1:=bnd W I.tree;have b2:=I.len
     by_cases z:R=[]
     .rw[Xh z];rw[z]at b2;simp at b2;lia
     .rw[Xe z];have:0<R.length:=M3.mpr z;lia
    case st=>
     rintro i d _ hd ⟨es1,fu1,w5,w6,I1,rfl⟩;have hi:i<q.length:=by
      have:=(Xi.mp hd).1;simpa using this
     obtain rfl:d=Ux q[i]:=by simpa [hi] using hd.symm
     have Q:=List.drop_eq_getElem_cons hi;generalize q[i]=x at Q;refine#[_,Zg,?_];walk_at"d";refine VF (λj X=>∃(g:Got Nd) (B:List Nd) (S:Option OT),ReachI M F u es g (q.drop i) B/\
      (∀(k:Nat) (n:Nd) (r:Int),(k:Int)∈((QU N.leav<|nk x).getD []).take j->hdE M k=some n->rmE M F k=some r->0<r->n∈Zc g)/\
      X=[zz<|Vm P w C N,zf<|Zh<|nk u,zo v<|VL<|kvG g,zf<|.list<|q.map Ux,some<|.ol<|B.map Ux,zf<|Ux x,S]) (Yi<|ZsV H0.net rfl Qp) #[es1,fu1,_,I1,(λk n r hk=>by simp at hk),rfl] ?st2 ?fin2
     case fin2=>
      rintro _ ⟨g,B,w6,U,p,rfl⟩;refine#[g,B,_,_,#[U.tree,U.fin,U.sub,?_,U.len],rfl];rw[Xg,W3]at p;intro e m n r L h2 h3 h4 h5 h6;by_cases z:m=x
      .subst z;exact p e n r ((h.leav m (e:Int)).mpr #[e,rfl,L]) h2 h3 h4
      .refine U.done e m n r L h2 h3 h4 h5 ?_;rw[Q,Ur,Xd,not_or];exact#[z,h6]
     case st2=>
      rintro j d2 _ E ⟨g,B,w6,U,p,rfl⟩;have hj:=by
       have:=(Xi.mp E).1;simpa using this
      apply At ((h.leav x _).mp (X6 hj));intro k ek tk;obtain rfl:=by
       rw[Xv,XT hj]at E;rw[ek]at E;simpa using E.symm
      obtain⟨y,hy⟩:∃y,M[k/2]?=some y:=by
       unfold tlE at tk;cases z:M[k/2]? with
       |none=>rw[z]at tk;cases tk
       |some y=>exact#[y,rfl]
      obtain⟨n,D⟩:∃n,hdE M k=some n:=⟨_,by unfold hdE;rw[hy];rfl⟩;obtain⟨r,J⟩:∃r,rmE M F k=some r:=⟨_,by unfold rmE;rw[hy];rfl⟩;have ea:atI (N.ends.map Zh) (k:Int)=some (Zh<|nk n):=Z9 (by rw[h.ends,XA,Xv,KA,D];rfl);have tks:((QU N.leav<|nk x).getD []).take (j+1)=((QU N.leav<|nk x).getD []).take j++[(k:Int)]:=by rw[Jf,XT hj,ek];rfl
      have bes:=bnd g U.tree;have ben:=U.len;refine#[_,Zg,?_];walk_at"d";refine Zb (Br (Zn<|V8 (Nh H0.net rfl Qp (Z9 (by rw[Xv,h.rooms,GA,J];rfl))) Q0) λ_=>Z3<|Zoh ((λe0 e6=>Lx H0.net e0 (Qp e6) ea) rfl rfl) rfl) (λc=>?_) (λc=>Zf ?_)
      .rw[Bt]at c;have c2:=by simpa using (Bool.and_eq_true_iff.mp c).2
       refine QB (OE rfl Qp ((λe0 e6=>Lx H0.net e0 (Qp e6) ea) rfl rfl) (by rw[show(kvG g).length=g.length from Xg _];exact V9<|#[]) ?_);walk_at"d";rw[Zt8 c2];refine Wx rfl ((λe0 e6=>Lx H0.net e0 (Qp e6) ea) rfl rfl) (by rw[Xg];lia)<|#[g++[(n,some k)],B++[n],_,#[U.tree.add c2 D tk (U.sub x (sb x<|List.mem_of_mem_drop<|by rw[Q];exact Xb)) J (X8 (Bool.and_eq_true_iff.mp c).1),λz G=>?_,λz G=>Uo.mpr<|.inl<|U.sub z G,?_,by simp;lia],λk' n' r' Y q1 q2 q3=>?_,by rw[Xx];rfl]
       .rcases Xz.mp G with G|G
        .exact Uo.mpr (.inl<|U.fin z G)
        .exact Uo.mpr (.inr<|by simpa using G)
       .exact U.done.add n (some k)
       .rw[tks]at Y;rcases Xz.mp Y with z|z
        .exact Uo.mpr (.inl<|p k' n' r' z q1 q2 q3)
        .have:k'=k:=by have:=Xj.mp z;lia
         subst this;rw[D]at q1;cases q1;exact Uo.mpr (.inr rfl)
      .rw[Bt]at c;refine#[g,B,_,U,λk' n' r' Y q1 q2 q3=>?_,rfl];rw[tks]at Y;rcases Xz.mp Y with z|z
       .exact p k' n' r' z q1 q2 q3
       .have:k'=k:=by have:=Xj.mp z;lia
        subst this;rw[D]at q1;rw[J]at q2;cases q1;cases q2;apply Classical.byContradiction;intro hq;simp[q3,hq]at c
   .have O:q=[]:=by
     cases q with
     |nil=>rfl
     |cons a b=>cases c
    subst O;exact Lk rfl #[v,es,rfl,tr,dn.closed]
def Ji(w:Qk):Qd:=w.map λ(e:Nat)=>PyData.int (e:Int)
def FS{es:Got Nd}{n:Nd}{w:Qk}(b:Back h1 es n w):Yw (kvG es) (nk n)=some (Gg w.head?):=by
 rw[Nz];cases b with
 |nil h=>rw[h];rfl
 |cons h t b=>rw[h];rfl
def Pl{c:Lay Nd}{e:Nat}{r:Int}(h:rmE c φ e=some r):e<2*c.length:=by
 unfold rmE at h;cases z:c[e/2]? with
 |none=>rw[z]at h;cases h
 |some x=>have:=(Xi.mp z).1;lia
def Ly{s n:Nd}{es:Got Nd}{w:Qk}(q:WayOk h1 φ s es n w):w.length<=2*h1.length:=by
 have:=NR q.nodup λe f=>by
  exact At (q.room e f) λr c _=>XY.mpr (Pl c)
 simpa using this
inductive R_way(P:Program)(w:World)(C:Addr):List OT->(OT->Prop)->Prop
 |mk {N:QE}{h1:Lay Nd}{φ:Zp Nd}{s n:Nd}{es:Got Nd}{wy:Qk}(h:NetR N h1 φ)(l:h1.length<400)(q:WayOk h1 φ s es n wy):R_way P w C [.zow<|Vm P w C N,.zow<|Gd<|kvG es,.fz<|Zh<|nk n] (λr=>r=.ol (Ji wy))
def DV:Qo ["self","edges","end","way","edge"] ZaH (QD RU):=by walk_at"p"
def En(T:Bl mg)(r:Tx K mg C gS gE)(H1:Mf K C "way_to" "Net.way_to" RU ZaH):ZC P w K mg base C "way_to" ZaH 1 (Zi K<|R_way P w C):=by
 refine H1.evD DV (λf ts u h H z p A outer s X=>?_);cases h with
 |@mk N Z t x n es B h l q=>
  refine#[_,(Qy (QR 3 DV.nd<|Zz Qq)
 (Qy (QR 4 DV.nd<|Lv (Wn X) vb1 va2 λ_ _=>rfl)
 (Qy (Nj zN (UF<|L9 g4) (Qy (Z0<|ZK zP zS zT VJ y3<|av 4 Qq)
 (Qz<|QR 4 DV.nd<|Lv (Wn X) vb1 (QG QH (Zv g0)<|QX Kl g4 Qw) λ_ _=>rfl)))
 (Qz<|QK y3)))),?_]
  try dsimp only[ZV]
  have v:=Ly q;refine QB (Vi (Vh Z5<|by decide) (QB (Z6 (L6 rfl Qp<|FS q.back) (QB (N0 (λm y=>∃(j g:Qk) (U:Nd),m=g.length/\j++g=B/\Back Z es U g/\y=[zz<|Vm P w C N,some _,zf<|Zh<|nk n,some<|.ol<|Ji j,zf<|Gg g.head?]) B.length #[[],B,n,rfl,rfl,q.back,rfl] ?ws)))))
  case ws=>
   rintro m _ ⟨j,g,U,rfl,M,b,rfl⟩;refine#[_,Z3<|Dl Qp,λc=>?_,λc=>?_]
   .cases b with
    |nil d=>cases c
    |@cons _ W e i d Y b0=>
     have o:j.length<1000:=by
      grind
     refine QB (Wx rfl Qp (by unfold Ji;rw[Xg];exact o) ?_);have k:atI (N.ends.map Zh) (Builtin.bitXor (e) 1)=some (Zh<|nk W):=by
      rw[RH];exact Z9 (by rw[h.ends,XA,Xv,ZpK,Y];rfl)
     refine Z6 (L6 rfl (Lx r.net rfl (ZB Qp Q0) k)<|FS b0) ?_;walk_at"d";refine#[i.length,J9 _,j++[e],i,W,rfl,by rw[<- M,UR];rfl,b0,?_];unfold Ji;rw[Xx];rfl
   .have:g=[]:=by
     cases g with
     |nil=>rfl
     |cons a b=>cases c
    subst this;rw[Xr]at M;subst M;exact UJ rfl rfl
def amt(c:Lay Nd)(φ:Zp Nd)(w:Qk):Int:=Wa (w.map λe=>(rmE c φ e).getD 0)
inductive R_push:QE->List OT->(QE->Prop)->Prop
 |mk {N:QE}{h1:Lay Nd}{φ:Zp Nd}{wy:Qk}(h:NetR N h1 φ)(hd:Dis h1)(ne:wy≠[])(hin:∀e∈wy,∃r,rmE h1 φ e=some r)(hl:wy.length<900):R_push N [.fz<|.list<|Ji wy] (λN'=>NetR N' h1<|Wp h1 (amt h1 φ wy) φ wy)
def NetR.rm{N:QE}(h:NetR N h1 φ)(he:e<2*h1.length):∃r,N.rooms[e]?=some r/\(Yg h1 φ)[e]?=some r:=by
 have:e<(Yg h1 φ).length:=by rw[NZ];exact he
 exact#[_[e],by rw[h.rooms,XT this],XT this]
def NetR.push{N:QE}(h:NetR N h1 φ)(c:Dis h1)(L:(Yg h1 φ)[e]?=some r)(f:(Yg h1 φ)[Zhh e]?=some r'):NetR { N with rooms:=(N.rooms.set e<|r-a).set (Zhh e) (r'+a) } h1 (Y9 h1 a φ e):=
 #[h.ends,by show(N.rooms.set e _).set _ _=_;rw[h.rooms,Zoo c L f],h.leav,h.laid,h.laid0,h.l1,h.l2,h.l3]
def ZnZ{f:Lay Nd}{a:Int}{φ:Zp Nd}{c:Qk}{e:Nat}(h:c[i]?=some e):Wp f a φ (c.take<|i+1)=Y9 f a (Wp f a φ<|c.take i) e:=by
 have t:c.take (i+1)=c.take i++[e]:=by rw[Jf,h];rfl
 rw[t];unfold Wp;rw[List.foldl_append];rfl
def DW:Qo ["self","way","amount","edge"] ["self","way"] (QD Rs):=by walk_at"p"
def ID(T:Bl mg)(k:Tx K mg C gS gE)(H1:Mf K C "push" "Net.push" Rs ["self","way"]):ZC P w K mg base C "push" ["self","way"] 1 (spN K P w C R_push):=by
 refine H1.evN DW (λf v M ts G h H Q F A outer s N=>?_);cases h with
 |@mk q W g h t l U O=>
  refine#[_,(Qy (QR 2 DW.nd<|Zk Oz T.min Bx<|Qs (V3 DW ["edge","self"] [none,some 0] (VV vb1) λ_=>(QG QH (Zv vb1) g0)) Qq)
 (Qz (Va zN rfl (by exact(VV vb1)) (Zy 3 DW.nd) (by exact(Qy (BI (Zv g0) y3 BQ va2 EA Wv)
 (Qz<|BI (Zv g0) (QX Kl y3 Qw) BQ va2 Dc Wv)))))),?_]
  show QJ K _ [_,_,_,_] _
  walk_at"x";refine QB (Z6 (d:=.int (amt q W g)) (Zog 0 rfl rfl (EL (Qr.cast (EvO.fz<|Yy (xs:=g) (enc:=λ(e:Nat)=>PyData.int<|e) (h:=λe=>.int<|(rmE q W e).getD 0) ?ei #[] ?el)<|by rw[XA];rfl) rfl (λz=>l<|List.map_eq_nil_iff.mp z))) ?_)
  case ei=>exact Yi Qp
  case el=>
   refine λe p c=>#[_,Zg,?_];obtain⟨r,B⟩:=U e p;exact Qr.cast (Nh (m:=r) k.net rfl Qp (Z9 (by rw[Xv,h.rooms,GA,B];rfl))) (by rw[B];rfl)
  generalize amt q W g=a;refine VF (λi X=>∃(y:QE) (Y:Option OT),NetR y q (Wp q a W<|g.take i)/\X=[zo v<|Zr P w C y,zf<|.list<|Ji g,zi a,Y]) (Yi Qp) #[M,_,h,rfl] ?st ?fin
  case fin=>
   rintro _ ⟨y,Y,n,rfl⟩;unfold Ji at n;rw[Xg,W3]at n;exact#[y,n,rfl]
  case st=>
   rintro i d _ j ⟨y,Y,n,rfl⟩;have b:=by
    have:=(Xi.mp j).1;unfold Ji at this;simpa using this
   obtain rfl:d=.int (g[i]):=by
    unfold Ji at j;simpa [b] using j.symm
   obtain⟨I,Z⟩:=U g[i] (X6 b);have el:=Pl Z;rw[ZnZ<|XT b];generalize g[i]=e at el;have E:Zhh e<2*q.length:=by unfold Zhh;split<;>lia
   have o:Zhh e≠e:=by unfold Zhh;split<;>lia
   exact At (My.NetR.rm n el) λr L D=>At (My.NetR.rm n E) λJ x u=>#[_,Zg,QB (FN k.net rfl (Qp rfl) #[] (L) (Qp rfl) (FN k.net rfl (Qr.cast (ZB (Qp rfl) Q0)<|by rw[RH]) #[] (by show(y.rooms.set e<|r-a)[Zhh e]?=_;rw[XX<|Ne.symm o];exact x) (Qp rfl)<|#[_,_,My.NetR.push n t D u,rfl]))]
inductive R_fill:QE->List OT->(QE->Prop)->Prop
 |mk {N:QE}{y:Yd}{G:Gv}{φ:Zp Nd}(h:NetR N (Zu y G) φ)(F:Flow y G φ)(l:(Zu y G).length<400):R_fill N [.fz<|Zh<|nk .start,.fz<|Zh<|nk .fin] (λN'=>∃φ' es,NetR N' (Zu y G) φ'/\Flow y G φ'/\Nd.start∈Zc es/\Yz (Zu y G) φ' es/\Nd.fin∉Zc es)
def RA:Qo ["self","start","end","edges"] Zan (QD NY):=by walk_at"p"
def EQ(T:Bl mg)(k:Tx K mg C gS gE)(H1:Mf K C "fill" "Net.fill" NY Zan)(Y:ZC P w K mg base C "reached" ZaN 1 (Zi K<|R_reached P w C))(I:ZC P w K mg base C "push" ["self","way"] 1 (spN K P w C R_push))(E:ZC P w K mg base C "way_to" ZaH 1 (Zi K<|R_way P w C)):
 ZC P w K mg base C "fill" Zan 2 (spN K P w C R_fill):=by
 refine H1.evN RA (λf v M ts Ψ h H dx cdv A outer s X=>?_);cases h with
 |@mk y G g h F l=>
  refine#[_,(Qy (QR 3 RA.nd<|YO Y k.net X g0 va1)
 (Qz (Nj zN (UF<|Kw (Wn X) va2 y3) (Qy (Z0<|YO I k.net X g0<|Qs (YO E k.net X g0<|av 3 y2) Qq)
 (Qz<|QR 3 RA.nd<|YO Y k.net X g0 va1))))),?_]
  try dsimp only[ZV]
  have VC:∀{M:QE} {g:Zp Nd} {u:Option OT} {E':XK},NetR M (Zu y G) g->Zt K (ZU C "reached" (Zi K<|R_reached P w C) [] E' (Q8 0)<|Q4 (Q8 1) QL) [zo v<|Zr P w C M,zf<|Zh<|nk .start,zf<|Zh<|nk .fin,u] _:=λh'=>
   Rb 0 rfl (by rintro r ⟨v',es,rfl,_⟩;exact ZsN<|ZsF es) (Nq Cw rfl (Qu (Qp rfl) Q1)<|R_reached.mk h' l)
  refine QB (Wu (VC h) λr j=>?_);obtain⟨U,es,rfl,W,b⟩:=j;refine N0 (λm o=>∃(M:QE) (g:Zp Nd) (es:Got Nd) (U:V),NetR M (Zu y G) g/\Flow y G g/\Tree (Zu y G) g .start es/\Yz (Zu y G) g es/\m=(Q5 G.wa G.m-VM (Zu y G) g .start).toNat/\
   o=[zo v<|Zr P w C M,zf<|Zh<|nk .start,zf<|Zh<|nk .fin,zo U<|VL<|kvG es]) _ #[M,g,es,U,h,F,W,b,rfl,rfl] ?ws
  clear W b es U h F;rintro m _ ⟨M,g,es,U,h,F,W,b,rfl,rfl⟩;refine#[_,Z3<|Ov Qp rfl,λc=>?_,λc=>?_]
  .rw[Bt]at c;obtain⟨Z,q⟩:=W.way .fin (X8 c);have wl:=Ly q;have B:Z≠[]:=λz=>by
    have:=q.chain;rw[z]at this;cases this
   refine Fx 3 rfl ?_;walk_at"d";refine QB (Uj ZrY rfl (Ez (Rb 0 rfl (λr e=>by subst e;exact KH (λd S=>by
    apply At (Xo.mp S);rintro e _ rfl;exact#[_,rfl]))<|Nq Ib rfl (G3 rfl (Qu Qp Q1))<|R_way.mk h l q) λr e=>#[_,e,rfl]) λts t=>?_)
   subst t;refine#[_,R_push.mk h (DL y G) B (λe n=>let ⟨r,a,_⟩:=q.room e n;#[r,a])<|#[],λN' J=>?_];walk_at"d";obtain⟨Q,O⟩:=ND (ns:=Z.map λe=>(rmE (Zu y G) g e).getD 0) (λz=>B<|List.map_eq_nil_iff.mp z);have a0:0<amt (Zu y G) g Z:=by
    refine At (Xo.mp Q) λe n ee=>At (q.room e n) λr i R=>?_;rw[i]at ee;show 0<Wa _
    simp_all
   obtain⟨L,nd⟩:=F.push (a:=amt (Zu y G) g Z) #[] q.chain q.nodup (λe n=>by
    refine At (q.room e n) λr i _=>#[r,i,?_];have:=O _ (Xo.mpr #[e,n,rfl]);rwa[i]at this)
   refine Wu (VC J) (λr j=>?_);obtain⟨N,x,rfl,p,D⟩:=j;refine#[_,?_,N',_,x,N,J,L,p,D,rfl,rfl];have:=L.most;lia
  .rw[Bt]at c;exact#[M,#[g,es,h,F,W.start,b,GY c],rfl]
structure GOk(y:Yd)(g:Gs):Prop where
 ln:g.line<y.ls.length
 w0:0<=g.want
 m0:0<=g.most
def AH{y:Yd}{g:Gs}(h:g.Ok y):GOk y g:=#[h.ln,by have:=h.w1;lia,by have:=h.m1;lia]
noncomputable def QA(c:List Gs):Gv:={ m:=c.length,ln:=λk=>(c.getD k default).line,wa:=λk=>(c.getD k default).want,mo:=λk=>(c.getD k default).most,th:=λk t=>VW (c.getD k default) (t:Int) }
def UM{c:List Gs}(h:k<c.length):c.getD k default=c[k]:=by simp[List.getD,h]
def ZsU(y:Yd)(G:Gv)(k:Nat):(Vr y G k).length<=1+y.T:=by
 unfold Vr;rw[X4];have:∀n,((List.range n).flatMap λt=>if G.th k t=true then [((.guest k,.line (G.ln k) t,G.mo k):Nd×Nd×Int)] else []).length<=n:=by
  intro n;induction n with
  |zero=>simp
  |succ n c=>
   rw[YY,Mz,Xs];have:([n].flatMap λt=>if G.th k t=true then [((.guest k,.line (G.ln k) t,G.mo k):Nd×Nd×Int)] else []).length<=1:=by
    simp only[List.flatMap_cons,List.flatMap_nil,Xr];split<;>simp
   lia
 have:=this y.T;lia
def OZ{y:Yd}(h:1<=y.ls.length)(t:Nat):(Yb y t).length=y.ls.length:=by
 unfold Yb;rw[X4];have:∀n,((List.range n).flatMap λi=>[((.line (i+1) t,.line (Mir.upN y<|i+1) t,Z7 y (i+1) t):Nd×Nd×Int)]).length=n:=by
  intro n;induction n with
  |zero=>simp
  |succ n c=>rw[YY,Mz,Xs,c];simp
 rw[this];lia
theorem BR{f:Nat->Lay Nd}{c:Nat}(h:∀k,(f k).length<=c):∀n,((List.range n).flatMap f).length<=n*c
 |0=>by simp
 |n+1=>by
  rw[YY,Mz,Xs];have a:=BR h n;have b:([n].flatMap f).length<=c:=by simpa using h n
  lia
def BX(f:Nat->Lay Nd)(n:Nat):(List.range<|n+1).flatMap f=(List.range n).flatMap f++f n:=by rw[YY];simp
def Nm{f:Nat->Lay Nd} : x∈(List.range n).flatMap f ↔ ∃k,k<n/\x∈f k:=by
 simp_all
def DS{y:Yd}(g:y.Ok)(G:Gv)(h:n<=8):((List.range n).flatMap (Vr y G)).length<=72:=by
 have a:=BR (f:=Vr y G) (c:=9) (λk=>by have:=ZsU y G k;have:=g.t8;lia) n;lia
def NA{y:Yd}(c:y.Ok)(h:n<=8):((List.range n).flatMap (Yb y)).length<=40:=by
 have a:=BR (λk=>by rw[OZ c.l1 k];exact c.l5) n;lia
inductive R_gnode:List OT->OT->Prop
 |mk {k:Nat}:R_gnode [.fz<|.int (k:Int)] (.fz<|Zh<|nk<|.guest k)
def ZjB:Qo ZaW ZaW (QD RX):=by walk_at"p"
def Zse(T:Bl mg)(H1:Df K mg "guest_node" RX ZaW):Q2 P w K mg base "guest_node" ZaW 1 (QC (K:=K) R_gnode):=by
 refine H1.ev ZjB (λf ts r h H i c A outer s g=>?_);cases h with
 |@mk k=>
  exact#[_,(Qz<|QK<|YN<|Qs QP y0),Zj (YM (QZ QT<|QZ Qp Z5)<|by show(2)<=1000;decide) rfl]
inductive R_lnode:List OT->OT->Prop
 |mk {l t:Nat}:R_lnode [.fz<|.int (l:Int),.fz<|.int (t:Int)] (.fz<|Zh<|nk<|.line l t)
def Zks:Qo ZaE ZaE (QD RB):=by walk_at"p"
def ZsH(T:Bl mg)(H1:Df K mg "line_node" RB ZaE):Q2 P w K mg base "line_node" ZaE 1 (QC (K:=K) R_lnode):=by
 refine H1.ev Zks (λf ts r h H i c A outer s g=>?_);cases h with
 |@mk l t=>
  exact#[_,(Qz<|QK<|YN<|Qs QP<|av 0 va1),Zj (YM (QZ QT<|QZ Qp<|QZ Qp Z5)<|by show(3)<=1000;decide) rfl]
inductive R_lguest:QE->List OT->(QE->Prop)->Prop
 |mk {N:QE}{y:Yd}{gs:List Gs}{k:Nat}(ok:y.Ok)(g8:gs.length<=8)(hk:k<gs.length)(h:NetR N ((List.range k).flatMap (Vr y<|QA gs)) WD):
  R_lguest N [.fz<|Za y,.fz<|.int (k:Int),.fz<|QQ gs[k]] (λN'=>NetR N' ((List.range<|k+1).flatMap (Vr y<|QA gs)) WD)
def CV:Qo ["net","yard","number","guest","turn"] Zaf (QD RC):=by walk_at"p"
def Zpc(T:Bl mg)(o:Tx K mg C gS gE)(H1:Df K mg "lay_guest" RC Zaf)(b:ZC P w K mg base C "lay" Zac 2 (spN K P w C R_lay))(I:Q2 P w K mg base "want_of" Zax 1 (QC (K:=K) R_want))(e:Q2 P w K mg base "guest_node" ZaW 1 (QC (K:=K) R_gnode))
(N:Q2 P w K mg base "turns_of" ZaD 1 (QC (K:=K) R_turns))(G:Q2 P w K mg base "is_there" Zaq 1 (QC (K:=K) R_there))(F:Q2 P w K mg base "most_of" Zax 1 (QC (K:=K) R_most))(L:Q2 P w K mg base "line_node" ZaE 1 (QC (K:=K) R_lnode))(J:Q2 P w K mg base "line_of" Zax 1 (QC (K:=K) R_lineof)):
 Q2 P w K mg base "lay_guest" Zaf 3 (spN K P w C R_lguest):=by
 refine H1.evN CV (λf v M ts Ψ h H dx cdv A outer s q=>?_);cases h with
 |@mk y g k O g8 R h=>
  refine#[_,(Qy (Z0<|YO b o.net q g0<|Qs (Y2 (v:=.ref _) rfl o.mSTART rfl)<|Qs (Q7 e q y2)<|Qs (Q7 I q v3) Qq)
 (Qz<|Va zN rfl (by exact(VI rfl T.range<|Qs (Q7 N q va1) Qq)) (Zy 4 CV.nd)<|by exact(Qz<|QW (ZL<|Q7 G q<|av 3<|av 4 Qq) (Qz<|Z0<|YO b o.net q g0<|Qs (Q7 e q y2)<|Qs (Q7 L q<|Qs (Q7 J q v3)<|av 4 Qq)<|Qs (Q7 F q v3) Qq) QV))),?_]
  show QJ K _ [_,_,_,_,_] _;have t8:=O.t8;have gl:=DS O (QA g) (n:=k) #[];have l:=UM R;have ew:(QA g).wa k=g[k].want:=by show(g.getD k default).want=_;rw[l]
  refine QB (Uj (ΦA:=λts=>ts=[.fz<|Zh<|nk .start,.fz<|Zh<|nk<|.guest k,.fz<|.int g[k].want]) Ds rfl (Jx (Qu (Nt o.aS)<|Qu (QN (Qu Qp Q1) R_gnode.mk)<|Qu (QN (Qu Qp Q1) R_want.mk) Q1) rfl) λts W=>?_);subst W;refine#[_,R_lay.mk h ?n0<|#[],λN1 D=>?_]
  case n0=>
   refine λz=>At (Xo.mp z) λx m E=>At ((λx m=>Nm.mp m) x m) λj S m=>?_;injection E with U B;rcases Ww.mp m with rfl|⟨t,_,_,rfl⟩
   .injection B with B;lia
   .cases U
  refine VF (ds:=ZM 0 y.T) (λi p=>∃(X:QE) (r:Option OT),NetR X ((List.range k).flatMap (Vr y<|QA g)++((.start,.guest k,(QA g).wa k)::(List.range i).flatMap λt=>if (QA g).th k t=true then [(.guest k,.line ((QA g).ln k) t,(QA g).mo k)] else [])) WD/\
   p=[zo v<|Zr P w C X,zf<|Za y,zf<|.int<|k,zf<|QQ g[k],r]) ?ei #[N1,none,by rw[ew];exact D,rfl] ?st ?fin
  case ei=>exact EvI.cast (VS (Qu (QN (Qu Qp Q1) R_turns.mk) Q1) (by rw[z62];lia)<|by rw[z62];lia) (YI rfl #[])
  case fin=>
   rintro _ ⟨X,r,Z,rfl⟩;rw[Wh]at Z;refine#[X,?_,rfl];rw[BX];exact Z
  case st=>
   rintro t d _ hd ⟨X,r,Z,rfl⟩;obtain⟨ht,rfl⟩:=Yq hd;rw[Ys];refine#[_,Zg,?_];walk_at"d";have et:VW g[k] (t)=(QA g).th k t:=by show _=VW (g.getD k default) (t);rw[l]
   refine Zb (QM.cast (Z3<|QN (Qu Qp<|Qu Qp Q1) R_there.mk) et) (λc=>?_) (λc=>Zf ?_)
   .refine Uj Ds rfl (Jx (Qu (QN (Qu Qp Q1) R_gnode.mk)<|Qu (QN (Qu (QN (Qu Qp Q1) R_lineof.mk)<|Qu Qp Q1) R_lnode.mk)<|Qu (QN (Qu Qp Q1) R_most.mk) Q1) rfl) (λts W=>?_);subst W;refine#[_,R_lay.mk Z ?n1 ?l1,λN2 Y=>?_]
    case n1=>
     intro z;apply At (Xo.mp z);intro x m E;injection E with U B;rcases Xz.mp m with m|m
     .apply At ((λx m=>Nm.mp m) x m);intro j S m;rcases Ww.mp m with rfl|⟨Q,_,_,rfl⟩
      .cases U
      .injection U with U;lia
     .rcases Xd.mp m with rfl|m
      .cases U
      .apply At (Hg.mp m);intro Q u m;split at m
       .rw[Xj.mp m]at B;injection B with _ B;have:=XY.mp u;lia
       .cases m
    case l1=>
     rw[Xs];have:(((.start,.guest k,(QA g).wa k):Nd×Nd×Int)::(List.range t).flatMap λt=>if (QA g).th k t=true then [((.guest k,.line ((QA g).ln k) t,(QA g).mo k))] else []).length<=1+t*1:=by
      rw[X4];have:=BR (f:=λt=>if (QA g).th k t=true then [((.guest k,.line ((QA g).ln k) t,(QA g).mo k))] else []) (c:=1) (λt=>by split<;>simp) t;lia
     lia
    refine#[N2,_,?_,rfl];rw[BX,Xh c];have U:(QA g).ln k=g[k].line:=by show(g.getD k default).line=_;rw[l]
    have B:(QA g).mo k=g[k].most:=by show(g.getD k default).most=_;rw[l]
    rwa[<- U,<- B,UR]at Y
   .refine#[X,_,?_,rfl];rw[BX,Xe<|by rw[c];decide,Xr];exact Z
inductive R_lturn:QE->List OT->(QE->Prop)->Prop
 |mk {N:QE}{y:Yd}{G:Gv}{t:Nat}(ok:y.Ok)(g8:G.m<=8)(ht:t<y.T)(h:NetR N ((List.range G.m).flatMap (Vr y G)++(List.range t).flatMap (Yb y)) WD):
  R_lturn N [.fz<|Za y,.fz<|.int (t:Int)] (λN'=>NetR N' ((List.range G.m).flatMap (Vr y G)++(List.range<|t+1).flatMap (Yb y)) WD)
def CL:Qo ["net","yard","turn","line"] ZaJ (QD Rt):=by walk_at"p"
def ZtD(T:Bl mg)(b:Tx K mg C gS gE)(H1:Df K mg "lay_turn" Rt ZaJ)(Y:ZC P w K mg base C "lay" Zac 2 (spN K P w C R_lay))(Z:Q2 P w K mg base "bound_at" Zat 1 (QC (K:=K) R_bound))(U:Q2 P w K mg base "line_node" ZaE 1 (QC (K:=K) R_lnode))
(L:Q2 P w K mg base "line_count" ZaD 1 (QC (K:=K) R_count))(J:Q2 P w K mg base "above_of" ZaI 1 (QC (K:=K) R_above)):Q2 P w K mg base "lay_turn" ZaJ 3 (spN K P w C R_lturn):=by
 refine H1.evN CL (λf v M ts Ψ h H dx S A outer s m=>?_);cases h with
 |@mk y G t q R ht h=>
  refine#[_,(Qy (Z0<|YO Y b.net m g0<|Qs (Q7 U m<|Qs Qw y2)<|Qs (Y2 (v:=.ref _) rfl b.mEND rfl)<|Qs (Q7 Z m<|av 1<|Qs Qw y2) Qq)
 (Qz<|Va zN rfl (by exact(Cj rfl T.range<|Qs Qw<|Qs (Q7 L m va1) Qq)) (Zy 3 CL.nd)<|by exact(Qz<|Z0<|YO Y b.net m g0<|Qs (Q7 U m<|av 3 y2)<|Qs (Q7 U m<|Qs (Q7 J m<|av 1 v3) y2)<|Qs (Q7 Z m<|av 1<|av 3 y2) Qq))),?_]
  show QJ K _ [_,_,_,_] _
  walk_at"x";have t8:=q.t8;have l1:=q.l1;have l5:=q.l5;have gl:=DS q G R;have tl:=NA q (n:=t) #[];have X:∀x∈(List.range G.m).flatMap (Vr y G)++(List.range t).flatMap (Yb y),(∃j,x∈Vr y G j)\/∃e,e<t/\x∈Yb y e:=λx g=>by
   rcases Xz.mp g with g|g
   .exact At (Nm.mp g) λj _ g=>.inl #[j,g]
   .exact At (Nm.mp g) λj O g=>.inr #[j,O,g]
  refine QB (Uj (ΦA:=λts=>ts=[.fz<|Zh<|nk<|.line 0 t,.fz<|Zh<|nk .fin,.fz<|.int<|Z7 y 0 t]) Ds rfl (Jx (Qu (QN (Qu Q0<|Qu Qp Q1)<|R_lnode.mk (l:=0))<|Qu (T3 b.aS b.aE)<|Qu (QN (Qu Qp<|Qu Q0<|Qu Qp Q1)<|R_bound.mk q (by decide) #[] #[]<|#[]) Q1) ?e0) λts B=>?_)
  case e0=>rw[XF];rfl
  subst B;refine#[_,R_lay.mk h ?n0<|by rw[Xs];lia,λN1 F=>?_]
  case n0=>
   intro D;apply At (Xo.mp D);intro x g I;injection I with e1 o;rcases X x g with ⟨j,g⟩|⟨e,z,g⟩
   .rcases Ww.mp g with rfl|⟨u,_,_,rfl⟩<;>cases e1
   .rcases J0.mp g with rfl|⟨i,_,rfl⟩
    .injection e1 with _ e1;lia
    .cases o
  refine VF (ds:=ZM 1 (y.ls.length-1)) (λi p=>∃(a:QE) (r:Option OT),NetR a (((List.range G.m).flatMap (Vr y G)++(List.range t).flatMap (Yb y))++((.line 0 t,.fin,Z7 y 0 t)::(List.range i).flatMap λi=>[(.line (i+1) t,.line (Mir.upN y<|i+1) t,Z7 y (i+1) t)])) WD/\
   p=[zo v<|Zr P w C a,zf<|Za y,zf<|.int<|t,r]) ?ei #[N1,none,by simpa using F,rfl] ?st ?fin
  case ei=>exact EvI.cast (KU (Qu Q0<|Qu (QN (Qu Qp Q1) R_count.mk) Q1)<|by rw[z62];lia) (YI rfl #[])
  case fin=>
   rintro _ ⟨a,r,k,rfl⟩;rw[Wh]at k;refine#[a,?_,rfl];rw[BX,<- UR];exact k
  case st=>
   rintro i d _ Q ⟨a,r,k,rfl⟩;obtain⟨hi,rfl⟩:=Yq Q;have ei:(1:Int)+(i)=((i+1)):=#[]
   rw[ei];refine#[_,Zg,?_];walk_at"d";refine Uj (ΦA:=λts=>ts=[.fz<|Zh<|nk<|.line (i+1) t,.fz<|Zh<|nk<|.line (Mir.upN y<|i+1) t,.fz<|.int<|Z7 y (i+1) t]) Ds rfl (Jx (Qu (QN (Qu Qp<|Qu Qp Q1)<|R_lnode.mk)<|Qu (QN (Qu (QN (Qu Qp<|Qu Qp Q1)<|R_above.mk q #[]<|#[])<|Qu Qp Q1)<|R_lnode.mk)<|Qu (QN (Qu Qp<|Qu Qp<|Qu Qp Q1)<|R_bound.mk q #[] #[] #[]<|#[]) Q1) ?e1) (λts B=>?_)
   case e1=>rw[XF];rfl
   subst B;refine#[_,R_lay.mk k ?n1 ?l1,λN2 W=>?_]
   case n1=>
    intro D;apply At (Xo.mp D);intro x g I;injection I with e1 o;rcases Xz.mp g with g|g
    .rcases X x g with ⟨j,g⟩|⟨e,z,g⟩
     .rcases Ww.mp g with rfl|⟨u,_,_,rfl⟩<;>cases e1
     .rcases J0.mp g with rfl|⟨N,_,rfl⟩
      .cases o
      .lia
    .rcases Xd.mp g with rfl|g
     .cases o
     .apply At (Hg.mp g);intro N E g;rw[Xj.mp g]at e1;have:=XY.mp E;lia
   case l1=>
    rw[Xs,Xs,X4];have:=BR (f:=λi=>[((.line (i+1) t,.line (Mir.upN y<|i+1) t,Z7 y (i+1) t))]) (c:=1) (λi=>by simp) i;lia
   refine#[N2,_,?_,rfl];rw[BX];rwa[UR]at W
def Wk(y:Yd)(G:Gv)(φ:Zp Nd):Prop:=Flow y G φ/\∃es:Got Nd,Nd.start∈Zc es/\Yz (Zu y G) φ es/\Nd.fin∉Zc es
inductive R_filled(P:Program)(w:World)(C:Addr):List OT->(OT->Prop)->Prop
 |mk {y:Yd}{gs:List Gs}(ok:y.Ok)(hg:∀g∈gs,GOk y g)(g8:gs.length<=8):R_filled P w C [.fz<|Za y,.fz<|.list<|gs.map QQ] (λr=>∃v N φ,r=.own v (Zr P w C N)/\NetR N (Zu y<|QA gs) φ/\Wk y (QA gs) φ)
def Pz{y:Yd}(f:y.Ok)(c:l<y.ls.length)(h:t<y.T):0<=Z7 y l t:=by
 rw[NW c];have L:=N4 f c
 have:(V5 y l).bs.getD t 0=(V5 y l).bs[t]'#[]:=by simp[List.getD,show t<(V5 y l).bs.length by lia]
 rw[this];exact(f.bb _ (by simp[V5,c]) _<|X6 _).1
def Ig{y:Yd}(f:y.Ok)(hg:∀g∈gs,GOk y g):∀x∈Zu y (QA gs),0<=x.2.2:=λx c=>by
 have n:=f.l1;rcases GF.mp c with ⟨k,m,c⟩|⟨t,h,c⟩
 .have j:GOk y (gs.getD k default):=by rw[UM m];exact hg _ (X6 _)
  rcases Ww.mp c with rfl|⟨t,_,_,rfl⟩
  .exact j.w0
  .exact j.m0
 .rcases J0.mp c with rfl|⟨i,q,rfl⟩
  .exact Pz f #[] h
  .exact Pz f #[] h
def Mj:Qo ["yard","guests","net","number","guest","turn"] Zaa (QD RW):=by walk_at"p"
def ZrR(T:Bl mg)(U:Tx K mg C gS gE)(H1:Df K mg "filled_net" RW Zaa)(z:HF P w K mg base "Net" C 1)(x:Q2 P w K mg base "lay_guest" Zaf 3 (spN K P w C R_lguest))(D:Q2 P w K mg base "turns_of" ZaD 1 (QC (K:=K) R_turns))
(u:Q2 P w K mg base "lay_turn" ZaJ 3 (spN K P w C R_lturn))(r:ZC P w K mg base C "fill" Zan 2 (spN K P w C R_fill)):Q2 P w K mg base "filled_net" Zaa 4 (Zi K<|R_filled P w C):=by
 refine H1.evD Mj (λf ts Φ h H dx cdv A outer s W=>?_);cases h with
 |@mk y j B N p=>
  refine#[_,(Qy (QR 2 Mj.nd<|Om z W)
 (Qy (Va zN rfl (by exact(DU rfl T.enumerate va1)) (UG (n:=2) rfl (VG (Zy 3 Mj.nd)<|VG (Zy 4 Mj.nd) Ue))<|by exact(Qz<|Z0<|Q7 x W<|av 2<|av 0<|av 3<|av 4 Qq))
 (Qy (Va zN rfl (by exact(VI rfl T.range<|Qs (Q7 D W y0) Qq)) (Zy 5 Mj.nd)<|by exact(Qz<|Z0<|Q7 u W<|av 2<|av 0<|av 5 Qq))
 (Qy (Z0<|YO r U.net W va2<|Qs (Y2 (v:=.ref _) rfl U.mSTART rfl)<|Qs (Y2 (v:=.ref _) rfl U.mEND rfl) Qq)
 (Qz<|QK va2))))),?_]
  walk_at"x";have G:=B.t8;refine QB (KI Op λv=>QB (VF (λi q=>∃(m:QE) (e Z:Option OT),NetR m ((List.range i).flatMap (Vr y<|QA j)) WD/\q=[zf<|Za y,zf<|.list<|j.map QQ,zo v<|Zr P w C m,e,Z,none]) (BB<|Qu Qp Q1) #[_,none,none,A3 _,rfl] ?st ?fin))
  case st=>
   rintro i d _ o ⟨m,e,Z,M,rfl⟩;apply At (Ma o);rintro a F rfl;have E:=by
    have:=(Xi.mp F).1;simpa using this
   obtain rfl:a=QQ j[i]:=by simpa [E] using F.symm
   refine#[_,WA (Vv Zg<|Vv Zg WT) rfl,?_];walk_at"d";refine Fs rfl (Jx (Qu Qp<|Qu Qp<|Qu Qp Q1) rfl) (λts c=>?_);subst c;exact#[_,R_lguest.mk B p E M,λY g=>#[Y,_,_,g,rfl]]
  case fin=>
   rintro _ ⟨N1,e,Z,X,rfl⟩;rw[BV,Xg]at X;refine QB (VF (ds:=ZM 0 y.T) (λi q=>∃(m:QE) (l:Option OT),NetR m ((List.range (QA j).m).flatMap (Vr y<|QA j)++(List.range i).flatMap (Yb y)) WD/\q=[zf<|Za y,zf<|.list<|j.map QQ,zo v<|Zr P w C m,e,Z,l]) ?ei2 #[N1,none,by rw[show(List.range 0).flatMap (Yb y)=[] from rfl,Xr];exact X,rfl] ?st2 ?fin2)
   case ei2=>exact EvI.cast (VS (Qu (QN (Qu Qp Q1) R_turns.mk) Q1) (by rw[z62];lia)<|by rw[z62];lia) (YI rfl #[])
   case st2=>
    rintro t d _ o ⟨m,l,M,rfl⟩;obtain⟨J,rfl⟩:=Yq o;rw[Ys];refine#[_,Zg,Fs rfl (Jx (Qu Qp<|Qu Qp Q1) rfl) (λts c=>?_)];subst c;exact#[_,R_lturn.mk B p J M,λY g=>#[Y,_,g,rfl]]
   case fin2=>
    rintro _ ⟨m,l,M,rfl⟩;rw[Wh]at M;have I:(Zu y<|QA j).length<400:=by
     unfold Zu;rw[Xs];have a:=DS B (QA j) (n:=(QA j).m) p;have b:=NA B G;lia
    refine QB (Uj Zsq rfl (Jx (Qu (Nt U.aS)<|Qu (T3 U.aS U.aE) Q1) rfl) λts c=>?_);subst c;exact#[_,R_fill.mk M (A7<|Ig B N) I,λY g=>aW g λk es L S R Q O=>Lk rfl #[v,Y,k,rfl,L,S,es,R,Q,O]]
def WJ(y:Yd)(G:Gv)(φ:Zp Nd):List (Ql):=(List.range G.m).map λk=>(List.range y.T).map λt=>Ze G φ t k
def ZqJ{y:Yd}(q:k<G.m)(m:t<y.T):B7 (Zu y G) φ (.guest k) (.line (G.ln k) t)=Ze G φ t k:=by
 unfold B7 Ze;by_cases c:G.th k t=true
 .rw[Xh c,Xh<|Xo.mpr #[_,Dn q m c,rfl]]
 .rw[Xe c,Xe λn=>?_];apply At (Xo.mp n);intro x f s;injection s with g w;rcases GF.mp f with ⟨j,_,f⟩|⟨h,_,f⟩
  .rcases Ww.mp f with rfl|⟨h,_,A,rfl⟩
   .cases g
   .lia
  .rcases J0.mp f with rfl|⟨i,_,rfl⟩<;>cases g
inductive R_takes(P:Program)(w:World)(C:Addr):List OT->OT->Prop
 |mk {N:QE}{y:Yd}{gs:List Gs}{φ:Zp Nd}{k:Nat}(ok:y.Ok)(h:NetR N (Zu y<|QA gs) φ)(hk:k<gs.length):R_takes P w C [.zow<|Vm P w C N,.fz<|Za y,.fz<|.int (k:Int),.fz<|QQ gs[k]] (.ol<|(List.range y.T).map λt=>PyData.int<|Ze (QA gs) φ t k)
def Cv:Qo Zaf Zaf (QD Rl):=by walk_at"p"
def OQ(T:Bl mg)(a:Tx K mg C gS gE)(H1:Df K mg "takes_by" Rl Zaf)(B:Q2 P w K mg base "turns_of" ZaD 1 (QC (K:=K) R_turns))(q:ZC P w K mg base C "flow" Zan 1 (Zi K<|R_flow P w C))(n:Q2 P w K mg base "line_node" ZaE 1 (QC (K:=K) R_lnode))(j:Q2 P w K mg base "line_of" Zax 1 (QC (K:=K) R_lineof))(m:Q2 P w K mg base "guest_node" ZaW 1 (QC (K:=K) R_gnode)):
 Q2 P w K mg base "takes_by" Zaf 2 (QC (K:=K)<|R_takes P w C):=by
 refine H1.ev Cv (λf ts r h H d Z A outer s g=>?_);cases h with
 |@mk N y i φ k W h M=>
  refine#[_,(Qz<|QK<|V3 Cv ["turn","net","number","guest"] [none,some 0,some 2,some 3] (VI rfl T.range<|Qs (Q7 B g va1) Qq) λ_=>(YO q a.net g vb1<|Qs (Q7 m g y2)<|Qs (Q7 n g<|Qs (Q7 j g v3) y0) Qq)),?_];have b:=W.t8;refine JR (Db (lo:=0) ?ei #[] ?el) rfl
  case ei=>exact EvI.cast (VS (Qu (QN (Qu Qp Q1) R_turns.mk) Q1) #[]<|#[]) (YI rfl #[])
  case el=>
   refine λt X c=>#[_,Zg,?_];rw[Ys];have Y:(QA i).ln k=i[k].line:=by show(i.getD k default).line=_;rw[UM M]
   have U:=ZqJ (G:=QA i) (φ:=φ) M X;rw[Y]at U;exact Qr.cast (EvO.e<|Zt.o<|Nq Zt6 rfl (Qu (QN (Qu Qp Q1) R_gnode.mk)<|Qu (QN (Qu (QN (Qu Qp Q1) R_lineof.mk)<|Qu Qp Q1) R_lnode.mk) Q1)<|R_flow.mk h) (by rw[U])
inductive R_great:List OT->(OT->Prop)->Prop
 |mk {y:Yd}{gs:List Gs}(ok:y.Ok)(hg:∀g∈gs,GOk y g)(g8:gs.length<=8):R_great [.fz<|Za y,.fz<|.list<|gs.map QQ] (λr=>∃φ,Wk y (QA gs) φ/\r=.oll ((WJ y (QA gs) φ).map λrow=>row.map PyData.int))
def Sr:Qo ["yard","guests","net"] Zaa (QD Sq):=by walk_at"p"
def OB(T:Bl mg)(z:Tx K mg C gS gE)(H1:Df K mg "greatest_filling" Sq Zaa)(M:Q2 P w K mg base "filled_net" Zaa 4 (Zi K<|R_filled P w C))(U:Q2 P w K mg base "takes_by" Zaf 2 (QC (K:=K)<|R_takes P w C)):Q2 P w K mg base "greatest_filling" Zaa 5 (Zi K R_great):=by
 refine H1.evD Sr (λf ts u h H x o A outer s X=>?_);cases h with
 |@mk y j W d l=>
  refine#[_,(Qy (QR 2 Sr.nd<|Q7 M X<|av 0 va1)
 (Qz<|QK<|V3 Sr ["number","guest","net","yard"] [none,none,some 2,some 0] (DU rfl T.enumerate va1) λ_=>(Q7 U X<|av 2<|av 3<|av 0 va1))),?_]
  show QJ K _ [_,_,_] _
  walk_at"x";refine QB (Wu (Y1 (Qu Qp<|Qu Qp Q1)<|R_filled.mk W d l) λr B=>?_);apply aA B;rintro v N n rfl e m;walk_at"d";refine Zs6 2 rfl ?_;walk_at"d";refine JR (r:=.oll ((WJ y (QA j) n).map λq=>q.map PyData.int)) (EvO.cast (Tg (xs:=j.zipIdx) (enc:=λp=>PyData.tuple [.int (p.2:Int),QQ p.1]) (h:=λp=>(List.range y.T).map λt=>PyData.int<|Ze (QA j) n t p.2) ?ei (by simp;lia) ?el) ?eq) #[n,m,rfl]
  case ei=>
   refine EvI.cast (BB<|Qu Qp Q1) ?_;unfold U3;rw[List.zipIdx_map,XA];rfl
  case eq=>
   congr 1
   unfold WJ;rw[XA];have:(QA j).m=j.length:=rfl;rw[this];apply List.ext_getElem?;intro i;by_cases Z:i<j.length
   .simp[Z,XA,Function.comp_def]
   .simp[Z]
  case el=>
   intro p b c;obtain⟨Y,a⟩:∃h:p.2<j.length,p.1=j[p.2]:=by
    have:=List.mem_zipIdx b;simp at this;exact#[this.1,this.2]
   obtain⟨g,k⟩:=p;simp only at Y a;subst a;refine#[_,WA (ds:=[.int (k:Int),QQ j[k]]) (Vv Zg<|Vv Zg WT) rfl,?_];walk_at"e";exact BC (G3 rfl (Qu Qp<|Qu Qp<|Qu Qp Q1)) (R_takes.mk W e Y)
def Zh6:Qo Zaa Zaa (QD Sk):=by walk_at"p"
def O0(T:Bl mg)(H1:Df K mg "best_filling" Sk Zaa)(g:Q2 P w K mg base "greatest_filling" Zaa 5 (Zi K R_great)):Q2 P w K mg base "best_filling" Zaa 6 (Zi K R_great):=by
 refine H1.evD Zh6 (λf ts n h H U m A outer s i=>?_);have j:=h;cases h with
 |@mk y C q B M=>
  exact#[_,(Qz<|QK<|Q7 g i<|av 0 va1),K5 (Y1 (Qu Qp<|Qu Qp Q1) j) (λr c=>c)]
noncomputable def Vl(y:Yd)(G:Gv)(S:Qm):Int:=Q5 (Zl S G.wa) G.m-Q5 (λt=>passes y (λl=>Z7 y l t) (Yx G S t) 0) y.T
noncomputable def Bn(y:Yd)(G:Gv)(φ:Zp Nd):Int:=Q5 (λk=>G.wa k-Q5 (λt=>Ze G φ t k) y.T) G.m
def ZpQ{y:Yd}(F:Flow y G φ)(g:y.Ok)(f:∀k,k<G.m->G.ln k<y.ls.length)(S:Qm):Vl y G S<=Bn y G φ:=by
 have h:∀k,k<G.m->0<=G.wa k-Q5 _ y.T:=λk c=>by
  rw[F.total c];have:=F.want c;lia
 have L:Q5 (Zl S λk=>G.wa k-Q5 _ y.T) G.m<=Bn y G φ:=Wt λk c=>Nk (h k c)
 have n:Q5 (Zl S λk=>G.wa k-Q5 (λt=>Ze G φ t k) y.T) G.m=Q5 (Zl S G.wa) G.m-Q5 (Zl S λk=>Q5 (λt=>Ze G φ t k) y.T) G.m:=by
  rw[<- No];refine Zs λk _=>?_;unfold Zl;split<;>lia
 have m:Q5 (λt=>Q5 (Zl S<|Ze G φ t) G.m) y.T=Q5 (Zl S λk=>Q5 (λt=>Ze G φ t k) y.T) G.m:=by
  rw[BU _ y.T G.m];refine Zs λk _=>?_;unfold Zl;cases S k with
  |true=>rfl
  |false=>simp only[ if_false];exact Vq _
 have j:=Wt λt i=>F.no_more g f S i;unfold Vl;lia
def MW{y:Yd}(hg:∀g∈gs,GOk y g):∀k,k<(QA gs).m->(QA gs).ln k<y.ls.length:=λk c=>by
 show(gs.getD k default).line<_
 rw[UM c];exact(hg _<|X6 _).ln
def Ym(c:List Gs)(S:Qm):Qk:=(List.range c.length).filter S
def Nr(f:gs.length<=8)(S:Qm):SetOk gs (Ym gs S):=
 #[λk c=>XY.mp (GX.mp c).1,Xq (M4 _ _)<|by simpa using f]
theorem DN(f:Qn):∀n,((List.range n).map f).sum=Q5 f n
 |0=>rfl
 |n+1=>by rw[YY,Xx,List.sum_append,DN f n];simp[Q5]
theorem C7(f:Qn)(p:Qm):∀n,(((List.range n).filter p).map f).sum=Q5 (Zl p f) n
 |0=>rfl
 |n+1=>by
  rw[YY,GZ,Xx,List.sum_append,C7 f p n];show _=Q5 _ n+Zl p f n;unfold Zl;cases e:p n with
  |true=>simp[ e]
  |false=>simp[ e]
def Oe(f:List Gs)(S:Qm)(t l:Nat):Yx (QA f) S t l=JT f t (Ym f S) l:=by
 show _=ZG f (t) l ((List.range f.length).filter S);rw[Zox];refine Zs λk g=>?_;unfold Zl moT wgt ind;rw[XT g];have j:(QA f).th k t=VW f[k] (t):=by show VW _ _=_;rw[UM g]
 have i:(QA f).mo k=f[k].most:=by show(f.getD k default).most=_;rw[UM g]
 have h:(QA f).ln k=f[k].line:=by show(f.getD k default).line=_;rw[UM g]
 rw[ h];cases S k with
 |false=>simp
 |true=>
  by_cases c:f[k].line=l
  .simp_all
  .simp[c]
noncomputable def Dx(f:List Gs)(c:Qk):Int:=(c.map λk=>(f.getD k default).want).sum
def Mb(y:Yd)(c:List Gs)(S:Qm):Vl y (QA c) S=Dx c (Ym c S)-GJ y c (Ym c S):=by
 unfold Vl;congr 1
 .exact(C7 _ S c.length).symm
 .unfold GJ;rw[DN];refine Zs λt _=>?_;unfold Ua;rw[show Yx _ S t=JT c t _ from funext λl=>Oe c S t l]
def Kj(y:Yd)(G:Gv)(φ:Zp Nd)(es:Got Nd):Prop:=Flow y G φ/\Nd.start∈Zc es/\Yz (Zu y G) φ es/\Nd.fin∉Zc es
inductive R_lset:List OT->(OT->Prop)->Prop
 |mk {y:Yd}{gs:List Gs}(ok:y.Ok)(hg:∀g∈gs,GOk y g)(g8:gs.length<=8):R_lset [.fz<|Za y,.fz<|.list<|gs.map QQ] (λr=>∃φ es,Kj y (QA gs) φ es/\r=.ol (ZA<|Ym gs<|VP es))
def Sw:Qo ["yard","guests","edges"] Zaa (QD Sv):=by walk_at"p"
def Zmp(T:Bl mg)(Y:Tx K mg C gS gE)(H1:Df K mg "guests_reached" Sv Zaa)(U:Q2 P w K mg base "filled_net" Zaa 4 (Zi K<|R_filled P w C))(W:ZC P w K mg base C "reached" ZaN 1 (Zi K<|R_reached P w C))(X:Q2 P w K mg base "guest_node" ZaW 1 (QC (K:=K) R_gnode)):
 Q2 P w K mg base "guests_reached" Zaa 5 (Zi K R_lset):=by
 refine H1.evD Sw (λf ts Φ h H Q J A outer s M=>?_);cases h with
 |@mk y g B t d=>
  refine#[_,(Qy (QR 2 Sw.nd<|YO W Y.net M (Q7 U M<|av 0 va1)<|Qs (Y2 (v:=.ref _) rfl Y.mSTART rfl) Qq)
 (Qz<|QK<|V3 Sw ["number","edges"] [none,some 2] (VI rfl T.range<|Qs (Zk ZH T.len ZD va1) Qq) (λ_=> g0) λ_=>(Uc<|UF<|Kw (Wn M) (Q7 X M y0) vb1))),?_]
  show QJ K _ [_,_,_] _
  walk_at"x";have o:(Zu y<|QA g).length<400:=by
   unfold Zu;rw[Xs];have a:=DS B (QA g) (n:=(QA g).m) d;have b:=NA B B.t8;lia
  refine QB (Wu (Φ:=λr=>∃v q es,r=.own v (VL<|kvG es)/\Kj y (QA g) q es) (ZrZ (P:=P) (w:=w) Cw (Y1 (Qu Qp<|Qu Qp Q1)<|R_filled.mk B t d) (λr m=>?_)<|Qu (Nt Y.aS) Q1) λr m=>?_)
  .apply aA m;rintro v N q rfl u⟨F,G,L,D,x⟩;refine#[v,N,rfl,_,R_reached.mk (s:=.start) u o,by rintro r ⟨l,es,e,Z,I⟩;exact#[l,q,es,e,F,Z.start,I,λz=>x<|Z.inClosed D L _ z]]
  .apply L1 m;rintro v q es rfl E;walk_at"d";refine Fx 2 rfl ?_;walk_at"d";refine JR (r:=.ol (ZA<|Ym g<|VP es)) (JY (xs:=List.range g.length) (enc:=λ(j:Nat)=>PyData.int (j:Int)) (h:=λ(j:Nat)=>PyData.int (j:Int)) (p:=VP es) ?ei (by simp;lia) ?el) #[q,es,E,rfl]
   case ei=>
    have e:(g.map QQ).length=g.length:=by simp
    refine EvI.cast (VS (Qu (VT Qp) Q1) (by rw[z62,e];lia)<|by rw[z62,e];lia) ?_;rw[e,XF];unfold ZM;refine W6 λi _=>?_;rw[Ys]
   case el=>
    refine λk O c=>#[_,Zg,?_,λ_=>?_]
    .walk_at"e";exact QM.cast (Z3<|AC (k:=nk (.guest k)) (QN (Qu Qp Q1) R_gnode.mk) rfl) (Bt _ _)
    .walk_at"e";exact Qp rfl
def Zi4:Qo Zaa Zaa (QD Sh):=by walk_at"p"
def Ik(T:Bl mg)(H1:Df K mg "lacking_set" Sh Zaa)(g:Q2 P w K mg base "guests_reached" Zaa 5 (Zi K R_lset)):Q2 P w K mg base "lacking_set" Zaa 6 (Zi K R_lset):=by
 refine H1.evD Zi4 (λf ts n h H U m A outer s i=>?_);have j:=h;cases h with
 |@mk y C q B M=>
  exact#[_,(Qz<|QK<|Q7 g i<|av 0 va1),K5 (Y1 (Qu Qp<|Qu Qp Q1) j) (λr c=>c)]
def G8(y:Yd)(f:List Gs)(c:Qk):Int:=Dx f c-GJ y f c
inductive R_short:List OT->OT->Prop
 |mk {y:Yd}{gs:List Gs}{sm:Qk}(ok:y.Ok)(hg:∀g∈gs,g.line<y.ls.length)(hs:SetOk gs sm):
  R_short [.fz<|Za y,.fz<|.list<|gs.map QQ,.fz<|.list<|ZA sm] (.fz<|.int<|G8 y gs sm)
def Cy:Qo Zah Zah (QD Re):=by walk_at"p"
def OW(T:Bl mg)(H1:Df K mg "short_of" Re Zah)(i:Q2 P w K mg base "want_of" Zax 1 (QC (K:=K) R_want))(m:Q2 P w K mg base "given_most" Zah 4 (QC (K:=K) R_givenm)):
 Q2 P w K mg base "short_of" Zah 5 (QC (K:=K) R_short):=by
 refine H1.ev Cy (λf ts r h H Z U A outer s n=>?_);cases h with
 |@mk y Y q B M g=>
  refine#[_,(Qz<|QK<|QX YD (Zk Kq T.sum Kh<|Qs (V3 Cy ["number","guests"] [none,some 1] (VV va2) λ_=>(Q7 i n<|Qs (QG QH vb1 g0) Qq)) Qq)<|Q7 m n<|av 0<|av 1 y2),?_];show QJ K _ [_,_,_] _
  walk_at"x";have W:=g.len;refine Zj (ZB (MP (EvO.fz ?_) rfl)<|QN (by walk_at"ea")<|R_givenm.mk B M g) rfl;rw[XA];refine Yy (xs:=q) (enc:=λ(j:Nat)=>PyData.int (j:Int)) ?_ #[] ?_
  .walk_at"ei"
  .intro x C c;have X:=g.mem x C;refine#[_,by walk_at"g",QN (Qu (Qr.cast (by walk_at"ev")<|by rw[XF]) Q1) R_want.mk]
def ZfO:Qo ZaK ZaK (QD GQ):=by walk_at"p"
def Zp0{f:Addr}(T:Bl mg)(F:Fun K "__init__" "NoRoom.__init__" GQ f fd)(m:Uw K YR CR f)(xs:S6 K CR)(g:W.takerIn K CR "some"=some none)(i:mg "YardError"=some (.ref YR)):FnOk P w K mg base CX0 1 f fd ZaK (BH K CR "some"):=by
 refine F.ok ZfO ?_ (λc H Q j h n A outer s q=>#[_,Qy (Z0<|LP m rfl i rfl Qa)<|Qz<|TQ xs g g0 (Vc KS T.list KB<|Qs vb1 Qq) rfl,Zs4 h]);rintro c H Q j ⟨e,p,xs,h,_⟩;rw[h];rfl
inductive R_refuse:List OT->(OT->Prop)->Prop
 |mk {y:Yd}{gs:List Gs}(ok:y.Ok)(hg:∀g∈gs,GOk y g)(g8:gs.length<=8)(h:∀S,Vl y (QA gs) S<=0):R_refuse [.fz<|Za y,.fz<|.list<|gs.map QQ] (λr=>r=.fz .none)
inductive X_refuse:List OT->(Qd->Prop)->Prop
 |mk {y:Yd}{gs:List Gs}(ok:y.Ok)(hg:∀g∈gs,GOk y g)(g8:gs.length<=8){S:Qm}(h:0<Vl y (QA gs) S):X_refuse [.fz<|Za y,.fz<|.list<|gs.map QQ] (λd=>∃S,0<Vl y (QA gs) S/\d=ZA (Ym gs S))
def Sl:Qo Zah Zaa (QD Sd):=by walk_at"p"
def Zrz(T:Bl mg)(k:XC K mg "NoRoom" YR CR fR)(H1:Df K mg "refuse_lack" Sd Zaa)(Y:Q2 P w K mg base "lacking_set" Zaa 6 (Zi K R_lset))(X:Q2 P w K mg base "short_of" Zah 5 (QC (K:=K) R_short))(W:Bm P w K mg base fR ZaK 1 (BH K CR "some")):
 Wl P w K mg base "refuse_lack" Zaa 7 (spX K CR "some" R_refuse X_refuse):=by
 refine H1.evZ Sl (λf H RR ts l j h d A outer s n=>?_) (λf F H RR ts l j o h d A outer s n=>?_)
 .cases h with
  |@mk y q i M U h=>
   refine#[_,(Qy (QR 2 Sl.nd<|Q7 Y n<|av 0 va1)
 (Qz<|QW (Zo YL (Q7 X n<|av 0<|av 1 y2) Qw) (Qz<|DO k W j n y2) QV)),?_]
   show QJ K _ [_,_,_] _
   walk_at"x";refine QB (Wu (Y1 (Qu Qp<|Qu Qp Q1)<|R_lset.mk i M U) λr m=>?_);apply L0 m;rintro B es c rfl;walk_at"d";refine We 2 rfl ?_;walk_at"d";have L:=h (VP es);rw[Mb]at L;exact Zb (b:=false) (QM.cast (Zn<|V8 (QN (Qu Qp<|Qu Qp<|Qu Qp Q1)<|R_short.mk i (λg h=>(M g h).ln)<|Nr U _) Q0)<|XJ<|by unfold G8;lia) nf (λ_=>Zf rfl)
 .cases h with
  |@mk y q i M U S h=>
   refine#[_,(Qy (QR 2 Sl.nd<|Q7 Y n<|av 0 va1)
 (Qz<|QW (Zo YL (Q7 X n<|av 0<|av 1 y2) Qw) (Qz<|DO k W j n y2) QV)),?_]
   show EvZ K F H _ [some _,some _,none]
   walk_at"x";have C:=M;refine Ey (λZ=>∃B es,Kj y (QA q) B es/\Z=[zf<|Za y,zf<|.list<|q.map QQ,some<|.ol<|ZA<|Ym q<|VP es]) (Wu (Y1 (Qu Qp<|Qu Qp Q1)<|R_lset.mk i M U) λr m=>?_) ?_
   .apply L0 m;rintro B es c rfl;exact#[B,es,c,rfl]
   .rintro _ ⟨B,es,c,rfl⟩;refine Pu 2 rfl ?_;walk_at"d";have L:0<Vl y (QA q) (VP es):=by
     have a:=ZpQ c.1 i (MW M) S;have e:=c.1.lack i (MW M) c.2.2.1 c.2.1 c.2.2.2;have e:Bn y (QA q) B=Vl y (QA q) (VP es):=e;lia
    have p:=L;rw[Mb]at p;exact U4 (b:=true) (QM.cast (Zn<|V8 (QN (Qu Qp<|Qu Qp<|Qu Qp Q1)<|R_short.mk i (λg h=>(M g h).ln)<|Nr U _) Q0)<|XN<|by unfold G8;lia) (λ_=>Zsp Qp #[VP es,L,rfl] o) nt
inductive R_feed:List OT->(OT->Prop)->Prop
 |mk {n:Int}:R_feed [.fz<|.int n] (λr=>∃a b:Int,r=.ol [.int a,.int b])
def Uq:Qo ["_law_cell","_law_big","_law_one","_law_other","_law_k"] ["_law_cell"] (QD RE):=by walk_at"p"
def Iq(T:Bl mg)(H1:Df K mg "_law_feed" RE ["_law_cell"]):Q2 P w K mg base "_law_feed" ["_law_cell"] 1 (Zi K R_feed):=by
 refine H1.evD Uq (λf ts r h H E p A outer s v=>?_);cases h with
 |@mk n=>
  refine#[_,(Qy (QR 1 Uq.nd Qw)
 (Qy (QR 2 Uq.nd<|QX Yp (QX JX (QX DG g0 Qw) Qw) Qw)
 (Qy (QR 3 Uq.nd<|QX Yp (QX JX (QX DG g0 Qw) Qw) Qw)
 (Qy (Va zN rfl (by exact(VI rfl T.range<|Qs Qw Qq)) (Zy 4 Uq.nd) (by exact(Qy (QR 2 Uq.nd<|QX JX (QX Yp (QX Yp (QX G1 va2 va2)<|QX G1 Qw y3) g4) Qw)
 (Qy (QR 3 Uq.nd<|QX JX (QX Yp (QX Yp (QX G1 y3 y3)<|QX G1 Qw va2) Qw) Qw)
 (Qz<|QR 1 Uq.nd<|QX Yp (QX G1 vb1 Qw) y3)))))
 (Qy (QW (Zo ZJ (QX JX g0 Qw) Qw) (Qz<|QK<|Zz<|Qs (QX DG g0 Qw) va1) QV)
 (Qz<|QK<|Zz<|av 1<|Qs Qw Qq)))))),?_]
  show QJ K _ [_,_,_,_,_] _;refine QB (Z6 Q0 ?_);have B:∀{i:Int},Gq i 2:=HA (by decide) (by decide);refine QB (Z6 (ZB (Vo (Vo Qp Q0 B) Q0<|by decide) Q0) (QB (Z6 (ZB (Vo (Vo Qp Q0 (HA (by decide) (by decide))) Q0<|by decide) Q0) ?_)));have M:0<=n/2%2147483647+11/\n/2%2147483647+11<4294967296:=#[]
  have C:0<=n/3%2147483629+7/\n/3%2147483629+7<4294967296:=#[]
  generalize n/2%2147483647+11=x at M;generalize n/3%2147483629+7=y at C;refine QB (VF (ds:=ZM 0 40) (λ_ j=>∃(a b c:Int) (u:Option OT),(0<=a/\a<4294967296)/\(0<=b/\b<4294967296)/\j=[zi n,zi c,zi a,zi b,u]) ?ei #[x,y,0,none,M,C,rfl] ?st ?fin)
  case ei=>exact EvI.cast (VS (Qu Q0 Q1) (by decide)<|by decide) (YI rfl (by decide))
  case st=>
   rintro i d _ e ⟨a,b,c,u,l,k,rfl⟩;obtain⟨D,rfl⟩:=Yq e;refine#[_,Zg,?_];walk_at"d";refine QB (Z6 (Vo (ZB (ZB (Vo Qp Qp (.inl #[#[],#[]]))<|Vo Q0 Qp (.inl #[by decide,by decide])) Qp) Q0<|by decide) ?_);have q:0<=(a*a+48271*b+(0+(i)))%2147483647/\(a*a+48271*b+(0+(i)))%2147483647<4294967296:=#[Int.emod_nonneg _<|by decide,GV (Int.emod_lt_of_pos _<|by decide)<|by decide];generalize (a*a+48271*b+(0+(i)))%2147483647=g at q;refine QB (Z6 (Vo (ZB (ZB (Vo Qp Qp (.inl #[#[],#[]]))<|Vo Q0 Qp (.inl #[by decide,by decide])) Q0) Q0<|by decide) ?_);have m:0<=(b*b+69621*g+1)%2147483629/\(b*b+69621*g+1)%2147483629<4294967296:=#[Int.emod_nonneg _<|by decide,GV (Int.emod_lt_of_pos _<|by decide)<|by decide];generalize (b*b+69621*g+1)%2147483629=t at m;exact Z6 (ZB (Vo Qp Q0 (.inr #[by decide,by decide])) Qp)<|#[g,t,_,_,q,m,rfl]
  case fin=>
   rintro _ ⟨a,b,c,u,l,k,rfl⟩;refine QB (Zb (QM.cast (Zn<|WS (Vo Qp Q0<|by decide) Q0) rfl) (λ_=>?_) λ_=>Zf ?_)
   .exact JR (Vh (QZ (Vo Qp Q0 B)<|QZ Qp Z5)<|by show(2)<=1000;decide) #[_,_,rfl]
   .exact JR (Vh (QZ Qp<|QZ Q0 Z5)<|by show(2)<=1000;decide) #[_,_,rfl]
inductive R_digit:Qd->List OT->(OT->Qd->Prop)->Prop
 |mk {a b m:Int}(h0:0<m)(L:m<=10^60):R_digit [.int a,.int b] [.fz<|.int m] (λr ds'=>∃n a' b':Int,0<=n/\n<m/\r=.fz (.int n)/\ds'=[.int a',.int b'])
def Ae:Qo ["_law_feed_here","_law_many","_law_digit_here"] Zas (QD RV):=by walk_at"p"
def OX(T:Bl mg)(H1:Df K mg "_law_digit" RV Zas):Q2 P w K mg base "_law_digit" Zas 1 (spP K olP R_digit):=by
 refine H1.evP Ae (λf v M ts q h H C n A outer s B=>?_);cases h with
 |@mk a b m g L=>
  refine#[_,(Qy (QW (Zo ZJ (QG QH g0 Qw) Qw) (Qy (JW (QG QH g0 Qw)<|G5 g0 Qw Wv)
 (Qz<|JW Qw<|G5 g0 Qw Wv)) QV)
 (Qy (QR 2 Ae.nd<|QX JX (QG QH g0 Qw) vb1)
 (Qy (JW (QX DG (QG QH g0 Qw) vb1)<|G5 g0 Qw Wv)
 (Qz<|QK va2)))),?_]
  try dsimp only[ZV]
  have c:∀{Z:ZbI} {x y:Int},Z[0]?=some (zo v<|olP [.int x,.int y])->Qr K (tOp (rIx K) (Q8 0)<|tC<|.int 0) Z _/\Qr K (tOp (rIx K) _<|tC<|.int 1) Z _:=λ{Z x y} e=>by
   have j:=(Xi.mp e).1;exact#[Fe 0 e rfl (Z2 (Qp<|XI j) Q0 rfl),Fe 0 e rfl (Z2 (Qp<|XI j) Q0 rfl)]
  refine VR (λi=>∃x y:Int,i=[zo v<|olP [.int x,.int y],some _,none]) (Zb (QM.cast (Zn<|WS (c rfl).1 Q0) rfl) (λ_=>?_) λ_=>Zf #[a,b,rfl]) ?_
  .exact QB (NS rfl (c rfl).2 Q0 rfl (NS rfl Q0 Q0 rfl (#[b,0,rfl])))
  .rintro _ ⟨x,y,rfl⟩;exact YT (Z6 (Vo (c rfl).1 Qp g) rfl)<|YT (NS rfl (Vo (c rfl).1 Qp (cdl g L)) Q0 rfl rfl)<|UB Qp #[_,#[x%m,x/m,y,Int.emod_nonneg _<|Int.ne_of_gt g,Int.emod_lt_of_pos _ g,rfl,rfl],rfl]
def Dg(K:W.Frag)(t:TE)(Z:ZbI)(v:V)(m:Int):Prop:=EvW K t Z 0 λn o=>0<=n/\n<m/\∃a b:Int,o=.own v (olP [.int a,.int b])
def YG{b m:Int}(e:zg Z 0<|zo v<|olP [.int a,.int b])(h:Qr K t Z (.int m))(h0:0<m)(L:m<=10^60):Dg K (ZO (spP K olP R_digit) [] dx<|Q4 (Q8 0)<|Q4 t QL) Z v m:=
 Oy e (Qu h Q1) (R_digit.mk h0 L) (by
  rintro r j ⟨n,i,g,f,c,rfl,rfl⟩;exact#[n,rfl,f,c,i,g,rfl])
def HD(k T:Nat)(l:Ln):Prop:=(l.up=none↔k=0)/\(∀a,l.up=some a->a<k)/\l.bs.length=T/\∀b∈l.bs,0<=b/\b<10^30
theorem AQ{ls:List Ln}(t1:1<=T)(t8:T<=8)(l1:1<=ls.length)(l5:ls.length<=5)(h:∀k (c:k<ls.length),HD k T ls[k]):(#[T,ls]:Yd).Ok where
 t1:=t1
 t8:=t8
 l1:=l1
 l5:=l5
 up0:=by
  simp[Zq,show 0<ls.length by lia,(h 0<|#[]).1.mpr rfl]
 ups:=λk k0 c=>by
  apply KE (h k c);intro j i _;cases e:ls[k].up with
  |none=>have:=j.mp e;lia
  |some a=>exact#[a,by simp[Zq,c,e],i a e]
 bl:=λl f=>by
  obtain⟨k,c,rfl⟩:=US.mp f;exact(h k c).2.2.1
 bb:=λl f b g=>by
  obtain⟨k,c,rfl⟩:=US.mp f;have:=(h k c).2.2.2 b g;exact#[this.1,KO this.2]
def SL(y:Yd):Prop := ∀l∈y.ls,∀b∈l.bs,0<=b/\b<10^30
inductive R_dyard:Qd->List OT->(OT->Qd->Prop)->Prop
 |mk {a b:Int}:R_dyard [.int a,.int b] [] (λr ds'=>∃y:Yd,y.Ok/\SL y/\r=.fz (Za y))
def Av{b:Int}{c:Bool}(h0:0<=b)(L:b<10^30):0<=b*(if c then 1 else 0)/\b*(if c then 1 else 0)<10^30:=by
 cases c
 .simp
 .simp_all
def p60{m:Int}(h:m<=10^30):m<=10^60:=Int.le_trans h (by decide +kernel)
def Jb:Qo ["_law_feed_here","_law_turns","_law_scale","_law_lines","_law_k","_law_above","_law_bounds","_law_turn","_law_bound"] ZaT (QD R8):=by walk_at"p"
def Zsl(T:Bl mg)(H1:Df K mg "_law_yard" R8 ZaT)(C:Q2 P w K mg base "_law_digit" Zas 1 (spP K olP R_digit)):Q2 P w K mg base "_law_yard" ZaT 2 (spP K olP R_dyard):=by
 refine H1.evP Jb (λf v M ts Ψ h H dx cdv A outer s p=>?_);cases h with
 |@mk a b=>
  refine#[_,(Qy (QR 1 Jb.nd<|QX Yp Qw<|Q7 C p<|av 0<|Qs Qw Qq)
 (Qy (QR 2 Jb.nd<|QG QH (Zz<|Qs Qw<|Qs Qw<|Qs Qw<|Qs (QX Kt Qw Qw) Qq)<|Q7 C p<|av 0<|Qs Qw Qq)
 (Qy (QR 3 Jb.nd<|Zz Qq)
 (Qy (Va zN rfl (by exact(VI rfl T.range<|Qs (QX Yp Qw<|Q7 C p<|av 0<|Qs Qw Qq) Qq)) (Zy 4 Jb.nd) (by exact(Qy (QR 5 Jb.nd U8)
 (Qy (QW (Zo YL g4 Qw) (Qz<|QR 5 Jb.nd<|Q7 C p<|av 0<|av 4 Qq) QV)
 (Qy (QR 6 Jb.nd<|Zz Qq)
 (Qy (Va zN rfl (by exact(VI rfl T.range va1)) (Zy 7 Jb.nd) (by exact(Qy (QR 8 Jb.nd<|Q7 C p<|av 0 y2)
 (Qz<|Z0<|ZK zP zS zT VJ (pv 6)<|Qs (QX G1 (pv 8)<|Vc Ec T.int B3<|Qs (YQ YL (Q7 C p<|av 0<|Qs Qw Qq) Qw) Qq) Qq))))
 (Qz<|Z0<|ZK zP zS zT VJ y3<|Qs (YN<|av 5<|Qs (Vc DC T.tuple GE<|av 6 Qq) Qq) Qq)))))))
 (Qz<|QK<|YN<|av 1<|Qs (Vc DC T.tuple GE v3) Qq))))),?_]
  walk_at"x";have r:(0:Int)<10^(30:Int).toNat/\(10:Int)^(30:Int).toNat<=10^30:=by decide +kernel
  refine VR (λg=>∃(T:Nat) (a b:Int),1<=T/\T<=8/\g=[zo v<|olP [.int a,.int b],zf<|.int<|T,none,none,none,none,none,none,none]) (LY (YG rfl Q0 (by decide)<|by decide +kernel) ?_) ?_
  .rintro n _ ⟨N,L,a,b,rfl⟩;refine Z6 (ZB Q0 Q0) #[(1+n).toNat,a,b,#[],#[],?_];rw[W5<|#[]];rfl
  rintro _ ⟨T,a,b,R,Q,rfl⟩;refine VR (λg=>∃X a b:Int,0<X/\X<=10^30/\g=[zo v<|olP [.int a,.int b],zf<|.int<|T,zi X,none,none,none,none,none,none]) (FM (EvO.fz<|Vh (QZ Q0<|QZ Q0<|QZ Q0<|QZ (Vo Q0 Q0<|MF (by decide)<|by decide) Z5)<|by decide) (YG rfl Q0 (by decide)<|by decide +kernel) ?_) ?_
  .rintro n _ ⟨N,L,a,b,rfl⟩;obtain rfl|rfl|rfl|rfl:n=0\/n=1\/n=2\/n=3:=#[]
   .exact#[_,rfl,5,a,b,by decide,#[],rfl]
   .exact#[_,rfl,9,a,b,by decide,#[],rfl]
   .exact#[_,rfl,16,a,b,by decide,#[],rfl]
   .exact#[_,rfl,_,a,b,r.1,r.2,rfl]
  rintro _ ⟨X,a,b,s0,J,rfl⟩;refine YT (Vi (Vh Z5<|by decide) rfl)<|VR (λg=>∃(q:List Ln) (a b:Int) (Z Y W B y:Option OT),(1<=q.length/\q.length<=5)/\(∀k (o),HD k T q[k])/\g=[zo v<|olP [.int a,.int b],zf<|.int<|T,zi X,some<|.ol<|q.map V4,Z,Y,W,B,y]) (ET (YG rfl Q0 (by decide)<|by decide +kernel) ?_) ?_
  .rintro n _ ⟨N,L,a,b,rfl⟩;walk_at"d";refine VF (ds:=ZM 0 (1+n).toNat) (λi g=>∃(q:List Ln) (a b:Int) (Z Y W B y:Option OT),q.length=i/\(∀k (o),HD k T q[k])/\g=[zo v<|olP [.int a,.int b],zf<|.int<|T,zi X,some<|.ol<|q.map V4,Z,Y,W,B,y]) ?ei #[[],a,b,_,_,_,_,_,rfl,(λk o=>Xt o<|Nat.not_lt_zero k),rfl] ?st ?fin
   case ei=>exact VS (Qu (ZB Q0 Q0) Q1) (by rw[z62];lia) (by rw[z62];lia)
   case fin=>
    rintro _ ⟨q,a,b,Z,Y,W,B,y,e,h,rfl⟩;rw[Wh]at e;exact#[q,a,b,Z,Y,W,B,y,#[],h,rfl]
   case st=>
    rintro i d _ E ⟨q,a,b,Z,Y,W,B,y,e,h,rfl⟩;obtain⟨hi,rfl⟩:=Yq E;refine#[_,Zg,?_];rw[Ys];refine QB (Z6 Wq ?_);walk_at"d";refine QB (Pm (λg=>∃(ab:Option Nat) (a b:Int),(ab=none↔i=0)/\(∀x,ab=some x->x<i)/\g=[zo v<|olP [.int a,.int b],zf<|.int<|T,zi X,some<|.ol<|q.map V4,zf<|.int<|i,zf<|upD ab,W,B,y]) (Zb (QM.cast (Zn<|V8 Qp Q0) rfl) (λc=>?_) λc=>Zf #[none,a,b,#[λ_=>by have:=GY c;lia,λ_=>rfl],(by rintro x ⟨⟩),rfl]) ?_)
    .refine D6 (YG rfl Qp #[]<|Int.le_trans (show(i:Int)<=5 by lia)<|by decide +kernel) ?_;rintro m _ ⟨D,O,a,b,rfl⟩;refine#[some m.toNat,a,b,#[λz=>(nomatch z),λz=>Xt z<|#[]],(λx z=>#[]),?_];show _=([_,_,_,_,_,some<|OT.fz<|.int<|(m.toNat),_,_,_]);rw[W5 D];rfl
    rintro _ ⟨ab,a,b,I,G,rfl⟩;refine QB (Vi (Vh Z5<|by decide) (QB (VF (ds:=ZM 0 T) (λj g=>∃(U:Ql) (a b:Int) (B y:Option OT),U.length=j/\(∀x∈U,0<=x/\x<10^30)/\g=[zo v<|olP [.int a,.int b],zf<|.int<|T,zi X,some<|.ol<|q.map V4,zf<|.int<|i,zf<|upD ab,some<|.ol<|U.map PyData.int,B,y]) ?ei2 #[[],a,b,_,_,rfl,(by rintro x ⟨⟩),rfl] ?st2 ?fin2)))
    case ei2=>exact EvI.cast (VS (Qu Qp Q1) (by rw[z62];lia)<|by rw[z62];lia) (YI rfl #[])
    case st2=>
     rintro j d _ E ⟨U,a,b,B,y,u,F,rfl⟩;obtain⟨hj,rfl⟩:=Yq E;refine#[_,Zg,?_];walk_at"d";refine QB (D6 (YG rfl Qp s0<|p60 J) ?_);rintro m _ ⟨D,O,a,b,rfl⟩;walk_at"d";refine EU rfl rfl (YG rfl Q0 (by decide)<|by decide +kernel) ?_;rintro z _ ⟨z0,z1,a,b,rfl⟩;have S:=Av (c:=decide (z > 0)) D (Int.lt_of_lt_of_le O J);refine Wx rfl (Vo Qp (PB<|V8 Q0 Q0)<|.inr #[by split<;>decide,by split<;>decide]) (by rw[Xg];lia) #[U++[m*(if decide (z > 0) then 1 else 0)],a,b,zf<|.int<|0+(j),zi m,by rw[Xs,u];rfl,λx t=>?_,?_]
     .rcases Xz.mp t with t|t
      .exact F x t
      .rw[Xj.mp t];exact S
     .rw[Xx];rfl
    case fin2=>
     rintro _ ⟨U,a,b,B,y,u,F,rfl⟩;rw[Wh]at u;refine Wx rfl (YM (QZ Qp<|QZ (Dd rfl) Z5)<|by show(2)<=1000;decide) (by rw[Xg];lia) #[q++[#[ab,U]],a,b,zf<|.int<|i,zf<|upD ab,some<|.ol<|U.map PyData.int,B,y,by rw[Xs,e];rfl,λk o=>?_,?_]
     .by_cases z:k<q.length
      .rw[List.getElem_append_left z];exact h k z
      .have:k=q.length:=by rw[Xs]at o;have:[(#[ab,U]:Ln)].length=1:=rfl;lia
       subst this;rw[List.getElem_append_right<|Xm _];simp only[Nat.sub_self,List.getElem_cons_zero];exact e▸#[I,G,u,F]
     .rw[Xx];rfl
  rintro _ ⟨q,a,b,Z,Y,W,B,y,⟨l1,l5⟩,h,rfl⟩;refine UB (YM (QZ Qp<|QZ (Dd rfl) Z5)<|by show(2)<=1000;decide) #[_,#[#[T,q],AQ R Q l1 l5 h,λl hl=>?_,rfl],rfl];obtain⟨k,o,rfl⟩:=US.mp hl;exact(h k o).2.2.2
theorem Ks:∀{bs:Ql},bs≠[]->∃M∈bs,∀a∈bs,a<=M
 |[],h=>Xt rfl h
 |[x],_=>⟨x,Xb,λa c=>by rw[Xj.mp c];exact Uv _⟩
 |x::y::bs,_=>by
  obtain⟨M,g,f⟩:=Ks (List.cons_ne_nil _ _)
  by_cases h:x<=M
  .refine#[M,Xf _ g,λa c=>?_];rcases Xd.mp c with rfl|c
   .exact h
   .exact f a c
  .refine#[x,Xb,λa c=>?_];rcases Xd.mp c with rfl|c
   .exact Uv _
   .have:=f a c;lia
noncomputable def mxB(bs:Ql):Int:=open Classical in if h:bs≠[] then Classical.choose (Ks h) else 0
def T6(h:bs≠[]):mxB bs∈bs/\∀a∈bs,a<=mxB bs:=by
 unfold mxB;rw[dif_pos h];exact Classical.choose_spec (Ks h)
structure G30(y:Yd)(g:Gs):Prop where
 ok:g.Ok y
 w:g.want<10^30
 m:g.most<10^30
inductive R_dguest:Qd->List OT->(OT->Qd->Prop)->Prop
 |mk {a b:Int}{y:Yd}{nw:Nat}(ok:y.Ok):R_dguest [.int a,.int b] [.fz<|Za y,.fz<|.int (nw:Int)] (λr ds'=>∃g:Gs,G30 y g/\r=.fz (QQ g))
def MC(h:n<=8):(n:Int)<=10^60:=Int.le_trans (show(n:Int)<=8 by lia) (by decide +kernel)
def J8:Qo ["_law_feed_here","_law_yard_here","_law_now","_law_first","_law_last","_law_line","_law_scale","_law_want"] Zam (QD RL):=by walk_at"p"
def Zq2(T:Bl mg)(H1:Df K mg "_law_guest" RL Zam)(j:Q2 P w K mg base "_law_digit" Zas 1 (spP K olP R_digit)):Q2 P w K mg base "_law_guest" Zam 2 (spP K olP R_dguest):=by
 refine H1.evP J8 (λf v M ts Q h H dx O A outer s U=>?_);cases h with
 |@mk a b y m k=>
  refine#[_,(Qy (QR 3 J8.nd<|Q7 j U<|av 0<|Qs (QG QH vb1 Qw) Qq)
 (Qy (QW (PW.pt<|De (DB Jt Jt y3 va2<|QG QH vb1 Qw)<|Dp<|Zo YL (Q7 j U<|av 0<|Qs Qw Qq) Qw) (Qz<|QR 3 J8.nd<|QX Yp va2<|Q7 j U<|av 0<|Qs (QX YD (QG QH vb1 Qw) va2) Qq) QV)
 (Qy (QR 4 J8.nd<|QX Yp y3<|Q7 j U<|av 0<|Qs (QX YD (QG QH vb1 Qw) y3) Qq)
 (Qy (QR 5 J8.nd<|Q7 j U<|av 0<|Qs (Zk ZH T.len ZD<|Qs (QG QH vb1 Qw) Qq) Qq)
 (Qy (QR 6 J8.nd<|QG QH (Zz<|Qs Qw<|Qs Qw<|Qs Qw<|Qs (QX YD (QX Kt Qw Qw) Qw) Qq)<|Q7 j U<|av 0<|Qs Qw Qq)
 (Qy (QW (Zo Jt (Zk IG T.max Kg<|Qs (V3 J8 ["_law_above","_law_bounds"] [none,none] (B9<|QG QH vb1 Qw) λ_=>(Zk O3 T.max Kg va1)) Qq) Qw) (Qz<|QR 6 J8.nd<|Zk (MZ rfl) T.min Bx<|av 6<|Qs Qw Qq) QV)
 (Qy (QR 7 J8.nd<|QX Yp Qw<|Q7 j U<|av 0<|av 6 Qq)
 (Qz<|QK<|YN<|av 5<|av 3<|av 4<|av 7<|Qs (QX Yp Qw<|Q7 j U<|av 0<|av 6 Qq) Qq)))))))),?_]
  walk_at"x";have R:=k.t1;have l1:=k.l1;have S:=k.l5;have d:(0:Int)<10^(30:Int).toNat-1/\(10:Int)^(30:Int).toNat-1<10^30:=by decide +kernel
  have r:∀{Z:ZbI},Z[1]?=some (zf<|Za y)->Qr K (tOp (rIx K) (Q8 1)<|tC<|.int 0) Z (.int (y.T:Int)):=λe=>Vt (Qp e) Q0 rfl;refine VR (λg=>∃(i:Nat) (a b:Int),i<y.T/\g=[zo v<|olP [.int a,.int b],zf<|Za y,zi (m:Int),zi (i:Int),none,none,none,none]) (D6 (YG rfl (r rfl) #[]<|MC k.t8) ?_) ?_
  .rintro n _ ⟨B,W,a,b,rfl⟩;refine#[n.toNat,a,b,#[],?_];rw[W5 B];rfl
  rintro _ ⟨i,a,b,hfs,rfl⟩;refine VR (λg=>∃(i:Nat) (a b:Int),i<y.T/\g=[zo v<|olP [.int a,.int b],zf<|Za y,zi (m:Int),zi (i:Int),none,none,none,none]) ?_ ?_
  .by_cases c:i<m/\m<y.T
   .refine Ed (QM.cast (Zn<|Uk Qp Qp<|r rfl) ?_) (YG rfl Q0 (by decide)<|by decide +kernel) ?_
    .rw[XN (show(i:Int)<m by lia),XN (show(m:Int)<y.T by lia)];rfl
    rintro n _ ⟨B,W,a,b,rfl⟩;refine Zb (Zn<|V8 Q0 Q0) (λ_=>Fl rfl (YG rfl (ZB (r rfl) Qp) #[]<|Int.le_trans (show(y.T:Int)-(m:Int)<=(y.T:Int) by lia)<|MC k.t8) ?_) (λ_=>Zf #[i,a,b,hfs,rfl]);rintro n _ ⟨B,W,a,b,rfl⟩;refine Z6 (ZB Qp Q0) #[((m:Int)+n).toNat,a,b,#[],?_];rw[W5<|#[]];rfl
   .refine Zb (Br (c:=false) (QM.cast (Zn<|Uk Qp Qp<|r rfl) ?_) nf) nf (λ_=>Zf #[i,a,b,hfs,rfl]);rw[<- Bool.decide_and];exact XJ #[]
  rintro _ ⟨i,a,b,hfs,rfl⟩;refine VR (λg=>∃(C:Nat) (a b:Int),i<=C/\C<y.T/\g=[zo v<|olP [.int a,.int b],zf<|Za y,zi (m:Int),zi (i:Int),zi (C:Int),none,none,none]) (Fl rfl (YG rfl (ZB (r rfl) Qp) #[]<|Int.le_trans (show(y.T:Int)-(i)<=(y.T) by lia)<|MC k.t8) ?_) ?_
  .rintro n _ ⟨B,W,a,b,rfl⟩;refine Z6 (ZB Qp Q0) #[((i)+n).toNat,a,b,#[],#[],?_];rw[W5<|#[]];rfl
  rintro _ ⟨C,a,b,p,o,rfl⟩;refine VR (λg=>∃(X:Nat) (a b:Int),X<y.ls.length/\g=[zo v<|olP [.int a,.int b],zf<|Za y,zf<|.int<|m,zf<|.int<|i,zf<|.int<|C,zf<|.int<|X,none,none]) (D6 (YG rfl (Qr.cast (BA<|(λe=>Vt (Qp e) Q0 rfl) rfl) (show _=PyData.int (y.ls.length) by rw[Xg])) #[]<|MC<|#[]) ?_) ?_
  .rintro n _ ⟨B,W,a,b,rfl⟩;refine#[n.toNat,a,b,#[],?_];rw[W5 B];rfl
  rintro _ ⟨X,a,b,F,rfl⟩;refine VR (λg=>∃q a b:Int,0<q/\q<10^30/\g=[zo v<|olP [.int a,.int b],zf<|Za y,zf<|.int<|m,zf<|.int<|i,zf<|.int<|C,zf<|.int<|X,zi q,none]) (FM (EvO.fz<|Vh (QZ Q0<|QZ Q0<|QZ Q0<|QZ (ZB (Vo Q0 Q0<|MF (by decide)<|by decide) Q0) Z5)<|by decide) (YG rfl Q0 (by decide)<|by decide +kernel) ?_) ?_
  .rintro n _ ⟨B,W,a,b,rfl⟩;obtain rfl|rfl|rfl|rfl:n=0\/n=1\/n=2\/n=3:=#[]
   .exact#[_,rfl,4,a,b,by decide,#[],rfl]
   .exact#[_,rfl,9,a,b,by decide,#[],rfl]
   .exact#[_,rfl,20,a,b,by decide,#[],rfl]
   .exact#[_,rfl,_,a,b,d.1,d.2,rfl]
  rintro _ ⟨q,a,b,s0,t,rfl⟩;have N:∀l∈y.ls,l.bs≠[]:=λl G z=>by
   have:=k.bl l G;rw[z]at this;have:(0)=y.T:=this;lia
  have x:(y.ls.map λl=>mxB l.bs)≠[]:=λz=>by
   have:=XS List.length z;rw[Xg]at this;have:y.ls.length=0:=this;lia
  obtain⟨E,D⟩:=T6 x;refine VR (λg=>∃q:Int,0<q/\q<10^30/\g=[zo v<|olP [.int a,.int b],zf<|Za y,zf<|.int<|m,zf<|.int<|i,zf<|.int<|C,zf<|.int<|X,zi q,none]) (Zb (QM.cast (Zn<|V8 (IR (Qr.cast (EvO.fz<|Yy (xs:=y.ls) (enc:=V4) (h:=λl=>.int<|mxB l.bs) ?ei #[] ?el)<|by rw[XA];rfl) rfl E D) Q0) rfl) (λ_=>?_) λ_=>Zf #[q,s0,t,rfl]) ?_
  case ei=>exact Gy ((λe=>Vt (Qp e) Q0 rfl) rfl)
  case el=>
   intro l G c;obtain⟨k1,k2⟩:=T6 (N l G);exact#[_,WA (Vv Zg<|Vv Zg WT) rfl,EZ Qp rfl k1 k2]
  .refine Z6 (Kk Qp Q0) #[min q 20,#[],#[],rfl]
  rintro _ ⟨q,s0,t,rfl⟩;refine VR (λg=>∃Y a b:Int,1<=Y/\Y<10^30/\g=[zo v<|olP [.int a,.int b],zf<|Za y,zf<|.int<|m,zf<|.int<|i,zf<|.int<|C,zf<|.int<|X,zi q,zi Y]) (LY (YG rfl Qp s0<|p60<|Int.le_of_lt t) ?_) ?_
  .rintro n _ ⟨B,W,a,b,rfl⟩;refine Z6 (ZB Q0 Q0) #[1+n,a,b,#[],#[],rfl]
  rintro _ ⟨Y,a,b,L,I,rfl⟩;refine O4 rfl rfl rfl rfl (YG rfl Qp s0<|p60<|Int.le_of_lt t) ?_;rintro n _ ⟨B,W,a,b,rfl⟩;refine UB (YM (QZ Qp<|QZ Qp<|QZ Qp<|QZ Qp<|QZ (ZB Q0 Q0) Z5)<|by show(5)<=1000;decide) #[_,#[#[X,i,C,Y,1+n],#[#[F,p,o,L,KO I,by show 1<=1+n;lia,KO<|by show 1+n<_;lia],I,by show 1+n<_;lia],rfl],rfl]
inductive R_iswhole:List OT->OT->Prop
 |mk {i:Int}:R_iswhole [.fz<|.int i] (.fz<|.bool true)
def Zmc:Qo ZaU ZaU (QD Rr):=by walk_at"p"
def ZoO(T:Bl mg)(H1:Df K mg "is_whole" Rr ZaU):Q2 P w K mg base "is_whole" ZaU 1 (QC (K:=K) R_iswhole):=by
 refine H1.ev Zmc (λf ts r h H j c A outer s g=>?_);cases h with
 |@mk i=>
  exact#[_,(Qz<|QK<|Yo (Zk Da T.isi JV<|av 0<|Qs (UL (v:=.ty "int") rfl T.int B3 rfl) Qq)<|YE<|Tp<|Zk Da T.isi JV<|av 0<|Qs (UL (v:=.ty "bool") rfl T.bool IZ rfl) Qq),Zj (VE (Bq Qp rfl) λ_=>HZ<|Bq Qp rfl) rfl]
inductive R_within:List OT->OT->Prop
 |mk {i lo hi:Int}:R_within [.fz<|.int i,.fz<|.int lo,.fz<|.int hi] (.fz<|.bool<|decide (lo<=i)&&decide (i<hi))
def R_within.yes{i lo c:Int}(h0:lo<=i)(L:i<c):R_within [.fz<|.int i,.fz<|.int lo,.fz<|.int c] (.fz<|.bool true):=by
 have:=@R_within.mk i lo c;rwa[XN h0,XN L]at this
def ZfL:Qo Zal Zal (QD Sx):=by walk_at"p"
def ZqB(T:Bl mg)(H1:Df K mg "is_whole_within" Sx Zal)(c:Q2 P w K mg base "is_whole" ZaU 1 (QC (K:=K) R_iswhole)):Q2 P w K mg base "is_whole_within" Zal 2 (QC (K:=K) R_within):=by
 refine H1.ev ZfL (λf ts r h H q j A outer s g=>?_);cases h with
 |@mk i m n=>
  exact#[_,(Qz<|QK<|Yo (Q7 c g y0)<|YE<|Fp WF Jt vb1 g0 va2),Zj (VE (QN (Qu Qp Q1) R_iswhole.mk) λ_=>Uk Qp Qp Qp) rfl]
inductive R_isamount:List OT->OT->Prop
 |mk {i lo:Int}(h0:lo<=i)(L:i<10^30):R_isamount [.fz<|.int i,.fz<|.int lo] (.fz<|.bool true)
def Zk2:Qo ZaF ZaF (QD RG):=by walk_at"p"
def ZlP(T:Bl mg)(H1:Df K mg "is_amount" RG ZaF)(c:Q2 P w K mg base "is_whole_within" Zal 2 (QC (K:=K) R_within)):Q2 P w K mg base "is_amount" ZaF 3 (QC (K:=K) R_isamount):=by
 refine H1.ev Zk2 (λf ts r h H q m A outer s g=>?_);cases h with
 |@mk i n j L=>
  exact#[_,(Qz<|QK<|Q7 c g<|av 0<|av 1<|Qs (QX Kt Qw Qw) Qq),Zj (QN (Qu Qp<|Qu Qp<|Qu (Vo Q0 Q0<|MF (by decide)<|by decide) Q1)<|R_within.yes j L) rfl]
inductive R_tupof:List OT->OT->Prop
 |mk {ds:Qd}{n:Int}(h:(ds.length:Int)=n):R_tupof [.fz<|.tuple ds,.fz<|.int n] (.fz<|.bool true)
def Zi2:Qo Zay Zay (QD RP):=by walk_at"p"
def ZrW(T:Bl mg)(H1:Df K mg "is_tuple_of" RP Zay):Q2 P w K mg base "is_tuple_of" Zay 1 (QC (K:=K) R_tupof):=by
 refine H1.ev Zi2 (λf ts r h H i c A outer s g=>?_);cases h with
 |@mk ds n h=>
  refine#[_,(Qz<|QK<|Yo (Zk Da T.isi JV<|av 0<|Qs (UL (v:=.ty "tuple") rfl T.tuple GE rfl) Qq)<|YE<|YQ ZJ (Zk ZH T.len ZD y0) vb1),Zj (Qr.cast (VE (Bq Qp rfl) λ_=>WS (BA Qp) Qp) ?_) rfl];rw[XN h];rfl
inductive R_isabove:List OT->OT->Prop
 |mk {u:Option Nat}{k:Nat}(h:if k=0 then u=none else ∃a,u=some a/\a<k):R_isabove [.fz<|upD u,.fz<|.int (k:Int)] (.fz<|.bool true)
def Zmf:Qo ZaO ZaO (QD Rk):=by walk_at"p"
def ZoJ(T:Bl mg)(H1:Df K mg "is_above" Rk ZaO)(g:Q2 P w K mg base "is_whole_within" Zal 2 (QC (K:=K) R_within)):Q2 P w K mg base "is_above" ZaO 3 (QC (K:=K) R_isabove):=by
 refine H1.ev Zmf (λf ts r h H n j A outer s i=>?_);cases h with
 |@mk u k h=>
  refine#[_,(Qy (QW (Zo ZJ vb1 Qw) (Qz<|QK<|AD<|E6 g0) QV)
 (Qz<|QK<|Q7 g i<|av 0<|Qs Qw va1)),?_]
  refine QB (Zb (Z3<|WS Qp Q0) (λc=>?_) λc=>Zf ?_)
  .rw[Xh<|#[]]at h;subst h;exact Zj (P5 Qp) rfl
  .rw[Xe<|#[]]at h;obtain⟨a,rfl,m⟩:=h;exact Zj (QN (Qu Qp<|Qu Q0<|Qu Qp Q1)<|R_within.yes #[]<|#[]) rfl
inductive R_arebounds:List OT->OT->Prop
 |mk {bs:Ql}{t:Int}(hl:(bs.length:Int)=t)(h8:bs.length<=8)(hb:∀b∈bs,0<=b/\b<10^30):R_arebounds [.fz<|.tuple<|bs.map PyData.int,.fz<|.int t] (.fz<|.bool true)
def Ac:Qo Zar Zar (QD Sa):=by walk_at"p"
def Zl0(T:Bl mg)(H1:Df K mg "are_bounds" Sa Zar)(i:Q2 P w K mg base "is_tuple_of" Zay 1 (QC (K:=K) R_tupof))(g:Q2 P w K mg base "is_amount" ZaF 3 (QC (K:=K) R_isamount)):Q2 P w K mg base "are_bounds" Zar 4 (QC (K:=K) R_arebounds):=by
 refine H1.ev Ac (λf ts r h H M y A outer s m=>?_);cases h with
 |@mk B t q C n=>
  refine#[_,(Qz<|QK<|Yo (Q7 i m<|av 0 va1)<|YE<|Zk B5 T.all Bs<|Qs (V3 Ac ["bound"] [none] (B9 g0) λ_=>(Q7 g m<|av 0<|Qs Qw Qq)) Qq),Zj (VE (QN (Qu Qp<|Qu Qp Q1)<|R_tupof.mk<|by rw[Xg];exact q) λ_=>Qr.cast (B4 (Qr.cast (EvO.fz<|Yy (xs:=B) (enc:=PyData.int) (h:=λ_=>.bool true) ?ei #[] ?el)<|by rw[XA];rfl) rfl)<|by simp) rfl]
  case ei=>exact Gy Qp
  case el=>
   exact λx j c=>#[_,Zg,QN (Qu Qp<|Qu Q0 Q1)<|R_isamount.mk (n x j).1 (n x j).2]
structure LOk(l:Ln)(k T:Nat):Prop where
 u:if k=0 then l.up=none else ∃a,l.up=some a/\a<k
 b:l.bs.length=T
 h:∀b∈l.bs,0<=b/\b<10^30
inductive R_isline:List OT->OT->Prop
 |mk {l:Ln}{k T:Nat}(h:LOk l k T)(h8:T<=8):R_isline [.fz<|V4 l,.fz<|.int (k:Int),.fz<|.int (T:Int)] (.fz<|.bool true)
def Zo2:Qo ZaB ZaB (QD NK):=by walk_at"p"
def ZqN(T:Bl mg)(H1:Df K mg "is_line" NK ZaB)(g:Q2 P w K mg base "is_tuple_of" Zay 1 (QC (K:=K) R_tupof))(j:Q2 P w K mg base "is_above" ZaO 3 (QC (K:=K) R_isabove))(i:Q2 P w K mg base "are_bounds" Zar 4 (QC (K:=K) R_arebounds)):Q2 P w K mg base "is_line" ZaB 5 (QC (K:=K) R_isline):=by
 refine H1.ev Zo2 (λf ts r h H q m A outer s c=>?_);cases h with
 |@mk l k t h n=>
  refine#[_,(Qz<|QK<|Yo (Q7 g c<|av 0<|Qs Qw Qq)<|Yo (Q7 j c<|Qs (QG QH g0 Qw) va1)<|YE<|Q7 i c<|Qs (QG QH g0 Qw) y2),?_];have e:=h.b;exact Zj (VE (QN (Qu Qp<|Qu Q0 Q1)<|R_tupof.mk rfl) λ_=>VE (QN (Qu (Vt Qp Q0 rfl)<|Qu Qp Q1)<|R_isabove.mk h.u) λ_=>QN (Qu (Vt Qp Q0 rfl)<|Qu Qp Q1)<|R_arebounds.mk #[] #[] h.h) rfl
structure YOk(y:Yd):Prop where
 ok:y.Ok
 b:∀l∈y.ls,∀b∈l.bs,b<10^30
def YOk.ln{y:Yd}(h:YOk y)(e:y.ls[k]?=some l):LOk l k y.T:=by
 have m:=List.mem_of_getElem? e;have u:Zq y k=l.up:=by
  unfold Zq;rw[e];rfl
 refine#[?_,h.ok.bl l m,λb c=>#[(h.ok.bb l m b c).1,h.b l m b c]];split
 .rename_i z;rw[<- u,z];exact h.ok.up0
 .rename_i z;rw[<- u];exact h.ok.ups k #[] (Xi.mp e).1
inductive R_arelines:List OT->OT->Prop
 |mk {y:Yd}(h:YOk y):R_arelines [.fz<|.tuple<|y.ls.map V4,.fz<|.int (y.T:Int)] (.fz<|.bool true)
def CS:Qo Zar Zar (QD R6):=by walk_at"p"
def Zmh(T:Bl mg)(H1:Df K mg "are_lines" R6 Zar)(i:Q2 P w K mg base "is_line" ZaB 5 (QC (K:=K) R_isline)):Q2 P w K mg base "are_lines" Zar 6 (QC (K:=K) R_arelines):=by
 refine H1.ev CS (λf ts r h H B m A outer s j=>?_);cases h with
 |@mk y h=>
  refine#[_,(Qy (QW (PW.pt<|U6 (Vy<|ZL<|Zk Da T.isi JV<|av 0<|Qs (UL (v:=.ty "tuple") rfl T.tuple GE rfl) Qq)<|UE<|Vy<|DB WF WF Qw (Zk ZH T.len ZD y0) Qw) (Qz<|QK YB) QV)
 (Qz<|QK<|Zk B5 T.all Bs<|Qs (V3 CS ["line","part","turns"] [none,none,some 1] (ZjP rfl T.enumerate y0) λ_=>(Q7 i j<|av 1<|av 0 y2)) Qq)),?_]
  have q:=h.ok.l1;have n:=h.ok.l5;refine QB (Zb ?t0 nf λ_=>Zf ?_)
  case t0=>exact Wd (Vg (b:=true)<|Z3<|Bq Qp rfl) (λ_=>Vg (b:=true)<|Zn<|Qr.cast (Uk Q0 (BA Qp) Q0)<|by rw[Xg,XN (show(1:Int)<=y.ls.length by lia),XN (show(y.ls.length:Int)<=5 by lia)];rfl)
  refine Zj (Qr.cast (B4 (Qr.cast (EvO.fz<|Yy (xs:=(y.ls.map V4).zipIdx) (enc:=λp=>.tuple [.int<|p.2,p.1]) (h:=λ_=>.bool true) ?ei (by simp;lia) ?el)<|by rw[XA];rfl) rfl)<|by simp) rfl
  case ei=>exact ZsS (Qu Qp Q1)
  case el=>
   rintro⟨d,k⟩ g c;have g:=List.mk_mem_zipIdx_iff_getElem?.mp g;rw[Xv]at g;apply At (Mq.mp g);rintro l e rfl;exact#[_,by walk_at"g",QN (Qu Qp<|Qu Qp<|Qu Qp Q1) (R_isline.mk (h.ln e) h.ok.t8)]
inductive R_isyard:List OT->OT->Prop
 |mk {y:Yd}(h:YOk y):R_isyard [.fz<|Za y] (.fz<|.bool true)
def ZoE:Qo ZaU ZaU (QD N9):=by walk_at"p"
def ZpN(T:Bl mg)(H1:Df K mg "is_yard" N9 ZaU)(g:Q2 P w K mg base "is_tuple_of" Zay 1 (QC (K:=K) R_tupof))(j:Q2 P w K mg base "is_whole_within" Zal 2 (QC (K:=K) R_within))(i:Q2 P w K mg base "are_lines" Zar 6 (QC (K:=K) R_arelines)):Q2 P w K mg base "is_yard" ZaU 7 (QC (K:=K) R_isyard):=by
 refine H1.ev ZoE (λf ts r h H C n A outer s c=>?_);cases h with
 |@mk y h=>
  refine#[_,(Qz<|QK<|Yo (Q7 g c<|av 0<|Qs Qw Qq)<|Yo (Q7 j c<|Qs (QG QH g0 Qw)<|Qs Qw<|Qs Qw Qq)<|YE<|Q7 i c<|Qs (QG QH g0 Qw)<|Qs (QG QH g0 Qw) Qq),?_];have B:=h.ok.t1;have q:=h.ok.t8;exact Zj (VE (QN (Qu Qp<|Qu Q0 Q1)<|R_tupof.mk rfl) λ_=>VE (QN (Qu (Vt Qp Q0 rfl)<|Qu Q0<|Qu Q0 Q1)<|R_within.yes #[]<|#[]) λ_=>QN (Qu (Vt Qp Q0 rfl)<|Qu (Vt Qp Q0 rfl) Q1)<|R_arelines.mk h) rfl
inductive R_isguest:List OT->OT->Prop
 |mk {y:Yd}{g:Gs}(h:G30 y g):R_isguest [.fz<|Za y,.fz<|QQ g] (.fz<|.bool true)
def ZlM:Qo ZaG ZaG (QD Rw):=by walk_at"p"
def Zo4(T:Bl mg)(H1:Df K mg "is_guest" Rw ZaG)(C:Q2 P w K mg base "is_tuple_of" Zay 1 (QC (K:=K) R_tupof))(i:Q2 P w K mg base "is_whole_within" Zal 2 (QC (K:=K) R_within))(m:Q2 P w K mg base "is_amount" ZaF 3 (QC (K:=K) R_isamount))(B:Q2 P w K mg base "line_count" ZaD 1 (QC (K:=K) R_count))(q:Q2 P w K mg base "turns_of" ZaD 1 (QC (K:=K) R_turns)):Q2 P w K mg base "is_guest" ZaG 4 (QC (K:=K) R_isguest):=by
 refine H1.ev ZlM (λf ts r h H Y X A outer s c=>?_);cases h with
 |@mk y g h=>
  refine#[_,(Qy (QW (Vy<|ZL<|Q7 C c<|av 1<|Qs Qw Qq) (Qz<|QK YB) QV)
 (Qy (QW (Vy<|ZL<|Q7 i c<|Qs (QG QH vb1 Qw)<|Qs Qw<|Qs (Q7 B c y0) Qq) (Qz<|QK YB) QV)
 (Qy (QW (Vy<|ZL<|Q7 i c<|Qs (QG QH vb1 Qw)<|Qs Qw<|Qs (Q7 q c y0) Qq) (Qz<|QK YB) QV)
 (Qy (QW (Vy<|ZL<|Q7 i c<|Qs (QG QH vb1 Qw)<|Qs (QG QH vb1 Qw)<|Qs (Q7 q c y0) Qq) (Qz<|QK YB) QV)
 (Qz<|QK<|Yo (Q7 m c<|Qs (QG QH vb1 Qw)<|Qs Qw Qq)<|YE<|Q7 m c<|Qs (QG QH vb1 Qw)<|Qs Qw Qq))))),?_]
  try dsimp only[ZV]
  obtain⟨⟨k1,k2,k3,W,_,U,_⟩,k5,M⟩:=h;have j:∀{Z:ZbI} {n:Int} {d:PyData},Z[1]?=some _->atI [.int<|g.line,.int<|g.first,.int<|g.last,.int g.want,.int g.most] n=some d->Qr K _ Z d:=λe h=>Vt (Qp e) Q0 h;exact QB (Zb (Vg<|Z3<|QN (Qu Qp<|Qu Q0 Q1)<|R_tupof.mk rfl) nf λ_=>Zf (QB (Zb (Vg<|Z3<|QN (Qu (j rfl rfl)<|Qu Q0<|Qu (QN (Qu Qp Q1) R_count.mk) Q1)<|R_within.yes #[]<|#[]) nf λ_=>Zf (QB (Zb (Vg<|Z3<|QN (Qu (j rfl rfl)<|Qu Q0<|Qu (QN (Qu Qp Q1) R_turns.mk) Q1)<|R_within.yes #[]<|#[]) nf λ_=>Zf (QB (Zb (Vg<|Z3<|QN (Qu (j rfl rfl)<|Qu (j rfl rfl)<|Qu (QN (Qu Qp Q1) R_turns.mk) Q1)<|R_within.yes #[]<|#[]) nf λ_=>Zf (Zj (VE (QN (Qu (j rfl rfl)<|Qu Q0 Q1)<|R_isamount.mk W k5) λ_=>QN (Qu (j rfl rfl)<|Qu Q0 Q1)<|R_isamount.mk U M) rfl))))))))
def El:NoH "now" := λ_ _ _ _ _ _=>rfl
def LD:NoH "come" := λ_ _ _ _ _ _=>rfl
def To:NoH "got" := λ_ _ _ _ _ _=>rfl
def KF:NoH "rest" := λ_ _ _ _ _ _=>rfl
def ER:NoH "open_ones" := λ_ _ _ _ _ _=>rfl
def F7:NoH "still_there" := λ_ _ _ _ _ _=>rfl
def D0:NoH "refuse_past" := λ_ _ _ _ _ _=>rfl
def TC:NoH "turn" := λ_ _ _ _ _ _=>rfl
def MY:NoH "refuse_number" := λ_ _ _ _ _ _=>rfl
def ZgV:Qo ZaL ZaL (QD GO):=by walk_at"p"
def IN{f:Addr}(T:Bl mg)(c:HandC K CH)(F:Fun K "__init__" "Hand.__init__" GO f fd):FnOk P w K mg base CX0 1 f fd ZaL (M9 CH):=by
 refine F.ok ZgV (by rintro r H Q u ⟨x,E,y,e,_⟩;rw[e];rfl) ?_;rintro r H Q u ⟨x,E,y,rfl,t,q⟩ v A outer s J;refine#[_,(Qy (Wr g0 vb1 rfl)
 (Qy (Wr g0 Qw rfl)
 (Qy (Wr g0 (Zz Qq) rfl)
 (Qy (Wr g0 (Zz Qq) rfl)
 (Qy (Wr g0 F6 rfl)
 (Qz<|Wr g0 (Zz Qq) rfl)))))),?_]
 refine#[y,rfl,_,rfl,x,CH,E,[],rfl,t,c.cl,c.yd,by decide,#[_,rfl,x,CH,E,[("yard",y)],rfl,by rw[QI];rfl,c.cl,c.pr,(by show(1)<1000;decide),#[XH _,λk W=>#[_,rfl,x,CH,E,[("yard",y),("present",.int 0)],rfl,?_,c.cl,c.kn,(by show(2)<1000;decide),?_]]]]
 .have j:=Z1 QI W;rw[Qv j,QI];rfl
 have j:=Z1 QI W;rw[Qv<|Ne.symm j,Qv<|Ne.symm j]at W;refine#[XH _,λg M=>#[_,rfl,x,CH,E,[("yard",y),("present",.int 0),("known",.ref k)],rfl,?_,c.cl,c.gv,(by show(3)<1000;decide),?_]]
 .have n:=Z1 QI M;rw[Qv n,QI];rfl
 have n:=Z1 QI M;rw[Qv<|Ne.symm n]at M;have Y:=Z1 QI M;rw[Qv<|Ne.symm Y,Qv<|Ne.symm n,Qv<|Ne.symm n]at M;refine λd C=>#[_,rfl,x,CH,E,[("yard",y),("present",.int 0),("known",.ref k),("given",.ref g)],rfl,?_,c.cl,c.go,(by show(4)<1000;decide),?_]
 .have B:=Z1 QI C;rw[Qv B,QI];rfl
 have B:=Z1 QI C;rw[Qv<|Ne.symm B]at C;have l:=Z1 QI C;rw[Qv<|Ne.symm l,Qv<|Ne.symm B]at C;have Z:=Z1 QI C;rw[Qv<|Ne.symm Z,Qv<|Ne.symm B,Qv<|Ne.symm B]at C;refine#[XH _,λm h=>#[_,rfl,x,CH,E,[("yard",y),("present",.int 0),("known",.ref k),("given",.ref g),("gone",.ref d)],rfl,?_,c.cl,c.md,(by show(5)<1000;decide),?_]]
 .have i:=Z1 QI h;rw[Qv i,QI];rfl
 have i:=Z1 QI h;rw[Qv<|Ne.symm i]at h;have o:=Z1 QI h;rw[Qv<|Ne.symm o,Qv<|Ne.symm i]at h;have a:=Z1 QI h;rw[Qv<|Ne.symm a,Qv<|Ne.symm i]at h;have X:=Z1 QI h;rw[Qv<|Ne.symm X,Qv<|Ne.symm i,Qv<|Ne.symm i]at h;refine q k g d m _ W M C h ?_ ?_ ?_ ?_ ?_ ?_ (λb p=>?_)
 .simp only[XM,Xd,XW,or_false,not_or,not_false_eq_true,Ms,and_true];exact#[#[j,n,B,i],#[Y,Z,X],#[l,a],o]
 .rw[QI];rfl
 .rw[Qv<|Ne.symm j,Qv X,Qv<|Ne.symm j,Qv Z,Qv<|Ne.symm j,Qv Y,Qv<|Ne.symm j,QI]
 .rw[Qv<|Ne.symm n,Qv a,Qv<|Ne.symm n,Qv l,Qv<|Ne.symm n,QI]
 .rw[Qv<|Ne.symm B,Qv o,Qv<|Ne.symm B,QI]
 .rw[Qv<|Ne.symm i,QI]
 .simp only[Xd,XW,or_false,not_or]at p;apply JH p;intro U I G D z;rw[Qv U,Qv z,Qv U,Qv D,Qv U,Qv G,Qv U,Qv I,Qv U,Qv U]
inductive R_hpast(CH:Addr):List OT->(OT->Prop)->Prop
 |mk {N:HandS}{t:Int}(h:N.now<=t):R_hpast CH [.zow<|Zd CH N,.fz<|.int t] (λr=>r=.fz .none)
inductive X_hpast(CH:Addr):List OT->(Unit->Prop)->Prop
 |mk {N:HandS}{t:Int}(h:t<N.now):X_hpast CH [.zow<|Zd CH N,.fz<|.int t] (λ_=>True)
def Zf7:Qo ZaM ZaM (QD Sy):=by walk_at"p"
def ZsG(T:Bl mg)(j:HandC K CH)(i:M5 K mg "NoTime" ct)(H1:Mf K CH "refuse_past" "Hand.refuse_past" Sy ZaM):ZZ P w K mg base CH "refuse_past" ZaM 1 (ZI K ct Yv (R_hpast CH)<|X_hpast CH):=by
 refine H1.evZ Zf7 (λf H RR ts m c h g A outer s n=>?_) (λf F H RR ts m c q h g A outer s n=>?_)
 .cases h with
  |@mk N t h=>
   exact#[_,(Qz<|QW (Zo Jt vb1<|Zv g0) (Qz<|GH i c<|Qs QP Qq) QV),Zb (QM.cast (Zn<|V8 Qp<|BO j rfl)<|XJ<|#[]) nf (λ_=>Zf rfl)]
 .cases h with
  |@mk N t h=>
   exact#[_,(Qz<|QW (Zo Jt vb1<|Zv g0) (Qz<|GH i c<|Qs QP Qq) QV),U4 (QM.cast (Zn<|V8 Qp<|BO j rfl)<|XN h) (λ_=>NP QT trivial q) nt]
def Zfa:Qo Zab Zab (QD GS):=by walk_at"p"
def ZqH{f:Addr}(T:Bl mg)(F:Fun K "__init__" "NoNumber.__init__" GS f fd)(m:Uw K YR CQ f)(xs:S6 K CQ)(g:W.takerIn K CQ "number"=some none)(i:mg "YardError"=some (.ref YR)):FnOk P w K mg base CX0 1 f fd Zab (BD CQ "number"):=by
 refine F.ok Zfa ?_ (λc H Q j h n A outer s q=>#[_,Qy (Z0<|LP m rfl i rfl Qa)<|Qz<|TQ xs g g0 vb1 rfl,OR h]);rintro c H Q j ⟨e,x,h,_⟩;rw[h];rfl
inductive R_withw:List OT->OT->Prop
 |mk {g:Gs}{z:Int}:R_withw [.fz<|QQ g,.fz<|.int z] (.fz<|QQ { g with want:=z })
def Zk1:Qo ZaP ZaP (QD R3):=by walk_at"p"
def OS(T:Bl mg)(H1:Df K mg "with_want" R3 ZaP):Q2 P w K mg base "with_want" ZaP 1 (QC (K:=K) R_withw):=by
 refine H1.ev Zk1 (λf ts r h H m i A outer s j=>?_);cases h with
 |@mk g z=>
  refine#[_,(Qz<|QK<|YN<|Qs (QG QH g0 Qw)<|Qs (QG QH g0 Qw)<|Qs (QG QH g0 Qw)<|av 1<|Qs (QG QH g0 Qw) Qq),?_];have c:∀{Z:ZbI} {n:Int} {d:PyData},Z[0]?=some (zf<|QQ g)->atI [.int _,.int _,.int _,.int g.want,.int g.most] n=some d->Qr K _ Z d:=λe h=>Vt (Qp e) Q0 h;exact Zj (YM (QZ (c rfl rfl)<|QZ (c rfl rfl)<|QZ (c rfl rfl)<|QZ Qp<|QZ (c rfl rfl) Z5)<|by show(5)<=1000;decide) rfl
inductive R_stay:List OT->OT->Prop
 |mk {g:Gs}{n:Nat}:R_stay [.fz<|QQ g,.fz<|.int (n:Int)] (.fz<|QQ { g with first:=max g.first n })
def ZhD:Qo Zaq Zaq (QD So):=by walk_at"p"
def Ii(T:Bl mg)(H1:Df K mg "staying_from" So Zaq):Q2 P w K mg base "staying_from" Zaq 1 (QC (K:=K) R_stay):=by
 refine H1.ev ZhD (λf ts r h H m i A outer s j=>?_);cases h with
 |@mk g n=>
  refine#[_,(Qz<|QK<|YN<|Qs (QG QH g0 Qw)<|Qs (Zk (Eg rfl) T.max Kg<|Qs (QG QH g0 Qw) va1)<|Qs (QG QH g0 Qw)<|Qs (QG QH g0 Qw)<|Qs (QG QH g0 Qw) Qq),?_];have c:∀{Z:ZbI} {n:Int} {d:PyData},Z[0]?=some _->atI [.int<|g.line,.int<|g.first,.int<|g.last,.int g.want,.int g.most] n=some d->Qr K _ Z d:=λe h=>Vt (Qp e) Q0 h;refine Zj (Qr.cast (YM (QZ (c rfl rfl)<|QZ (PH (c rfl rfl) Qp)<|QZ (c rfl rfl)<|QZ (c rfl rfl)<|QZ (c rfl rfl) Z5)<|by show(5)<=1000;decide) ?_) rfl;have e:max (g.first:Int) (n)=((max g.first n)):=#[]
  rw[e];rfl
def JM(N:HandS)(k:Nat)(z:Int):Prop := ∃(g:Gs) (x:Int),N.known[k]?=some (QQ g)/\N.given[k]?=some x/\z=if (YZ N.gone<|.inl (k:Int)).isSome then 0 else g.want-x
inductive R_hnum(CH:Addr):List OT->(OT->Prop)->Prop
 |mk {N:HandS}{k:Nat}(h:k<N.known.length):R_hnum CH [.zow<|Zd CH N,.fz<|.int (k:Int)] (λr=>r=.fz .none)
inductive X_hnum(CH:Addr):List OT->(V->Prop)->Prop
 |mk {N:HandS}{z:Int}(h:z<0\/(N.known.length:Int)<=z):X_hnum CH [.zow<|Zd CH N,.fz<|.int z] (λw=>w=.int z)
def ZeE:Qo Zab Zab (QD S5):=by walk_at"p"
def ES(T:Bl mg)(q:HandC K CH)(n:XC K mg "NoNumber" YR CQ fQ)(H1:Mf K CH "refuse_number" "Hand.refuse_number" S5 Zab)(j:Q2 P w K mg base "is_whole_within" Zal 2 (QC (K:=K) R_within))(i:Bm P w K mg base fQ Zab 1 (BD CQ "number")):ZZ P w K mg base CH "refuse_number" Zab 3 (W8 K CQ "number" (R_hnum CH)<|X_hnum CH):=by
 refine H1.evZ ZeE (λf H RR ts y c h m A outer s g=>?_) (λf F H RR ts y c B h m A outer s g=>?_)
 .cases h with
  |@mk N k h=>
   refine#[_,(Qz<|QW (Vy<|ZL<|Q7 j g<|av 1<|Qs Qw<|Qs (Zk ZH T.len ZD<|Qs (Zv g0) Qq) Qq) (Qz<|DO n i c g va1) QV),Zb (Vg (b:=true)<|Z3<|Qr.cast (QN (Qu Qp<|Qu Q0<|Qu (VT<|GG q rfl) Q1) R_within.mk) ?_) nf (λ_=>Zf rfl)];simp_all
 .cases h with
  |@mk N z h=>
   refine#[_,(Qz<|QW (Vy<|ZL<|Q7 j g<|av 1<|Qs Qw<|Qs (Zk ZH T.len ZD<|Qs (Zv g0) Qq) Qq) (Qz<|DO n i c g va1) QV),U4 (Vg (b:=false)<|Z3<|Qr.cast (QN (Qu Qp<|Qu Q0<|Qu (VT<|GG q rfl) Q1) R_within.mk) ?_) (λ_=>Zpw (Φx:=λw=>w=.int z) Qp rfl rfl B) nt];rcases h with h|h
   .rw[XJ (show ¬(0)<=z by lia)];rfl
   .simp_all
inductive R_hgot(CH:Addr):List OT->(OT->Prop)->Prop
 |mk {N:HandS}{k:Nat}{x:Int}(h:k<N.known.length)(hx:N.given[k]?=some x):R_hgot CH [.zow<|Zd CH N,.fz<|.int (k:Int)] (λr=>r=.fz (.int x))
def Fm{N:HandS}{k:Nat}{x:Int}(c:N.given[k]?=some x):atI (N.given.map PyData.int) (k:Int)=some (.int x):=Z9 (by rw[Xv,c];rfl)
def Zml:Qo Zab Zab (QD Ra):=by walk_at"p"
def IU(T:Bl mg)(m:HandC K CH)(H1:Mf K CH "got" "Hand.got" Ra Zab)(g:ZZ P w K mg base CH "refuse_number" Zab 3 (W8 K CQ "number" (R_hnum CH)<|X_hnum CH)):ZZ P w K mg base CH "got" Zab 4 (W8 K CQ "number" (R_hgot CH)<|X_hnum CH):=by
 refine H1.evZ Zml (λf H RR ts n c h j A outer s i=>?_) (λf F H RR ts n c y h j A outer s i=>?_)
 .cases h with
  |@mk N k x h q=>
   refine#[_,(Qy (Z0<|YU g m i (Wo c) g0 va1)
 (PSs.nox<|Qz<|QK<|QG QH (Zv g0) vb1)),?_]
   exact QB (GC (GL MY rfl (Qu Qp Q1) (R_hnum.mk h) c) (Zj (Z2 (Cz m rfl) Qp<|Fm q) rfl))
 .cases h with
  |@mk N z h=>
   refine#[_,(Qy (Z0<|YU g m i (Wo c) g0 va1)
 Vd),?_]
   exact JS (NN bkV MY rfl (Qu Qp Q1) (X_hnum.mk h) c y)
inductive R_hrest(CH:Addr):List OT->(OT->Prop)->Prop
 |mk {N:HandS}{k:Nat}{z:Int}(h:JM N k z):R_hrest CH [.zow<|Zd CH N,.fz<|.int (k:Int)] (λr=>r=.fz (.int z))
def Zly:Qo Zab Zab (QD R0):=by walk_at"p"
def ZtO(T:Bl mg)(n:HandC K CH)(H1:Mf K CH "rest" "Hand.rest" R0 Zab)(m:ZZ P w K mg base CH "refuse_number" Zab 3 (W8 K CQ "number" (R_hnum CH)<|X_hnum CH))(y:Q2 P w K mg base "want_of" Zax 1 (QC (K:=K) R_want)):ZZ P w K mg base CH "rest" Zab 4 (W8 K CQ "number" (R_hrest CH)<|X_hnum CH):=by
 refine H1.evZ Zly (λf H RR ts C i h q A outer s j=>?_) (λf F H RR ts C i U h q A outer s j=>?_)
 .cases h with
  |@mk N k z h=>
   refine#[_,(Qy (Z0<|YU m n j (Wo i) g0 va1)
 (PSs.nox (Qy (QW (UF<|Kw (Wn j) vb1<|Zv g0) (Qz<|QK Qw) QV)
 (Qz<|QK<|QX YD (Q7 y j<|Qs (QG QH (Zv g0) vb1) Qq)<|QG QH (Zv g0) vb1)))),?_]
   try dsimp only[ZV]
   apply aF h;rintro g x B M rfl;have W:=(Xi.mp B).1;refine QB (GC (GL MY rfl (Qu Qp Q1) (R_hnum.mk W) i) (QB (Zb (Zn<|Zrr (k:=.inl (k)) n Qp rfl) (λc=>?_) λc=>Zf ?_)))
   .rw[c];exact Zj Q0 rfl
   .rw[c];exact Zj (ZB (QN (Qu (Z2 (GG n rfl) Qp<|Z9 B) Q1) R_want.mk)<|Z2 (Cz n rfl) Qp<|Fm M) rfl
 .cases h with
  |@mk N z h=>
   refine#[_,(Qy (Z0<|YU m n j (Wo i) g0 va1)
 Vd),?_]
   exact JS (NN bkV MY rfl (Qu Qp Q1) (X_hnum.mk h) i U)
inductive R_hopen(CH:Addr):List OT->(OT->Prop)->Prop
 |mk {N:HandS}(rs:Qn)(h:∀k,k<N.known.length->JM N k (rs k))(l:N.known.length<=1000):R_hopen CH [.zow<|Zd CH N] (λr=>r=.ol (ZA<|(List.range N.known.length).filter λk => !decide (rs k=0)))
def Ai:Qo Zav Zav (QD Ss):=by walk_at"p"
def ZtB(T:Bl mg)(m:HandC K CH)(H1:Mf K CH "open_ones" "Hand.open_ones" Ss Zav)(j:ZZ P w K mg base CH "rest" Zab 4 (W8 K CQ "number" (R_hrest CH)<|X_hnum CH)):ZC P w K mg base CH "open_ones" Zav 5 (Zi K<|R_hopen CH):=by
 refine H1.evD Ai (λf ts y h H M q A outer s n=>?_);cases h with
 |@mk N B h l=>
  refine#[_,(Qz<|QK<|V3 Ai ["number","self"] [none,some 0] (VI rfl T.range<|Qs (Zk ZH T.len ZD<|Qs (Zv g0) Qq) Qq) (λ_=> g0) λ_=>(Uc<|Zo MN (YU j m n (WB (C:=CQ)) vb1 y0) Qw)),JR (JY (enc:=λ(k:Nat)=>PyData.int<|k) ?ei (by exact Ut▸l) ?el) rfl]
  case ei=>
   exact EvI.cast (VS (Qu (VT<|GG m rfl) Q1) #[]<|#[])<|W6 λi _=>by rw[Ys]
  case el=>
   exact λk g c=>#[_,Zg,#[Zn<|P0 (DP KF rfl (Qu Qp Q1) (R_hrest.mk<|h k (XY.mp g)) WZ) Q0,λ_=>Qp rfl]]
noncomputable def stl(c:List Gs)(n:Nat)(f:Qn)(k:Nat):Gs:={ c.getD k default with first:=max (c.getD k default).first n,want:=f k }
inductive R_hstill(CH:Addr):List OT->(OT->Prop)->Prop
 |mk {N:HandS}{gs:List Gs}{n:Nat}(rs:Qn)(hk:N.known=gs.map QQ)(hn:N.now=(n:Int))(h:∀k,k<gs.length->JM N k (rs k))(l:gs.length<=900):R_hstill CH [.zow<|Zd CH N] (λr=>r=.ol ((List.range gs.length).map λk=>QQ<|stl gs n rs k))
def DX:Qo ["self","guests","number","guest"] Zav (QD Sz):=by walk_at"p"
def ZpJ(T:Bl mg)(q:HandC K CH)(H1:Mf K CH "still_there" "Hand.still_there" Sz Zav)(m:Q2 P w K mg base "with_want" ZaP 1 (QC (K:=K) R_withw))(j:Q2 P w K mg base "staying_from" Zaq 1 (QC (K:=K) R_stay))(g:ZZ P w K mg base CH "rest" Zab 4 (W8 K CQ "number" (R_hrest CH)<|X_hnum CH)):ZC P w K mg base CH "still_there" Zav 5 (Zi K<|R_hstill CH):=by
 refine H1.evD DX (λf ts o h H p e A outer s c=>?_);cases h with
 |@mk N B n W Y X h l=>
  refine#[_,(Qy (QR 1 DX.nd<|Zz Qq)
 (Qy (Va zN rfl (by exact(DU rfl T.enumerate<|Qs (Zv g0) Qq)) (UG (n:=2) rfl (VG (Zy 2 DX.nd)<|VG (Zy 3 DX.nd) Ue))<|by exact(Qz<|Z0<|ZK zP zS zT VJ vb1<|Qs (Q7 m c<|Qs (Q7 j c<|av 3<|Qs (Zv g0) Qq)<|Qs (YU g q c (WB (C:=CQ)) g0 y2) Qq) Qq))
 (Qz<|QK vb1))),?_]
  try dsimp only[ZV]
  refine QB (Vi (Vh Z5<|by decide) (QB (Ud (λi=>[some _,some<|.ol<|(List.range i).map λk=>QQ<|stl B n W k,none,none]) (BB<|Qu (Qr.cast (GG q rfl) (show _=PyData.list _ by rw[Y])) Q1) #[rfl,rfl,trivial] ?st ?fin)))
  case st=>
   intro i d a;apply At (Ma a);rintro b M rfl;have y:=by
    have:=(Xi.mp M).1;simpa using this
   obtain rfl:b=QQ (B.getD i default):=by simpa [y] using M.symm
   refine#[_,WA (Vv Zg<|Vv Zg WT) rfl,Wx rfl (QN (Qu (QN (Qu Qp<|Qu (Qr.cast (BO q rfl)<|by rw[X]) Q1) R_stay.mk)<|Qu (DP KF rfl (Qu Qp Q1) (R_hrest.mk<|h i y) WZ) Q1) R_withw.mk) (by rw[Xg,Ut];lia) #[rfl,?_,trivial]];rw[YY,Xx];rfl
  case fin=>
   refine λU Z=>JU Z ?_;rw[BV,Xg];exact UJ rfl rfl
noncomputable def hT(y:Yd)(n:Nat)(f:List Gs)(c:Ql)(go:Qk)(ms:List Zw):HandS:=#[Za y,(n:Int),f.map QQ,c,go.map λ(k:Nat)=>(.inl (k:Int),.bool true),ms]
noncomputable def rsT(f:List Gs)(c:Ql)(go:Qk)(k:Nat):Int:=if k∈go then 0 else (f.getD k default).want-c.getD k 0
theorem TH(k:Nat):∀go:Qk,(YZ (go.map λ(k:Nat)=>((.inl (k:Int):Key),PyData.bool true))<|.inl (k:Int)).isSome=decide (k∈go)
 |[]=>rfl
 |x::go=>by
  have c:=TH k go;unfold YZ at c ⊢;rw[Xw,List.find?_cons];by_cases z:x=k
  .subst z;simp
  .have f:¬((.inl (x):Key)=.inl (k)):=λq=>z #[]
   simp only[f,decide_false];rw[c];simp[Ne.symm z]
def Dz{y:Yd}(gl:gv.length=gs.length)(h:k<gs.length):JM (hT y n gs gv go ms) k (rsT gs gv go k):=by
 refine#[gs.getD k default,gv.getD k 0,by simp[hT,h],by simp[hT,h,gl],?_];show _=if (YZ (go.map λk=>_) _).isSome=true then _ else _;rw[TH];unfold rsT;simp only[decide_eq_true_eq]
def mT(n:Nat)(c:List Gs)(f:Ql)(go:Qk):List Gs:=(List.range c.length).map (stl c n<|rsT c f go)
def Ws(n:Nat)(c:List Gs)(f:Ql)(go:Qk):(mT n c f go).length=c.length:=by simp[mT]
def T8(n:Nat)(c:List Gs)(f:Ql)(go:Qk):((List.range c.length).map λk=>QQ<|stl c n (rsT c f go) k)=(mT n c f go).map QQ:=by
 unfold mT;rw[XA];rfl
def Wf(h:k<gs.length):(mT n gs gv go).getD k default=stl gs n (rsT gs gv go) k:=by simp[mT,h]
def HS{y:Yd}(hg:∀x∈gs,G30 y x)(h0:∀k,k<gs.length->0<=rsT gs gv go k):∀x∈mT n gs gv go,GOk y x:=λx f=>by
 apply At (Xo.mp f);rintro k c rfl;have c:=XY.mp c;have g:=(hg (gs.getD k default)<|by simp[c]).ok;have h:=g.m1;exact#[g.ln,h0 k c,by show 0<=(gs.getD k default).most;lia]
def Wc(y:Yd)(c:List Gs):Prop := ∀S,Vl y (QA c) S<=0
open Classical in
noncomputable def Jk(y:Yd)(a:List Gs)(g:Gs):List Gs:=if Wc y (a++[g]) then a++[g] else a
noncomputable def adm(y:Yd)(gs:List Gs):List Gs:=gs.foldl (Jk y) []
def N3(y:Yd)(c:List Gs)(g:Gs):adm y (c++[g])=Jk y (adm y c) g:=by
 unfold adm;simp_all
def Lp{y:Yd}{g:Gs}(h:Wc y (a++[g])):Jk y a g=a++[g]:=Xh h
def Tf{y:Yd}{g:Gs}(h:¬Wc y (a++[g])):Jk y a g=a:=Xe h
def BJ(y:Yd)(c:List Gs):(adm y c).Sublist c:=by
 have:∀(r c a:List Gs),a.Sublist c->(r.foldl (Jk y) a).Sublist (c++r):=λr=>by
  induction r with
  |nil=>intro c a h;rw[Xr];exact h
  |cons g r f=>
   intro c a h;have:=f (c++[g]) (Jk y a g) (by
    unfold Jk;split
    .exact h.append (List.Sublist.refl _)
    .exact h.trans (List.sublist_append_left _ _))
   simp_all
 exact this c [] [] (List.Sublist.refl _)
def Zsr{y:Yd}(h0:Wc y [])(c:List Gs):Wc y (adm y c):=by
 have:∀(r a:List Gs),Wc y a->Wc y (r.foldl (Jk y) a):=λr=>by
  induction r with
  |nil=>intro a h;exact h
  |cons g r f=>
   refine λa h=>f _ ?_;unfold Jk;split
   .assumption
   .exact h
 exact this c [] h0
def D5(c:List Gs)(k:Nat):rsT c (List.replicate c.length 0) [] k=(c.getD k default).want:=by
 unfold rsT;rw[Xe λh=>nomatch h];have:(List.replicate c.length (0:Int)).getD k 0=0:=by
  rw[List.getD_eq_getElem?_getD,Hf];split<;>rfl
 rw[this,Int.sub_zero]
def Lu(c:List Gs):mT 0 c (List.replicate c.length 0) []=c:=by
 apply List.ext_getElem?;intro i;unfold mT;by_cases h:i<c.length
 .rw[Xv,List.getElem?_range h];show some _=_;unfold stl;rw[D5];simp[h]
 .simp_all
def h0S(y:Yd)(a:List Gs):HandS:=hT y 0 a (List.replicate a.length 0) [] []
inductive R_hcome:HandS->List OT->(OT->HandS->Prop)->Prop
 |mk {y:Yd}{n:Nat}{gs:List Gs}{gv:Ql}{go:Qk}{ms:List Zw}{g:Gs}(ok:y.Ok)(hg:∀x∈gs,G30 y x)(gk:G30 y g)(gl:gv.length=gs.length)(gn:n<=g.first)(h0:∀k,k<gs.length->0<=rsT gs gv go k)(l:gs.length<=7)(h:∀S,Vl y (QA<|mT n gs gv go++[g]) S<=0):R_hcome (hT y n gs gv go ms) [.fz<|QQ g] (λr N'=>r=.fz (.int (gs.length:Int))/\N'=hT y n (gs++[g]) (gv++[0]) go ms)
inductive X_hcome(CH:Addr):List OT->(Qd->Prop)->Prop
 |mk {y:Yd}{n:Nat}{gs:List Gs}{gv:Ql}{go:Qk}{ms:List Zw}{g:Gs}(ok:y.Ok)(hg:∀x∈gs,G30 y x)(gk:G30 y g)(gl:gv.length=gs.length)(gn:n<=g.first)(h0:∀k,k<gs.length->0<=rsT gs gv go k)(l:gs.length<=7){S:Qm}(h:0<Vl y (QA<|mT n gs gv go++[g]) S):X_hcome CH [.zow<|Zd CH<|hT y n gs gv go ms,.fz<|QQ g] (λd=>∃S,0<Vl y (QA<|mT n gs gv go++[g]) S/\d=ZA (Ym (mT n gs gv go++[g]) S))
def Zlh:Qo ZaQ ZaQ (QD RD):=by walk_at"p"
def Zs7(T:Bl mg)(B:HandC K CH)(XR:XC K mg "NoRoom" YR CR fR)(H1:Mf K CH "come" "Hand.come" RD ZaQ)(z:Q2 P w K mg base "is_guest" ZaG 4 (QC (K:=K) R_isguest))(D:ZZ P w K mg base CH "refuse_past" ZaM 1 (ZI K ct Yv (R_hpast CH)<|X_hpast CH))(E:Wl P w K mg base "refuse_lack" Zaa 7 (spX K CR "some" R_refuse X_refuse))(u:ZC P w K mg base CH "still_there" Zav 5 (Zi K<|R_hstill CH)):
 ZZ P w K mg base CH "come" ZaQ 8 (Al K CH CR "some" R_hcome<|X_hcome CH):=by
 have p:∀{Z:ZbI} {y:Yd} {n:Nat} {c:List Gs} {j:Ql} {q:Qk} {W:List Zw} {g:Gs} {L:XK},j.length=c.length->Z[0]?=some (zz<|Zd CH<|hT y n c j q W)->Z[1]?=some (zf<|QQ g)->c.length<=7->Qr K (tOp Bc (ZU CH "still_there" (Zi K<|R_hstill CH) [] L (Q8 0) QL)<|Y8<|Q4 (Q8 1) QL) Z (.list<|(mT n c j q++[g]).map QQ):=λ{Z y n c j q W g L} gl e0 R l=>
  Qr.cast (EvO.fz<|MQ (Qr.cast (EvO.fz<|Zt.o<|D3 F7 e0 Q1<|R_hstill.mk (rsT c j q) rfl rfl (λk O=>Dz gl O)<|#[])<|by rw[T8]) (EvO.fz<|Vh (QZ (Qp R) Z5)<|by show(1)<=1000;decide)<|by rw[Xg,Ws];show c.length+1<=1000;lia) (by rw[Xx];rfl)
 have t:∀{y:Yd} {n:Nat} {c:List Gs} {j:Ql} {q:Qk} {g:Gs},(∀x∈c,G30 y x)->G30 y g->(∀k,k<c.length->0<=rsT c j q k)->∀x∈mT n c j q++[g],GOk y x:=λa U o x Y=>by
  rcases Xz.mp Y with Y|Y
  .exact HS a o x Y
  .rw[Xj.mp Y];exact AH U.ok
 refine H1.evHXn Zlh (λf H RR v M ts Ψ m h J A outer s i=>?_) (λf F H RR ts Φ m N h J A outer s i=>?_)
 .cases h with
  |@mk y n c j q W g I a U gl Q o l h=>
   refine#[_,(Qy (QW (Vy<|ZL<|Q7 z i<|Qs (Zv g0) va1) Vd QV)
 (Qy (Z0<|YU D B i (WB (C:=ct)) g0<|Qs (QG QH vb1 Qw) Qq)
 (Qy (Z0<|G9 E i (Wo m)<|Qs (Zv g0)<|Qs (QX Bw (BN u B i g0)<|Zz va1) Qq)
 (PSs.nox (Qy (Z0<|ZK zP zS zT VJ (Zv g0) va1)
 (Qy (Z0<|ZK zP zS zT VJ (Zv g0)<|Qs Qw Qq)
 (Qz<|QK<|QX YD (Zk ZH T.len ZD<|Qs (Zv g0) Qq) Qw))))))),K8 ?_]
   show EvR K _ [zo v<|QY CH<|hT y n c j q W,zf<|QQ g] _;refine YT (Zb (b:=false) (LH 0 rfl (Vg (b:=true)<|Z3<|QN (Qu (Qr.cast (UN B rfl) rfl)<|Qu Qp Q1)<|R_isguest.mk U)) nf λ_=>Zf rfl)<|YT (GC (BP 0 rfl (λr i=>by rw[i];exact GK rfl)<|GL D0 rfl (Qu ((λ{Z g} e=>Vt (Qp e) Q0 rfl) rfl) Q1) (R_hpast.mk<|by show(n:Int)<=(g.first);lia) WZ) rfl) ?_
   try walk_at"d"
   refine YT (GC (BP 0 rfl (λr i=>by rw[i];exact GK rfl)<|ZtM (Qu (Qr.cast (UN B rfl) rfl)<|Qu (p gl rfl rfl l) Q1) (R_refuse.mk I (t a U o) (by rw[Xs,Ws];show c.length+1<=8;lia) h) m) rfl)<|YT (Zq0 B rfl Qp (by show(c.map QQ).length<1000;rw[Xg];lia) rfl)<|VR (λG=>G=[zo v<|QY CH<|hT y n (c++[g]) (j++[0]) q W,zf<|QQ g]) (Zp6 B rfl Q0 (by show j.length<1000;lia) ?_) ?_
   .simp[hT]
   rintro _ rfl;refine UB (Qr.cast (Nw (d:=.int ((c.length)+1-1)) 0 rfl rfl (ZB (Qr.cast (VT<|GG B rfl) ?_) Q0)) ?_) #[_,#[rfl,rfl],rfl]
   .show PyData.int (((c++[g]).map QQ).length)=_
    rw[Xg,Xs];rfl
   .rw[Int.add_sub_cancel]
 .cases h with
  |@mk y n c j q W g I a U gl Q o l S h=>
   refine#[_,(Qy (QW (Vy<|ZL<|Q7 z i<|Qs (Zv g0) va1) Vd QV)
 (Qy (Z0<|YU D B i (WB (C:=ct)) g0<|Qs (QG QH vb1 Qw) Qq)
 (Qy (Z0<|G9 E i (Wo m)<|Qs (Zv g0)<|Qs (QX Bw (BN u B i g0)<|Zz va1) Qq)
 Vd))),?_]
   exact Ju (Zb (b:=false) (Vg (b:=true)<|Z3<|QN (Qu (Qr.cast (UN B rfl) rfl)<|Qu Qp Q1)<|R_isguest.mk U) nf λ_=>Zf rfl)<|Ju (GC (GL D0 rfl (Qu ((λ{Z g} e=>Vt (Qp e) Q0 rfl) rfl) Q1) (R_hpast.mk<|by show(n:Int)<=(g.first);lia) WZ) rfl)<|JS (IA (Qu (Qr.cast (UN B rfl) rfl)<|Qu (p gl rfl rfl l) Q1) (X_refuse.mk I (t a U o) (by rw[Xs,Ws];show c.length+1<=8;lia) h) m N)
def gfD(f:Qn)(m:Nat):Zw:=((List.range m).filter λk=>decide (f k > 0)).map λ(k:Nat)=>(.inl (k:Int),.int<|f k)
def gvT(c:Ql)(f:Qn)(m i:Nat):Ql:=(List.range m).map λk=>c.getD k 0+if k<i then f k else 0
def Aq{m:Nat}(h:gv.length=m)(f:Qn):gvT gv f m 0=gv:=by
 subst h;apply List.ext_getElem?;intro i;by_cases c:i<gv.length
 .simp[gvT,c]
 .simp[gvT,c]
def Zs8{f:Qn}{m:Nat}(h:m<=i):((gfD f m).any λg=>decide (g.1=(.inl (i:Int):Key)))=false:=by
 rw[List.any_eq_false];intro x j;apply At (Xo.mp j);rintro k c rfl;have c:=XY.mp (GX.mp c).1;lia
def Il{f:Qn}(h:f i > 0):Bk (gfD f i) (.inl (i:Int)) (.int<|f i)=gfD f (i+1):=by
 unfold Bk;rw[Zs8<|Xm _];unfold gfD;rw[YY];simp[h]
def Ix{f:Qn}(h:¬f i > 0):gfD f (i+1)=gfD f i:=by
 unfold gfD;rw[YY];simp[h]
def IS(f:Qn)(m:Nat):(gfD f m).length<=m:=by
 unfold gfD;rw[Xg];exact Xq (M4 _ _) (by simp)
def IX{f:Qn}{m:Nat}(g:i<m):(gvT gv f m i).set i (gv.getD i 0+f i)=gvT gv f m (i+1):=by
 apply List.ext_getElem?;intro j;by_cases c:j<m
 .by_cases e:j=i
  .subst e;simp[gvT,c]
  .rw[XX<|Ne.symm e];simp only[gvT,Xv,List.getElem?_range c,YX];congr 2;lia
 .rw[List.getElem?_eq_none<|by simp[gvT];lia,List.getElem?_eq_none<|by simp[gvT];lia]
def EV{f:Qn}{m:Nat}(h:f i=0):gvT gv f m (i+1)=gvT gv f m i:=by
 refine W6 λk _=>?_
 congr 1
 grind
def Th{f:Qn}{m:Nat}(c:k<m):(gvT gv f m i)[k]?=some (gv.getD k 0+if k<i then f k else 0):=by simp[gvT,c]
def ZtK{y:Yd}(f:i<G.m):((WJ y G φ).map λc=>PyData.list<|c.map PyData.int)[i]?=some (.list<|(List.range y.T).map λt=>PyData.int<|Ze G φ t i):=by
 unfold WJ;simp[f]
inductive R_hturn:HandS->List OT->(OT->HandS->Prop)->Prop
 |mk {y:Yd}{n:Nat}{gs:List Gs}{gv:Ql}{go:Qk}{ms:List Zw}(ok:y.Ok)(hg:∀x∈gs,G30 y x)(gl:gv.length=gs.length)(hn:n<y.T)(h0:∀k,k<gs.length->0<=rsT gs gv go k)(l:gs.length<=8)(ml:ms.length<=8):
  R_hturn (hT y n gs gv go ms) [] (λr N'=>∃φ v,Wk y (QA<|mT n gs gv go) φ/\r=.own v (dkP<|gfD (Ze (QA<|mT n gs gv go) φ n) gs.length)/\N'=hT y (n+1) gs (gvT gv (Ze (QA<|mT n gs gv go) φ n) gs.length gs.length) go (ms++[gfD (Ze (QA<|mT n gs gv go) φ n) gs.length]))
inductive X_hturn(CH:Addr):List OT->(Unit->Prop)->Prop
 |mk {y:Yd}{gs:List Gs}{gv:Ql}{go:Qk}{ms:List Zw}:X_hturn CH [.zow<|Zd CH<|hT y y.T gs gv go ms] (λ_=>True)
def Mn:Qo ["self","filling","gifts","number","takes"] Zav (QD Rz):=by walk_at"p"
def ZtP(T:Bl mg)(a:HandC K CH)(H1:Mf K CH "turn" "Hand.turn" Rz Zav)(E:ZZ P w K mg base CH "refuse_past" ZaM 1 (ZI K ct Yv (R_hpast CH)<|X_hpast CH))(G:Q2 P w K mg base "turns_of" ZaD 1 (QC (K:=K) R_turns))(Xb8:Q2 P w K mg base "best_filling" Zaa 6 (Zi K R_great))(Xbs:ZC P w K mg base CH "still_there" Zav 5 (Zi K<|R_hstill CH)):
 ZZ P w K mg base CH "turn" Zav 7 (JE K CH ct Yv R_hturn<|X_hturn CH):=by
 refine H1.evHXn Mn (λf H RR v M ts Ψ X h S A outer s Y=>?_) (λf F H RR ts Φ X hq h S A outer s Y=>?_)
 .cases h with
  |@mk y n g q B u ok hg gl J h0 l ml=>
   refine#[_,(Qy (Z0<|YU E a Y (Wo X) g0<|Qs (QX YD (Q7 G Y<|Qs (Zv g0) Qq) Qw) Qq)
 (PSs.nox (Qy (QR 1 Mn.nd<|Q7 Xb8 Y<|Qs (Zv g0)<|Qs (BN Xbs a Y g0) Qq)
 (Qy (QR 2 Mn.nd F6)
 (Qy (Va zN rfl (by exact(DU rfl T.enumerate va1)) (UG (n:=2) rfl (VG (Zy 3 Mn.nd)<|VG (Zy 4 Mn.nd) Ue)) (by exact(Qz (QW (Zo YL (QG QH g4<|Zv g0) Qw) (Qy (TL (Wn Y) va2 y3 (QG QH g4<|Zv g0) rfl)
 (Qz<|BI (Zv g0) y3 BQ (QG QH g4<|Zv g0) Dc Wv)) QV))))
 (Qy (Z0<|ZK zP zS zT VJ (Zv g0) y2)
 (Qy (Zq1 g0 Qw Ej)
 (Qz<|QK<|Vc ZtL T.dict IL y2)))))))),K8 ?_]
   walk_at"x";refine YT (GC (BP 0 rfl (λr Y=>by rw[Y];exact GK rfl)<|GL D0 rfl (Qu (ZB (QN (Qu (Qr.cast (UN a rfl) rfl) Q1) R_turns.mk) Q0) Q1) (R_hpast.mk<|by show(n:Int)<=(y.T)-1;lia) X) rfl)<|VR (λj=>∃W,Wk y (QA<|mT n g q B) W/\j=[zo v<|QY CH<|hT y n g q B u,some<|.oll<|(WJ y (QA<|mT n g q B) W).map λm=>m.map PyData.int,none,none,none]) (Wu (BP 0 rfl ?th<|Y1 (Qu (Qr.cast (UN a rfl) rfl)<|Qu (Qr.cast (EvO.fz<|Zt.o<|D3 F7 rfl Q1<|R_hstill.mk (rsT g q B) rfl rfl (λk L=>Dz gl L)<|#[])<|by rw[T8]) Q1)<|R_great.mk ok (HS hg h0)<|by rw[Ws];exact l) ?_) ?_
   case th=>
    rintro r ⟨W,_,rfl⟩;refine O5 λds R=>?_;apply At (Xo.mp R);rintro m _ rfl;intro d Q;apply At (Xo.mp Q);rintro x _ rfl
    exact#[_,rfl]
   .rintro r ⟨W,U,rfl⟩;exact#[W,U,rfl]
   rintro _ ⟨W,U,rfl⟩;refine E4 1 rfl rfl ?_;rw[XA];have Gm:(QA<|mT n g q B).m=g.length:=Ws n g q B;have fn:∀k,k<g.length->0<=Ze (QA<|mT n g q B) W n k:=λk L=>(U.1.tak (by rw[Gm];exact L) J).1;have e:∀i,i<g.length->((WJ y (QA<|mT n g q B) W).map (PyData.list ∘ λm=>m.map PyData.int))[i]?=some (.list<|(List.range y.T).map λt=>PyData.int<|Ze (QA<|mT n g q B) W t i):=λi b=>ZtK (by rw[Gm];exact b)
   have o:((WJ y (QA<|mT n g q B) W).map (PyData.list ∘ λm=>m.map PyData.int)).length=g.length:=by
    rw[Xg];unfold WJ;rw[Xg,Ut,Gm]
   generalize ((WJ y (QA<|mT n g q B) W).map (PyData.list ∘ λm=>m.map PyData.int))=C at e o;refine VR (λj=>∃w,j=[zo v<|QY CH<|hT y n g q B u,zf<|.list C,zo w<|dkP [],none,none]) (KI OD λw=>#[w,rfl]) ?_;rintro _ ⟨w,rfl⟩;generalize O:Ze (QA<|mT n g q B) W n=f at fn;have p:∀i,i<g.length->∃ts,C[i]?=some (.list ts)/\atI ts (n)=some (.int<|f i):=λi b=>#[_,e i b,by rw[UI #[]<|#[],XF,<- O]];refine VR (λj=>∃D z:Option OT,j=[zo v<|QY CH<|hT y n g (gvT q f g.length g.length) B u,zf<|.list C,zo w<|dkP<|gfD f g.length,D,z]) (VF (λi j=>∃D z:Option OT,j=[zo v<|QY CH<|hT y n g (gvT q f g.length i) B u,zf<|.list C,zo w<|dkP<|gfD f i,D,z]) (BB<|Qu Qp Q1) #[_,_,by rw[Aq gl];rfl] ?st ?fin) ?_
   case fin=>
    intro j h;rwa[BV,o]at h
   case st=>
    rintro i d _ R ⟨D,z,rfl⟩;apply At (Ma R);rintro d1 e1 rfl;have b:i<g.length:=by
     have:=(Xi.mp e1).1;lia
    apply At (p i b);intro ts t1 t2;obtain rfl:=by rw[e1]at t1;exact Option.some.inj t1
    refine#[_,WA (Vv Zg<|Vv Zg WT) rfl,?_];walk_at"d";have I:∀{Z:ZbI} {N:HandS},N.now=(n)->Z[0]?=some (zz<|Zd CH N)->Z[4]?=some (zf<|.list ts)->Qr K (tOp (rIx K) (Q8 4)<|ZW K (Q8 0) "present") Z (.int<|f i):=λ{Z N} J e0 e4=>Z2 (Qp e4) (Qr.cast (BO a e0)<|by rw[J]) t2;refine Zb (QM.cast (LH 0 rfl (Zn<|V8 (I rfl rfl rfl) Q0)) rfl) (λc=>?_) (λc=>Zf ?_)
    .have c:=X8 c;refine QB (OH (k:=.inl (i)) rfl (Nw 0 rfl rfl (I rfl rfl rfl)) Qp (Mx (IS f i)<|V9<|#[]) ?_);walk_at"d";rw[Il c];refine Ij a rfl Qp #[] (by show(gvT q f g.length i)[(i:Int).toNat]?=_;rw[XF,Th b,Xe<|Y5 i]) (Nw 0 rfl rfl (I rfl rfl rfl)) ?_;dsimp only[List.set,hT];rw[XF,Int.add_zero,IX b];exact#[_,_,rfl]
    .have fi:=fn i b;rw[Ix (GY c),EV (show f i=0 by lia)];exact#[_,_,rfl]
   rintro _ ⟨D,z,rfl⟩;refine Zt0 (by decide) a rfl rfl (by show u.length<1000;lia) λw'=>#[_,#[W,w',U,?_,?_],rfl]
   .rw[O]
   .rw[O];rfl
 .cases h with
  |@mk y g q B u=>
   refine#[_,(Qy (Z0<|YU E a Y (Wo X) g0<|Qs (QX YD (Q7 G Y<|Qs (Zv g0) Qq) Qw) Qq)
 Vd),?_]
   exact JS (NN bkN D0 rfl (Qu (ZB (QN (Qu (Qr.cast (UN a rfl) rfl) Q1) R_turns.mk) Q0) Q1) (X_hpast.mk<|by show(y.T:Int)-1<(y.T);lia) X hq)
inductive R_hnow(CH:Addr):List OT->(OT->Prop)->Prop
 |mk {N:HandS}:R_hnow CH [.zow<|Zd CH N] (λr=>r=.fz (.int N.now))
def Zmx:Qo Zav Zav (QD Rj):=by walk_at"p"
def Oj(T:Bl mg)(g:HandC K CH)(H1:Mf K CH "now" "Hand.now" Rj Zav):ZC P w K mg base CH "now" Zav 1 (Zi K<|R_hnow CH):=by
 refine H1.evD Zmx (λf ts i h H m c A outer s j=>?_);cases h with
 |@mk N=>
  refine#[_,(Qz<|QK<|Zv g0),?_];show QJ K _ [_] _
  walk_at"x";exact Zj (BO g rfl) rfl
def Y6(sep a:Str)(xs:Qh):Str:=xs.foldl (λt x=>t++sep++x) a
def BY(sep a x:Str)(xs:Qh):Y6 sep a (x::xs)=Y6 sep (a++sep++x) xs:=rfl
theorem DT(sep p:Str):∀(xs:Qh) (a:Str),Y6 sep (p++a) xs=p++Y6 sep a xs
 |[],_=>rfl
 |x::xs,a=>by
  rw[BY,BY,<- DT sep p xs];simp only[Str.append_assoc]
theorem Up(sep:Str):∀(xs:Qh) (a:Str),Str.join sep (a::xs)=Y6 sep a xs
 |[],_=>rfl
 |x::xs,a=>by
  show a++sep++Str.join sep _=_;rw[BY,Up sep xs,DT]
theorem D7{sep:Str}{B:Nat}:∀(xs:Qh) (a:Str),(∀x∈xs,x.length<=B)->(Y6 sep a xs).length<=a.length+xs.length*(sep.length+B)
 |[],a,_=>by simp[Y6]
 |x::xs,a,h=>by
  have L:=D7 (sep:=sep) xs (a++sep++x) λz c=>h z (Xf _ c);have f:=h x Xb;rw[BY];rw[Str.length_append,Str.length_append]at L;rw[X4];lia
theorem LB{B:Nat}:∀(xs:Qh),(∀x∈xs,x.length<=B)->(xs.map (·.length)).sum<=xs.length*B
 |[],_=>by simp
 |x::xs,h=>by
  have L:=LB xs λz c=>h z (Xf _ c);have f:=h x Xb;rw[Xw,UU,X4];lia
def La{B:Nat}{xs:Qh}{sep:Str}(h:∀x∈xs,x.length<=B)(hs:sep.length<=1)(hn:xs.length<=n)(c:n*(B+1)<=16777216):(xs.map (·.length)).sum+xs.length*sep.length<=16777216:=by
 have L:=LB xs h;have g:xs.length*sep.length<=xs.length*1:=Nat.mul_le_mul_left _ hs;have f:xs.length*(B+1)<=n*_:=Nat.mul_le_mul_right _ hn;lia
def nS(i:Int):Str:=Str.ofString (toString i)
def sD:PyData->Str
 |.int i=>nS i
 |.str x=>x
 |_=>Str.empty
inductive SOk:PyData->Prop
 |int {i:Int}(h0:0<=i)(L:i<10^300):SOk (.int i)
 |str {x:Str}(h:x.length<=10):SOk (.str x)
def Jw{i:Int}(h0:0<=i)(L:i<10^300):i.natAbs.log2<1920:=by
 by_cases e:i.natAbs=0
 .rw[e];decide
 .rw[Nat.log2_lt e];have c:(i.natAbs:Int)<((2^1920:Nat)):=by
   have:=Int.natAbs_of_nonneg h0;rw[this];exact GV L (by decide +kernel)
  exact Int.ofNat_lt.mp c
def Dj{i:Int}(h0:0<=i)(L:i<10^300):(nS i).length<=300:=PyProof.Rows.toString_length_le h0 (by decide) L
def Ku(h:SOk d):(sD d).length<=300:=by
 cases h with
 |int c L=>exact Dj c L
 |str h=>exact Xq h (by decide)
def Jn(w:Str)(ds:Qd):Str:=Y6 " " w (ds.map sD)
def KW{w:Str}(hw:w.length<=10)(hn:ds.length<=10)(h:∀d∈ds,SOk d):(Jn w ds).length<=3100:=by
 have L:=D7 (sep := " ") (ds.map sD) w λx c=>by
  apply At (Xo.mp c);rintro d f rfl;exact Ku (h d f)
 have g:(ds.map sD).length*(Str.length " " + 300)<=10*301:=by
  rw[Xg];exact Nat.mul_le_mul hn (by decide)
 unfold Jn;lia
def upT:Option Nat->PyData
 |none=>.str "-"
 |some a=>.int (a:Int)
def lnD(l:Ln):Qd:=upT l.up::l.bs.map PyData.int
def V7(l:Ln):Str:=Jn "line" (lnD l)
noncomputable def gsD(g:Gs):Qd:=[.int (g.line:Int),.int (g.first:Int),.int (g.last:Int),.int g.want,.int g.most]
def Yn(g:Gs):Str:=Jn "guest" (gsD g)
structure LnT(l:Ln):Prop where
 up:∀a,l.up=some a->a<=8
 ln:l.bs.length<=8
 bs:∀b∈l.bs,0<=b/\b<10^300
structure GsT(g:Gs):Prop where
 line:g.line<=8
 first:g.first<=8
 last:g.last<=8
 w0:0<=g.want
 w:g.want<10^300
 m0:0<=g.most
 m:g.most<10^300
def Uh{a:Nat}(h:a<=8):(a:Int)<10^300:=DY (show _<=8 by lia) (by decide +kernel)
def LnT.ok(h:LnT l):∀d∈lnD l,SOk d:=λd c=>by
 rcases Xd.mp c with rfl|c
 .cases e:l.up with
  |none=>exact .str (by decide)
  |some a=>exact .int #[] (Uh<|h.up a e)
 .apply At (Xo.mp c);rintro b f rfl;exact .int (h.bs b f).1 (h.bs b f).2
def GsT.ok{g:Gs}(h:GsT g):∀d∈gsD g,SOk d:=λd c=>by
 simp only[gsD,Xd,XW,or_false]at c;rcases c with rfl|rfl|rfl|rfl|rfl
 .exact .int #[] (Uh h.line)
 .exact .int #[] (Uh h.first)
 .exact .int #[] (Uh h.last)
 .exact .int h.w0 h.w
 .exact .int h.m0 h.m
def EN(h:LnT l):(lnD l).length<=9:=by
 have:=h.ln;simp[lnD];lia
def NM(h:LnT l):(V7 l).length<=3100:=KW (by decide) (Xq (EN h)<|by decide) h.ok
def Rv{g:Gs}(h:GsT g):(Yn g).length<=3100:=KW (by decide) (by simp[gsD]) h.ok
structure YdT(y:Yd):Prop where
 t:y.T<=8
 n:y.ls.length<=5
 ls:∀l∈y.ls,LnT l
noncomputable def Ze1(y:Yd):Str:=Jn "yard" [.int (y.T:Int)]
def N7{y:Yd}(h:YdT y):(Ze1 y).length<=3100:=KW (by decide) (by simp) λd c=>by
 rcases Xd.mp c with rfl|c
 .exact .int #[] (Uh h.t)
 .cases c
noncomputable def Wy(y:Yd)(c:List Gs):Str:=Y6 "\n" (Ze1 y) (y.ls.map V7++c.map Yn)
def LR{y:Str}:decide (V.str x=V.str y)=decide (x=y):=by
 simp_all
def Vx{y:Str}(f:Qr K ta Z (.str x))(c:Qr K tb Z (.str y)):Qr K (tOp rEq ta tb) Z (.bool<|decide (x=y)):=by
 exact LR▸(Tz f c rfl rfl λH Q q=>#[rfl,q])
def B2{y:Str}(f:Qr K ta Z (.str x))(c:Qr K tb Z (.str y)):Qr K (tOp rNe ta tb) Z (.bool<|!decide (x=y)):=by
 exact LR▸(Tm f c rfl rfl λH Q q=>#[rfl,q])
def Iw:∀d:Nat,d<10->0<d->Nat.digitChar d≠'0':=by decide
def O7(m:Nat):0<m->∃c r,Nat.toDigits 10 m=c::r/\c≠'0':=by
 induction m using Nat.strongRecOn with
 |_ m f=>
  intro j;by_cases h:m<10
  .rw[Nat.toDigits_of_lt_base h];exact#[_,_,rfl,Iw m h j]
  .have t:Nat.toDigits 10 (m/10)++Nat.toDigits 10 _=Nat.toDigits 10 _:=Nat.toDigits_append_toDigits (by decide) #[] (Nat.mod_lt m (by decide));rw[Nat.div_add_mod]at t;apply L0 (f (m/10) #[] #[]);intro c r e i;rw[<- t,e];exact#[c,_,rfl,i]
def MT(m:Nat):(nS ((m:Nat):Int)).cps.toList=(Nat.toDigits 10 m).map Char.toNat:=W.KIN.signs_num m
def Bv{i:Int}(h0:0<=i):∀c∈(nS i).cps.toList,48<=c/\c<=57:=by
 obtain⟨m,rfl⟩:=He h0;intro c g;rw[MT]at g;apply At (Xo.mp g);exact λh f e=>e▸(PyProof.Rows.digit_range (Nat.isDigit_of_mem_toDigits (by decide) (by decide) f))
def PD{i:Int}(h0:0<=i):(nS i).cps.toList≠[]:=by
 obtain⟨m,rfl⟩:=He h0;rw[MT];simp_all
def ZsL{i:Int}(h0:0<i):∃c r,(nS i).cps.toList=c::r/\c≠48:=by
 obtain⟨m,rfl⟩:=He (Int.le_of_lt h0);apply L0 (O7 m #[]);intro c r e f;rw[MT,e];exact#[c.toNat,r.map Char.toNat,rfl,λz=>f (Char.toNat_inj.mp z)]
def Ky{i:Int}(h0:0<=i)(L:i<10^300):PySem.intText? (nS i)=some i:=by
 have e:=PySem.intText_digits (Bv h0) (PD h0) (Xq (Dj h0 L)<|by decide);obtain⟨m,rfl⟩:=He h0;rwa[MT,W.KIN.val_back]at e
def Dw{i:Int}(h0:0<=i){c:Nat}(f:c<48):c∉(nS i).cps.toList:=λh=>by
 have:=Bv h0 c h;lia
structure N30(i:Int):Prop where
 lo:0<=i
 hi:i<10^30
def N30.b{i:Int}(h:N30 i):i<10^300:=GV h.hi (by decide +kernel)
def J6{a:Nat}(h:a<=8):N30 (a:Int):=#[#[],DY (show _<=8 by lia)<|by simp]
def Ui{i:Int}(h:N30 i):(nS i).length<=30:=PyProof.Rows.toString_length_le h.lo (by decide) h.hi
def A9{i:Int}(h:N30 i):1<=(nS i).length:=by
 have:=PD h.lo;exact M3.mpr this
def Wm(c:Nat):Bool:=decide (48<=c)&&decide (c<=57)
def IV:∀c:Nat,c<128->(!(Builtin.Str.occurrences "0123456789" #[(List.toArray [c])] 0 (Str.length "0123456789") 1).isEmpty)=Wm c:=by decide +kernel
def Asc(x:Str):Prop:=x.cps.all (· < 128)=true
def Asc.lt(h:Asc x):∀c∈x.cps.toList,c<128:=by
 unfold Asc at h;rw[<- Array.all_toList,Us]at h;exact λc f=>X8 (h c f)
def PP(h:∀c∈x.cps.toList,c<128):Asc x:=by
 unfold Asc;rw[<- Array.all_toList,Us];exact λc f=>XN (h c f)
noncomputable def ML(x:Str):Bool:=decide (x = "0") || !decide (x.cps.toList.head?=some 48)
noncomputable def Uz(x:Str):Bool:=decide ((1:Int)<=(x.length:Int))&&decide ((x.length:Int)<=30)
noncomputable def Gh(x:Str):Bool:=(Uz x&&x.cps.toList.all Wm)&&ML x
def Zt3:(Str.ofString "0")=#[(List.toArray [48])]:=by decide +kernel
inductive R_isnum:List OT->OT->Prop
 |gen {x:Str}(h:Asc x)(hl:x.length<=10000000):R_isnum [.fz<|.str x] (.fz<|.bool<|Gh x)
def CY:Qo ZaX ZaX (QD R5):=by walk_at"p"
def ZsD(T:Bl mg)(H1:Df K mg "is_number" R5 ZaX):Q2 P w K mg base "is_number" ZaX 1 (QC (K:=K) R_isnum):=by
 refine H1.ev CY (λf ts r h H X C A outer s W=>?_);cases h with
 |@gen x h M=>
  refine#[_,(Qy (QW (PW.pt<|U6 (Vy<|DB WF WF Qw (Zk Oh T.len ZD y0) Qw)<|UE<|Vy<|ZL<|Zk B5 T.all Bs<|Qs (V3 CY ["sign"] [none] (AX g0) λ_=>(YQ EC g0 QP)) Qq) (Qz<|QK YB) QV)
 (Qz<|QK<|Ph (YQ ZJ g0 QP)<|YE<|YQ MN (QG Tt g0 Qw) QP)),?_]
  walk_at"x";have i:x.length<=sizeLine:=by rw[sizeLine_eq];lia
  have n:Gh x=((Uz x&&x.cps.toList.all Wm)&&ML x):=rfl;cases g:Uz x with
  |false=>
   rw[n,g];exact QB (Zb (b:=true) (Wd (b:=true) (c:=true) (Vg (b:=false)<|QM.cast (Zn<|Uk Q0 (Fk (Qp rfl) i) Q0) g)<|by rintro⟨⟩) (λ_=>Zj U2 rfl)<|by rintro⟨⟩)
  |true=>
  have j:x.length<=30:=by
   unfold Uz at g;simp only[W4,decide_eq_true_eq]at g;lia
  have U:1<=x.length:=by
   unfold Uz at g;simp only[W4,decide_eq_true_eq]at g;lia
  rw[n,g];refine QB (Zb (b := !x.cps.toList.all Wm) (Wd (b:=false) (c := !x.cps.toList.all Wm) (Vg (b:=true)<|QM.cast (Zn<|Uk Q0 (Fk (Qp rfl) i) Q0) g) λ_=>Vg (b:=x.cps.toList.all Wm)<|QM.cast (Z3<|B4 (Qr.cast (EvO.fz<|Yy (xs:=x.cps.toList) (enc:=λc=>PyData.str #[(List.toArray [c])]) (h:=λc=>.bool<|Wm c) ?ei ?ln ?el)<|by rw[XA];rfl) rfl)<|by rw[List.all_map];rfl) (λc=>Zj U2 ?_) λc=>Zf ?_)
  case ei=>exact AN (Qp rfl) h
  case ln=>
   exact Xq j (by decide)
  case el=>
   exact λc q Y=>#[_,Zg,Qr.cast (AT (Qp rfl) QT)<|by rw[IV c<|h.lt c q]]
  .have c:x.cps.toList.all Wm=false:=by simpa using c
   rw[c];rfl
  have B:x.cps.toList.all Wm=true:=by simpa using c
  rw[B];obtain⟨c,r,m⟩:∃c r,x.cps.toList=c::r:=by
   have:x.cps.toList.length=x.length:=Array.length_toList;cases z:x.cps.toList with
   |nil=>rw[z]at this;simp at this;lia
   |cons c r=>exact#[c,r,rfl]
  have y:(decide ((#[(List.toArray [c])]:Str) = "0"))=decide (x.cps.toList.head?=some 48):=by
   rw[m];refine decide_eq_decide.mpr #[λe=>?_,λe=>?_]
   .cases e;rfl
   .cases e;exact Zt3.symm
  refine Zj (Qr.cast (ME (Vx (Qp rfl) QT) λ_=>Qr.cast (B2 (OL (Qp rfl) Q0 i<|Z9<|by rw[m];rfl) QT)<|by rw[y]) rfl) ?_;rfl
def MG(ws:Qh):Bool:=ws.all Gh
def Bz{i:Int}(h:0<=i):Asc (nS i):=PP λc f=>by
 have:=Bv h c f;lia
def LC{i:Int}(h:N30 i):Gh (nS i)=true:=by
 have j:=A9 h;have g:=Ui h;have s:Uz (nS i)=true:=by
  unfold Uz;rw[XN (show(1:Int)<=((nS i).length) by lia),XN (show((nS i).length:Int)<=30 by lia)];rfl
 have q:(nS i).cps.toList.all Wm=true:=Us.mpr λc f=>by
  have:=Bv h.lo c f;unfold Wm;rw[XN this.1,XN this.2];rfl
 have n:ML (nS i)=true:=by
  unfold ML;by_cases z:i=0
  .subst z;rfl
  .apply L0 (ZsL (i:=i) (by have:=h.lo;lia));intro c r m f
   grind
 unfold Gh;grind
def R_isnum.mk{i:Int}(h:N30 i):R_isnum [.fz<|.str<|nS i] (.fz<|.bool true):=by
 have:=R_isnum.gen (Bz h.lo) (Xq (Ui h)<|by decide);rwa[LC h]at this
structure Wds(ws:Qh):Prop where
 n:ws.length<=100
 asc:∀w∈ws,Asc w
 len:∀w∈ws,w.length<=10000000
inductive R_arenums:List OT->OT->Prop
 |gen {ws:Qh}(h:Wds ws):R_arenums [.fz<|.list<|ws.map PyData.str] (.fz<|.bool<|MG ws)
def Aa:Qo Zag Zag (QD Se):=by walk_at"p"
def ZnX(T:Bl mg)(H1:Df K mg "are_numbers" Se Zag)(c:Q2 P w K mg base "is_number" ZaX 1 (QC (K:=K) R_isnum)):Q2 P w K mg base "are_numbers" Zag 2 (QC (K:=K) R_arenums):=by
 refine H1.ev Aa (λf ts r h H q m A outer s j=>?_);cases h with
 |@gen i h=>
  refine#[_,(Qz<|QK<|Zk B5 T.all Bs<|Qs (V3 Aa ZaX [none] (VV g0) λ_=>(Q7 c j y0)) Qq),?_];have n:=h.n;refine Zj (Qr.cast (B4 (Qr.cast (EvO.fz<|Yy (xs:=i) (enc:=PyData.str) (h:=λx=>.bool<|Gh x) ?ei #[] ?el)<|by rw[XA];rfl) rfl)<|by rw[List.all_map];rfl) rfl
  case ei=>exact Yi (Qp rfl)
  case el=>
   exact λx g y=>#[_,Zg,QN (Qu (Qp rfl) Q1) (R_isnum.gen (h.asc x g)<|h.len x g)]
def YA(c:Ql):Qd:=c.map λi=>.str (nS i)
def R_arenums.mk(h:∀i∈is,N30 i)(g:is.length<=10):R_arenums [.fz<|.list<|YA is] (.fz<|.bool true):=by
 have:=R_arenums.gen (ws:=is.map nS) #[by rw[Xg];lia,λx c=>?_,λx c=>?_]
 .have e:MG (is.map nS)=true:=Us.mpr λx c=>by
   apply At (Xo.mp c);rintro i f rfl;exact LC (h i f)
  rwa[e,XA]at this
 .obtain⟨i,f,rfl⟩:=Xo.mp c;exact Bz (h i f).lo
 .obtain⟨i,f,rfl⟩:=Xo.mp c;exact Xq (Ui<|h i f) (by decide)
inductive R_numsof:List OT->OT->Prop
 |mk {is:Ql}(h:∀i∈is,N30 i)(hl:is.length<=10):R_numsof [.fz<|.list<|YA is] (.fz<|.tuple<|is.map PyData.int)
def Ab:Qo Zag Zag (QD RY):=by walk_at"p"
def ZqE(T:Bl mg)(H1:Df K mg "numbers_of" RY Zag):Q2 P w K mg base "numbers_of" Zag 1 (QC (K:=K) R_numsof):=by
 refine H1.ev Ab (λf ts r h H q g A outer s m=>?_);cases h with
 |@mk j h n=>
  refine#[_,(Qz<|QK<|Vc DC T.tuple GE<|Qs (V3 Ab ZaX [none] (VV g0) λ_=>(Vc K6 T.int B3 y0)) Qq),Zj (PJ<|EvO.fz<|Yy (enc:=λi=>PyData.str<|nS i) ?ei #[] ?el) rfl]
  case ei=>exact Yi (Qp rfl)
  case el=>
   exact λi c y=>#[_,Zg,KG (Qp rfl) (Ky (h i c).lo (h i c).b) (Xq (Ui<|h i c)<|by decide)]
inductive Row where
 |y (n:Nat)
 |l (l:Ln)
 |g (g:Gs)
noncomputable def gsI(g:Gs):Ql:=[(g.line:Int),(g.first:Int),(g.last:Int),g.want,g.most]
noncomputable def Row.ws:Row->Qd
 |.y n=>[.str "yard",.str<|nS (n:Int)]
 |.l a=>.str "line" :: .str (sD<|upT a.up)::YA a.bs
 |.g a=>.str "guest" :: YA (gsI a)
def Row.d(r:Row):PyData:=.list r.ws
def Row.isL:Row->Bool
 |.l _=>true
 |_=>false
def Row.isG:Row->Bool
 |.g _=>true
 |_=>false
noncomputable def Row.S:Row->Str
 |.y n=>Jn "yard" [.int (n:Int)]
 |.l a=>V7 a
 |.g a=>Yn a
noncomputable def Row.strs:Row->Qh
 |.y n=>["yard",nS (n:Int)]
 |.l a => "line" :: sD (upT a.up)::a.bs.map nS
 |.g a => "guest" :: (gsI a).map nS
def Row.strs_ws(r:Row):r.strs.map PyData.str=r.ws:=by
 cases r<;>simp[Row.strs,Row.ws,YA]
structure Ln30(l:Ln):Prop where
 up:∀a,l.up=some a->a<=8
 l1:1<=l.bs.length
 ln:l.bs.length<=8
 bs:∀b∈l.bs,N30 b
structure Gs30(g:Gs):Prop where
 n:∀i∈gsI g,N30 i
def Row.Ok:Row->Prop
 |.y n=>n<=8
 |.l a=>Ln30 a
 |.g a=>Gs30 a
noncomputable def ZS(y:Yd)(c:List Gs):List Row:=.y y.T::(y.ls.map Row.l++c.map Row.g)
def U7(y:Yd)(c:List Gs):PyData:=.list ((ZS y c).map Row.d)
def TJ{i:Int}(h:0<=i):nS i ≠ "-" := λe=>by
 have L:=Bv h 45;rw[e]at L;have:=L (by decide +kernel);lia
def Fd{c:Type}(xs:List c)(k:Nat)(f:k<=xs.length):cut xs (some ((k:Nat):Int)) none=xs.drop k:=by
 unfold cut;rw[HT.sIx_nat,Nat.min_eq_left f];show(xs.drop k).take (xs.length-k)=_;rw[<- List.length_drop,W3]
def SX{c:Type}(a b:c)(xs:List c):cut (a::b::xs) (some (2:Int)) none=xs:=Fd _ 2 (by simp)
def UX{c:Type}(a:c)(xs:List c):cut (a::xs) (some (1:Int)) none=xs:=Fd _ 1 (by simp)
inductive R_isyardrow:List OT->OT->Prop
 |mk {n:Nat}(h:n<=8):R_isyardrow [.fz (Row.y n).d] (.fz<|.bool true)
def Zi3:Qo Zag Zag (QD RT):=by walk_at"p"
def Zlw(T:Bl mg)(H1:Df K mg "is_yard_row" RT Zag)(g:Q2 P w K mg base "is_number" ZaX 1 (QC (K:=K) R_isnum)):Q2 P w K mg base "is_yard_row" Zag 2 (QC (K:=K) R_isyardrow):=by
 refine H1.ev Zi3 (λf ts r h H m j A outer s i=>?_);cases h with
 |@mk n h=>
  refine#[_,(Qz<|QK<|Yo (YQ ZJ (QG QH g0 Qw) QP)<|Yo (YQ ZJ (Zk ZH T.len ZD y0) Qw)<|YE<|Q7 g i<|Qs (QG QH g0 Qw) Qq),Zj (Qr.cast (VE (c:=true) (Qr.cast (Vx (Z2 (Qp rfl) Q0 rfl) QT) rfl) λ_=>VE (WS (VT (ds:=(Row.y n).ws)<|Qp rfl) Q0) λ_=>QN (Qu (Z2 (Qp rfl) Q0 rfl) Q1)<|R_isnum.mk<|J6 h) rfl) rfl]
inductive R_islinerow:List OT->OT->Prop
 |mk {r:Row}(h:r.Ok):R_islinerow [.fz r.d] (.fz<|.bool r.isL)
def Zi5:Qo Zag Zag (QD Sg):=by walk_at"p"
def Zl5(T:Bl mg)(H1:Df K mg "is_line_row" Sg Zag)(q:Q2 P w K mg base "is_number" ZaX 1 (QC (K:=K) R_isnum))(B:Q2 P w K mg base "are_numbers" Zag 2 (QC (K:=K) R_arenums)):Q2 P w K mg base "is_line_row" Zag 3 (QC (K:=K) R_islinerow):=by
 refine H1.ev Zi5 (λf ts r h H X M A outer s C=>?_);cases h with
 |@mk r h=>
  refine#[_,(Qy (QW (PW.pt<|U6 (Zo MN (QG QH g0 Qw) QP)<|UE<|Zo Jt (Zk ZH T.len ZD y0) Qw) (Qz<|QK YB) QV)
 (Qz<|QK<|Yo (Ph (YQ ZJ (QG QH g0 Qw) QP)<|YE<|Q7 q C<|Qs (QG QH g0 Qw) Qq)<|YE<|Q7 B C<|Qs (Jz Jy g0 (J4 Qw) J1) Qq)),?_]
  try dsimp only[ZV]
  cases r with
  |y n=>
   refine QB (Zb (b:=true) (Wd (b:=true) (c:=true) (QM.cast (Zn<|B2 (Z2 (Qp rfl) Q0 rfl) QT)<|by decide +kernel)<|by rintro⟨⟩) (λ_=>Zj U2 rfl)<|by rintro⟨⟩)
  |g g=>
   refine QB (Zb (b:=true) (Wd (b:=true) (c:=true) (QM.cast (Zn<|B2 (Z2 (Qp rfl) Q0<|Z9 rfl) QT)<|by decide +kernel)<|by rintro⟨⟩) (λ_=>Zj U2 rfl)<|by rintro⟨⟩)
  |l l=>
   have L:=h.l1;have W:=h.ln;have U:((Row.l l).ws).length=l.bs.length+2:=by simp[Row.ws,YA]
   refine QB (Zb (b:=false) (Wd (b:=false) (QM.cast (Zn<|B2 (Z2 (Qp rfl) Q0<|Z9 rfl) QT)<|by decide +kernel) λ_=>QM.cast (Zn<|V8 (VT<|Qp rfl) Q0)<|XJ<|#[]) (by rintro⟨⟩) λ_=>Zf (Zj (Qr.cast (VE (b:=true) ?fst λ_=>QN (Qu (Qr.cast (EvO.fz<|WI (Qp rfl) (WV Q0) WU)<|by rw[show(Row.l l).ws=.str "line" :: .str (sD<|upT l.up)::YA l.bs from rfl,SX]) Q1)<|R_arenums.mk h.bs<|#[]) rfl) rfl));have m:∀{Z:ZbI},Z[0]?=some (zf (Row.l l).d)->Qr K (tOp (rIx K) (Q8 0)<|tC<|.int 1) Z _:=λe=>Z2 (Qp e) Q0 (Z9 rfl)
   cases j:l.up with
   |none=>
    have i:sD (upT l.up) = "-" := by rw[j];rfl
    exact Qr.cast (ME (b:=true) (c:=true) (Qr.cast (Vx (m rfl) QT)<|by rw[XN i])<|by rintro⟨⟩) rfl
   |some a=>
    have i:sD (upT l.up)=nS (a):=by rw[j];rfl
    exact Qr.cast (ME (Qr.cast (Vx (m rfl) QT)<|by rw[i,XJ<|TJ<|#[]]) λ_=>QN (Qu (Qr.cast (m rfl)<|by rw[i]) Q1)<|R_isnum.mk<|J6<|h.up a j) rfl
inductive R_isguestrow:List OT->OT->Prop
 |mk {r:Row}(h:r.Ok):R_isguestrow [.fz r.d] (.fz<|.bool r.isG)
def Zhv:Qo Zag Zag (QD Sn):=by walk_at"p"
def Zjc(T:Bl mg)(H1:Df K mg "is_guest_row" Sn Zag)(i:Q2 P w K mg base "are_numbers" Zag 2 (QC (K:=K) R_arenums)):Q2 P w K mg base "is_guest_row" Zag 3 (QC (K:=K) R_isguestrow):=by
 refine H1.ev Zhv (λf ts r h H q m A outer s j=>?_);cases h with
 |@mk r h=>
  refine#[_,(Qz<|QK<|Yo (YQ ZJ (QG QH g0 Qw) QP)<|Yo (YQ ZJ (Zk ZH T.len ZD y0) Qw)<|YE<|Q7 i j<|Qs (Jz Jy g0 (J4 Qw) J1) Qq),?_]
  try dsimp only[ZV]
  cases r with
  |y n=>
   exact Zj (Qr.cast (VE (b:=false) (c:=true) (Qr.cast (Vx (Z2 (Qp rfl) Q0 rfl) QT)<|XS PyData.bool rfl)<|by rintro⟨⟩) rfl) rfl
  |l l=>
   exact Zj (Qr.cast (VE (b:=false) (c:=true) (Qr.cast (Vx (Z2 (Qp rfl) Q0<|Z9 rfl) QT)<|XS PyData.bool rfl)<|by rintro⟨⟩) rfl) rfl
  |g g=>
   exact Zj (Qr.cast (VE (b:=true) (Qr.cast (Vx (Z2 (Qp rfl) Q0 rfl) QT)<|XS PyData.bool rfl) λ_=>VE (b:=true) (WS (VT (ds:=(Row.g g).ws)<|Qp rfl) Q0) λ_=>QN (Qu (Qr.cast (EvO.fz<|WI (Qp rfl) (WV Q0) WU) rfl) Q1)<|R_arenums.mk h.n<|by simp[gsI]) rfl) rfl
def Er:(Str.ofString "\n")=#[(List.toArray [10])]:=by decide +kernel
theorem Cf{c:Nat}{sep:Str}(hs:c∉sep.cps.toList):∀(xs:Qh) (a:Str),c∉a.cps.toList->(∀x∈xs,c∉x.cps.toList)->c∉(Y6 sep a xs).cps.toList
 |[],a,f,_=>f
 |x::xs,a,f,g=>by
  refine Cf hs xs _ ?_ λz h=>g z (Xf _ h);rw[BE,BE];simp only[Xz,not_or];exact#[#[f,hs],g x Xb]
def Row.S_glue(r:Row):∃a xs,r.strs=a::xs/\r.S=Y6 " " a xs:=by
 cases r with
 |y n=>exact#[_,_,rfl,rfl]
 |l a=>
  refine#[_,_,rfl,?_];show Y6 " " "line" _=_;unfold lnD;rw[Xw,XA];rfl
 |g a=>exact#[_,_,rfl,rfl]
def Row.free{r:Row}(h:r.Ok){c:Nat}(s:c=10\/c=32):∀x∈r.strs,c∉x.cps.toList:=by
 have j:c<48:=#[]
 have f:∀z:Str,(10∉z.cps.toList/\32∉z.cps.toList)->c∉z.cps.toList:=λz q=>by
  rcases s with rfl|rfl
  .exact q.1
  .exact q.2
 cases r with
 |y n=>
  intro x i;simp only[Row.strs,Xd,XW,or_false]at i;rcases i with rfl|rfl
  .exact f _ (by decide +kernel)
  .exact Dw #[] j
 |l a=>
  intro x i;simp only[Row.strs,Xd]at i;rcases i with rfl|rfl|i
  .exact f _ (by decide +kernel)
  .cases e:a.up with
   |none=>exact f _ (by decide +kernel)
   |some b=>exact Dw #[] j
  .apply At (Xo.mp i);rintro b m rfl;exact Dw (h.bs b m).lo j
 |g a=>
  intro x i;simp only[Row.strs,Xd]at i;rcases i with rfl|i
  .exact f _ (by decide +kernel)
  .apply At (Xo.mp i);rintro b m rfl;exact Dw (h.n b m).lo j
def Row.split{r:Row}(h:r.Ok):Txt.split r.S " "=r.strs:=by
 obtain⟨a,xs,f,g⟩:=r.S_glue;have c:=Row.free h (.inr rfl);rw[f]at c;rw[g,f,<- Up];exact CF (by simp) c
def Row.line{r:Row}(h:r.Ok):10∉r.S.cps.toList:=by
 apply L0 r.S_glue;intro a xs i g;have c:=Row.free h (.inl rfl);rw[i]at c;rw[g];exact Cf (by decide +kernel) xs a (c a Xb) λx f=>c x (Xf _ f)
structure TxtOk(y:Yd)(gs:List Gs):Prop where
 ok:y.Ok
 y30:∀l∈y.ls,∀b∈l.bs,b<10^30
 hg:∀g∈gs,g.Ok y
 g30:∀g∈gs,g.want<10^30/\g.most<10^30
 n8:gs.length<=8
def Gp{y:Yd}(c:y.Ok):YdT y:=by
 refine#[c.t8,c.l5,λl f=>?_];obtain⟨i,g,rfl⟩:=List.getElem_of_mem f;have n:=c.l5;refine#[λa e=>?_,by rw[c.bl _ f];exact c.t8,λb j=>c.bb _ f b j];have h:Zq y i=some a:=by
  unfold Zq;rw[XT g];exact e
 by_cases m:i=0
 .subst m;rw[c.up0]at h;cases h
 .apply At (c.ups i #[] g);intro b L q;lia
def MK{y:Yd}{g:Gs}(c:y.Ok)(h:g.Ok y):GsT g:=by
 have:=c.t8;have:=c.l5;have:=h.ln;have:=h.fl;have:=h.lt;have:=h.w1;have:=h.m1;exact#[#[],#[],#[],#[],h.w2,#[],h.m2]
def TxtOk.ln{y:Yd}(T:TxtOk y gs)(c:l∈y.ls):Ln30 l:=
 #[((Gp T.ok).ls l c).up,by rw[T.ok.bl l c];exact T.ok.t1,by rw[T.ok.bl l c];exact T.ok.t8,λb f=>#[(T.ok.bb l c b f).1,T.y30 l c b f]]
def TxtOk.gs30{y:Yd}(T:TxtOk y gs){g:Gs}(hg:g∈gs):Gs30 g:=#[λi c=>by
 have t:=MK T.ok (T.hg g hg);simp only[gsI,Xd,XW,or_false]at c;rcases c with rfl|rfl|rfl|rfl|rfl
 .exact J6 t.line
 .exact J6 t.first
 .exact J6 t.last
 .exact#[t.w0,(T.g30 g hg).1]
 .exact#[t.m0,(T.g30 g hg).2]]
def TxtOk.rows{y:Yd}(T:TxtOk y gs):∀r∈ZS y gs,r.Ok:=λr c=>by
 rcases Xd.mp c with rfl|c
 .exact T.ok.t8
 .rcases Xz.mp c with c|c
  .obtain⟨l,f,rfl⟩:=Xo.mp c;exact T.ln f
  .obtain⟨g,h,rfl⟩:=Xo.mp c;exact T.gs30 h
def NT(y:Yd)(c:List Gs):(ZS y c).length=1+y.ls.length+c.length:=by simp[ZS];lia
def SO{y:Yd}(e:(ZS y gs)[k]?=some r):(k=0/\r=.y y.T)\/(1<=k/\k<=y.ls.length/\r.isL=true/\r.isG=false)\/(y.ls.length<k/\r.isG=true/\r.isL=false):=by
 cases k with
 |zero=>
  left;refine#[rfl,?_];have:=e;injection this with this;exact this.symm
 |succ k=>
  right;have e:(y.ls.map Row.l++gs.map Row.g)[k]?=some r:=e
  by_cases h:k<y.ls.length
  .left;rw[GU<|by simpa using h,Xv]at e;cases z:y.ls[k]? with
   |none=>rw[z]at e;cases e
   |some l=>
    rw[z]at e;cases e;exact#[#[],#[],rfl,rfl]
  .right;rw[Mr<|by simpa using h,Xv]at e;cases z:gs[k-(y.ls.map Row.l).length]? with
   |none=>rw[z]at e;cases e
   |some l=>
    rw[z]at e;cases e;exact#[#[],rfl,rfl]
inductive R_isrowat:List OT->OT->Prop
 |mk {y:Yd}{gs:List Gs}{k:Nat}(T:TxtOk y gs)(hk:k<(ZS y gs).length):R_isrowat [.fz<|U7 y gs,.fz<|.int (k:Int)] (.fz<|.bool true)
def ZkW:Qo ZaR ZaR (QD R7):=by walk_at"p"
def ZoI(T:Bl mg)(H1:Df K mg "is_row_at" R7 ZaR)(b:Q2 P w K mg base "is_yard_row" Zag 2 (QC (K:=K) R_isyardrow))(a:Q2 P w K mg base "is_line_row" Zag 3 (QC (K:=K) R_islinerow))(C:Q2 P w K mg base "is_guest_row" Zag 3 (QC (K:=K) R_isguestrow)):Q2 P w K mg base "is_row_at" ZaR 4 (QC (K:=K) R_isrowat):=by
 refine H1.ev ZkW (λf ts r h H E v A outer s M=>?_);cases h with
 |@mk y m k W e=>
  refine#[_,(Qy (QW (Zo ZJ vb1 Qw) (Qz<|QK<|Q7 b M<|Qs (QG QH g0 vb1) Qq) QV)
 (Qy (QW (ZL<|Q7 a M<|Qs (QG QH g0 vb1) Qq) (Qz<|QK<|Tp<|Q7 C M<|Qs (QG QH g0<|QX YD vb1 Qw) Qq) QV)
 (Qz<|QK<|Yo (YQ YL vb1 Qw)<|YE<|Q7 C M<|Qs (QG QH g0 vb1) Qq))),?_]
  try dsimp only[ZV]
  have X:=XT e;have g:=W.rows _ (X6 e);generalize (ZS y m)[k]=r at X g;have q:=SO X;have D:=W.ok.l1;have U:∀{Z:ZbI},Z[0]?=some (zf<|U7 y m)->Z[1]?=some (zf<|.int<|k)->Qr K (tOp (rIx K) (Q8 0)<|Q8 1) Z r.d:=λu t=>Z2 (Qp u) (Qp t) (Z9 (by rw[Xv,X];rfl))
  by_cases z:k=0
  .have l:r=.y y.T:=by
    lia
   subst l;exact QB (Zb (QM.cast (Zn<|WS (Qp rfl) Q0)<|XN<|#[]) (λ_=>Zj (QN (Qu (U rfl rfl) Q1)<|R_isyardrow.mk W.ok.t8) rfl)<|by rintro⟨⟩)
  .refine QB (Zb (QM.cast (Zn<|WS (Qp rfl) Q0)<|XJ<|#[]) (by rintro⟨⟩) λ_=>Zf ?_);have B:k-1<(ZS y m).length:=#[]
   have i:=XT B;have n:=W.rows _ (X6 B);generalize (ZS y m)[k-1]=d at i n;have q1:=SO i;have Y:atI ((ZS y m).map Row.d) ((k)-1)=some d.d:=by
    have:(k:Int)-1=((k-1:Nat)):=#[]
    rw[this];exact Z9 (by rw[Xv,i];rfl)
   by_cases j:r.isL=true
   .have p:d.isG=false:=by
     rcases q with q|q|q
     .lia
     .rcases q1 with q1|q1|q1
      .rw[q1.2];rfl
      .exact q1.2.2.2
      .lia
     .rw[q.2.2]at j;cases j
    exact QB (Zb (QM.cast (Z3<|QN (Qu (U rfl rfl) Q1)<|R_islinerow.mk g) j) (λ_=>Zj (Qr.cast (HZ<|Qr.cast (QN (Qu (Z2 (Qp rfl) (ZB (Qp rfl) Q0) Y) Q1)<|R_isguestrow.mk n)<|by rw[p]) rfl) rfl)<|by rintro⟨⟩)
   .have j:=by simpa using j
    have o:r.isG=true/\1<k:=by
     lia
    exact QB (Zb (QM.cast (Z3<|QN (Qu (U rfl rfl) Q1)<|R_islinerow.mk g) j) (by rintro⟨⟩) λ_=>Zf<|Zj (Qr.cast (VE (Qr.cast (V8 (Qp rfl) Q0)<|XS PyData.bool<|XN<|#[]) λ_=>Qr.cast (QN (Qu (U rfl rfl) Q1)<|R_isguestrow.mk g)<|by rw[o.1]) rfl) rfl)
def Row.S_y(n:Nat):(Row.y n).S=Jn "yard" [.int (n:Int)]:=rfl
def Row.S_l(a:Ln):(Row.l a).S=V7 a:=rfl
def Row.S_g(a:Gs):(Row.g a).S=Yn a:=rfl
def Zkj(y:Yd)(c:List Gs):Wy y c=Str.join #[(List.toArray [10])] ((ZS y c).map Row.S):=by
 have e:(ZS y c).map Row.S=Ze1 y::(y.ls.map V7++c.map Yn):=by
  unfold ZS Ze1;simp only[Xw,Xx,XA,Function.comp_def,Row.S_y,Row.S_l,Row.S_g]
 rw[e,Up];exact XS (λz=>Y6 z _ _) Er
def Zjh{y:Yd}(T:TxtOk y gs):Txt.split (Wy y gs) "\n"=(ZS y gs).map Row.S:=by
 rw[Zkj];refine CF (by simp[ZS]) λp f=>?_;apply At (Xo.mp f);rintro r c rfl;exact Row.line (T.rows r c)
def ZmD{y:Yd}(T:TxtOk y gs):(Wy y gs).length<=50000:=by
 have L:=D7 (sep := "\n") (y.ls.map V7++gs.map Yn) (Ze1 y) λx c=>by
  rcases Xz.mp c with c|c
  .apply At (Xo.mp c);rintro l f rfl;exact NM ((Gp T.ok).ls l f)
  .apply At (Xo.mp c);rintro g f rfl;exact Rv (MK T.ok<|T.hg g f)
 have i:=N7 (Gp T.ok);have h:(y.ls.map V7++gs.map Yn).length*(Str.length "\n" + 3100)<=13*3101:=Nat.mul_le_mul (by
  have:=T.ok.l5;have:=T.n8;simp;lia) (by decide)
 unfold Wy;lia
def Row.S_len{y:Yd}(T:TxtOk y gs):∀r∈ZS y gs,r.S.length<=3100:=λr c=>by
 rcases Xd.mp c with rfl|c
 .exact N7 (Gp T.ok)
 .rcases Xz.mp c with c|c
  .apply At (Xo.mp c);rintro l f rfl;exact NM ((Gp T.ok).ls l f)
  .apply At (Xo.mp c);rintro g h rfl;exact Rv (MK T.ok<|T.hg g h)
inductive R_rowsof:List OT->OT->Prop
 |mk {y:Yd}{gs:List Gs}(T:TxtOk y gs):R_rowsof [.fz<|.str<|Wy y gs] (.fz<|U7 y gs)
def Rq:Qo ["text","rows","place"] ["text"] (QD NL):=by walk_at"p"
def ZrJ(T:Bl mg)(H1:Df K mg "rows_of" NL ["text"])(q:Q2 P w K mg base "is_row_at" ZaR 4 (QC (K:=K) R_isrowat)):Q2 P w K mg base "rows_of" ["text"] 5 (QC (K:=K) R_rowsof):=by
 refine H1.ev Rq (λf ts r h H u a A outer s U=>?_);cases h with
 |@mk y g j=>
  refine#[_,(Qy (QW (Vy<|ZL<|Zk Ew T.isi JV<|av 0<|Qs (UL (v:=.ty "str") rfl T.str Yf rfl) Qq) Vd QV)
 (Qy (Me 1 Rq ["row"] [none] (VV<|ZK PySem.F.plainAttrs_str PySem.F.slot_str_split PySem.F.type_str_split D9 g0<|Qs QP Qq) λ_=>(ZK PySem.F.plainAttrs_str PySem.F.slot_str_split PySem.F.type_str_split D9 g0<|Qs QP Qq))
 (Qy (Va zN rfl (by exact(VI rfl T.range<|Qs (Zk ZH T.len ZD va1) Qq)) (Zy 2 Rq.nd)<|by exact(Qz<|QW (Vy<|ZL<|Q7 q U<|av 1 y2) Vd QV))
 (Qy (QW (Zo Jt (Zk ZH T.len ZD va1) Qw) Vd QV)
 (Qz<|QK vb1))))),?_]
  show QJ K _ [_,_,_] _
  walk_at"x";have t:=j.ok.l1;have p:=j.ok.l5;have o:=j.n8;have C:=NT y g;have e:=ZmD j;have l:=sizeLine_eq;refine QB (Zb (b:=false) (Vg<|Z3<|AZ<|Qp rfl) (by rintro⟨⟩) λ_=>Zf (QB (Vi (EvO.cast (Tg (xs:=(ZS y g).map Row.S) (enc:=PyData.str) (h:=λs=>(Txt.split s " ").map PyData.str) ?ei (by simp;lia) ?el) (show _=OT.oll ((ZS y g).map Row.ws) from ?eq)) ?_)))
  case ei=>exact EvI.cast (Yi<|EvO.fz<|D8 (Qp rfl) QT (by decide +kernel)<|#[]) (by rw[Zjh j])
  case el=>
   intro x M c;apply At (Xo.mp M);rintro r n rfl;have:=Row.S_len j r n;exact#[_,Zg,D8 (Qp rfl) QT (by decide +kernel) #[]]
  case eq=>
   congr 1
   rw[XA];refine W6 λr n=>?_
   show(Txt.split r.S " ").map PyData.str=r.ws
   rw[Row.split<|j.rows r n,Row.strs_ws]
  refine E8 1 rfl rfl ?_;have Z:(PyData.list<|((ZS y g).map Row.ws).map PyData.list)=U7 y g:=by
   rw[XA];rfl
  rw[Z];have m:((ZS y g).map Row.d).length=1+y.ls.length+g.length:=by rw[Xg,C]
  refine QB (Ud (ds:=ZM 0 (ZS y g).length) (λi=>[zf<|.str<|Wy y g,zf<|U7 y g,none]) ?ei2 #[rfl,rfl,trivial] ?st2 ?fin2)
  case ei2=>exact EvI.cast (VS (Qu (VT<|Qp rfl) Q1) (by rw[ m];lia)<|by rw[ m];lia) (YI rfl (by simp))
  case st2=>
   intro k d Y;obtain⟨W,rfl⟩:=Yq Y;rw[Ys];exact#[_,Zg,Zb (b:=false) (Vg<|Z3<|QN (Qu (Qp rfl)<|Qu (Qp rfl) Q1)<|R_isrowat.mk j W) (by rintro⟨⟩) (λ_=>Zf #[rfl,rfl,trivial])]
  case fin2=>
   exact λB X=>JU X<|QB (Zb (b:=false) (QM.cast (Zn<|V8 (VT<|Qp rfl) Q0)<|by rw[m];exact XJ<|#[]) (by rintro⟨⟩) λ_=>Zf (Zj (Qp rfl) rfl))
inductive R_linetold:List OT->OT->Prop
 |mk {l:Ln}(h:Ln30 l):R_linetold [.fz (Row.l l).d] (.fz<|V4 l)
def CZ:Qo ["words","above"] Zag (QD R1):=by walk_at"p"
def Zmj(T:Bl mg)(H1:Df K mg "line_told" R1 Zag)(n:Q2 P w K mg base "numbers_of" Zag 1 (QC (K:=K) R_numsof)):Q2 P w K mg base "line_told" Zag 2 (QC (K:=K) R_linetold):=by
 refine H1.ev CZ (λf ts r h H C y A outer s q=>?_);cases h with
 |@mk l h=>
  refine#[_,(Qy (QR 1 CZ.nd<|Fj (Zo ZJ (QG QH g0 Qw) QP) U8<|Vc K6 T.int B3<|Qs (QG QH g0 Qw) Qq)
 (Qz<|QK<|YN<|av 1<|Qs (Q7 n q<|Qs (Jz Jy g0 (J4 Qw) J1) Qq) Qq)),?_]
  try dsimp only[ZV]
  have B:=h.ln;have m:∀{Z:ZbI},Z[0]?=some (zf (Row.l l).d)->Qr K (tOp (rIx K) (Q8 0)<|tC<|.int 1) Z _:=λe=>Z2 (Qp e) Q0 (Z9 rfl);refine QB (Z6 (d:=upD l.up) ?ab ?_)
  case ab=>
   cases j:l.up with
   |none=>
    have i:sD (upT l.up) = "-" := by rw[j];rfl
    exact PR (QM.cast (Zn<|Vx (m rfl) QT)<|XN i) (λ_=>Wq) (by rintro⟨⟩)
   |some a=>
    have i:sD (upT l.up)=nS (a):=by rw[j];rfl
    have g:=J6 (h.up a j);exact PR (b:=false) (QM.cast (Zn<|Vx (m rfl) QT)<|by rw[i];exact XJ<|TJ<|#[]) (by rintro⟨⟩) (λ_=>KG (Qr.cast (m rfl)<|by rw[i]) (Ky g.lo g.b)<|Xq (Ui g)<|by decide)
  refine Zj (YM (QZ (Qp rfl)<|QZ (QN (Qu (Qr.cast (EvO.fz<|WI (Qp rfl) (WV Q0) WU)<|by rw[show(Row.l l).ws=.str "line" :: .str _::YA l.bs from rfl,SX]) Q1)<|R_numsof.mk h.bs<|#[]) Z5)<|Nat.le_of_ble_eq_true rfl) rfl
def Row.ln:Row->PyData
 |.l a=>V4 a
 |_=>.none
def Row.gu:Row->PyData
 |.g a=>QQ a
 |_=>.none
def Zo6(y:Yd)(f:List Gs):((ZS y f).filter Row.isL).map Row.ln=y.ls.map V4:=by
 unfold ZS;rw[List.filter_cons_of_neg<|by simp[Row.isL],GZ,M0.mpr (λr c=>by
  apply At (Xo.mp c);rintro l _ rfl;rfl),List.filter_eq_nil_iff.mpr (λr c=>by
  apply At (Xo.mp c);rintro l _ rfl;simp[Row.isL]),Xr,XA]
 exact W6 λa _=>rfl
def ZlT(y:Yd)(f:List Gs):((ZS y f).filter Row.isG).map Row.gu=f.map QQ:=by
 unfold ZS;rw[List.filter_cons_of_neg<|by simp[Row.isG],GZ,List.filter_eq_nil_iff.mpr (λr c=>by
  apply At (Xo.mp c);rintro l _ rfl;simp[Row.isG]),M0.mpr (λr c=>by
  apply At (Xo.mp c);rintro l _ rfl;rfl),Mt,XA]
 exact W6 λa _=>rfl
inductive R_yardtold:List OT->OT->Prop
 |mk {y:Yd}{gs:List Gs}(T:TxtOk y gs):R_yardtold [.fz<|U7 y gs] (.fz<|Za y)
def RM:Qo ["rows","lines","yard"] ["rows"] (QD RF):=by walk_at"p"
def ZlL(T:Bl mg)(H1:Df K mg "yard_told" RF ["rows"])(M:Q2 P w K mg base "is_line_row" Zag 3 (QC (K:=K) R_islinerow))(C:Q2 P w K mg base "line_told" Zag 2 (QC (K:=K) R_linetold))(B:Q2 P w K mg base "is_yard" ZaU 7 (QC (K:=K) R_isyard)):Q2 P w K mg base "yard_told" ["rows"] 8 (QC (K:=K) R_yardtold):=by
 refine H1.ev RM (λf ts r h H k Y A outer s q=>?_);cases h with
 |@mk y X j=>
  refine#[_,(Qy (Me 1 RM Zag [none] (VV g0) (λ_=>(Q7 C q y0)) λ_=>(Uc<|ZL<|Q7 M q y0))
 (Qy (QR 2 RM.nd<|YN<|Qs (Vc K6 T.int B3<|Qs (QG QH (QG QH g0 Qw) Qw) Qq)<|Qs (Vc DC T.tuple GE va1) Qq)
 (Qy (QW (Vy<|ZL<|Q7 B q y2) Vd QV)
 (Qz<|QK va2)))),?_]
  try dsimp only[ZV]
  have Z:=NT y X;have e:=j.ok.l5;have b:=j.n8;refine QB (Vi (EvO.cast (JY (enc:=Row.d) ?ei #[] ?el)<|XS OT.ol<|Zo6 y X) ?_)
  case ei=>exact Yi (Qp rfl)
  case el=>
   intro r m c;have U:=j.rows r m;refine#[_,Zg,Z3<|QN (Qu (Qp rfl) Q1)<|R_islinerow.mk U,λW=>?_];cases r with
   |y n=>cases W
   |g a=>cases W
   |l a=>exact QN (Qu (Qp rfl) Q1) (R_linetold.mk U)
  have i:=J6 j.ok.t8;exact QB (Z6 (d:=Za y) (YM (QZ (KG (Z2 (Z2 (Qp rfl) Q0<|Z9 rfl) Q0 rfl) (Ky i.lo i.b)<|Xq (Ui i)<|by decide)<|QZ (Dd rfl) Z5)<|Nat.le_of_ble_eq_true rfl) (QB (Zb (Vg<|Z3<|QN (Qu (Qp rfl) Q1)<|R_isyard.mk #[j.ok,j.y30]) (by rintro⟨⟩) λ_=>Zf (Zj (Qp rfl) rfl))))
inductive R_gueststold:List OT->OT->Prop
 |mk {y:Yd}{gs:List Gs}(T:TxtOk y gs):R_gueststold [.fz<|U7 y gs,.fz<|Za y] (.ol<|gs.map QQ)
def Si:Qo ["rows","yard","guests"] ["rows","yard"] (QD RO):=by walk_at"p"
def Zjf(T:Bl mg)(H1:Df K mg "guests_told" RO ["rows","yard"])(M:Q2 P w K mg base "is_guest_row" Zag 3 (QC (K:=K) R_isguestrow))(W:Q2 P w K mg base "numbers_of" Zag 1 (QC (K:=K) R_numsof))(U:Q2 P w K mg base "is_guest" ZaG 4 (QC (K:=K) R_isguest)):Q2 P w K mg base "guests_told" ["rows","yard"] 5 (QC (K:=K) R_gueststold):=by
 refine H1.ev Si (λf ts r h H k Y A outer s B=>?_);cases h with
 |@mk y j i=>
  refine#[_,(Qy (Me 2 Si Zag [none] (VV g0) (λ_=>(Q7 W B<|Qs (Jz Jy g0 (J4 Qw) J1) Qq)) λ_=>(Uc<|ZL<|Q7 M B y0))
 (Qy (QW (Zo YL (Zk ZH T.len ZD y2) Qw) Vd QV)
 (Qy (QW (Vy<|ZL<|Zk B5 T.all Bs<|Qs (V3 Si ["guest","yard"] [none,some 1] (VV va2) λ_=>(Q7 U B<|av 1 y0)) Qq) Vd QV)
 (Qz<|QK va2)))),?_]
  show QJ K _ [_,_,_] _
  walk_at"x";have Z:=NT y j;have e:=i.ok.l5;have d:=i.n8;refine QB (Vi (EvO.cast (JY (xs:=ZS y j) (enc:=Row.d) (h:=Row.gu) (p:=Row.isG) ?ei #[] ?el)<|XS OT.ol<|ZlT y j) ?_)
  case ei=>exact Yi (Qp rfl)
  case el=>
   intro r q c;have m:=i.rows r q;refine#[_,Zg,Z3<|QN (Qu (Qp rfl) Q1)<|R_isguestrow.mk m,λX=>?_];cases r with
   |y n=>cases X
   |l a=>cases X
   |g a=>
    have m:Gs30 a:=m;exact QN (ts:=[.fz<|.list<|YA<|gsI a]) (Qu (Qr.cast (EvO.fz<|WI (ds:=(Row.g a).ws) (Qp rfl) (WV Q0) WU)<|by rw[show(Row.g a).ws=.str "guest" :: YA (gsI a) from rfl,UX]) Q1) (R_numsof.mk m.n<|by simp[gsI])
  walk_at"d";refine QB (Zb (b:=false) (QM.cast (Zn<|V8 (PF rfl) Q0)<|by rw[Xg];exact XJ<|#[]) (by rintro⟨⟩) λ_=>Zf (QB (Zb (b:=false) (Vg (b:=true)<|Np 2 rfl rfl (QM.cast (Z3<|B4 (bs:=j.map λ_=>true) (Qr.cast (EvO.fz<|Yy (xs:=j) (enc:=QQ) (h:=λ_=>.bool true) ?ei2 #[] ?el2)<|by rw[XA];rfl) rfl)<|by simp)) (by rintro⟨⟩) λ_=>Zf ?_)))
  case ei2=>exact Yi (Qp rfl)
  case el2=>
   exact λg C c=>#[_,Zg,QN (Qu (Qp rfl)<|Qu (Qp rfl) Q1) (R_isguest.mk #[i.hg g C,(i.g30 g C).1,(i.g30 g C).2])]
  exact UJ rfl rfl
inductive R_read:List OT->OT->Prop
 |mk {y:Yd}{gs:List Gs}(T:TxtOk y gs):R_read [.fz<|.str<|Wy y gs] (.fz<|.tuple [Za y,.list<|gs.map QQ])
def K7:Qo ["text","rows","yard"] ["text"] (QD K0):=by walk_at"p"
def On(T:Bl mg)(H1:Df K mg "read" K0 ["text"])(j:Q2 P w K mg base "rows_of" ["text"] 5 (QC (K:=K) R_rowsof))(i:Q2 P w K mg base "yard_told" ["rows"] 8 (QC (K:=K) R_yardtold))(g:Q2 P w K mg base "guests_told" ["rows","yard"] 5 (QC (K:=K) R_gueststold)):Q2 P w K mg base "read" ["text"] 9 (QC (K:=K) R_read):=by
 refine H1.ev K7 (λf ts r h H B n A outer s c=>?_);cases h with
 |@mk y q m=>
  refine#[_,(Qy (QR 1 K7.nd<|Q7 j c y0)
 (Qy (QR 2 K7.nd<|Q7 i c va1)
 (Qz<|QK<|YN<|av 2<|Qs (Q7 g c<|av 1 y2) Qq))),?_]
  exact QB (Z6 (QN (Qu (Qp rfl) Q1)<|R_rowsof.mk m) (QB (Z6 (QN (Qu (Qp rfl) Q1)<|R_yardtold.mk m) (Zj (YM (QZ (Qp rfl)<|QZ (EvO.fz<|BC (Qu (Qp rfl)<|Qu (Qp rfl) Q1)<|R_gueststold.mk m) Z5)<|by show(2)<=1000;decide) rfl))))
inductive R_letin:HandS->List OT->(OT->HandS->Prop)->Prop
 |mk {y:Yd}{n:Nat}{gs:List Gs}{gv:Ql}{go:Qk}{ms:List Zw}{g:Gs}(ok:y.Ok)(hg:∀x∈gs,G30 y x)(gk:G30 y g)(gl:gv.length=gs.length)(gn:n<=g.first)(h0:∀k,k<gs.length->0<=rsT gs gv go k)(l:gs.length<=7):
  R_letin (hT y n gs gv go ms) [.fz<|QQ g] (λr N'=>r=.fz .none/\(((∀S,Vl y (QA<|mT n gs gv go++[g]) S<=0)/\N'=hT y n (gs++[g]) (gv++[0]) go ms)\/((∃S,0<Vl y (QA<|mT n gs gv go++[g]) S)/\N'=hT y n gs gv go ms)))
def ZpL:Qo ZaS ZaS (QD Ni):=by walk_at"p"
def O8(T:Bl mg)(I:HandC K CH)(F:XC K mg "NoRoom" YR CR fR)(G:W.exmOne K (.ref CR) (.ref CR)=some true)(H1:Df K mg "let_in" Ni ZaS)(C:ZZ P w K mg base CH "come" ZaQ 8 (Al K CH CR "some" R_hcome<|X_hcome CH)):Q2 P w K mg base "let_in" ZaS 9 (spP K (QY CH) R_letin):=by
 refine H1.evPN ZpL (λf v M ts J h H L E A outer s D=>?_);cases h with
 |@mk y n q m B X g U Z t gl p b l=>
  refine#[_,(Qz<|ZtG G rfl rfl rfl F.m rfl (λH1 u=>(Qz<|Z0<|ZtF C I D ZqG g0 va1)) λe u=>(Qz EM)),?_]
  by_cases h:∀S,Vl y (QA<|mT n q m B++[g]) S<=0
  .refine VR (λi=>i=[zo v<|QY CH<|hT y n (q++[g]) (m++[0]) B X,zf<|QQ g]) (QB<|ZqR LD rfl (Qu Qp Q1) (R_hcome.mk U Z t gl p b l h) ?_) ?_
   .rintro r N ⟨_,rfl⟩;exact Zf rfl
   .rintro _ rfl;exact UB Wq<|#[_,#[rfl,.inl #[h,rfl]],rfl]
  .obtain⟨S,a⟩:∃S,0<Vl y _ S:=Classical.byContradiction λc=>h λS=>Int.not_lt.mp λz=>c #[S,z]
   refine YT (e:=[zo v<|QY CH<|hT y n q m B X,zf<|QQ g]) (QB<|ZtC (j:=2) (λ_ _ _ _ h=>.inr h) xfP LD rfl (Qu Qp Q1) (X_hcome.mk U Z t gl p b l a) (λd e o _ Y=>?_) λd h=>?_) ?_
   .exact Zf (Zf rfl)
   .obtain⟨S,_,rfl⟩:=h;exact λx Y=>by apply At (Xo.mp Y);rintro k _ rfl;exact#[_,rfl]
   .exact UB Wq<|#[_,#[rfl,.inr #[#[S,a],rfl]],rfl]
structure DeskC(K:W.Frag)(CD:Addr):Prop where
 cl:Cls K CD
 hd:Vp K CD "hand"
inductive R_dinit:Option HandS->List OT->(OT->Option HandS->Prop)->Prop
 |mk {y:Yd}{gs:List Gs}(T:TxtOk y gs):R_dinit none [.fz<|.str<|Wy y gs] (λr N'=>r=.fz .none/\N'=some (h0S y<|adm y gs))
def Su:Qo ["self","text","told","guest"] ZaV (QD GP):=by walk_at"p"
def Og{f:Addr}(T:Bl mg)(j:DeskC K CD)(F:Fun K "__init__" "Desk.__init__" GP f fd)(C:Q2 P w K mg base "read" ["text"] 9 (QC (K:=K) R_read))(B:HU P w K mg base "Hand" CH ZaL 1)(q:Q2 P w K mg base "let_in" ZaS 9 (spP K (QY CH) R_letin)):FnOk P w K mg base CX0 10 f fd ZaV (spP K (Gb CD "hand"<|QY CH) R_dinit):=by
 refine F.evPN Su (λv M ts J h H Q I A outer s m=>?_);cases h with
 |@mk y c X=>
  refine#[_,(Qy (QR 2 Su.nd<|Q7 C m va1)
 (Qy (Wr g0 (ZsP B m<|Qs (QG QH va2 Qw) Qq) rfl)
 (Qz<|Va zN rfl (by exact(VV<|QG QH va2 Qw)) (Zy 3 Su.nd)<|by exact(Qz<|Z0<|Q7 q m<|Qs (Zv g0) v3)))),?_]
  try dsimp only[ZV]
  have L:=X.n8;refine YT (e:=[zo v<|InP CD "hand"<|QY CH<|h0S y<|adm y c,zf<|.str<|Wy y c,zf<|.tuple [Za y,.list<|c.map QQ],none]) ?bd ?_
  case bd=>
   refine QB (Z6 (QN (Qu Qp Q1)<|R_read.mk X) (QB (Zst j.cl j.hd rfl (ZtA<|(λe=>Vt (Qp e) Q0 rfl) rfl) (QB (Ud (ds:=c.map QQ) (λi=>[zo v<|InP CD "hand"<|QY CH<|h0S y<|adm y<|c.take i,zf<|.str<|Wy y c,zf<|.tuple [Za y,.list<|c.map QQ],none]) ?ei ?h0 ?st ?fin)))))
   case h0=>exact#[rfl,rfl,rfl,trivial]
   case ei=>exact Yi ((λe=>Vt (Qp e) Q0 rfl) rfl)
   case fin=>
    refine λl u=>JU u ?_;rw[Xg,W3];exact Zf rfl
   case st=>
    intro i d b;rw[Xv]at b;apply At (Mq.mp b);rintro g e rfl;have N:=(Xi.mp e).1;have n:=List.mem_of_getElem? e;have o:c.take (i+1)=c.take i++[g]:=by rw[Jf,e];rfl
    have U:=(BJ y<|c.take i).trans (List.take_sublist i c);have W:=(BJ y<|c.take i).length_le;rw[o,N3];generalize adm y (c.take i)=a at U W;rw[Mu]at W;have Y:∀x∈a,G30 y x:=λx p=>have z:=U.subset p;#[X.hg x z,(X.g30 x z).1,(X.g30 x z).2];refine#[_,Zg,?_]
    walk_at"d";refine QB (Zrt j.cl j.hd rfl (Qu Qp Q1) (R_letin.mk X.ok Y (#[X.hg g n,(X.g30 g n).1,(X.g30 g n).2]) Hd (XH _) (λk t=>?_)<|#[]) ?_)
    .rw[D5];have:=(Y (a.getD k default)<|by simp[t]).ok.w1;lia
    rw[Lu];rintro r R ⟨_,h|h⟩
    .obtain⟨h,rfl⟩:=h;rw[Lp h];have e:List.replicate a.length (0:Int)++[0]=List.replicate (a++[g]).length 0:=by rw[Xs,Hc,List.replicate_succ']
     rw[e];exact Zf #[rfl,rfl,rfl,trivial]
    .obtain⟨⟨S,O⟩,rfl⟩:=h;rw[Tf λz=>by have:=z S;lia];exact Zf #[rfl,rfl,rfl,trivial]
  .exact UB Wq #[_,#[rfl,rfl],rfl]
noncomputable def JK:List (Str×Int):=[("come",5),("turn",0),("leave",1),("got",1),("rest",1),("bound",3),("open",0),("now",0)]
structure CnT(K:W.Frag)(mg:Str->Qf)(w:World)(gC:Addr):Prop where
 k:KCnt K w gC JK
 m:mg "COUNTS"=some (.ref gC)
structure RowW(x w:Str)(is:Ql):Prop where
 sp:Txt.split x " "=w::is.map nS
 l:x.length<=1000
 c:Jl JK w=.int (is.length:Int)
 n:∀i∈is,N30 i
 h5:is.length<=5
inductive R_words:List OT->(OT->Prop)->Prop
 |mk {x w:Str}{is:Ql}(h:RowW x w is):R_words [.fz<|.str x] (λr=>r=.fz (.list (.str w::YA is)))
structure RowN(x w:Str)(ws:Qh):Prop where
 sp:Txt.split x " "=w::ws
 l:x.length<=100000
 wd:Wds ws
 b:(PyData.eqv (Jl JK w) (.int (ws.length:Int))&&MG ws)=false
inductive X_words:List OT->(Unit->Prop)->Prop
 | no {d:PyData}(h:(tyD d == "str")=false):X_words [.fz d] (λ_=>True)
 |bad {x w:Str}{ws:Qh}(h:RowN x w ws):X_words [.fz<|.str x] (λ_=>True)
def B8{i:Int}:Yl (.int i):=#[rfl,show(_)<=60 by simp[PyData.depth]]
def Fb(w:Str):Yl (Jl JK w):=by
 unfold Jl;split
 .exact B8
 .exact#[rfl,show(_:Nat)<=60 by simp[PyData.depth]]
def RI:Qo ["row","words"] ["row"] (QD NV):=by walk_at"p"
def ZsJ(T:Bl mg)(B:CnT K mg w gC)(y:M5 K mg "NoRow" cu)(H1:Df K mg "words_of" NV ["row"])(m:Q2 P w K mg base "are_numbers" Zag 2 (QC (K:=K) R_arenums)):Wl P w K mg base "words_of" ["row"] 3 (ZI K cu Yv R_words X_words):=by
 refine H1.evZ RI (λf H RR ts W g h M A outer s j=>?_) (λf F H RR ts W g U h M A outer s j=>?_)
 .have C:=j.units;cases h with
  |@mk x i q h=>
   refine#[_,(Qy (QW (Vy<|ZL<|Zk PY T.isi JV<|av 0<|Qs (UL (v:=.ty "str") rfl T.str Yf rfl) Qq) (Qz<|GH y g<|Qs QP Qq) QV)
 (Qy (QR 1 RI.nd<|ZK PySem.F.plainAttrs_str PySem.F.slot_str_split PySem.F.type_str_split D9 g0<|Qs QP Qq)
 (Qy (QW (PW.pt<|U6 (Zo (G0 C) (Lm B.k B.m (QG QH vb1 Qw) #[rfl,rfl,rfl,rfl])<|QX YD (Zk ZH T.len ZD va1) Qw)<|UE<|Vy<|ZL<|Q7 m j<|Qs (Jz Jy vb1 (J4 Qw) J1) Qq) (Qz<|GH y g<|Qs QP Qq) QV)
 (PSs.nox<|Qz<|QK vb1)))),?_]
   have e:=h.h5;have Z:=h.l;refine QB (Zb (Vg<|Z3<|Kz (a:=.str x) Qp) nf λ_=>Zf (QB (Vi (EvO.cast (D8 Qp QT (by decide +kernel)<|Xq (show x.length+2<=1002 by lia)<|by decide) (d':=.ol (.str i::YA q))<|by rw[h.sp,Xw,XA];rfl) ?_)));walk_at"d";refine We 1 rfl ?_;have Y:(YA q).length=q.length:=by simp[YA]
   exact QB (Zb (Wd (b:=false) (QM.cast (Z3<|Bp (Qr.cast (KR<|Z2 Qp Q0<|Z9 rfl) h.c) (Qr.cast (ZB (VT Qp) Q0) (d':=.int (q.length:Int))<|by rw[X4,Y];exact XS PyData.int<|#[]) B8 B8)<|by simp[PyData.eqv]) λ_=>Vg (b:=true)<|Z3<|QN (Qu (Qr.cast (EvO.fz<|WI Qp (WV Q0) WU)<|by rw[UX]) Q1)<|R_arenums.mk h.n<|#[]) nf λ_=>Zf (Zj Qp rfl))
 .refine#[_,(Qy (QW (Vy<|ZL<|Zk PY T.isi JV<|av 0<|Qs (UL (v:=.ty "str") rfl T.str Yf rfl) Qq) (Qz<|GH y g<|Qs QP Qq) QV)
 (Qy (QR 1 RI.nd<|ZK PySem.F.plainAttrs_str PySem.F.slot_str_split PySem.F.type_str_split D9 g0<|Qs QP Qq)
 (Qy (QW (PW.pt<|U6 (Zo (G0 j.units) (Lm B.k B.m (QG QH vb1 Qw) #[rfl,rfl,rfl,rfl])<|QX YD (Zk ZH T.len ZD va1) Qw)<|UE<|Vy<|ZL<|Q7 m j<|Qs (Jz Jy vb1 (J4 Qw) J1) Qq) (Qz<|GH y g<|Qs QP Qq) QV)
 (PSs.nox<|Qz<|QK vb1)))),?_]
  cases h with
  |@no d h=>
   exact JS (U4 (Vg<|Z3<|Qr.cast (Kz Qp)<|by rw[h]) (λ_=>NP QT trivial U) nt)
  |@bad x i n h=>
   have Z:=h.l;refine Ju (Zb (Vg<|Z3<|Kz (a:=.str x) Qp) nf λ_=>Zf rfl)<|Ju (Vi (EvO.cast (D8 Qp QT (by decide +kernel)<|Xq (show x.length+2<=100002 by lia)<|by decide)<|by rw[h.sp,Xw]) rfl)<|Pu 1 rfl<|JS (U4 ?_ (λ_=>NP QT trivial U) nt);cases z:PyData.eqv (Jl JK i) (.int (n.length:Int)) with
   |false=>exact Wd (b:=true) (c:=true) (QM.cast (Z3<|Bp (KR<|Z2 Qp Q0<|Z9 rfl) (Qr.cast (ZB (VT Qp) Q0) (d':=.int (n.length:Int))<|by rw[X4,Xg];exact XS PyData.int<|#[]) (Fb i) B8)<|by rw[z];rfl) nt
   |true=>
    have X:MG n=false:=by have:=h.b;rwa[z]at this
    exact Wd (b:=false) (QM.cast (Z3<|Bp (KR<|Z2 Qp Q0<|Z9 rfl) (Qr.cast (ZB (VT Qp) Q0) (d':=.int (n.length))<|by rw[X4,Xg];exact XS PyData.int<|#[]) (Fb i) B8)<|by rw[z];rfl) (λ_=>Vg (b:=false)<|Z3<|Qr.cast (QN (Qu (Qr.cast (EvO.fz<|WI Qp (WV Q0) WU)<|by rw[UX]) Q1)<|R_arenums.gen h.wd)<|by rw[X])
inductive R_joined:List OT->OT->Prop
 | mk {ss:Qh}(h:ss.length<=8)(hl:∀x∈ss,x.length<=100):R_joined [.fz<|.list<|ss.map PyData.str] (.fz<|.str (if ss=[] then "-" else Str.join " " ss))
def Zrm:Qo ["parts"] ["parts"] (QD Nv):=by walk_at"p"
def Zqc(T:Bl mg)(H1:Df K mg "joined" Nv ["parts"]):Q2 P w K mg base "joined" ["parts"] 1 (QC (K:=K) R_joined):=by
 refine H1.ev Zrm (λf ts r h H B n A outer s q=>?_);cases h with
 |@mk g h i=>
  refine#[_,(Qz<|QK<|Fj (Fy g0 λ_=>rfl) (ZK PySem.F.plainAttrs_str PySem.F.slot_str_join PySem.F.type_str_join BL QP y0) QP),?_]
  try dsimp only[ZV]
  have e:(!(g.map PyData.str).isEmpty) = !decide (g=[]):=by cases g<;>simp
  refine Zj (Au (QM.cast (TD Qp) e) (λc=>?_) λc=>?_) rfl
  .rw[Xe<|by simpa using c];refine BG QT Qp ?_;have a:(g.map (·.length)).sum<=g.length*100:=by
    clear h e c;induction g with
    |nil=>simp
    |cons x r j=>
     have:=i x Xb;have:=j λy m=>i y (Xf _ m)
     simp only[Xw,UU,X4];lia
   have b:Str.length " "=1:=rfl;lia
  .rw[Xh<|by simpa using c];exact QT
def gfS(f:Qn)(m:Nat):Qh:=((List.range m).filter λk=>decide (f k > 0)).map λ(k:Nat)=>nS (k:Int) ++ ":" ++ nS (f k)
inductive R_gans:List OT->(OT->Prop)->Prop
 | mk {f:Qn}{m:Nat}(l:m<=8)(h:∀k,k<m->N30 (f k)):R_gans [.zow<|DkZ<|gfD f m] (λr=>r=.fz (.str (if gfS f m=[] then "-" else Str.join " "<|gfS f m)))
def Af:Qo ["gifts"] ["gifts"] (QD Sm):=by walk_at"p"
def Ol(T:Bl mg)(H1:Df K mg "gifts_answer" Sm ["gifts"])(C:Q2 P w K mg base "joined" ["parts"] 1 (QC (K:=K) R_joined)):Q2 P w K mg base "gifts_answer" ["gifts"] 2 (Zi K R_gans):=by
 refine H1.evD Af (λf ts o h H p e A outer s b=>?_);cases h with
 |@mk f m l h=>
  refine#[_,(Qz<|QK<|Q7 C b<|Qs (V3 Af ["number","gift"] [none,none] (VV<|ZsO rfl g0 rfl T.sorted ZpY) λ_=>(Az g0 QP vb1)) Qq),?_];walk_at"x";generalize q:((List.range m).filter λk=>decide (f k > 0))=j;have y:∀k∈j,k<m:=λk g=>by
   rw[<- q]at g;exact XY.mp (GX.mp g).1
  have Z:j.length<=8:=by
   exact q▸(Xq (M4 _ _) (by simpa using l))
  have X:(j.map λ(k:Nat)=>(k:Int)).Pairwise (· < ·):=by
   rw[List.pairwise_map,<- q];exact(List.pairwise_lt_range.imp λh=>#[]).filter _
  have B:gfD f m=j.map λ(k:Nat)=>((.inl<|k),PyData.int<|f k):=by unfold gfD;rw[q]
  have d:gfS f m=j.map λ(k:Nat)=>nS (k) ++ ":" ++ nS (f k):=by unfold gfS;rw[q]
  rw[d];have Y:∀k∈j,(nS<|k).length<=30/\(nS<|f k).length<=30:=λk g=>#[Ui<|J6 (by have:=y k g;lia),Ui<|h k<|y k g]
  have M:∀k∈j,(nS (k) ++ ":" ++ nS (f k)).length<=61:=λk g=>by
   have:=Y k g;rw[Str.length_append,Str.length_append];have:Str.length ":"=1:=rfl;lia
  have U:∀i:Int,N30 i->i.natAbs.log2<1920:=λi W=>Jw W.lo W.b;refine Zj (Qr.cast (QN (Qu (Qr.cast (EvO.fz<|Yy (xs:=j) (enc:=λ(k:Nat)=>PyData.tuple [.int<|k,.int<|f k]) (h:=λ(k:Nat)=>.str<|nS (k) ++ ":" ++ nS (f k)) ?ei #[] ?el)<|by rw[XA];rfl) Q1)<|R_joined.mk (by rw[Xg];exact Z) λx a=>?ln) rfl) rfl
  case ei=>
   refine Yi (Qr.cast (Zsy rfl (by rw[B,XA,XA];rfl) X<|by rw[B,Xg];lia)<|by rw[B,XA];rfl)
  case el=>
   refine λk g c=>#[_,WA (Vv Zg<|Vv Zg WT) rfl,?_];have n:=M k g;exact Ay Qp Qp (U _<|J6 (by have:=y k g;lia)) (U _<|h k<|y k g) (Xq (show _<=61 by rw[Str.length_append]at n;exact Xq (Nat.le_add_right _ _) n)<|by decide) (Xq n<|by decide)
  case ln=>
   apply At (Xo.mp a);rintro k g rfl;have:=M k g;lia
noncomputable def JB(c:Qk):Str:=if c=[] then "-" else Str.join " " (c.map λ(k:Nat)=>nS (k:Int))
inductive R_ansZ(CH:Addr):List OT->(OT->Prop)->Prop
 | now {N:HandS}(h:N.now.natAbs.log2<1920):R_ansZ CH [.zow<|Zd CH N,.fz<|.str "now",.fz<|.tuple []] (λr=>r=.fz (.str<|nS N.now))
 | got {N:HandS}{k:Nat}{x:Int}(h:k<N.known.length)(hx:N.given[k]?=some x)(l:x.natAbs.log2<1920):R_ansZ CH [.zow<|Zd CH N,.fz<|.str "got",.fz<|.tuple [.int (k:Int)]] (λr=>r=.fz (.str<|nS x))
 | rest {N:HandS}{k:Nat}{z:Int}(h:JM N k z)(l:z.natAbs.log2<1920):R_ansZ CH [.zow<|Zd CH N,.fz<|.str "rest",.fz<|.tuple [.int (k:Int)]] (λr=>r=.fz (.str<|nS z))
 | opn {N:HandS}(rs:Qn)(h:∀k,k<N.known.length->JM N k (rs k))(l:N.known.length<=8):R_ansZ CH [.zow<|Zd CH N,.fz<|.str "open",.fz<|.tuple []] (λr=>r=.fz (.str<|JB<|(List.range N.known.length).filter λk => !decide (rs k=0)))
def MJ{c:Str}(e:zg Z i<|zf<|.str x)(h:decide (x=c)=false)(k:QJ K u Z H1):QJ K (V6 (Jj (WC<|tOp rEq (Q8 i)<|tC<|.str c) t Gk) u) Z H1:=QB (Zb (b:=false) (QM.cast (Zn<|Vx (Qp e) QT) h) nf λ_=>Zf k)
def BW:Qo Zad Zad (QD GD):=by walk_at"p"
def Os(T:Bl mg)(n:HandC K CH)(H1:Df K mg "answer" GD Zad)(M:ZC P w K mg base CH "now" Zav 1 (Zi K<|R_hnow CH))(X:ZZ P w K mg base CH "got" Zab 4 (W8 K CQ "number" (R_hgot CH)<|X_hnum CH))(W:ZZ P w K mg base CH "rest" Zab 4 (W8 K CQ "number" (R_hrest CH)<|X_hnum CH))(B:ZC P w K mg base CH "open_ones" Zav 5 (Zi K<|R_hopen CH))(U:Q2 P w K mg base "joined" ["parts"] 1 (QC (K:=K) R_joined)):Q2 P w K mg base "answer" Zad 9 (Zi K<|R_ansZ CH):=by
 refine H1.evD BW (λf ts p h H t o A outer s i=>#[_,(Qy (QW (Zo ZJ vb1 QP) Vd QV)
 (Qy (QW (Zo ZJ vb1 QP) Vd QV)
 (Qy (QW (Zo ZJ vb1 QP) Vd QV)
 (Qy (QW (Zo ZJ vb1 QP) (Qz<|QK<|Vc YF T.str Yf<|Qs (YU X n i (WB (C:=CQ)) g0<|Qs (QG QH va2 Qw) Qq) Qq) QV)
 (Qy (QW (Zo ZJ vb1 QP) (Qz<|QK<|Vc YF T.str Yf<|Qs (YU W n i (WB (C:=CQ)) g0<|Qs (QG QH va2 Qw) Qq) Qq) QV)
 (Qy (QW (Zo ZJ vb1 QP) Vd QV)
 (Qy (QW (Zo ZJ vb1 QP) (Qz<|QK<|Q7 U i<|Qs (V3 BW ZaW [none] (VV<|BN B n i g0) λ_=>(Vc YF T.str Yf y0)) Qq) QV)
 (Qz<|QK<|Vc YF T.str Yf<|Qs (BN M n i g0) Qq)))))))),?_])
 walk_at"x";cases h with
 |@now N h=>
  repeat refine MJ rfl (by decide +kernel) ?_
  exact Zj (YS (Zs3 El rfl Q1 R_hnow.mk) h) rfl
 |@got N k x h q l=>
  repeat refine MJ rfl (by decide +kernel) ?_
  exact QB (Zb (b:=true) (QM.cast (Zn<|Vx Qp QT)<|by decide +kernel) (λ_=>Zj (YS (DP To rfl (Qu (Vt Qp Q0 rfl) Q1) (R_hgot.mk h q) WZ) l) rfl)<|by rintro⟨⟩)
 |@rest N k z h l=>
  repeat refine MJ rfl (by decide +kernel) ?_
  exact QB (Zb (b:=true) (QM.cast (Zn<|Vx Qp QT)<|by decide +kernel) (λ_=>Zj (YS (DP KF rfl (Qu (Vt Qp Q0 rfl) Q1) (R_hrest.mk h) WZ) l) rfl)<|by rintro⟨⟩)
 |@opn N Y h l=>
  repeat refine MJ rfl (by decide +kernel) ?_
  refine QB (Zb (b:=true) (QM.cast (Zn<|Vx Qp QT)<|by decide +kernel) (λ_=>?_)<|by rintro⟨⟩);generalize y:((List.range N.known.length).filter λk => !decide (Y k=0))=m;have a:m.length<=8:=by
   exact y▸(Xq (M4 _ _) (by simpa using l))
  have Z:∀k∈m,k<8:=λk g=>by
   rw[<- y]at g;have:=XY.mp (GX.mp g).1;lia
  refine Zj (d:=.str (JB m)) (Qr.cast ((QN (Qu (Qr.cast (EvO.fz<|Yy (xs:=m) (enc:=λ(k:Nat)=>PyData.int<|k) (h:=λ(k:Nat)=>.str<|nS<|k) ?ei #[] ?el)<|by rw[XA];rfl) Q1)<|R_joined.mk (by rw[Xg];exact a) λx q=>?ln)) ?eq) ?_
  case ei=>exact Yi (EvO.fz<|Zt.o<|Zt.imp (D3 ER rfl Q1<|R_hopen.mk Y h<|#[]) λr e=>by rw[e,y];rfl)
  case el=>
   intro k g c;have:=Z k g;exact#[_,Zg,YS Qp (Mx (Nat.log2_le_self k)<|#[])]
  case ln=>
   apply At (Xo.mp q);rintro k g rfl;have:∀j:Nat,j<8->(nS<|j).length<=100:=by decide +kernel
   exact this k (Z k g)
  case eq=>unfold JB;simp
  rfl
inductive R_sayZ(CD CH:Addr):List OT->(OT->Prop)->Prop
 | mk {N:HandS}{x w:Str}{is:Ql}{Φ:OT->Prop}(h:RowW x w is)(a:R_ansZ CH [.zow<|Zd CH N,.fz<|.str w,.fz<|.tuple<|is.map PyData.int] Φ):R_sayZ CD CH [.zow<|InZ CD "hand"<|Zd CH N,.fz<|.str x] Φ
def GM:Qo ["self","row","words"] Zaw (QD Mh):=by walk_at"p"
def Oc(T:Bl mg)(m:DeskC K CD)(H1:Mf K CD "say" "Desk.say" Mh Zaw)(i:Wl P w K mg base "words_of" ["row"] 3 (ZI K cu Yv R_words X_words))(j:Q2 P w K mg base "numbers_of" Zag 1 (QC (K:=K) R_numsof))(g:Q2 P w K mg base "answer" Zad 9 (Zi K<|R_ansZ CH)):ZC P w K mg base CD "say" Zaw 10 (Zi K<|R_sayZ CD CH):=by
 refine H1.evD GM (λf ts n h H U q A outer s c=>?_);cases h with
 |@mk N x y B n h a=>
  refine#[_,(Qy (QR 2 GM.nd<|G9 i c (WB (C:=cu)) va1)
 (Qz<|QK<|Q7 g c<|Qs (Zv g0)<|Qs (QG QH va2 Qw)<|Qs (Q7 j c<|Qs (Jz Jy va2 (J4 Qw) J1) Qq) Qq)),?_]
  have M:=h.h5;exact QB (Z6 (Nx (Qu Qp Q1) (R_words.mk h) WZ) (K5 (Y1 (L4 m.cl m.hd rfl (Qu (Z2 Qp Q0<|Z9 rfl)<|Qu (QN (Qu (Qr.cast (EvO.fz<|WI Qp (WV Q0) WU)<|by rw[UX]) Q1)<|R_numsof.mk h.n<|#[]) Q1)) a) (λr h=>h)))
def Eb{y:Yd}(hg:∀x∈gs,G30 y x)(c:Wk y (QA<|mT n gs gv go) φ)(hn:n<y.T)(f:k<gs.length):N30 (Ze (QA<|mT n gs gv go) φ n k):=by
 obtain⟨a,b⟩:=c.1.tak (show k<(mT n gs gv go).length by rw[Ws];exact f) hn;refine#[a,DY b ?_];unfold moT;split
 .show((mT n gs gv go).getD k default).most<10^30
  rw[Wf f];exact(hg (gs.getD k default)<|by simp[f]).m
 .decide +kernel
noncomputable def gfT(f:Qn)(m:Nat):Str:=if gfS f m=[] then "-" else Str.join " " (gfS f m)
inductive R_ansT:HandS->List OT->(OT->HandS->Prop)->Prop
 |mk {y:Yd}{n:Nat}{gs:List Gs}{gv:Ql}{go:Qk}{ms:List Zw}(ok:y.Ok)(hg:∀x∈gs,G30 y x)(gl:gv.length=gs.length)(hn:n<y.T)(h0:∀k,k<gs.length->0<=rsT gs gv go k)(l:gs.length<=8)(ml:ms.length<=8):
  R_ansT (hT y n gs gv go ms) [.fz<|.str "turn",.fz<|.tuple []] (λr N'=>∃φ,Wk y (QA<|mT n gs gv go) φ/\r=.fz (.str<|gfT (Ze (QA<|mT n gs gv go) φ n) gs.length)/\N'=hT y (n+1) gs (gvT gv (Ze (QA<|mT n gs gv go) φ n) gs.length gs.length) go (ms++[gfD (Ze (QA<|mT n gs gv go) φ n) gs.length]))
def OA(T:Bl mg)(a:HandC K CH)(H1:Df K mg "answer" GD Zad)(i:Q2 P w K mg base "gifts_answer" ["gifts"] 2 (Zi K R_gans))(g:ZZ P w K mg base CH "turn" Zav 7 (JE K CH ct Yv R_hturn<|X_hturn CH)):Q2 P w K mg base "answer" Zad 9 (spP K (QY CH) R_ansT):=by
 refine H1.evP BW (λf v M ts b h H z Z A outer s j=>?_);cases h with
 |@mk y n t p x o U q gl m Y l W=>
  refine#[_,(Qy (QW (Zo ZJ vb1 QP) Vd QV)
 (Qy (QW (Zo ZJ vb1 QP) (Qz<|QK<|Q7 i j<|Qs (F9 g a j (WB (C:=ct)) g0) Qq) QV)
 Vd)),?_]
  refine YT (Zb (QM.cast (Zn<|Vx Qp QT) rfl) nf λ_=>Zf rfl)<|K8 (Aw (QM.cast (Zn<|Vx Qp QT) rfl) (λ_=>ED TC rfl Q1 (R_hturn.mk U q gl m Y l W) WZ ?_) nt);rintro r D ⟨B,u,c,rfl,rfl⟩;refine#[u,_,_,rfl,R_gans.mk l λk X=>Eb q c m X,λd e=>#[_,_,e,rfl,_,#[B,c,rfl,rfl],rfl]]
inductive R_sayT:HandS->List OT->(OT->HandS->Prop)->Prop
 |mk {N:HandS}{x w:Str}{is:Ql}{Ψ:OT->HandS->Prop}(h:RowW x w is)(a:R_ansT N [.fz<|.str w,.fz<|.tuple<|is.map PyData.int] Ψ):R_sayT N [.fz<|.str x] Ψ
def Zt2(T:Bl mg)(n:DeskC K CD)(H1:Mf K CD "say" "Desk.say" Mh Zaw)(j:Wl P w K mg base "words_of" ["row"] 3 (ZI K cu Yv R_words X_words))(m:Q2 P w K mg base "numbers_of" Zag 1 (QC (K:=K) R_numsof))(i:Q2 P w K mg base "answer" Zad 9 (spP K (QY CH) R_ansT)):ZC P w K mg base CD "say" Zaw 10 (spP K (λN=>InP CD "hand"<|QY CH N) R_sayT):=by
 refine H1.evP GM (by intro _ _ _ h;cases h;rfl) (λf y A outer s H Y v M ts q g h=>?_);cases h with
 |@mk x U W q h a=>
  refine#[_,(Qy (QR 2 GM.nd<|G9 j g (WB (C:=cu)) va1)
 (Qz<|QK<|Q7 i g<|Qs (Zv g0)<|Qs (QG QH va2 Qw)<|Qs (Q7 m g<|Qs (Jz Jy va2 (J4 Qw) J1) Qq) Qq)),?_]
  have X:=h.h5;exact YT (Z6 (Nx (Qu (Qp rfl) Q1) (R_words.mk h) WZ) rfl)<|Zp1 n.cl n.hd rfl (Qu (Z2 (Qp rfl) Q0<|Z9 rfl)<|Qu (QN (Qu (Qr.cast (EvO.fz<|WI (Qp rfl) (WV Q0) WU)<|by rw[UX]) Q1)<|R_numsof.mk h.n<|#[]) Q1) a (λr B c=>#[B,c,rfl])
inductive X_ansN(CH:Addr):List OT->(V->Prop)->Prop
 | got {N:HandS}{z:Int}(h:z<0\/(N.known.length:Int)<=z):X_ansN CH [.zow<|Zd CH N,.fz<|.str "got",.fz<|.tuple [.int z]] (λw=>w=.int z)
def ZrX(T:Bl mg)(q:HandC K CH)(H1:Df K mg "answer" GD Zad)(i:ZZ P w K mg base CH "got" Zab 4 (W8 K CQ "number" (R_hgot CH)<|X_hnum CH)):Wl P w K mg base "answer" Zad 9 (ZI K CQ (Jo "number") (λ_ _=>False)<|X_ansN CH):=by
 refine H1.evZ BW (λf H RR ts m c h g A outer s j=>h.elim) (λf F H RR ts m c n h g A outer s j=>?_) (λ_ _ h=>h.elim);cases h with
 |@got N z h=>
  refine#[_,(Qy (QW (Zo ZJ vb1 QP) Vd QV)
 (Qy (QW (Zo ZJ vb1 QP) Vd QV)
 (Qy (QW (Zo ZJ vb1 QP) Vd QV)
 (Qy (QW (Zo ZJ vb1 QP) (Qz<|QK<|Vc YF T.str Yf<|Qs (YU i q j (Wo c) g0<|Qs (QG QH va2 Qw) Qq) Qq) QV)
 Vd)))),?_]
  exact Ju (Zb (QM.cast (Zn<|Vx (Qp rfl) QT) rfl) nf λ_=>Zf rfl)<|Ju (Zb (QM.cast (Zn<|Vx (Qp rfl) QT) rfl) nf λ_=>Zf rfl)<|Ju (Zb (QM.cast (Zn<|Vx (Qp rfl) QT) rfl) nf λ_=>Zf rfl)<|JS (U4 (QM.cast (Zn<|Vx (Qp rfl) QT) rfl) (λ_ y O D E' x S=>Fa bkV To rfl (Qu (Vt (Qp rfl) Q0 rfl) Q1) (X_hnum.mk h) c n x S) nt)
inductive X_ansE(CH:Addr):List OT->(Unit->Prop)->Prop
 | turn {y:Yd}{gs:List Gs}{gv:Ql}{go:Qk}{ms:List Zw}:X_ansE CH [.zow<|Zd CH<|hT y y.T gs gv go ms,.fz<|.str "turn",.fz<|.tuple []] (λ_=>True)
def OK(T:Bl mg)(B:HandC K CH)(H1:Df K mg "answer" GD Zad)(m:Q2 P w K mg base "gifts_answer" ["gifts"] 2 (Zi K R_gans))(j:ZZ P w K mg base CH "turn" Zav 7 (JE K CH ct Yv R_hturn<|X_hturn CH)):Wl P w K mg base "answer" Zad 9 (ZI K ct Yv (λ_ _=>False)<|X_ansE CH):=by
 refine H1.evZ BW (λf H RR ts n c h i A outer s g=>h.elim) (λf F H RR ts n c q h i A outer s g=>?_) (λ_ _ h=>h.elim);cases h with
 |@turn y U M W C=>
  refine#[_,(Qy (QW (Zo ZJ vb1 QP) Vd QV)
 (Qy (QW (Zo ZJ vb1 QP) (Qz<|QK<|Q7 m g<|Qs (F9 j B g (Wo c) g0) Qq) QV)
 Vd)),?_]
  exact Ju (Zb (QM.cast (Zn<|Vx (Qp rfl) QT) rfl) nf λ_=>Zf rfl)<|JS (U4 (QM.cast (Zn<|Vx (Qp rfl) QT) rfl) (λ_ X O D E' x S=>ZsK bkN TC rfl Q1 X_hturn.mk c q x S) nt)
inductive X_sayG(CD CH:Addr){δ:Type}(X:List OT->(δ->Prop)->Prop):List OT->(δ->Prop)->Prop
 | mk {N:HandS}{x w:Str}{is:Ql}{Φ:δ->Prop}(h:RowW x w is)(a:X [.zow<|Zd CH N,.fz<|.str w,.fz<|.tuple<|is.map PyData.int] Φ):X_sayG CD CH X [.zow<|InZ CD "hand"<|Zd CH N,.fz<|.str x] Φ
def Fh{CD CE:Addr}{δ:Type}{FL:Addr->Hp->Hp->Hp->Qj->δ->Prop}{X:List OT->(δ->Prop)->Prop}(M:BackF FL)(T:Bl mg)(y:DeskC K CD)(H1:Mf K CD "say" "Desk.say" Mh Zaw)(m:Wl P w K mg base "words_of" ["row"] 3 (ZI K cu Yv R_words X_words))(n:Q2 P w K mg base "numbers_of" Zag 1 (QC (K:=K) R_numsof))(j:Wl P w K mg base "answer" Zad 9 (ZI K CE FL (λ_ _=>False) X)):ZZ P w K mg base CD "say" Zaw 10 (ZI K CE FL (λ_ _=>False)<|X_sayG CD CH X):=by
 refine H1.evZ GM (λf H RR ts q c h i A outer s g=>h.elim) (λf F H RR ts q c B h i A outer s g=>?_) (λ_ _ h=>h.elim) (λ_ _ h=>by cases h;rfl);cases h with
 |@mk N x U W q h a=>
  refine#[_,(Qy (QR 2 GM.nd<|G9 m g (WB (C:=cu)) va1)
 (Qz<|QK<|G9 j g (Wo c)<|Qs (Zv g0)<|Qs (QG QH va2 Qw)<|Qs (Q7 n g<|Qs (Jz Jy va2 (J4 Qw) J1) Qq) Qq)),?_]
  have Y:=h.h5;exact Ju (Z6 (Nx (Qu (Qp rfl) Q1) (R_words.mk h) WZ) rfl)<|Ia M (L4 y.cl y.hd rfl (Qu (Z2 (Qp rfl) Q0<|Z9 rfl)<|Qu (QN (Qu (Qr.cast (EvO.fz<|WI (Qp rfl) (WV Q0) WU)<|by rw[UX]) Q1)<|R_numsof.mk h.n<|#[]) Q1)) a c B
def Zs5:Str.ofString "guest "=Str.ofString "guest" ++ Str.ofString " " := by decide +kernel
def Zrf(h:l.bs≠[]):Str.ofString "line " ++ sD (upT l.up)++Str.ofString " " ++ Str.join " " (l.bs.map nS)=V7 l:=by
 unfold V7 Jn lnD;cases e:l.bs with
 |nil=>exact Xt e h
 |cons b r=>
  rw[Xw,Up,<- DT, Xw,XA];rfl
def Zo8(g:Gs):Str.ofString "guest " ++ Str.join " " ((gsD g).map sD)=Yn g:=by
 unfold Yn Jn gsD;rw[Xw,Up,<- DT,Zs5,BY]
def ZpM(y:Yd):Str.ofString "yard " ++ nS (y.T:Int)=Ze1 y:=by
 rfl
def Od(h:Qr K ta Z d)(c:SOk d):Qr K (tCB Bu<|Q4 ta QL) Z (.str<|sD d):=by
 cases c with
 |int f L=>exact YS h (Jw f L)
 |str _=>exact EW h
def Hm{B:Nat}(h:ps.length<=9)(c:∀p∈ps,p.length<=300):(ps.map (·.length)).sum+ps.length*Str.length " " <= 16777216:=La c (by decide) h (by decide)
def P9(h:ps.length<=9)(c:∀p∈ps,p.length<=300):(Str.join " " ps).length<=3100:=by
 cases ps with
 |nil=>exact XH _
 |cons a r=>
  rw[Up];have L:=D7 (sep := " ") r a λx f=>c x (Xf _ f);have i:=c a Xb;have g:r.length*(Str.length " " + 300)<=8*301:=Nat.mul_le_mul (by simp at h;lia) (by decide)
  lia
inductive R_ltext:List OT->OT->Prop
 |mk {y:Yd}{gs:List Gs}(hy:YdT y)(hb:∀l∈y.ls,l.bs≠[])(hg:∀g∈gs,GsT g)(hn:gs.length<=8):R_ltext [.fz<|Za y,.fz<|.list<|gs.map QQ] (.fz<|.str<|Wy y gs)
def J7:Qo ["_law_yard_here","_law_guests","_law_rows","_law_above","_law_bounds","_law_word","_law_guest_here"] Zaz (QD R4):=by walk_at"p"
def OU(T:Bl mg)(H1:Df K mg "_law_text" R4 Zaz):Q2 P w K mg base "_law_text" Zaz 1 (QC (K:=K) R_ltext):=by
 refine H1.ev J7 (λf ts r h H N F A outer s I=>?_);cases h with
 |@mk y j U C E J=>
  refine#[_,(Qy (QR 2 J7.nd<|Zz<|Qs (QX Ub QP<|Vc YF T.str Yf<|Qs (QG QH g0 Qw) Qq) Qq)
 (Qy (Va zN rfl (by exact(B9<|QG QH g0 Qw)) (UG (n:=2) rfl (VG (Zy 3 J7.nd)<|VG (Zy 4 J7.nd) Ue)) (by exact(Qy (QR 5 J7.nd QP)
 (Qy (QW (UF<|L9 y3) (Qz<|QR 5 J7.nd<|Vc YF T.str Yf v3) QV)
 (Qz<|Z0<|ZK zP zS zT VJ va2<|Qs (QX Ub (QX Ub (QX Ub QP<|pv 5) QP)<|ZK PySem.F.plainAttrs_str PySem.F.slot_str_join PySem.F.type_str_join BL QP<|Qs (V3 J7 ["_law_bound"] [none] (B9 g4) λ_=>(Vc YF T.str Yf y0)) Qq) Qq)))))
 (Qy (Va zN rfl (by exact(VV vb1)) (Zy 6 J7.nd)<|by exact(Qz<|Z0<|ZK zP zS zT VJ va2<|Qs (QX Ub QP<|ZK PySem.F.plainAttrs_str PySem.F.slot_str_join PySem.F.type_str_join BL QP<|Qs (V3 J7 ["_law_number"] [none] (B9<|pv 6) λ_=>(Vc YF T.str Yf y0)) Qq) Qq))
 (Qz<|QK<|ZK PySem.F.plainAttrs_str PySem.F.slot_str_join PySem.F.type_str_join BL QP y2)))),?_]
  show QJ K _ [_,_,_,_,_,_,_] _
  walk_at"x";have G:=U.n;refine QB (Vi (Vh (ds:=[.str<|Ze1 y]) (QZ (Qr.cast (Ug QT (YS (i:=(y.T:Int)) (Vt (Qp rfl) Q0 rfl)<|Jw #[]<|Uh U.t)<|Xq (YW (show _<=5 by decide)<|Dj #[]<|Uh U.t)<|by decide)<|XS PyData.str<|ZpM y) Z5) Be) ?_);walk_at"d";refine QB (Ud (ds:=y.ls.map V4) (λi=>[zf<|Za y,zf<|.list<|j.map QQ,some<|.ol<|(Ze1 y::(y.ls.take i).map V7).map PyData.str,none,none,none,none]) ?ei #[rfl,rfl,rfl,trivial] ?st ?fin)
  case ei=>exact Gy (Vt (Qp rfl) Q0 rfl)
  case st=>
   intro i d X;have M:i<y.ls.length:=by
    have:=(Xi.mp X).1;simpa using this
   obtain rfl:d=V4 y.ls[i]:=by simpa [M] using X.symm
   have k:y.ls.take (i+1)=y.ls.take i++[y.ls[i]]:=by rw[Jf];simp[M]
   have m:=U.ls _ (X6 M);have W:=C _ (X6 M);have z:(Ze1 y::(y.ls.take<|i+1).map V7).map PyData.str=(Ze1 y::(y.ls.take i).map V7).map PyData.str++[.str<|V7 y.ls[i]]:=by rw[k,Xx,<- Ur,Xx];rfl
   rw[z];have v:((Ze1 y::(y.ls.take i).map V7).map PyData.str).length<=100:=by simp;lia
   generalize (Ze1 y::(y.ls.take i).map V7).map PyData.str=x at v;generalize y.ls[i]=l at m W;have L:=m.ln;have o:=Ku (m.ok _ Xb);refine#[_,WA (Vv Zg<|Vv Zg WT) rfl,?_];walk_at"d";refine QB (Z6 QT ?_);walk_at"d";have rest:∀{H1:PEnds} {t:TS},(H1.nx [zf<|Za y,zf<|.list<|j.map QQ,some<|.ol x,zf<|upD l.up,zf<|.tuple<|l.bs.map PyData.int,zf<|.str<|sD<|upT l.up,none])->QJ K (Jj (WC<|HJ<|Q8 3) (ZN (tCB Bu<|Q4 (Q8 3) QL)<|Vs 5) Gk) [zf<|Za y,zf<|.list<|j.map QQ,some<|.ol x,zf<|upD l.up,zf<|.tuple<|l.bs.map PyData.int,zf<|.str "-",none] H1:=λ{H1 t} h=>by
    cases e:l.up with
    |none=>
     rw[e]at h;exact Zb (b:=false) (QM.cast (Zn<|Dl<|Qp rfl) rfl) nf (λ_=>Zf h)
    |some a=>
     rw[e]at h;exact Zb (b:=true) (QM.cast (Zn<|Dl<|Qp rfl) rfl) (λ_=>Z6 (YS (i:=(a:Int)) (Qp rfl)<|Jw #[]<|Uh<|m.up a e) h) nt
   refine QB (rest (t:=Gk) ?_);have Y:∀p∈l.bs.map nS,p.length<=300:=λp q=>by
    apply At (Xo.mp q);rintro b C rfl;exact Dj (m.bs b C).1 (m.bs b C).2
   refine Wx rfl (Qr.cast (Ug (Ug (Ug QT (Qp rfl) ?l1) QT ?l2) (BG (ys:=l.bs.map nS) QT (Qr.cast (EvO.fz<|Yy (xs:=l.bs) (enc:=PyData.int) (h:=λb=>.str<|nS b) ?ei2 #[] ?el)<|by rw[XA];rfl)<|Hm (B:=0) (by rw[Xg];lia) Y) ?l3)<|XS PyData.str<|Zrf W) #[] ?_
   case l1=>exact Xq (YW (show _<=5 by decide) o) (by decide)
   case l2=>
    rw[Str.length_append];exact Xq (YW (YW (show _<=5 by decide) o) (show _<=1 by decide)) (by decide)
   case l3=>
    rw[Str.length_append,Str.length_append];exact Xq (YW (YW (YW (show _<=5 by decide) o) (show _<=1 by decide))<|P9 (by rw[Xg];lia) Y) (by decide)
   case ei2=>exact Gy (Qp rfl)
   case el=>
    exact λb C c=>#[_,Zg,YS (Qp rfl)<|Jw (m.bs b C).1 (m.bs b C).2]
   exact#[rfl,rfl,rfl,trivial]
  case fin=>
   refine λZ u=>JU u ?_;rw[Xg,W3];refine QB (Ud (ds:=j.map QQ) (λi=>[zf<|Za y,zf<|.list<|j.map QQ,some<|.ol<|(Ze1 y::(y.ls.map V7++(j.take i).map Yn)).map PyData.str,none,none,none,none]) ?ei3 #[rfl,rfl,by simp,trivial] ?st3 ?fin3)
   case ei3=>exact Yi (Qp rfl)
   case st3=>
    intro i d X;have M:i<j.length:=by
     have:=(Xi.mp X).1;simpa using this
    obtain rfl:d=QQ j[i]:=by simpa [M] using X.symm
    have k:j.take (i+1)=j.take i++[j[i]]:=by rw[Jf];simp[M]
    have m:=E _ (X6 M);have z:(Ze1 y::(y.ls.map V7++(j.take<|i+1).map Yn)).map PyData.str=(Ze1 y::(y.ls.map V7++(j.take i).map Yn)).map PyData.str++[.str<|Yn j[i]]:=by rw[k,Xx (f:=Yn),<- UR,<- Ur,Xx (f:=PyData.str)];rfl
    rw[z];have v:((Ze1 y::(y.ls.map V7++(j.take i).map Yn)).map PyData.str).length<=100:=by simp;lia
    generalize (Ze1 y::(y.ls.map V7++(j.take i).map Yn)).map PyData.str=x at v;generalize j[i]=g at m;have Y:∀p∈(gsD g).map sD,p.length<=300:=λp q=>by
     apply At (Xo.mp q);rintro b C rfl;exact Ku (m.ok b C)
    refine#[_,Zg,?_];walk_at"d";refine Wx rfl (Qr.cast (Ug QT (BG (ys:=(gsD g).map sD) QT (Qr.cast (EvO.fz<|Yy (xs:=gsD g) (enc:=id) (h:=λd=>.str<|sD d) ?ei4 (by show(5:Nat)<=1000;decide) ?el4)<|by rw[XA];rfl)<|Hm (B:=0) (by rw[Xg];show(5:Nat)<=9;decide) Y) ?l4)<|XS PyData.str<|Zo8 g) #[] ?_
    case l4=>exact Xq (YW (show _<=6 by decide)<|P9 (by rw[Xg];show(5:Nat)<=9;decide) Y) (by decide)
    case ei4=>exact EvI.cast (Gy<|Qp rfl) (List.map_id<|gsD g).symm
    case el4=>
     exact λb C c=>#[_,Zg,Od (Qp rfl)<|m.ok b C]
    exact#[rfl,rfl,rfl,trivial]
   case fin3=>
    refine λZ u=>JU u ?_;rw[Xg,W3];refine We 2 rfl ?_;walk_at"d";refine Zj (Qr.cast (BG QT (Qp rfl)<|La (B:=3100) (n:=14) (λp q=>?_) (by decide) (by simp;lia)<|by decide)<|XS PyData.str<|Up _ _ _) rfl;rcases Xd.mp q with rfl|q
    .exact N7 U
    .rcases Xz.mp q with q|q
     .apply At (Xo.mp q);rintro l m rfl;exact NM (U.ls l m)
     .apply At (Xo.mp q);rintro g m rfl;exact Rv (E g m)
inductive R_said(CD CH:Addr):List OT->(OT->Prop)->Prop
 | tell {N:HandS}{x s:Str}(h:R_sayZ CD CH [.zow<|InZ CD "hand"<|Zd CH N,.fz<|.str x] (λr=>r=.fz (.str s))):R_said CD CH [.zow<|InZ CD "hand"<|Zd CH N,.fz<|.str x] (λr=>r=.ol [.str "says",.str s])
 | num {N:HandS}{x:Str}{z:Int}(h:X_sayG CD CH (X_ansN CH) [.zow<|InZ CD "hand"<|Zd CH N,.fz<|.str x] (λw=>w=.int z)):R_said CD CH [.zow<|InZ CD "hand"<|Zd CH N,.fz<|.str x] (λr=>r=.ol [.str "number",.int z])
 | time {N:HandS}{x:Str}(h:X_sayG CD CH (X_ansE CH) [.zow<|InZ CD "hand"<|Zd CH N,.fz<|.str x] (λ_=>True)):R_said CD CH [.zow<|InZ CD "hand"<|Zd CH N,.fz<|.str x] (λr=>r=.ol [.str "time"])
noncomputable def sW:Qh:=["guest","time","room","number","row"]
def wF(h:PyData.strOk x=true):Yl (.list [.str x]):=(KP (m:=0)<|BM #[by unfold PyData.canLay0;exact h,XH _] K3).fine (by decide)
def Dt(e:Z[2]?=some (some<|.ol [.str a]))(L:PyData.strOk a=true)(c:PyData.strOk x=true)(h:PyData.eqv (.list [.str a]) (.list [.str x])=b):QM K (WC<|tOp Ht (Q8 2)<|Y8<|Q4 (tC<|.str x) QL) Z b:=
 Np 2 e rfl (QM.cast (Zn<|MR (Qp<|XI (Xi.mp e).1) (EvO.fz<|Vh (QZ QT Z5)<|by simp) (wF L)<|wF c) h)
def Lz{rest:TS}
(g:∀{Z:ZbI} {c:Addr} {b:Bool},Z[3]?=some (some o)->W.kitOne K (.ref C) (.ref c)=some b->Qr K (tCB (W7 K C)<|Q4 (Q8 3)<|Q4 (tC<|.ref c) QL) Z (.bool b))
(th:∀{Z:ZbI} {t:TE} {n:Qd},Z[3]?=some (some o)->Jv n->(∀m:ZP,(∀f:ZbI,f[3]?=some (zz m)->EvI K (Bi C e<|Q4 (tC<|.int 5) QL) f (ZM 0 5))->EvO K t (Z.set 3<|zz m) (.ol n))->EvO K t Z (.ol n))
(i:Bb K mg Xa4 C cg ct CR CQ cu (decide (0=j)) (decide (1=j)) (decide (2=j)) (decide (3=j)) (decide (4=j)))(A:j<5)
(h:∀w s,QJ K rest [none,none,some<|.ol [.str<|sW.getD j Str.empty],some o,w,s] H1):
 QJ K (V6 (ZN (Y8<|Q4 (tCB (W7 K C)<|Q4 (Q8 3)<|Q4 (tC<|.ref cg) QL)<|Q4 (tCB (W7 K C)<|Q4 (Q8 3)<|Q4 (tC<|.ref ct) QL)<|Q4 (tCB (W7 K C)<|Q4 (Q8 3)<|Q4 (tC<|.ref CR) QL) QL)<|Vs 4)
  (V6 (ZN (tOp Bc (Q8 4)<|Y8<|Q4 (tCB (W7 K C)<|Q4 (Q8 3)<|Q4 (tC<|.ref CQ) QL)<|Q4 (tCB (W7 K C)<|Q4 (Q8 3)<|Q4 (tC<|.ref cu) QL) QL)<|Vs 4)
  (V6 (ZN (Y8<|Q4 (tC<|.str "guest")<|Q4 (tC<|.str "time")<|Q4 (tC<|.str "room")<|Q4 (tC<|.str "number")<|Q4 (tC<|.str "row") QL)<|Vs 5)
  (V6 (ZN (tLC [none,some 5,some 4] (Bi C e<|Q4 (tC<|.int 5) QL) (λ_=>Vs 0) (λ_=>tB<|tOp (rIx K) (Q8 2)<|Q8 0) λ_=>tOp (rIx K) (Q8 1)<|Q8 0)<|Vs 2) rest)))) [none,none,none,some o,none,none] H1:=by
 refine QB (Vi (Vh (ds:=[.bool<|decide (0=j),.bool<|decide (1=j),.bool<|decide (2=j)]) (QZ (g rfl i.k1)<|QZ (g rfl i.k2)<|QZ (g rfl i.k3) Z5)<|by show(3:Nat)<=1000;decide) ?_);walk_at"d";refine We 4 rfl ?_;walk_at"d";refine QB (Vi (MQ (bs:=[.bool<|decide (3=j),.bool<|decide (4=j)]) (Qp rfl) (EvO.fz<|Vh (QZ (g rfl i.k4)<|QZ (g rfl i.k5) Z5) Z0j)<|by show(5:Nat)<=1000;decide) ?_);walk_at"d";refine We 4 rfl ?_;walk_at"d";refine QB (Vi (Vh (ds:=sW.map PyData.str) (QZ QT<|QZ QT<|QZ QT<|QZ QT<|QZ QT Z5)<|by show(5:Nat)<=1000;decide) ?_);walk_at"d";refine We 5 rfl ?_;walk_at"d";have P:Jv [PyData.str<|sW.getD j Str.empty]:=λd B=>by rw[Xj.mp B];exact#[_,rfl]
 refine QB (Vi (r:=.ol [.str<|sW.getD j Str.empty]) (th rfl P λm M=>EvO.cast (JY (xs:=List.range 5) (enc:=λ(k:Nat)=>PyData.int (k:Int)) (h:=λ(k:Nat)=>.str<|sW.getD k Str.empty) (p:=λk=>decide (k=j)) ?ei (by decide) ?el) ?eq)<|h _ _)
 case ei=>exact EvI.cast (M _ rfl) rfl
 case eq=>
  have:∀j:Nat,j<5->(List.range 5).filter (λk=>decide (k=j))=[j]:=by decide
  rw[this j A];rfl
 case el=>
  intro k q c;have q:=XY.mp q;refine#[_,Zg,?_];walk_at"e";have y:atI ([PyData.bool<|decide (0=j),.bool<|decide (1=j),.bool<|decide (2=j)]++[.bool<|decide (3=j),.bool<|decide (4=j)]) (k:Int)=some (PyData.bool<|decide (k=j)):=by
   obtain rfl|rfl|rfl|rfl|rfl:k=0\/k=1\/k=2\/k=3\/k=4:=#[]
   all_goals rfl
  refine#[QM.cast (Z3<|Z2 (Qp rfl) (Qp rfl) y) rfl,λU=>Z2 (ds:=sW.map PyData.str) (Qp rfl) (Qp rfl) ?_];obtain rfl|rfl|rfl|rfl|rfl:k=0\/k=1\/k=2\/k=3\/k=4:=#[]
  all_goals rfl
def V0:Qo Zak Zao (QD GN):=by walk_at"p"
def IE(T:Bl mg)(G:DeskC K CD)(g:Bb K mg YR CQ cg ct CR CQ cu false false false true false)(c:Bb K mg YR ct cg ct CR CQ cu false true false false false)(S:Ap K mg YR CQ)(H1:Df K mg "_law_said" GN Zao)(u:ZC P w K mg base CD "say" Zaw 10 (Zi K<|R_sayZ CD CH))(t:ZZ P w K mg base CD "say" Zaw 10 (ZI K CQ (Jo "number") (λ_ _=>False)<|X_sayG CD CH<|X_ansN CH))(r:ZZ P w K mg base CD "say" Zaw 10 (ZI K ct Yv (λ_ _=>False)<|X_sayG CD CH<|X_ansE CH)):Q2 P w K mg base "_law_said" Zao 11 (Zi K<|R_said CD CH):=by
 refine H1.evD V0 (λf ts Φ h H dx cdv A outer s W=>?_);have M:=W.units;cases h with
 |@tell N x s' h=>
  refine#[_,(Qy (QR 2 V0.nd U8)
 (Qy (DM (j:=3) c.em rfl rfl rfl c.my V0.nd rfl (.inl rfl) (λH1 B=>(Qz<|QR 2 V0.nd<|Zz<|Qs QP<|Qs (D1 u G.cl W Jq g0 va1) Qq)) λe B=>Vd)
 (Qz<|QK va2))),?_]
  exact QB (Z6 Wq (QB (Lo λE'=>Vi (Vh (QZ QT<|QZ (IM (by decide +kernel) rfl (Qu (Qp rfl) Q1) h) Z5)<|by show(2)<=1000;decide) (UJ rfl rfl))))
 |@num N x z h=>
  refine#[_,(Qy (QR 2 V0.nd U8)
 (Qy (DM (j:=3) g.em rfl rfl rfl g.my V0.nd rfl (.inl rfl) (λH1 B=>(Qz<|QR 2 V0.nd<|Zz<|Qs QP<|Qs (D1 t G.cl W FX g0 va1) Qq)) (λe B=>(Qy (QR 4 V0.nd<|Zz<|Qs (WR g.is T.isi<|av 3<|Qs (Y2 (v:=.ref _) rfl g.m1 rfl) Qq)<|Qs (WR g.is T.isi<|av 3<|Qs (Y2 (v:=.ref _) rfl g.m2 rfl) Qq)<|Qs (WR g.is T.isi<|av 3<|Qs (Y2 (v:=.ref _) rfl g.m3 rfl) Qq) Qq)
 (Qy (QR 4 V0.nd<|QX Bw g4<|Zz<|Qs (WR g.is T.isi<|av 3<|Qs (Y2 (v:=.ref _) rfl g.m4 rfl) Qq)<|Qs (WR g.is T.isi<|av 3<|Qs (Y2 (v:=.ref _) rfl g.m5 rfl) Qq) Qq)
 (Qy (QR 5 V0.nd<|Ls<|WW QP (WW QP (WW QP (WW QP (WW QP PN Ja) Ja) Ja) Ja) Ja)
 (Qy (N8 (i:=2) V0.nd rfl rfl (NX:=Zak) (sc:=QD GN) (N:=Zau) (f:=[none,some 5,some 4]) (by decide +kernel) rfl rfl (Ch (C:=CQ) (e:=e) (by rfl) (by rfl) T.range<|Qs Qw Qq) (λ_=>(Zy 0 (show(Zau:Qh).Nodup by decide +kernel))) (λ_=>JZ) (λ_=>(Uc<|ZL<|QG (show IxR _ (rIx K) from QH) va2 g0)) (λ_=>(QG (show IxR _ (rIx K) from QH) vb1 g0)) rfl)
 (Qy (QW (Zo (G2 M) va2<|Zz<|Qs QP Qq) (Qz<|Z0 (show PE _ _ (tBM K "list" Yr _ _) from ZK zP zS zT VJ va2<|Qs Ko Qq)) QV)
 (Qz<|QW (Zo (G2 M) va2<|Zz<|Qs QP Qq) (Qz<|Z0 (show PE _ _ (tBM K "list" Yr _ _) from ZK zP zS zT VJ va2<|Qs (Ih S.gt S.na y3) Qq)) QV))))))))
 (Qz<|QK va2))),?_]
  refine QB (Z6 Wq ?_);apply QB;apply Zpq (n:=6) (j:=3) (λw=>w=.int z) (by decide)
  case hz=>
   exact λE' F0 U F O J x St a=>Td QT (Q3.refl St.sub) St λF1 D Y I Q=>LJ bkV (by decide +kernel) rfl (Qu (Qp rfl) Q1) h FI (λR y e q d l Z k p=>a R y e q d l Z k p) Y I
  case hth=>
   rintro _ e E rfl;exact Lz (j:=3) (λL m=>Im L rfl m) (λL m o=>Zq6 3 L m<|o _ λX b=>Zpl b (Qu Q0 Q1) (by decide)<|by decide) g (by decide) λu4 u5=>QB (Zb (Dt rfl (by decide +kernel) (by decide +kernel)<|by decide +kernel) nf λ_=>Zf (Zb (Dt rfl (by decide +kernel) (by decide +kernel)<|by decide +kernel) (λ_=>Wx rfl (E5 rfl (λ_=>.int _)) (by decide) (UJ rfl rfl)) nt))
 |@time N x h=>
  refine#[_,(Qy (QR 2 V0.nd U8)
 (Qy (DM (j:=3) c.em rfl rfl rfl c.my V0.nd rfl (.inl rfl) (λH1 B=>(Qz<|QR 2 V0.nd<|Zz<|Qs QP<|Qs (D1 r G.cl W FX g0 va1) Qq)) (λe B=>(Qy (QR 4 V0.nd<|Zz<|Qs (WR c.is T.isi<|av 3<|Qs (Y2 (v:=.ref _) rfl c.m1 rfl) Qq)<|Qs (WR c.is T.isi<|av 3<|Qs (Y2 (v:=.ref _) rfl c.m2 rfl) Qq)<|Qs (WR c.is T.isi<|av 3<|Qs (Y2 (v:=.ref _) rfl c.m3 rfl) Qq) Qq)
 (Qy (QR 4 V0.nd<|QX Bw g4<|Zz<|Qs (WR c.is T.isi<|av 3<|Qs (Y2 (v:=.ref _) rfl c.m4 rfl) Qq)<|Qs (WR c.is T.isi<|av 3<|Qs (Y2 (v:=.ref _) rfl c.m5 rfl) Qq) Qq)
 (Qy (QR 5 V0.nd<|Ls<|WW QP (WW QP (WW QP (WW QP (WW QP PN Ja) Ja) Ja) Ja) Ja)
 (Qy (N8 (i:=2) V0.nd rfl rfl (NX:=Zak) (sc:=QD GN) (N:=Zau) (f:=[none,some 5,some 4]) (by decide +kernel) rfl rfl (Ch (C:=ct) (e:=e) (by rfl) (by rfl) T.range<|Qs Qw Qq) (λ_=>(Zy 0 (show(Zau:Qh).Nodup by decide +kernel))) (λ_=>JZ) (λ_=>(Uc<|ZL<|QG (show IxR _ (rIx K) from QH) va2 g0)) (λ_=>(QG (show IxR _ (rIx K) from QH) vb1 g0)) rfl)
 (Qy (QW (Zo (G2 M) va2<|Zz<|Qs QP Qq) (Qz<|Z0 (show PE _ _ (tBM K "list" Yr _ _) from ZK zP zS zT VJ va2<|Qs Ko Qq)) QV)
 (Qz<|QW (Zo (G2 M) va2<|Zz<|Qs QP Qq) (Qz<|Z0 (show PE _ _ (tBM K "list" Yr _ _) from ZK zP zS zT VJ va2<|Qs Ko Qq)) QV))))))))
 (Qz<|QK va2))),?_]
  refine QB (Z6 Wq ?_);apply QB;apply ZqO (n:=6) (j:=3) (λ_=>True) (by decide)
  case hz=>
   exact λE' F0 U F O J x St a=>Td QT (Q3.refl St.sub) St λF1 D Y I Q=>LJ bkN (by decide +kernel) rfl (Qu (Qp rfl) Q1) h FI (λR y e q d l Z k p=>a R y e q d l Z k p) Y I
  case hth=>
   exact λe=>Lz (j:=1) (λL m=>Eu L rfl m) (λL m o=>Zp9 3 L m<|o _ λX b=>Zrl b (Qu Q0 Q1) (by decide)<|by decide) c (by decide) λu4 u5=>QB (Zb (Dt rfl (by decide +kernel) (by decide +kernel)<|by decide +kernel) nf λ_=>Zf (Zb (Dt rfl (by decide +kernel) (by decide +kernel)<|by decide +kernel) nf (λ_=>Zf (UJ rfl rfl))))
inductive R_saidT:HandS->List OT->(OT->HandS->Prop)->Prop
 | mk {N:HandS}{x:Str}{Ψ:OT->HandS->Prop}(h:R_sayT N [.fz<|.str x] Ψ)(hs:∀r N',Ψ r N'->∃s,r=.fz (.str s)):R_saidT N [.fz<|.str x] (λr N'=>∃s,Ψ (.fz<|.str s) N'/\r=.ol [.str "says",.str s])
def Zrn(T:Bl mg)(U:DeskC K CD)(i:Bb K mg YR ct cg ct CR CQ cu false true false false false)(H1:Df K mg "_law_said" GN Zao)(n:ZC P w K mg base CD "say" Zaw 10 (spP K (λN=>InP CD "hand"<|QY CH N) R_sayT)):Q2 P w K mg base "_law_said" Zao 11 (spP K (λN=>InP CD "hand"<|QY CH N) R_saidT):=by
 refine H1.evP V0 (λf v M ts q h H X C A outer s c=>?_);have W:=c.units;cases h with
 |@mk x q h B=>
  refine#[_,(Qy (QR 2 V0.nd U8)
 (Qy (DM (j:=3) i.em rfl rfl rfl i.my V0.nd rfl (.inl rfl) (λH1 y=>(Qz<|QR 2 V0.nd<|Zz<|Qs QP<|Qs (D1 n U.cl c Jq g0 va1) Qq)) λe y=>Vd)
 (Qz<|QK va2))),?_]
  refine YT (Z6 Wq rfl)<|VR (λm=>∃s g,q (.fz<|.str s) g/\m=[zo v<|InP CD "hand"<|QY CH g,zf<|.str x,some<|.ol [.str "says",.str s],none,none,none]) (Lo λE'=>ZpR rfl rfl QT rfl (Qu (Qp rfl) Q1) h ?_) ?_
  .intro r g c;obtain⟨s,rfl⟩:=B r g c;exact#[_,_,rfl,rfl,s,g,c,rfl]
  rintro _ ⟨s,g,c,rfl⟩;exact IF (by decide) rfl #[g,#[s,c,rfl],rfl]
noncomputable def eRw(g:Gs):PyData:=.list [.int (g.line:Int),.int (g.first:Int),.int (g.last:Int),.int g.want,.int g.most]
def Zq9{c:Type}(a:c)(n:Nat):List.replicate n a=(List.range n).map λ_=>a:=by
 apply List.ext_getElem?;intro i;by_cases h:i<n
 .simp[h]
 .simp[h]
noncomputable def VB(y:Yd)(b own:Qn)(i l:Nat):Int:=if y.ls.length<=l+i then passes y b own l else Vj y b own i l
inductive R_lpass:List OT->OT->Prop
 |mk {y:Yd}{gs:List Gs}{sm:Qk}{t:Nat}(ok:y.Ok)(hg:∀g∈gs,g.Ok y)(hs:SetOk gs sm)(ht:t<y.T):
  R_lpass [.fz<|Za y,.fz<|.list<|gs.map eRw,.fz<|.list<|ZA sm,.fz<|.int (t:Int)] (.fz<|.int<|Ua y gs sm t)
def W2:Qo ["_law_yard_here","_law_rows","_law_picked","_law_turn","_law_reach","_law_number","_law_line","_law_first","_law_last","_law_lack","_law_most","_law_k","_law_above","_law_bounds"] Zai (QD RN):=by walk_at"p"
def OC(T:Bl mg)(H1:Df K mg "_law_passes" RN Zai):Q2 P w K mg base "_law_passes" Zai 1 (QC (K:=K) R_lpass):=by
 refine H1.ev W2 (λf ts r h H dx cdv A outer s hr=>?_);cases h with
 |@mk y B q t o hg hs htT=>
  refine#[_,(Qy (QR 4 W2.nd<|QX Eh (Zz<|Qs Qw Qq)<|Zk ZH T.len ZD<|Qs (QG QH g0 Qw) Qq)
 (Qy (Va zN rfl (by exact(VV va2)) (Zy 5 W2.nd) (by exact(Qy (JW (QG QH vb1<|pv 5)<|Ek (n:=5) rfl (VG (Zy 6 W2.nd)<|VG (Zy 7 W2.nd)<|VG (Zy 8 W2.nd)<|VG (Zy 9 W2.nd)<|VG (Zy 10 W2.nd) Ue))
 (Qz<|QW (PW.pt<|De (DB WF WF (pv 7) y3<|pv 8)<|Dp<|Zo YL (pv 9) Qw) (Qz<|JW (QX Yp (QG QH g4<|pv 6)<|pv 10)<|G5 g4 (pv 6) Wv) QV))))
 (Qy (Va zN rfl (by exact(FQ rfl T.range<|Qs (QX YD (Zk ZH T.len ZD<|av 4 Qq) Qw)<|Qs (HL Km Qw)<|Qs (HL Km Qw) Qq)) (Zy 11 W2.nd) (by exact(Qy (JW (QG QH (QG QH g0 Qw)<|pv 11)<|UG (n:=2) rfl (VG (Zy 12 W2.nd)<|VG (Zy 13 W2.nd) Ue))
 (Qy (JW (Zk (MZ rfl) T.min Bx<|Qs (QG QH g4<|pv 11)<|Qs (QG QH (pv 13) y3) Qq)<|G5 g4 (pv 11) Wv)
 (Qz<|QW (Zo YL (pv 11) Qw) (Qz<|JW (QX Yp (QG QH g4<|pv 12)<|QG QH g4<|pv 11)<|G5 g4 (pv 12) Wv) QV)))))
 (Qz<|QK<|QG QH g4 Qw)))),?_]
  walk_at"x";have l1:=o.l1;have l5:=o.l5;have t8:=o.t8;have n8:=hs.len;have eL:∀{Z:ZbI},Z[0]?=some (zf<|Za y)->Qr K (tOp (rIx K) (Q8 0)<|tC<|.int 1) Z (.tuple<|y.ls.map V4):=λe=>Vt (Qp e) Q0 rfl;have N:(y.ls.map V4).length=y.ls.length:=by simp
  refine QB (Vi (EvO.cast (E3 (ds:=[.int 0]) (k:=(y.ls.length:Int)) (EvO.fz<|Vh (ds:=[.int 0]) (QZ Q0 Z5)<|by decide) (Qr.cast (BA<|eL rfl)<|by rw[N]) #[] (by show 1*_<=1000;lia)<|#[]) (d':=.ol ((List.range y.ls.length).map λl=>PyData.int<|ZG B (t:Int) l [])) ?e0) ?_)
  case e0=>
   rw[Lc,XF,Zq9];rfl
  walk_at"d";refine QB (VF (ds:=ZA q) (λi U=>∃G F E D x M:Option OT,U=[zf<|Za y,zf<|.list<|B.map eRw,zf<|.list<|ZA q,zi (t:Int),some<|.ol<|(List.range y.ls.length).map λl=>PyData.int<|ZG B (t:Int) l<|q.take i,G,F,E,D,x,M,none,none,none]) (Yi<|Qp rfl) #[_,_,_,_,_,_,rfl] ?st3 ?fin3)
  case st3=>
   rintro i d _ J ⟨G,F,E,D,x,M,rfl⟩;have I:i<q.length:=by
    have:=(Xi.mp J).1;simpa [ZA] using this
   obtain rfl:d=.int ((q[i]:Nat):Int):=by simpa [ZA,I] using J.symm
   have u:q[i]<B.length:=hs.mem _ (X6 I);refine#[_,Zg,?_];walk_at"d";have L:q.take (i+1)=q.take i++[q[i]]:=by rw[Jf];simp[I]
   have eg:atI (B.map eRw) ((q[i]:Nat):Int)=some (eRw B[q[i]]):=Z9 (by simp[u]);have v:=hg B[q[i]] (X6 u);have gl:=v.ln;have gw:=v.w1;refine QB (HY (Z2 (Qp rfl) (Qp rfl) eg) (A1 (Vv Zg<|Vv Zg<|Vv Zg<|Vv Zg<|Vv Zg WT) rfl) ?_);walk_at"d";refine Zb (b:=VW B[q[i]] (t:Int)) (QM.cast (Br (c:=true) (Zn<|Uk (Qp rfl) (Qp rfl)<|Qp rfl) λ_=>QM.cast (Zn<|V8 (Qp rfl) Q0)<|XN<|#[])<|by rw[Bool.and_true];rfl) (λc=>?_) (λc=>Zf ?_)
   .have it:∀{Z:ZbI},Z[4]?=some (some<|.ol<|(List.range y.ls.length).map λl=>PyData.int<|ZG B (t:Int) l<|q.take i)->Z[6]?=some (zi (B[q[i]].line:Int))->Qr K (tOp (rIx K) (Q8 4)<|Q8 6) Z (.int<|ZG B (t:Int) B[q[i]].line (q.take i)):=λe1 S=>Gz e1 (Qp S) (by rw[UI #[]<|#[],XF])
    refine Dv rfl (ZB (it rfl rfl)<|Qp rfl) (Qp rfl) (by rw[MS #[]<|by simp;lia,XF]) ?_;rw[BF (g:=λl=>ZG B (t:Int) l<|q.take<|i+1) gl (λl O p=>by rw[L,UQ];simp[ZG,u,Ne.symm p])<|by rw[L,UQ];simp[ZG,u,c]];exact#[_,_,_,_,_,_,rfl]
   .have e:(λl=>PyData.int<|ZG B (t:Int) l<|q.take<|i+1)=λl=>PyData.int (ZG B (t:Int) l<|q.take i):=by
     funext l
     rw[L,UQ];simp[ZG,u,c]
    dsimp only;exact e▸#[_,_,_,_,_,_,rfl]
  case fin3=>
   rintro _ ⟨G,F,E,D,x,M,rfl⟩;have el:(ZA q).length=q.length:=by simp[ZA]
   rw[el,W3];generalize hb:(λk=>Z7 y k t)=b;generalize ho:JT B t q=m;have e0:((List.range y.ls.length).map λl=>PyData.int<|ZG B (t:Int) l q)=(List.range y.ls.length).map λl=>PyData.int (VB y b m 0 l):=W6 λl O=>by
    have:=XY.mp O;unfold VB;rw[Xe<|#[],<- ho];rfl
   rw[e0];refine QB (VF (ds:=Jh ((y.ls.length:Int)-1) y.ls.length) (λi U=>∃Y X W:Option OT,U=[zf<|Za y,zf<|.list<|B.map eRw,zf<|.list<|ZA q,zi (t:Int),some<|.ol<|(List.range y.ls.length).map λl=>PyData.int<|VB y b m i l,G,F,E,D,x,M,Y,X,W]) ?ei4 #[_,_,_,rfl] ?st4 ?fin4)
   case ei4=>
    apply EvI.cast
    .walk_at"ei"
    .rw[Xg,Ut];exact FK rfl #[]
   case st4=>
    rintro i d _ J ⟨Y,X,W,rfl⟩;obtain⟨I,rfl⟩:=Nf J;refine#[_,Zg,?_];have ej:(y.ls.length:Int)-1-(i:Int)=((y.ls.length-1-i:Nat):Int):=#[]
    rw[ej];generalize hj:y.ls.length-1-i=j;have C:j<y.ls.length:=#[]
    have hbl:=N4 o C;have Q:(V5 y j).bs.getD t 0=b j:=by rw[<- NW C,<- hb]
    have ln:atI (y.ls.map V4) (j:Int)=some (V4<|V5 y j):=Z9 (by simp[C,V5]);have ar:VB y b m i j=VC y b m j:=by
     unfold VB;rw[Xe<|#[]];have:i=y.ls.length-1-j:=#[]
     rw[this];exact CA o b m C
    refine QB (HY (Vt (eL rfl) (Qp rfl) ln) (WA (Vv Zg<|Vv Zg WT) rfl) (QB (Dv (j:=j) rfl (Kk (Gz rfl (Qp rfl)<|UI #[]<|#[])<|Vt (Qp rfl) (Qp rfl)<|TB #[]<|#[]) (Qp rfl) (by rw[MS #[]<|by simp;lia,XF]) ?_)));walk_at"d";rw[XF,XF,Q,ar];have ed:((List.range y.ls.length).map λl=>PyData.int<|VB y b m i l).set j (.int<|min (VC y b m j)<|b j)=(List.range y.ls.length).map λl=>PyData.int (if l=j then passes y b m j else VB y b m i l):=BF C (λl _ p=>Xe p) (Xh rfl);rw[ed];refine Zb (QM.cast (Zn<|V8 (Qp rfl) Q0) rfl) (λc=>?_) (λc=>Zf ?_)
    .have c:=X8 c;apply At (o.ups j #[] C);intro a R la;have eu:upD (V5 y j).up=.int (a:Int):=by
      have:(V5 y j).up=some a:=by rw[<- NC C];exact R
      rw[this];rfl
     rw[eu];refine Dv (j:=a) rfl (ZB (Gz rfl (Qp rfl)<|UI #[]<|#[])<|Gz rfl (Qp rfl)<|UI #[]<|#[]) (Qp rfl) (by rw[MS #[]<|by simp;lia,XF]) ?_;rw[XF,XF,Xh rfl,Xe (show ¬a=j by lia)];have e1:∀l,l<y.ls.length->l≠a->VB y b m (i+1) l=if l=j then passes y b m j else VB y b m i l:=λl O p=>by
      unfold VB;by_cases z:l=j
      .subst z;rw[Xh rfl,Xh<|#[]]
      .rw[Xe z]
       by_cases z2:y.ls.length<=l+i
       .rw[Xh z2,Xh<|#[]]
       .rw[Xe z2,Xe<|#[]];simp only[Vj,WG,hj];rw[R,Xe<|by simpa using λz=>p z.symm];lia
     have S:VB y b m (i+1) a=VB y b m i a+passes y b m j:=by
      have r:Vj y b m i j=VC y b m j:=by
       rw[<- ar];unfold VB;rw[Xe<|#[]]
      unfold VB;rw[Xe<|#[],Xe<|#[]];simp only[Vj,WG,hj];rw[R,Xh rfl,r];rfl
     rw[BF #[] e1 S];exact#[_,_,_,rfl]
    .have c:=GY c;have e:(λl=>PyData.int (if l=j then passes y b m j else VB y b m i l))=λl=>PyData.int (VB y b m (i+1) l):=by
      funext l
      have:j=0:=#[]
      subst this;by_cases z:l=0
      .subst z;rw[Xh rfl];unfold VB;rw[Xh<|#[]]
      .rw[Xe z];unfold VB;rw[Xh<|#[],Xh<|#[]]
     dsimp only;rw[e];exact#[_,_,_,rfl]
   case fin4=>
    rintro _ ⟨Y,X,W,rfl⟩;rw[Ng];refine Zj (Qr.cast (Gz rfl Q0<|UI (by decide)<|#[]) ?_) rfl;unfold VB Ua;rw[Xh<|#[],hb,ho];rfl
inductive R_lsh:List OT->OT->Prop
 |mk {y:Yd}{gs:List Gs}{sm:Qk}(ok:y.Ok)(hg:∀g∈gs,g.Ok y)(hs:SetOk gs sm):R_lsh [.fz<|Za y,.fz<|.list<|gs.map eRw,.fz<|.list<|ZA sm,.fz<|.int 0] (.fz<|.int<|G8 y gs sm)
def Mo:Qo ["_law_yard_here","_law_rows","_law_picked","_law_now","_law_total","_law_turn"] Zaj (QD RJ):=by walk_at"p"
def EH(T:Bl mg)(H1:Df K mg "_law_short" RJ Zaj)(q:Q2 P w K mg base "_law_passes" Zai 1 (QC (K:=K) R_lpass)):Q2 P w K mg base "_law_short" Zaj 2 (QC (K:=K) R_lsh):=by
 refine H1.ev Mo (λf ts r h H o b A outer s U=>?_);cases h with
 |@mk y g j B Y m=>
  refine#[_,(Qy (QR 4 Mo.nd<|Zk Kq T.sum Kh<|Qs (V3 Mo ["_law_number","_law_rows"] [none,some 1] (VV va2) λ_=>(QG QH (QG QH vb1 g0) Qw)) Qq)
 (Qy (Va zN rfl (by exact(Cj rfl T.range<|av 3<|Qs (QG QH g0 Qw) Qq)) (Zy 5 Mo.nd)<|by exact(Qz<|QR 4 Mo.nd<|QX YD g4<|Q7 q U<|av 0<|av 1<|av 2<|av 5 Qq))
 (Qz<|QK g4))),?_]
  walk_at"x";have l:=m.len;have e:=B.t8;refine QB (Z6 (d:=.int (Dx g j)) (MP (Qr.cast (EvO.fz<|Yy (xs:=j) (enc:=λk=>PyData.int<|k) (h:=λk=>.int (g.getD k default).want) ?ei #[] ?el)<|by rw[XA];rfl) rfl) ?_)
  case ei=>exact Yi (Qp rfl)
  case el=>
   refine λk W c=>#[_,Zg,?_];have M:atI (g.map eRw) (k)=some (eRw<|g.getD k default):=Z9 (by simp[m.mem k W]);exact Z2 (Z2 (Qp rfl) (Qp rfl) M) Q0 rfl
  refine QB (Ud (ds:=ZM 0 y.T) (λi=>[zf<|Za y,zf<|.list<|g.map eRw,zf<|.list<|ZA j,zi 0,zf<|.int<|Dx g j-Bj (λt=>Ua y g j t) i,none]) ?ei2 #[rfl,rfl,rfl,rfl,?e0,trivial] ?st2 ?fin2)
  case ei2=>exact EvI.cast (KU (Qu (Qp rfl)<|Qu (Vt (Qp rfl) Q0 rfl) Q1)<|by rw[z62];lia) (YI rfl #[])
  case e0=>simp[Bj]
  case st2=>
   intro i d a;obtain⟨X,rfl⟩:=Yq a;refine#[_,Zg,?_];rw[Ys];refine Z6 (ZB (Qp rfl)<|QN (Qu (Qp rfl)<|Qu (Qp rfl)<|Qu (Qp rfl)<|Qu (Qp rfl) Q1)<|R_lpass.mk B Y m X) #[rfl,rfl,rfl,rfl,?_,trivial];rw[Zo7];exact XS (λz=>some<|OT.fz<|.int z) #[]
  case fin2=>
   refine λC Z=>JU Z ?_;rw[Wh];exact Zj (Qp rfl) rfl
theorem TU(S:Qm):∀n,∃i,i<2^n/\∀k,k<n->decide (i/2^k%2=1)=S k
 |0=>⟨0,by simp,λk h=>Xt h<|#[]⟩
 |n+1=>by
  obtain⟨i,c,h⟩:=TU S n;have f:=Nat.two_pow_pos n;cases s:S n with
  |false=>
   refine#[i,#[],λk g=>?_]
   by_cases z:k<n
   .exact h k z
   .have:k=n:=#[]
    subst this;rw[Nat.div_eq_of_lt c,s];rfl
  |true=>
   refine#[i+2^n,#[],λk g=>?_]
   by_cases z:k<n
   .rw[<- h k z];have e:2^n=2^k*(2*2^(n-k-1)):=by
     rw[<- Nat.mul_assoc,<- Nat.pow_succ,<- Nat.pow_add];congr 1;lia
    rw[e,Nat.add_mul_div_left _ _<|Nat.two_pow_pos k,Nat.add_mul_mod_self_left]
   .have:k=n:=#[]
    subst this;rw[Nat.add_div_right _ f,Nat.div_eq_of_lt c,s];rfl
def Gc(i k:Nat):Bool:=decide (i/2^k%2=1)
def Zoq(h:∀k,k<ms.length->Gc i k=S k):Ym ms (Gc i)=Ym ms S:=List.filter_congr λk c=>h k (XY.mp c)
inductive R_lkept:List OT->(OT->Prop)->Prop
 |mk {y:Yd}{ms:List Gs}(ok:y.Ok)(hg:∀g∈ms,g.Ok y)(m8:ms.length<=8):R_lkept [.fz<|Za y,.fz<|.list<|ms.map eRw,.fz<|.int 0] (λr=>∃b:Bool,r=.fz (.bool b)/\(b=true↔Wc y ms))
def Mp:Qo ["_law_yard_here","_law_rows","_law_now","_law_numbers","_law_bits","_law_picked"] Zap (QD Sb):=by walk_at"p"
def Zsm(T:Bl mg)(H1:Df K mg "_law_all_kept" Sb Zap)(X:Q2 P w K mg base "_law_short" Zaj 2 (QC (K:=K) R_lsh)):Q2 P w K mg base "_law_all_kept" Zap 3 (Zi K R_lkept):=by
 refine H1.evD Mp (λf ts r h H Q N A outer s D=>?_);cases h with
 |@mk y g v o W=>
  refine#[_,(Qy (QR 3 Mp.nd<|V3 Mp ["_law_k","_law_rows"] [none,some 1] (VI rfl T.range<|Qs (Zk ZH T.len ZD va1) Qq) (λ_=> g0) λ_=>(Uc<|Zo YL (QG QH (QG QH vb1 g0) Qw) Qw))
 (Qy (Va zN rfl (by exact(VI rfl T.range<|Qs (QX Ob Qw<|Zk ZH T.len ZD v3) Qq)) (Zy 4 Mp.nd) (by exact(Qy (Me 5 Mp ["_law_k","_law_numbers","_law_bits"] [none,some 3,some 4] (VI rfl T.range<|Qs (Zk ZH T.len ZD v3) Qq) (λ_=>(QG QH vb1 g0)) λ_=>(Uc<|Zo ZJ (QX JX (QX AW va2 g0) Qw) Qw))
 (Qz<|QW (Zo YL (Q7 X D<|av 0<|av 1<|av 5 y2) Qw) (Qz<|QK YB) QV))))
 (Qz<|QK YB))),?_]
  show QJ K _ [_,_,_,_,_,_] _
  walk_at"x";have t:∀i,SetOk g (Ym g<|Gc i):=λi=>Nr W _;refine QB (Vi (r:=.ol (ZA<|List.range g.length)) (EvO.cast (JY (xs:=List.range g.length) (enc:=λ(k:Nat)=>PyData.int (k:Int)) ?ei1 (by rw[Ut];lia) ?el1)<|by rw[M0.mpr λ_ _=>rfl];rfl) ?_)
  case ei1=>
   exact EvI.cast (VS (Qu (Qr.cast (VT<|Qp rfl) (show _=PyData.int (g.length:Int) by rw[Xg])) Q1) (by rw[z62];lia)<|by rw[z62];lia)<|W6 λi _=>by rw[Ys]
  case el1=>
   intro k n c;have n:=XY.mp n;have O:=(o (g.getD k default)<|by simp[n]).w1;have x:atI (g.map eRw) (k:Int)=some (eRw<|g.getD k default):=Z9 (by simp[n]);refine#[_,Zg,#[QM.cast (Zn<|V8 (Z2 (Z2 (Qp rfl) (Qp rfl) x) Q0 rfl) Q0)<|XN<|#[],λ_=>Qp rfl]]
  refine We 3 rfl ?_;generalize b:g.length=m at W;have a:∀{Z:ZbI},Z[3]?=some (zf<|.list<|ZA<|List.range m)->Qr K (tCB (Jm K)<|Q4 (Q8 3) QL) Z (.int (m:Int)):=λe=>Qr.cast (VT<|Qp e) (by unfold ZA;rw[Xg,Ut])
  have J:SN 1 (m:Int):=#[#[],by
   have:(Builtin.Int.intBits 1:Int)=1:=by decide
   rw[this];lia]
  have Y:2^m<=2^8:=Nat.pow_le_pow_right (by decide) W;have p:(1:Int)*2^(m:Int).toNat=((2^m:Nat):Int):=by
   rw[Int.one_mul,XF,Int.natCast_pow];rfl
  have u:=Y;clear Y;generalize E:2^m=q at u p;refine QB (VF (ds:=ZM 0 q) (λi C=>(∀j,j<i->G8 y g (Ym g<|Gc j)<=0)/\∃U M:Option OT,C=[zf<|Za y,zf<|.list<|g.map eRw,zi 0,zf<|.list<|ZA<|List.range m,U,M]) ?ei #[λj B=>Xt B<|#[],_,_,rfl] ?st ?fin)
  case ei=>
   refine EvI.cast (VS (Qu (Qr.cast (Vo Q0 (a rfl) J) (show _=PyData.int (q:Int) by rw[p])) Q1) (by rw[z62];lia)<|by rw[z62];lia) (YI rfl #[])
  case st=>
   rintro i d _ F ⟨B,U,M,rfl⟩;obtain⟨l,rfl⟩:=Yq F;refine#[_,Zg,?_];rw[Ys];refine QB (Vi (r:=.ol (ZA<|Ym g<|Gc i)) (EvO.cast (JY (xs:=List.range m) (enc:=λ(k:Nat)=>PyData.int (k:Int)) ?ei2 (by rw[Ut];lia) ?el2)<|by unfold Ym ZA;rw[b]) ?_)
   case ei2=>
    exact EvI.cast (VS (Qu (a rfl) Q1) (by rw[z62];lia)<|by rw[z62];lia)<|W6 λi _=>by rw[Ys]
   case el2=>
    refine λk n c=>#[_,Zg,#[QM.cast (Zn<|WS (Vo (Vo (Qp rfl) (Qp rfl)<|#[]) Q0<|by decide) Q0) ?_,λ_=>Z2 (Qp rfl) (Qp rfl)<|Z9<|by unfold ZA;simp[XY.mp n]]];rw[XF];have I:((i:Int)/2^k%2)=((i/2^k%2:Nat):Int):=by
     rfl
    rw[I];exact decide_eq_decide.mpr #[λz=>#[],λz=>#[]]
   refine We 5 rfl<|Zb (QM.cast (Zn<|V8 (QN (Qu (Qp rfl)<|Qu (Qp rfl)<|Qu (Qp rfl)<|Qu (Qp rfl) Q1)<|R_lsh.mk v o<|t i) Q0) rfl) (λc=>?_) (λc=>Zf #[λj h=>?_,_,_,rfl])
   .have c:=X8 c;refine Zj U2 #[false,rfl,λz=>(nomatch z),λz=>?_];have L:=z (Gc i);rw[Mb]at L;unfold G8 at c;lia
   .by_cases z:j<i
    .exact B j z
    .have:j=i:=#[]
     lia
  case fin=>
   rintro _ ⟨B,U,M,rfl⟩;rw[Wh]at B;refine Zj U2 #[true,rfl,λ_ S=>?_,λ_=>rfl];apply At (TU S m);intro i l G;have L:=B i (by exact E▸l);rw[Zoq<|by exact b▸G]at L;rw[Mb];exact L
def Kn{w:Str}{n:Int}(h:(JK.find? λp=>p.1==w)=some (w,n)):Jl JK w=.int n:=by
 unfold Jl;rw[h]
def JQ:∀k:Nat,k<12->Txt.split (Str.ofString "got " ++ nS (k:Int)) " "=Str.ofString "got" :: [nS (k:Int)]/\Txt.split (Str.ofString "rest " ++ nS (k:Int)) " "=Str.ofString "rest" :: [nS (k:Int)]/\(nS (k:Int)).length<=2:=by decide +kernel
def Gu{k:Nat}(h:k<12):N30 (k:Int):=#[#[],GV (show _<12 by lia)<|by simp]
def Ir{k:Nat}(h:k<12):RowW (Str.ofString "got " ++ nS (k:Int)) "got" [(k:Int)]:=by
 refine#[(JQ k h).1,?_,Kn (n:=1)<|by decide +kernel,λi c=>?_,by show(1)<=5;decide]
 .rw[Str.length_append];exact Xq (YW (show _<=4 by decide) (JQ k h).2.2) (by decide)
 .rw[Xj.mp c];exact Gu h
def LU{k:Nat}(h:k<12):RowW (Str.ofString "rest " ++ nS (k:Int)) "rest" [(k:Int)]:=by
 refine#[(JQ k h).2.1,?_,Kn (n:=1)<|by decide +kernel,λi c=>?_,by show(1)<=5;decide]
 .rw[Str.length_append];exact Xq (YW (show _<=5 by decide) (JQ k h).2.2) (by decide)
 .rw[Xj.mp c];exact Gu h
def HR(h:Txt.split x " "=[x])(l:x.length<=1000)(c:(JK.find? λp=>p.1==x)=some (x,0)):RowW x x []:=#[h,l,Kn (n:=0) c,λ_ z=>(nomatch z),XH _]
def IB:RowW "now" "now" []:=HR (by decide +kernel) (by decide) rfl
def ZsX:RowW "open" "open" []:=HR (by decide +kernel) (by decide) rfl
def Fn:RowW "turn" "turn" []:=HR (by decide +kernel) (by decide) rfl
def Lw(h:Asc a)(k:Asc b):Asc (a++b):=PP λc f=>by
 rw[BE]at f;exact(Xz.mp f).elim (h.lt c) (k.lt c)
theorem Fo{s:Str}(hs:Asc s):∀(ps:Qh) (a:Str),Asc a->(∀p∈ps,Asc p)->Asc (Y6 s a ps)
 |[],_,h,_=>h
 |p::ps,a,h,k=>Fo hs ps _ (Lw (Lw h hs)<|k p Xb) λx c=>k x (Xf _ c)
def Ip:Asc " " := by unfold Asc;decide +kernel
def Oa(c:Qk):Asc (JB c):=by
 unfold JB;split
 .unfold Asc;decide +kernel
 .cases c with
  |nil=>contradiction
  |cons k c=>
   rw[Xw,Up];refine Fo Ip _ _ (Bz<|#[]) λp f=>?_;apply At (Xo.mp f);rintro j _ rfl;exact Bz #[]
def AL(h:Asc x):PyData.strOk x=true:=by
 show x.cps.all _=true;rw[<- Array.all_toList,Us];intro c f;have:=h.lt c f
 lia
def ZpX(h:PyData.strOk a=true)(k:PyData.strOk x=true):Yl (.list [.str a,.str x]):=(KP (m:=0)<|BM #[by unfold PyData.canLay0;exact h,XH _]<|BM #[by unfold PyData.canLay0;exact k,XH _] K3).fine (by decide)
def jnS(m:Nat):Str:=Str.join " " ((List.range m).map λ(k:Nat)=>nS (k:Int))
def Tn:∀m:Nat,m<9->(if jnS m = "" then Str.ofString "-" else jnS m)=JB (List.range m):=by decide +kernel
inductive R_lst(CD CH:Addr):List OT->(OT->Prop)->Prop
 | mk {y:Yd}{a:List Gs}(hg:∀x∈a,G30 y x)(l:a.length<=8):R_lst CD CH [.zow<|InZ CD "hand"<|Zd CH<|h0S y a,.fz<|.list<|a.map eRw] (λr=>r=.fz (.bool true))
def Du  {s:Str}   (e:zg Z i<|zz ρ)(c:Qr K tr Z (.str x))(h:R_said CD CH [.zow ρ,.fz<|.str x] (λr=>r=.ol [.str "says",.str s]))(g:Qr K te Z (.str s))(hs:Asc s):
 QM K (WC<|tOp HG (ZO (Zi K<|R_said CD CH) [] E'<|Q4 (Q8 i)<|Q4 tr QL)<|Y8<|Q4 (tC<|.str "says")<|Q4 te QL) Z false:=by
 have f:=ZpX (a := "says") (by decide +kernel) (AL hs);exact QM.cast (Zn<|Bp (EvO.fz<|Zt.o<|Y1 (G3 e<|Qu c Q1) h) (EvO.fz<|Vh (QZ QT<|QZ g Z5)<|by show(2)<=1000;decide) f f) (by rw[Ny f];rfl)
def P6:Asc "0" := by unfold Asc;decide +kernel
def Ml:Qo ["_law_desk","_law_rows","_law_opened","_law_k"] ZaC (QD Sc):=by walk_at"p"
def Eo(T:Bl mg)(H1:Df K mg "_law_stands" Sc ZaC)(j:Q2 P w K mg base "_law_said" Zao 11 (Zi K<|R_said CD CH)):Q2 P w K mg base "_law_stands" ZaC 12 (Zi K<|R_lst CD CH):=by
 refine H1.evD Ml (λf ts I h H L G A outer s U=>?_);have X:=U.units;cases h with
 |@mk y a t l=>
  refine#[_,(Qy (QR 2 Ml.nd<|ZK PySem.F.plainAttrs_str PySem.F.slot_str_join PySem.F.type_str_join BL QP<|Qs (V3 Ml ["_law_k"] [none] (VI rfl T.range<|Qs (Zk ZH T.len ZD va1) Qq) λ_=>(Vc YF T.str Yf y0)) Qq)
 (Qy (QW (Zo ZJ va2 QP) (Qz<|QR 2 Ml.nd QP) QV)
 (Qy (QW (PW.pt<|U6 (Zo (G0 X) (Q7 j U<|av 0<|Qs QP Qq)<|Zz<|Qs QP y2)<|UE<|Zo (G0 X) (Q7 j U<|av 0<|Qs QP Qq)<|Zz<|Qs QP<|Qs QP Qq) (Qz<|QK YB) QV)
 (Qy (Va zN rfl (by exact(VI rfl T.range<|Qs (Zk ZH T.len ZD va1) Qq)) (Zy 3 Ml.nd)<|by exact(Qz<|QW (Zo (G0 X) (Q7 j U<|av 0<|Qs (QX Ub QP<|Vc YF T.str Yf v3) Qq)<|Zz<|Qs QP<|Qs (Vc YF T.str Yf<|Qs (QG QH (QG QH vb1 y3) Qw) Qq) Qq) (Qz<|QK YB) QV))
 (Qz<|QK<|YQ (G2 X) (Q7 j U<|av 0<|Qs (QX Ub QP<|Vc YF T.str Yf<|Qs (Zk ZH T.len ZD va1) Qq) Qq)<|Zz<|Qs QP<|Qs (Zk ZH T.len ZD va1) Qq))))),?_]
  show QJ K _ [zz<|InZ CD "hand"<|Zd CH<|h0S y a,zf<|.list<|a.map eRw,none,none] _
  walk_at"x";have r:(h0S y a).known.length=a.length:=Xg _;have C:∀k,k<a.length->JM (h0S y a) k (a.getD k default).want:=λk g=>by
   rw[<- D5];exact Dz Hd g
  have Y:∀{k:Nat},k<12->(k:Int).natAbs.log2<1920:=λh=>Jw (Gu h).lo (Gu h).b
  have b:((List.range (h0S y a).known.length).filter λk => !decide ((a.getD k default).want=0))=List.range a.length:=by
   rw[r,M0];intro k g;have g:=XY.mp g;have:=(t (a.getD k default)<|by simp[g]).ok.w1
   rw[XJ #[]];rfl
  generalize v:h0S y a=N at r C b;have o:N.now=0:=by rw[<- v];rfl
  clear v;have W:∀{Z:ZbI},Z[1]?=some (zf<|.list<|a.map eRw)->Qr K (tCB (Jm K)<|Q4 (Q8 1) QL) Z (.int<|a.length):=λe=>Qr.cast (VT<|Qp e) (by rw[Xg]);refine QB (Z6 (d:=.str (jnS a.length)) (BG QT (Qr.cast (EvO.fz<|Db (lo:=0) (n:=a.length) (h:=λ(k:Nat)=>.str<|nS<|k) ?ei #[] ?el)<|by rw[XA];rfl)<|Hm (B:=0) (by rw[Xg,Ut];lia) λp E=>?fl) ?_)
  case ei=>exact EvI.cast (VS (Qu (W rfl) Q1) (by rw[z62];lia)<|by rw[z62];lia) (YI rfl #[])
  case el=>
   exact λk g c=>#[_,Zg,Qr.cast (YS (Qr.cast (Qp rfl)<|XS PyData.int<|Ys _)<|Y<|#[]) rfl]
  case fl=>
   apply At (Xo.mp E);rintro k g rfl;have:=(JQ k (by have:=XY.mp g;lia)).2.2;lia
  walk_at"d";refine QB (Pm (λq=>q=[zz<|InZ CD "hand"<|Zd CH N,zf<|.list<|a.map eRw,zf<|.str<|JB<|List.range a.length,none]) (Zb (QM.cast (Zn<|Vx (Qp rfl) QT) rfl) (λc=>Z6 QT ?_) λc=>Zf ?_) ?_)
  .rw[<- Tn a.length #[],Xh<|X8 c];rfl
  .rw[<- Tn a.length #[],Xe<|GY c]
  rintro _ rfl;refine QB (Zb (Wd (Du rfl QT (.tell<|.mk ZsX<|by exact b▸(.opn _ (λk g=>C k<|#[])<|#[])) (Qp rfl)<|Oa _) λ_=>Du rfl QT (.tell<|.mk IB (by have:=R_ansZ.now (CH:=CH) (by rw[o];decide);rwa[o]at this)) QT P6) nf λ_=>Zf (QB (VF (ds:=ZM 0 a.length) (λi q=>∃u,q=[zz<|InZ CD "hand"<|Zd CH N,zf<|.list<|a.map eRw,zf<|.str<|JB<|List.range a.length,u]) ?ei2 #[none,rfl] ?st ?fin)))
  case ei2=>exact EvI.cast (VS (Qu (W rfl) Q1) (by rw[z62];lia)<|by rw[z62];lia) (YI rfl #[])
  case st=>
   rintro k d _ F ⟨u,rfl⟩;obtain⟨g,rfl⟩:=Yq F;refine#[_,Zg,?_];rw[Ys];walk_at"d";have x:=t (a.getD k default) (by simp[g]);have J:=x.ok.w1;have M:N30 (a.getD k default).want:=#[#[],x.w];have D:atI (a.map eRw) (k)=some (eRw<|a.getD k default):=Z9 (by simp[g]);exact Zb (Du rfl (Ug QT (YS (Qp rfl)<|Y<|#[])<|Xq (YW (show _<=5 by decide) (JQ k<|#[]).2.2)<|by decide) (.tell<|.mk (LU<|#[])<|.rest (C k g)<|Jw M.lo M.b) (YS (Z2 (Z2 (Qp rfl) (Qp rfl) D) Q0 rfl)<|Jw M.lo M.b)<|Bz M.lo) nf (λ_=>Zf #[_,rfl])
  case fin=>
   rintro _ ⟨u,rfl⟩;have f:Yl (.list [.str "number",.int<|a.length]):=(KP (m:=0)<|BM #[by decide +kernel,XH _]<|BM (A8 _ _) K3).fine (by decide);exact Zj (Qr.cast (MR (EvO.fz<|Zt.o<|Y1 (G3 rfl (Qu (Ug QT (YS (W rfl)<|Y<|#[])<|Xq (YW (show _<=4 by decide) (JQ a.length<|#[]).2.2)<|by decide) Q1))<|.num<|.mk (Ir<|#[])<|.got<|.inr<|#[]) (EvO.fz<|Vh (QZ QT<|QZ (W rfl) Z5)<|by show(2)<=1000;decide) f f)<|by rw[Ny f]) rfl
theorem N6{f:Qn}{t:Nat}:∀{n:Nat},(∀k,k<n->0<=f k)->t<n->f t<=Q5 f n
 |0,_,h=>#[]
 |n+1,c,h=>by
  rw[Q5];have i:=KD (n:=n) λk g=>c k #[];have j:=c n #[]
  by_cases e:t=n
  . lia
  .have:=N6 (λk g=>c k<|#[]) (show t<n by lia);lia
def Oq(c:Ql)(f:Qn)(m i:Nat):(gvT c f m i).length=m:=by simp[gvT]
def Li{f:Qn}{m:Nat}(c:k<m):(gvT gv f m m).getD k 0=gv.getD k 0+f k:=by
 rw[List.getD,Th c,Xh c];rfl
def Lj{y:Yd}(g:Wk y (QA<|mT n gs gv go) φ)(hn:n<y.T)(h:k<gs.length):Ze (QA<|mT n gs gv go) φ n k<=rsT gs gv go k:=by
 have f:=by show k<(mT n gs gv go).length;rw[Ws];exact h
 have a:=N6 (λt i=>(g.1.tak f i).1) hn;have b:=g.1.total f;have c:=(g.1.want f).2;have e:(QA<|mT n gs gv go).wa k=rsT gs gv go k:=by
  show((mT n gs gv go).getD k default).want=_
  rw[Wf h];rfl
 lia
def Zq3{y:Yd}(f:Wk y (QA<|mT n gs gv go) φ)(hn:n<y.T):∀k,k<gs.length->0<=rsT gs (gvT gv (Ze (QA<|mT n gs gv go) φ n) gs.length gs.length) go k:=λk g=>by
 have a:=Lj f hn g;unfold rsT at a ⊢;by_cases c:k∈go
 .rw[Xh c];exact Uv _
 .rw[Xe c]at a ⊢;rw[Li g];lia
theorem FY{y:Yd}{b own:Qn}(f:∀l,0<=b l)(c:∀l,0<=own l):∀i l,0<=Vj y b own i l
 |0,l=>c l
 |i+1,l=>by
  have a:=FY (y:=y) f c i;show 0<=Vj y b own i l+_
  grind
def Zro{y:Yd}(h:y.Ok){b:Qn}(f:∀l,0<=b l)(g:∀l,0<=own l):0<=passes y b own 0:=by
 have a:=FY (y:=y) f g (y.ls.length-1) 0;have c:=f 0;unfold passes VC;lia
theorem CP{y:Yd}{b:Qn}(c:∀l,0<=b l):∀i l,Vj y b (λ_=>0) i l=0
 |0,l=>rfl
 |i+1,l=>by
  have a:=CP (y:=y) c i;show Vj y b _ i l+_=0;rw[a l,a _];grind
def ZlO{y:Yd}(g:y.Ok){b:Qn}(f:∀l,0<=b l):passes y b (λ_=>0) 0=0:=by
 have a:=CP (y:=y) f (y.ls.length-1) 0;have c:=f 0;unfold passes VC;lia
def Zp7{y:Yd}(m:y.Ok)(hg:∀g∈gs,GOk y g)(i:Wk y (QA gs) φ)(h:∀S,Vl y (QA gs) S<=0)(f:k<gs.length):Q5 (λt=>Ze (QA gs) φ t k) y.T=(gs.getD k default).want:=by
 apply aX i;intro F es n s q;have a:Bn y _ φ=Vl y _ _:=F.lack m (MW hg) s n q;have b:=h (VP es);have j:∀k,k<(QA gs).m->0<=(QA gs).wa k-Q5 _ y.T:=λk f=>by
  rw[F.total f];have:=F.want f;lia
 have c:=N6 j (f);have d:=j k f;have e:(QA gs).wa k=(gs.getD k default).want:=rfl;unfold Bn at a;lia
def Zqe{y:Yd}(A:y.Ok)(hg:∀x∈gs,G30 y x)(h0:∀k,k<gs.length->0<=rsT gs gv go k)(i:Wk y (QA<|mT n gs gv go) φ)(hn:n<y.T)
(h:∀S,Vl y (QA<|mT n gs gv go) S<=0):∀S,Vl y (QA<|mT (n+1) gs (gvT gv (Ze (QA<|mT n gs gv go) φ n) gs.length gs.length) go) S<=0:=λS=>by
 have M:=HS (n:=n) hg h0;have F:=i.1;generalize P:Ze (QA<|mT n gs gv go) φ n=f;have B:(QA<|mT n gs gv go).m=gs.length:=Ws n gs gv go;have w:(QA<|mT (n+1) gs (gvT gv f gs.length gs.length) go).m=gs.length:=Ws _ _ _ _;have C:∀k,k<gs.length->Q5 (λt=>Ze (QA<|mT n gs gv go) φ t k) y.T=rsT gs gv go k:=λk g=>by
  rw[Zp7 A M i h (show k<(mT n gs gv go).length by rw[Ws];exact g),Wf g];rfl
 have j:∀t k,t<n->k<gs.length->Ze (QA<|mT n gs gv go) φ t k=0:=λt k q g=>by
  have a:=F.tak (show k<(QA<|mT n gs gv go).m by exact B▸g) (show t<y.T by lia);have b:moT (QA<|mT n gs gv go) t k=0:=by
   unfold moT;rw[Xe];show ¬VW ((mT n gs gv go).getD k default) (t:Int)=true;rw[Wf g];unfold VW stl;simp only[W4,decide_eq_true_eq,not_and];intro z;have:n<=max (gs.getD k default).first n:=Nat.le_max_right _ _
   lia
  lia
 have m:∀k,k<gs.length->rsT gs (gvT gv f gs.length gs.length) go k=Q5 (λt=>if n<t then Ze (QA<|mT n gs gv go) φ t k else 0) y.T:=λk g=>by
  have sp:∀T,n<T->Q5 (λt=>Ze (QA<|mT n gs gv go) φ t k) T=f k+Q5 (λt=>if n<t then Ze (QA<|mT n gs gv go) φ t k else 0) T:=λT=>by
   induction T with
   |zero=>intro z;lia
   |succ T X=>
    intro z;rw[Q5,Q5];by_cases c:n<T
    .rw[X c,Xh c];lia
    .have e:T=n:=#[]
     subst e;have W:Q5 (λt=>Ze (QA<|mT T gs gv go) φ t k) T=0:=by
      rw[Zs λt q=>j t k q g,Vq]
     have U:Q5 (λt=>if T<t then Ze (QA<|mT T gs gv go) φ t k else 0) T=0:=by
      rw[Zs λt q=>Xe<|#[],Vq]
     rw[W,U,Xe<|#[],<- P];lia
  have a:=sp y.T hn;have b:=C k g;have Y:k∈go->f k=0:=λK=>by
   have c:rsT gs gv go k=0:=by unfold rsT;rw[Xh K]
   have d:=Lj i hn g;have e:=(F.tak (show k<(QA<|mT n gs gv go).m by exact B▸g) hn).1;rw[P]at d e;lia
  unfold rsT at b ⊢;by_cases c:k∈go
  .rw[Xh c]at b ⊢;lia
  .rw[Xe c]at b ⊢;rw[Li g];lia
 have D:Q5 (Zl S (QA<|mT (n+1) gs (gvT gv f gs.length gs.length) go).wa) gs.length=Q5 (λt=>if n<t then Q5 (Zl S<|Ze (QA<|mT n gs gv go) φ t) gs.length else 0) y.T:=by
  have u:Q5 (Zl S (QA<|mT (n+1) gs (gvT gv f gs.length gs.length) go).wa) gs.length=Q5 (λk=>Q5 (λt=>if n<t then Zl S (Ze (QA<|mT n gs gv go) φ t) k else 0) y.T) gs.length:=Zs λk g=>by
   unfold Zl;by_cases c:S k=true
   .simp only[Xh c];rw[<- m k g];show((mT (n+1) gs (gvT gv f gs.length gs.length) go).getD k default).want=_;rw[Wf g];rfl
   .simp only[Xe c,ite_self];rw[Vq]
  rw[u,BU];refine Zs λt q=>?_
  by_cases c:n<t
  .rw[Xh c];exact Zs λk _=>Xh c
  .rw[Xe c,Zs λk _=>Xe c,Vq]
 have v:Q5 (λt=>if n<t then Q5 (Zl S<|Ze (QA<|mT n gs gv go) φ t) gs.length else 0) y.T<=Q5 (λt=>passes y (λl=>Z7 y l t) (Yx (QA<|mT (n+1) gs (gvT gv f gs.length gs.length) go) S t) 0) y.T:=Wt λt q=>by
  have s:∀l,0<=Yx (QA<|mT (n+1) gs (gvT gv f gs.length gs.length) go) S t l:=λl=>by
   refine KD λk g=>Int.mul_nonneg ?_ ?_
   .unfold Zl;split
    .unfold moT;split
     .show 0<=((mT (n+1) gs (gvT gv f gs.length gs.length) go).getD k default).most
      rw[w]at g;rw[Wf g];have:=(hg (gs.getD k default)<|by simp[g]).ok.m1;show 0<=(gs.getD k default).most
      lia
     .exact Uv _
    .exact Uv _
   .unfold ind;split<;>decide
  by_cases c:n<t
  .rw[Xh c];have a:=F.no_more A (MW M) S q;rw[B]at a;have r:Yx (QA<|mT (n+1) gs (gvT gv f gs.length gs.length) go) S t=Yx (QA<|mT n gs gv go) S t:=funext λl=>by
    unfold Yx;rw[B,w];refine Zs λk g=>?_
    have p:moT (QA<|mT (n+1) gs (gvT gv f gs.length gs.length) go) t k=moT (QA<|mT n gs gv go) t k:=by
     show(if VW ((mT (n+1) gs (gvT gv f gs.length gs.length) go).getD k default) (t:Int)=true then ((mT (n+1) gs (gvT gv f gs.length gs.length) go).getD k default).most else 0)=if VW ((mT n gs gv go).getD k default) (t:Int)=true then ((mT n gs gv go).getD k default).most else 0
     rw[Wf g,Wf g];have o:VW (stl gs (n+1) (rsT gs (gvT gv f gs.length gs.length) go) k) (t:Int)=VW (stl gs n (rsT gs gv go) k) (t:Int):=by
      unfold VW stl;congr 1;refine decide_eq_decide.mpr ?_;lia
     rw[o];rfl
    have Z:(QA<|mT (n+1) gs (gvT gv f gs.length gs.length) go).ln k=(QA<|mT n gs gv go).ln k:=by
     show((mT (n+1) gs (gvT gv f gs.length gs.length) go).getD k default).line=((mT n gs gv go).getD k default).line
     rw[Wf g,Wf g];rfl
    rw[Z];unfold Zl;rw[p]
   rw[r];exact a
  .rw[Xe c];exact Zro A (λl=>Kv A l t) s
 unfold Vl;lia
def Zpf{y:Yd}(q:y.Ok)(hg:∀x∈gs,G30 y x)(h0:∀k,k<gs.length->0<=rsT gs gv go k)(h:∀S,Vl y (QA<|mT n gs gv go) S<=0)(f:k<gs.length)(P:(gs.getD k default).last<n):rsT gs gv go k=0:=by
 have a:=h (λj=>decide (j=k));have C:(QA<|mT n gs gv go).m=gs.length:=Ws n gs gv go;have B:Q5 (Zl (λj=>decide (j=k)) (QA<|mT n gs gv go).wa) (QA<|mT n gs gv go).m=rsT gs gv go k:=by
  rw[C];have g:∀m,k<m->Q5 (Zl (λj=>decide (j=k)) (QA<|mT n gs gv go).wa) m=(QA<|mT n gs gv go).wa k:=λm=>by
   induction m with
   |zero=>intro z;lia
   |succ m s=>
    intro z;rw[Q5];by_cases c:k<m
    .rw[s c];unfold Zl;rw[Xe<|by simp;lia];lia
    .have:m=k:=#[]
     subst this;have i:Q5 (Zl (λj=>decide (j=m)) (QA<|mT n gs gv go).wa) m=0:=by
      rw[Zs λj w=>?_,Vq];unfold Zl;rw[Xe<|by simp;lia]
     rw[i];unfold Zl;lia
  rw[g _ f];show((mT n gs gv go).getD k default).want=_;rw[Wf f];rfl
 have A:∀t,t<y.T->passes y (λl=>Z7 y l t) (Yx (QA<|mT n gs gv go) (λj=>decide (j=k)) t) 0=0:=λt M=>by
  have z:Yx (QA<|mT n gs gv go) (λj=>decide (j=k)) t=λ_=>0:=funext λl=>by
   unfold Yx;rw[Zs λj w=>?_,Vq];unfold Zl;by_cases c:j=k
   .subst c;rw[Xh<|by simp];have:moT (QA<|mT n gs gv go) t j=0:=by
     unfold moT;rw[Xe];show ¬VW ((mT n gs gv go).getD j default) (t)=true;rw[Wf f];unfold VW stl;simp only[W4,decide_eq_true_eq,not_and];intro i K;have:n<=max (gs.getD j default).first n:=Nat.le_max_right _ _
     lia
    rw[this,Int.zero_mul]
   .rw[Xe<|by simp[c],Int.zero_mul]
  rw[z];exact ZlO q (λl=>Kv q l t)
 unfold Vl at a;rw[B,Zs A,Vq]at a;have:=h0 k f;lia
def ZsQ{y:Yd}(c:y.Ok):Wc y []:=λS=>by
 rw[Mb];have:Ym ([]:List Gs) S=[]:=rfl;rw[this,ZjY c];decide
structure DkJ(y:Yd)(n:Nat)(gs:List Gs)(gv:Ql)(ms:List Zw):Prop where
 gl:gv.length=gs.length
 h0:∀k,k<gs.length->0<=rsT gs gv [] k
 ml:ms.length=n
 ns:∀S,Vl y (QA<|mT n gs gv []) S<=0
def DkJ.next{y:Yd}(f:y.Ok)(hg:∀x∈gs,G30 y x)(I:DkJ y n gs gv ms)(hn:n<y.T)(c:Wk y (QA<|mT n gs gv []) φ):DkJ y (n+1) gs (gvT gv (Ze (QA<|mT n gs gv []) φ n) gs.length gs.length) (ms++[gfD (Ze (QA<|mT n gs gv []) φ n) gs.length]):=
 #[Oq _ _ _ _,Zq3 c hn,by rw[Xs,I.ml];rfl,Zqe f hg I.h0 c hn I.ns]
def DkJ.of0{y:Yd}(hg:∀x∈gs,G30 y x)(h:Wc y gs):DkJ y 0 gs (List.replicate gs.length 0) []:=by
 refine#[Hd,λk c=>?_,rfl,by rw[Lu];exact h];rw[D5];have:=(hg (gs.getD k default)<|by simp[c]).ok.w1;lia
def WK:Qo ["_law_script","_law_yard_here","_law_guests","_law_rows","_law_k","_law_guest_here","_law_desk","_law_other","_law_turn"] ["_law_script"] (QD Jr):=by walk_at"p"
def EI{f:Addr}(T:Bl mg)(UD:DeskC K CD)(F:Fun K "law" "law" Jr f fd)(G:Q2 P w K mg base "_law_cell_at" ZaA 1 (QC (K:=K) R_cell))(XbL:Q2 P w K mg base "_law_feed" ["_law_cell"] 1 (Zi K R_feed))(Xcu:Q2 P w K mg base "_law_yard" ZaT 2 (spP K olP R_dyard))(Xcv:Q2 P w K mg base "_law_guest" Zam 2 (spP K olP R_dguest))
(XbM:Q2 P w K mg base "_law_text" Zaz 1 (QC (K:=K) R_ltext))(XbN:Ka P w K mg base "Desk" CD ZaV 10 (spP K (Gb CD "hand"<|QY CH) R_dinit))(Xbh:Q2 P w K mg base "_law_said" Zao 11 (Zi K<|R_said CD CH))(Xcw:Q2 P w K mg base "_law_said" Zao 11 (spP K (λN=>InP CD "hand"<|QY CH N) R_saidT))(E:Q2 P w K mg base "_law_stands" ZaC 12 (Zi K<|R_lst CD CH))
(Xcx:Q2 P w K mg base "_law_all_kept" Zap 3 (Zi K R_lkept)):FnOk P w K mg base CX0 13 f fd ["_law_script"] (Di K):=by
 refine F.evLaw WK (λp hl hb H dx cdv A outer s B=>#[_,(Qy (QR 1 WK.nd<|Q7 Xcu B<|Qs (Q7 XbL B<|Qs (Q7 G B<|av 0<|Qs Qw Qq) Qq) Qq)
 (Qy (QR 2 WK.nd<|Zz Qq)
 (Qy (QR 3 WK.nd<|Zz Qq)
 (Qy (Va zN rfl (by exact(VI rfl T.range<|Qs (QX JX (Q7 G B<|av 0<|Qs Qw Qq) Qw) Qq)) (Zy 4 WK.nd) (by exact(Qy (QR 5 WK.nd<|Q7 Xcv B<|Qs (Q7 XbL B<|Qs (Q7 G B<|av 0<|Qs (QX Yp Qw g4) Qq) Qq)<|av 1<|Qs Qw Qq)
 (Qy (Z0<|ZK zP zS zT VJ va2<|av 5 Qq)
 (Qz<|QW (ZL<|Q7 Xcx B<|av 1<|Qs (QX Bw y3<|Zz<|Qs (Vc KS T.list KB<|av 5 Qq) Qq)<|Qs Qw Qq) (Qz<|Z0<|ZK zP zS zT VJ y3<|Qs (Vc KS T.list KB<|av 5 Qq) Qq) QV)))))
 (Qy (QR 6 WK.nd<|Ft XbN B<|Qs (Q7 XbM B<|av 1 y2) Qq)
 (Qy (QR 7 WK.nd<|Ft XbN B<|Qs (Q7 XbM B<|av 1 y2) Qq)
 (Qy (QW (PW.pt<|U6 (Vy<|ZL<|Q7 E B<|av 6 v3)<|UE<|Vy<|ZL<|Q7 E B<|av 7 v3) (Qz<|QK YB) QV)
 (Qy (Va zN rfl (by exact(VI rfl T.range<|Qs (QG QH vb1 Qw) Qq)) (Zy 8 WK.nd) (by exact(Qy (QW (Zo MN (QG QH (Q7 Xcw B<|av 6<|Qs QP Qq) Qw) QP) (Qz<|QK YB) QV)
 (Qz<|Va zN rfl (by exact(VI rfl T.range<|Qs (Zk ZH T.len ZD v3) Qq)) (Zy 4 WK.nd)<|by exact(Qz<|QW (PW.pt<|De (Zo WF (QG QH (QG QH y3 g4) Qw)<|pv 8)<|Dp<|Zo (G0 B.units) (Q7 Xbh B<|av 6<|Qs (QX Ub QP<|Vc YF T.str Yf<|av 4 Qq) Qq)<|Zz<|Qs QP<|Qs QP Qq) (Qz<|QK YB) QV)))))
 (Qz<|QK<|Yo (YQ (G2 B.units) (Q7 Xbh B<|av 6<|Qs QP Qq)<|Zz<|Qs QP Qq)<|YE<|Q7 E B<|av 7 v3))))))))),?_])
 walk_at"x";have W:∀{Z:ZbI} {te:TE} {k:Int} {E':XK},Z[0]?=some (some<|.scr p)->Qr K te Z (.int k)->0<=k->Qr K (ZO (QC (K:=K) R_cell) [] E'<|Q4 (Q8 0)<|Q4 te QL) Z (.int<|WE p k):=λe h O=>QN (P4 e<|Qu h Q1) (R_cell.mk O)
 have ok5:∀y:Yd,y.Ok->∀l∈y.ls,l.bs≠[]:=λy M l hl z=>by
  have L:=M.bl l hl;have h2:=M.t1;rw[z]at L;have:(0:Nat)=y.T:=L;lia
 refine QB (Wu (CI (Φ:=λr=>∃y:Yd,y.Ok/\SL y/\r=.fz (Za y)) (Y1 (Qu (W rfl Q0<|by decide) Q1) R_feed.mk) Q1 λr q=>?_) λr q=>?_)
 .apply aO q;rintro a b rfl;exact#[_,_,rfl,R_dyard.mk,λr ds' h=>h]
 apply L3 q;rintro y M y30 rfl;have t8:=M.t8;walk_at"d";refine QB (Vi (Vh (ds:=[]) Z5<|by decide) ?_);walk_at"d";refine QB (Vi (Vh (ds:=[]) Z5<|by decide) ?_);walk_at"d";refine QB (VF (ds:=ZM 0 (WE p 1%9).toNat) (λi C=>∃(m:List Gs) (u o:Option OT),m.length=i/\(∀g∈m,G30 y g)/\C=[some<|.scr p,zf<|Za y,some<|.ol<|m.map QQ,some<|.ol<|(adm y m).map eRw,u,o,none,none,none]) ?ei #[[],none,none,rfl,(by rintro _ ⟨⟩),rfl] ?st ?fin)
 case ei=>exact VS (Qu (Vo (W rfl Q0<|by decide) Q0<|by decide) Q1) (by rw[z62];lia) (by rw[z62];lia)
 case st=>
  rintro i d _ R ⟨m,u,o,e,t,rfl⟩;obtain⟨hi,rfl⟩:=Yq R;refine#[_,Zg,?_];walk_at"d";refine QB (Wu (CI (Φ:=λr=>∃g:Gs,G30 y g/\r=.fz (QQ g)) (Y1 (Qu (W rfl (ZB Q0<|Qp rfl)<|#[]) Q1) R_feed.mk) (Qu (Qp rfl)<|Qu Q0 Q1) λr q=>?_) λr q=>?_)
  .apply aO q;rintro a b rfl;exact#[_,_,rfl,R_dguest.mk (nw:=0) M,λr ds' h=>h]
  apply At q;rintro g gk rfl;walk_at"d";refine QB (Wx rfl (Qp rfl) (by rw[Xg];lia) ?_);walk_at"d";have fg:m.map QQ++[QQ g]=(m++[g]).map QQ:=by rw[Xx];rfl
  rw[fg];have Q:∀x∈m++[g],G30 y x:=λx U=>by
   rcases Xz.mp U with U|U
   .exact t x U
   .rw[Xj.mp U];exact gk
  have sb:=BJ y m;have al:=sb.length_le;have ag:∀x∈adm y m++[g],x.Ok y:=λx U=>by
   rcases Xz.mp U with U|U
   .exact(t x<|sb.subset U).ok
   .rw[Xj.mp U];exact gk.ok
  have e1:(m++[g]).length=i+1:=by rw[Xs,e];rfl
  have kp:∀{b:Bool} {E':XK},(b=true↔Wc y (adm y m++[g]))->QM K (tB<|ZO (Zi K R_lkept) [] E'<|Q4 (Q8 1)<|Q4 (tOp Bc (Q8 3)<|Y8<|Q4 (tCB (Dr K)<|Q4 (Q8 5) QL) QL)<|Q4 (tC<|.int 0) QL) [some<|.scr p,zf<|Za y,some<|.ol<|(m++[g]).map QQ,some<|.ol<|(adm y m).map eRw,zf<|.int<|0+(i:Int),zf<|QQ g,none,none,none] b:=λ{b E'} hb=>by
   refine Np 3 rfl rfl (Z3<|EvO.e<|Zt.o<|Zt.imp (Y1 (Qu (Qp rfl)<|Qu (Qr.cast (EvO.fz<|MQ (as:=(adm y m).map eRw) (bs:=[eRw g]) (Qp rfl) (EvO.fz<|Vh (ds:=[eRw g]) (QZ (EvO.fz<|K4 (ds:=[.int (g.line:Int),.int (g.first:Int),.int (g.last:Int),.int g.want,.int g.most])<|Qp rfl) Z5) Be) ?lc) (show _=PyData.list ((adm y m++[g]).map eRw) by rw[Xx];rfl))<|Qu Q0 Q1)<|R_lkept.mk M ag<|by rw[Xs,Hc];lia) λr ⟨b',e,h⟩=>?_)
   case lc=>rw[Xg];show _+1<=1000;lia
   rw[e,GW.mpr<|h.trans hb.symm]
  by_cases c:Wc y (adm y m++[g])
  .refine Zb (b:=true) (kp #[λ_=>c,λ_=>rfl]) (λ_=>Wx rfl (EvO.fz<|K4 (ds:=[.int (g.line:Int),.int (g.first:Int),.int (g.last:Int),.int g.want,.int g.most])<|Qp rfl) (by rw[Xg];lia) #[m++[g],zf<|.int<|0+(i:Int),zf<|QQ g,e1,Q,?_]) nt;rw[N3,Lp c,Xx (f:=eRw)];rfl
  .refine Zb (b:=false) (kp #[λz=>(nomatch z),λz=>Xt z c]) nf (λ_=>Zf #[m++[g],zf<|.int<|0+(i:Int),zf<|QQ g,e1,Q,?_]);rw[N3,Tf c]
 case fin=>
  rintro _ ⟨m,u,o,e,t,rfl⟩;rw[Wh]at e
  refine We 2 rfl (We 3 rfl ?_);walk_at"d";have al:=(BJ y m).length_le;have J:∀x∈adm y m,G30 y x:=λx U=>t x ((BJ y m).subset U);have af:=Zsr (ZsQ M) m
  have mk:∀{Z:ZbI} {E1 E2:XK},Z[1]?=some (zf<|Za y)->Z[2]?=some (zf<|.list<|m.map QQ)->Zt K (Jp CD (spP K (Gb CD "hand"<|QY CH) R_dinit) [] E1<|Q4 (ZO (QC (K:=K) R_ltext) [] E2<|Q4 (Q8 1)<|Q4 (Q8 2) QL) QL) Z (λr=>∃v N,N=h0S y (adm y m)/\r=.own v (InP CD "hand"<|QY CH N)):=λa b=>by
   refine ZqZ (Θ:=λN=>N=h0S y (adm y m)) (Qu (QN (Qu (Qp a)<|Qu (Qp b) Q1)<|R_ltext.mk (Gp M) (ok5 y M) (λg h=>MK M (t g h).ok) #[]) Q1) (R_dinit.mk (#[M,λl hl b hb=>(y30 l hl b hb).2,λg h=>(t g h).ok,λg h=>#[(t g h).w,(t g h).m],#[]])) ?_;rintro r N' ⟨rfl,rfl⟩;exact#[rfl,_,rfl,rfl]
  generalize adm y m=a at al J af mk;have l8:a.length<=8:=#[]
  refine QB (Wu (mk rfl rfl) λr q=>?_);apply L0 q;rintro v _ rfl rfl;walk_at"d";refine QB (Wu (mk rfl rfl) λr q=>?_);apply L0 q;rintro v' _ rfl rfl;walk_at"d";generalize PyData.list (m.map QQ)=dg;have sd:∀{Z:ZbI} {j:Nat} {u:V} {E':XK},Z[j]?=some (zo u<|InP CD "hand"<|QY CH<|h0S y a)->Z[3]?=some (zf<|.list<|a.map eRw)->j≠3->Qr K (ZO (Zi K<|R_lst CD CH) [] E'<|Q4 (Q8 j)<|Q4 (Q8 3) QL) Z (.bool true):=λ{Z j u E'} L h2 h3=>FD j L rfl (EvO.e<|Zt.o<|Y1 (G3 (XI (Xi.mp L).1)<|Qu (Qp<|by rw[XX h3];exact h2) Q1)<|R_lst.mk J l8);refine QB (Zb (b:=false) (Wd (b:=false) (c:=false) (Vg (b:=true)<|Z3<|sd rfl rfl (by decide)) λ_=>Vg (b:=true)<|Z3<|sd rfl rfl (by decide)) nf λ_=>Zf (QB (VF (ds:=ZM 0 y.T) (λi C=>∃Y ms u o D,DkJ y i a Y ms/\C=[some<|.scr p,zf<|Za y,zf dg,zf<|.list<|a.map eRw,u,o,zo v<|InP CD "hand"<|QY CH<|hT y i a Y [] ms,zo v'<|InP CD "hand"<|QY CH<|h0S y a,D]) ?ei2 #[_,_,_,_,_,DkJ.of0 J af,rfl] ?st2 ?fin2)))
  case ei2=>exact EvI.cast (VS (Qu ((λe=>Vt (ds:=[PyData.int (y.T:Int),.tuple<|y.ls.map V4]) (Qp e) Q0 rfl) rfl) Q1) (by rw[z62];lia)<|by rw[z62];lia) (YI rfl #[])
  case st2=>
   rintro n d _ R ⟨Y,ms,u,o,D,I,rfl⟩;obtain⟨hn,rfl⟩:=Yq R;refine#[_,Zg,?_];rw[Ys];walk_at"d";refine QB (EO (s:=λte=>Jj (WC<|tOp rNe te _) _ _) (AF (Θ:=λd C=>d=.str "says" /\ ∃Y ms,DkJ y (n+1) a Y ms/\C=[some<|.scr p,zf<|Za y,zf dg,zf<|.list<|a.map eRw,u,o,zo v<|InP CD "hand"<|QY CH<|hT y (n+1) a Y [] ms,zo v'<|InP CD "hand"<|QY CH<|h0S y a,zi (n:Int)]) (i:=6) rfl (Qu QT Q1) (R_saidT.mk (R_sayT.mk Fn<|R_ansT.mk M J I.gl hn I.h0 l8 (by have:=I.ml;lia)) ?hs) ?hn) (λ_ _ _ _ _ _ h=>h _ λ_ _ z=>z) ?_)
   case hs=>
    rintro r N' ⟨φ,_,rfl,_⟩;exact#[_,rfl]
   case hn=>
    rintro r N' ⟨s,⟨φ,S,_,rfl⟩,rfl⟩;exact#[_,_,_,rfl,rfl,rfl,_,_,I.next M J hn S,rfl]
   rintro _ w' C ⟨rfl,Y,ms,I,rfl⟩ hf;cases hf;refine Zb (b:=false) (QM.cast (Zn<|B2 QT QT)<|by decide +kernel) nf (λ_=>Zf (VF (ds:=ZM 0 a.length) (λi C=>∃u,C=[some<|.scr p,zf<|Za y,zf dg,zf<|.list<|a.map eRw,u,o,zo v<|InP CD "hand"<|QY CH<|hT y (n+1) a Y [] ms,zo v'<|InP CD "hand"<|QY CH<|h0S y a,zi (n:Int)]) ?ei3 #[u,rfl] ?st3 ?fin3))
   case ei3=>exact EvI.cast (VS (Qu ((λe=>Qr.cast (VT<|Qp e) (by rw[Xg])) rfl) Q1) (by rw[z62];lia)<|by rw[z62];lia) (YI rfl #[])
   case fin3=>
    rintro _ ⟨u,rfl⟩;exact#[_,_,_,_,_,I,rfl]
   case st3=>
    rintro k d _ R ⟨u,rfl⟩;obtain⟨O,rfl⟩:=Yq R;refine#[_,Zg,?_];rw[Ys];walk_at"d";have it:atI (a.map eRw) (k:Int)=some (eRw<|a.getD k default):=Z9 (by simp[O]);refine Zb (b:=false) (Br (b:=decide (((a.getD k default).last:Int)<=(n:Int))) (c:=false) (QM.cast (Zn<|V8 (Z2 (ds:=[.int ((a.getD k default).line:Int),.int ((a.getD k default).first:Int),.int ((a.getD k default).last:Int),.int (a.getD k default).want,.int (a.getD k default).most]) (Z2 (Qp rfl) (Qp rfl) it) Q0 rfl)<|Qp rfl) rfl) (λc=>?_) |>.cast (by simp)) nf (λ_=>Zf #[_,rfl]);have hr0:JM (hT y (n+1) a Y [] ms) k 0:=by
     have:=Dz (y:=y) (n:=n+1) (go:=[]) (ms:=ms) I.gl O;rwa[Zpf M J I.h0 I.ns O (show(a.getD k default).last<n+1 by have:=X8 c;lia)]at this
    exact ZrP 6 rfl (Du rfl (Ug QT (YS (Qp rfl)<|Jw (Gu<|#[]).lo (Gu<|#[]).b)<|Xq (YW (show _<=5 by decide) (JQ k<|#[]).2.2)<|by decide) (.tell<|.mk (LU<|#[])<|.rest hr0<|by decide) QT P6)
  case fin2=>
   rintro _ ⟨Y,ms,u,o,D,I,rfl⟩;rw[Wh];have f:Yl (.list [.str "time"]):=wF (by decide +kernel);exact Zj (VE (b:=true) (c:=true) (FD 6 rfl rfl (Qr.cast (MR (EvO.fz<|Zt.o<|Y1 (G3 rfl (Qu QT Q1))<|.time<|.mk Fn .turn) (EvO.fz<|Vh (ds:=[.str "time"]) (QZ QT Z5) Be) f f)<|by rw[Ny f])) λ_=>sd rfl rfl (by decide)) rfl
end
inductive DH(K:W.Frag)(x:Str)(st:Stmt):Prop
 |mk {f:Addr}{oc kV dc pm cd ct:Value}{od an:Qj}{sl:Array (Qf)}(a:W.nsIn K mainGlobals x=some (some<|.ref f))(l:K.lookup f=some #[oc,od,.func<|W.fnOf x x (Y0 st) (VU st) (QD st) .none kV dc pm an cd ct,sl])(c:W.codeIn K cd x=true)(k:W.keepIn K (.ref f)=true):DH K x st
def DH.df{x:Str}{st:Stmt}(X:K.In h)(G:h.Ns mainGlobals mg)(H:DH K x st)(i:∀(z:Value×Value×Value×Qj×Value×Value) (us:Qe),us.length=ps.length->bindArgs (W.fnOf x x (Y0 st) (VU st) (QD st) .none z.1 z.2.1 z.2.2.1 z.2.2.2.1 z.2.2.2.2.1 z.2.2.2.2.2) #[us,[]]=pure (ps.zip us):=by exact λ_ _ c=>by first|exact ln1 c λ_=>rfl|exact ln2 c λ_ _=>rfl|exact ln3 c λ_ _ _=>rfl|exact ln4 c λ_ _ _ _=>rfl):Df K mg x st ps:=by
 cases H with
 |mk a l c k=>exact#[_,_,WO l c k,W.mg_of X G a,(WO l c k).binds λkV j f n cd m us g=>i (kV,j,f,n,cd,m) us g]
inductive MH(K:W.Frag)(C:Addr)(m q:Str)(st:Stmt):Prop
 |mk {f:Addr}{oc kV dc pm cd ct:Value}{od an:Qj}{sl:Array (Qf)}(a:W.findIn K (.ref C) m=some (some<|.ref f))(i:W.isFn K (.ref f)=true)(l:K.lookup f=some #[oc,od,.func<|W.fnOf m q (Y0 st) (VU st) (QD st) .none kV dc pm an cd ct,sl])(c:W.codeIn K cd q=true)(k:W.keepIn K (.ref f)=true):MH K C m q st
def MH.mf{st:Stmt}(H:MH K C m q st)(h:∀(z:Value×Value×Value×Qj×Value×Value) (us:Qe),us.length=ps.length->bindArgs (W.fnOf m q (Y0 st) (VU st) (QD st) .none z.1 z.2.1 z.2.2.1 z.2.2.2.1 z.2.2.2.2.1 z.2.2.2.2.2) #[us,[]]=pure (ps.zip us):=by exact λ_ _ c=>by first|exact ln1 c λ_=>rfl|exact ln2 c λ_ _=>rfl|exact ln3 c λ_ _ _=>rfl|exact ln4 c λ_ _ _ _=>rfl):Mf K C m q st ps:=by
 cases H with
 |mk a i l c k=>exact#[_,_,WO l c k,#[a,i,k],(WO l c k).binds λkV j f s cd n us g=>h (kV,j,f,s,cd,n) us g]
@[elab_as_elim] theorem ln1{α:Type}{p:List α->Prop}{us:List α}(h:us.length=1)(k:∀a0,p [a0]):p us:=by
 match us,h with
 |[a0],_=>exact k a0
@[elab_as_elim] theorem ln2{α:Type}{p:List α->Prop}{us:List α}(h:us.length=2)(k:∀a0 a1,p [a0,a1]):p us:=by
 match us,h with
 |[a0,a1],_=>exact k a0 a1
@[elab_as_elim] theorem ln3{α:Type}{p:List α->Prop}{us:List α}(h:us.length=3)(k:∀a0 a1 a2,p [a0,a1,a2]):p us:=by
 match us,h with
 |[a0,a1,a2],_=>exact k a0 a1 a2
@[elab_as_elim] theorem ln4{α:Type}{p:List α->Prop}{us:List α}(h:us.length=4)(k:∀a0 a1 a2 a3,p [a0,a1,a2,a3]):p us:=by
 match us,h with
 |[a0,a1,a2,a3],_=>exact k a0 a1 a2 a3
def Zxb{w:World}  {fa gS gE:Addr}(X:K.In h)(G:h.Ns mainGlobals mg)(hfa:mg "law"=some (.ref fa))
{q gC x:Addr}{epC:_}{ta0 tb0 ta1 tb1 ta2 tb2 ta3 tb3 ta4 tb4 ta5 tb5 ta6 tb6 ta7 tb7:Tok}
{cg f:Addr}
{B CR fR:Addr}{odR anR:Qj}{slR:Array (Qf)}{kVR dcR pmR cdR ctR:Value}
{c fQ:Addr}{odQ anQ:Qj}{slQ:Array (Qf)}{kVQ dcQ pmQ cdQ ctQ:Value}
{f63 d b a:Addr}{od63 H od81 an81 od82 an82 od83 an83 dS dE:Qj}{sl63 sl81 sl82 sl83 slS slE:Array (Qf)}{oc63 t u r A z oc81 kV81 dc81 pm81 F ct81 oc82 kV82 dc82 pm82 E ct82 oc83 kV83 dc83 pm83 D ct83:Value}{tS tE nS nE:Nat}
(aC:W.nsIn K mainGlobals "Net"=some (some<|.ref C))
(aH:W.nsIn K mainGlobals "Hand"=some (some<|.ref CH))
(aD:W.nsIn K mainGlobals "Desk"=some (some<|.ref q))
(h0:DH K "is_whole" Rr)
(L:DH K "is_whole_within" Sx)
(h2:DH K "is_amount" RG)
(h3:DH K "is_tuple_of" RP)
(h4:DH K "is_above" Rk)
(h5:DH K "are_bounds" Sa)
(h6:DH K "is_line" NK)
(h7:DH K "are_lines" R6)
(h8:DH K "is_yard" N9)
(h9:DH K "is_guest" Rw)
(h10:DH K "turns_of" Rg)
(h11:DH K "line_count" RK)
(h12:DH K "above_of" Rc)
(h13:DH K "bound_at" Ru)
(h14:DH K "line_of" NO)
(h15:DH K "is_there" Ry)
(h16:DH K "want_of" NI)
(h17:DH K "most_of" N5)
(h18:DH K "with_want" R3)
(h19:DH K "staying_from" So)
(h20:DH K "guest_node" RX)
(h21:DH K "line_node" RB)
(h22:DH K "lay_guest" RC)
(h23:DH K "lay_turn" Rt)
(h24:DH K "filled_net" RW)
(h25:DH K "takes_by" Rl)
(h26:DH K "greatest_filling" Sq)
(h27:DH K "guests_reached" Sv)
(h28:DH K "reaching_at" RS)
(h29:DH K "given_at" Rh)
(h30:DH K "given_most" RZ)
(h31:DH K "short_of" Re)
(h32:DH K "best_filling" Sk)
(h33:DH K "lacking_set" Sh)
(h34:DH K "refuse_lack" Sd)
(h35:DH K "is_number" R5)
(h36:DH K "are_numbers" Se)
(h37:DH K "is_yard_row" RT)
(h38:DH K "is_line_row" Sg)
(h39:DH K "is_guest_row" Sn)
(h40:DH K "is_row_at" R7)
(h41:DH K "rows_of" NL)
(h42:DH K "numbers_of" RY)
(h43:DH K "line_told" R1)
(h44:DH K "yard_told" RF)
(h45:DH K "guests_told" RO)
(h46:DH K "read" K0)
(h47:DH K "words_of" NV)
(h48:DH K "joined" Nv)
(h49:DH K "gifts_answer" Sm)
(Z:DH K "answer" GD)
(h51:DH K "let_in" Ni)
(h52:DH K "_law_cell_at" Sj)
(h53:DH K "_law_feed" RE)
(h54:DH K "_law_digit" RV)
(h55:DH K "_law_yard" R8)
(h56:DH K "_law_guest" RL)
(h57:DH K "_law_passes" RN)
(h58:DH K "_law_short" RJ)
(h59:DH K "_law_all_kept" Sb)
(h60:DH K "_law_text" R4)
(h61:DH K "_law_said" GN)
(h62:DH K "_law_stands" Sc)
(a63:W.nsIn K mainGlobals "law"=some (some<|.ref f63))
(l63:K.lookup f63=some #[oc63,od63,.func<|W.fnOf "law" "law" (Y0 Jr) (VU Jr) (QD Jr) .none t u r H A z,sl63])
(c63:W.codeIn K A "law"=true)
(k63:W.keepIn K (.ref f63)=true)
(m64:MH K C "lay" "Net.lay" NJ)
(m65:MH K C "lay_one" "Net.lay_one" Sf)
(m66:MH K C "flow" "Net.flow" Ro)
(m67:MH K C "reached" "Net.reached" RQ)
(m68:MH K C "push" "Net.push" Rs)
(m69:MH K C "fill" "Net.fill" NY)
(m70:MH K C "way_to" "Net.way_to" RU)
(m71:MH K CH "now" "Hand.now" Rj)
(m72:MH K CH "come" "Hand.come" RD)
(m73:MH K CH "turn" "Hand.turn" Rz)
(m74:MH K CH "got" "Hand.got" Ra)
(m75:MH K CH "rest" "Hand.rest" R0)
(m76:MH K CH "open_ones" "Hand.open_ones" Ss)
(m77:MH K CH "still_there" "Hand.still_there" Sz)
(m78:MH K CH "refuse_past" "Hand.refuse_past" Sy)
(m79:MH K CH "refuse_number" "Hand.refuse_number" S5)
(U:MH K q "say" "Desk.say" Mh)
(a81:W.findIn K (.ref C) "__init__"=some (some<|.ref d))
(i81:W.isFn K (.ref d)=true)
(l81:K.lookup d=some #[oc81,od81,.func<|W.fnOf "__init__" "Net.__init__" (Y0 GR) (VU GR) (QD GR) .none kV81 dc81 pm81 an81 F ct81,sl81])
(c81:W.codeIn K F "Net.__init__"=true)
(k81:W.keepIn K (.ref d)=true)
(a82:W.findIn K (.ref CH) "__init__"=some (some<|.ref b))
(i82:W.isFn K (.ref b)=true)
(l82:K.lookup b=some #[oc82,od82,.func<|W.fnOf "__init__" "Hand.__init__" (Y0 GO) (VU GO) (QD GO) .none kV82 dc82 pm82 an82 E ct82,sl82])
(c82:W.codeIn K E "Hand.__init__"=true)
(k82:W.keepIn K (.ref b)=true)
(a83:W.findIn K (.ref q) "__init__"=some (some<|.ref a))
(i83:W.isFn K (.ref a)=true)
(l83:K.lookup a=some #[oc83,od83,.func<|W.fnOf "__init__" "Desk.__init__" (Y0 GP) (VU GP) (QD GP) .none kV83 dc83 pm83 an83 D ct83,sl83])
(c83:W.codeIn K D "Desk.__init__"=true)
(k83:W.keepIn K (.ref a)=true)
(pg:W.plainGet K C Str.empty=true)
(hd:W.hasDictIn K C=true)
(po:W.plainOver K C=true)
(sa:W.findIn K (.ref C) "__setattr__"=some (some<|.builtin "object.__setattr__"))
(mk:W.makesIn K C=true)
(kc:W.keepIn K (.ref C)=true)
(Hpg:W.plainGet K CH Str.empty=true)
(Hhd:W.hasDictIn K CH=true)
(Hpo:W.plainOver K CH=true)
(Hsa:W.findIn K (.ref CH) "__setattr__"=some (some<|.builtin "object.__setattr__"))
(Hmk:W.makesIn K CH=true)
(Hkc:W.keepIn K (.ref CH)=true)
(Hn0:W.findIn K (.ref CH) "yard"=some none)
(Hn1:W.findIn K (.ref CH) "present"=some none)
(Hn2:W.findIn K (.ref CH) "known"=some none)
(Hn3:W.findIn K (.ref CH) "given"=some none)
(Hn4:W.findIn K (.ref CH) "gone"=some none)
(Hn5:W.findIn K (.ref CH) "made"=some none)
(Dpg:W.plainGet K q Str.empty=true)
(Dhd:W.hasDictIn K q=true)
(Dpo:W.plainOver K q=true)
(Dsa:W.findIn K (.ref q) "__setattr__"=some (some<|.builtin "object.__setattr__"))
(Dmk:W.makesIn K q=true)
(Dkc:W.keepIn K (.ref q)=true)
(Dn0:W.findIn K (.ref q) "hand"=some none)
(cM:W.nsIn K mainGlobals "COUNTS"=some (some<|.ref gC))
(cL:K.lookup gC=some #[.type "dict",none,.dict (List.toArray [#[hashStr w "come",.str "come" ta0,.int 5 tb0],#[hashStr w "turn",.str "turn" ta1,.int 0 tb1],#[hashStr w "leave",.str "leave" ta2,.int 1 tb2],#[hashStr w "got",.str "got" ta3,.int 1 tb3],#[hashStr w "rest",.str "rest" ta4,.int 1 tb4],#[hashStr w "bound",.str "bound" ta5,.int 3 tb5],#[hashStr w "open",.str "open" ta6,.int 0 tb6],#[hashStr w "now",.str "now" ta7,.int 0 tb7]]) epC,(List.toArray [])])
(cN:(gC==sysModules)=false)
(uN:W.nsIn K mainGlobals "NoRow"=some (some<|.ref x))
(ux:MV K x=true)
(uK:W.keepIn K (.ref x)=true)
(n0:W.findIn K (.ref C) "ends"=some none)
(n1:W.findIn K (.ref C) "rooms"=some none)
(n2:W.findIn K (.ref C) "leaving"=some none)
(n3:W.findIn K (.ref C) "laid"=some none)
(aS:W.nsIn K mainGlobals "START"=some (some<|.ref gS))
(lS:K.lookup gS=some #[.type "tuple",dS,.seq (List.toArray [.str "start" tS]) nS,slS])
(aE:W.nsIn K mainGlobals "END"=some (some<|.ref gE))
(lE:K.lookup gE=some #[.type "tuple",dE,.seq (List.toArray [.str "end" tE]) nE,slE])
(rC:W.nsIn K mainGlobals "NoRoom"=some (some<|.ref CR))
(rY:W.nsIn K mainGlobals "YardError"=some (some<|.ref B))
(rf:W.findIn K (.ref CR) "__init__"=some (some<|.ref fR))
(rl:K.lookup fR=some #[.type "function",odR,.func<|W.fnOf "__init__" "NoRoom.__init__" (Y0 GQ) (VU GQ) (QD GQ) .none kVR dcR pmR anR cdR ctR,slR])
(rc:W.codeIn K cdR "NoRoom.__init__"=true)
(rk:W.keepIn K (.ref fR)=true)
(rx:Dk K CR fR=true)
(rg:W.specialIn K (.ref B) "__getattribute__"=some (some<|.builtin "type.__getattribute__"))
(rr:W.readsIn K B (.type "type")=true)
(ri:W.findCls K (.ref B) (.type "type") "__init__"=some (.val<|.builtin "ValueError.__init__"))
(rs:W.findIn K (.ref CR) "__setattr__"=some (some<|.builtin "object.__setattr__"))
(ro:((W.clsIn K CR).any λcd=>WQ cd.mro)=true)
(rd:W.hasDictIn K CR=true)
(rt:W.takerIn K CR "some"=some none)
(rK:W.keepIn K (.ref CR)=true)
(qC:W.nsIn K mainGlobals "NoNumber"=some (some<|.ref c))
(qf:W.findIn K (.ref c) "__init__"=some (some<|.ref fQ))
(ql:K.lookup fQ=some #[.type "function",odQ,.func<|W.fnOf "__init__" "NoNumber.__init__" (Y0 GS) (VU GS) (QD GS) .none kVQ dcQ pmQ anQ cdQ ctQ,slQ])
(qc:W.codeIn K cdQ "NoNumber.__init__"=true)
(qk:W.keepIn K (.ref fQ)=true)
(qx:Dk K c fQ=true)
(qs:W.findIn K (.ref c) "__setattr__"=some (some<|.builtin "object.__setattr__"))
(qo:((W.clsIn K c).any λcd=>WQ cd.mro)=true)
(qd:W.hasDictIn K c=true)
(qt:W.takerIn K c "number"=some none)
(qK:W.keepIn K (.ref c)=true)
(qe:W.exmOne K (.ref c) (.ref B)=some true)
(qp:W.findIn K (.ref c) "__getattribute__"=some (some<|.builtin "BaseException.__getattribute__"))
(qn:W.findIn K (.ref c) "number"=some none)
(qq:W.findIn K (.ref c) "__getattr__"=some none)
(qb:W.mroIn K c (.type "BaseException")=some true)
(qcl:W.findIn K (.ref c) "__class__"=some (some<|.builtin "object.__class__"))
(qm:W.mroIn K c (.type "object")=some true)
(qk1:W.kitOne K (.ref c) (.ref c)=some true)
(qk2:W.kitOne K (.ref c) (.type "ValueError")=some true)
(xs:W.specialIn K (.builtin "object.__class__") "__get__"=some (some<|.builtin "getset_descriptor.__get__"))
(xt:W.takesIn K (.builtin "object.__class__")=some true)
(xa0:W.nsIn K mainGlobals "NoGuest"=some (some<|.ref cg))
(xa1:W.nsIn K mainGlobals "NoTime"=some (some<|.ref f))
(xdnk0:W.kitOne K (.ref c) (.ref cg)=some false)
(xdnk1:W.kitOne K (.ref c) (.ref f)=some false)
(xdnk2:W.kitOne K (.ref c) (.ref CR)=some false)
(S:W.kitOne K (.ref c) (.ref x)=some false)
(xdte:W.exmOne K (.ref f) (.ref B)=some true)
(xdtp:W.findIn K (.ref f) "__getattribute__"=some (some<|.builtin "BaseException.__getattribute__"))
(xdtq:W.findIn K (.ref f) "__getattr__"=some none)
(xdtb:W.mroIn K f (.type "BaseException")=some true)
(xdtd:W.hasDictIn K f=true)
(xdtc:W.findIn K (.ref f) "__class__"=some (some<|.builtin "object.__class__"))
(xdtm:W.mroIn K f (.type "object")=some true)
(R:W.kitOne K (.ref f) (.ref cg)=some false)
(Q:W.kitOne K (.ref f) (.ref f)=some true)
(O:W.kitOne K (.ref f) (.ref CR)=some false)
(N:W.kitOne K (.ref f) (.ref c)=some false)
(J:W.kitOne K (.ref f) (.ref x)=some false)
(ul:W.exmOne K (.ref CR) (.ref CR)=some true)
(tx:MV K f=true)
(tK:W.keepIn K (.ref f)=true)
(z0:W.nsIn K mainGlobals "abs"=some none)
(z1:W.nsIn K mainGlobals "len"=some none)
(z2:W.nsIn K mainGlobals "max"=some none)
(z3:W.nsIn K mainGlobals "min"=some none)
(z4:W.nsIn K mainGlobals "sum"=some none)
(z5:W.nsIn K mainGlobals "any"=some none)
(z6:W.nsIn K mainGlobals "all"=some none)
(z7:W.nsIn K mainGlobals "isinstance"=some none)
(z8:W.nsIn K mainGlobals "int"=some none)
(z9:W.nsIn K mainGlobals "bool"=some none)
(z10:W.nsIn K mainGlobals "list"=some none)
(z11:W.nsIn K mainGlobals "tuple"=some none)
(z12:W.nsIn K mainGlobals "range"=some none)
(z13:W.nsIn K mainGlobals "zip"=some none)
(z14:W.nsIn K mainGlobals "enumerate"=some none)
(z15:W.nsIn K mainGlobals "str"=some none)
(z16:W.nsIn K mainGlobals "sorted"=some none)
(z17:W.nsIn K mainGlobals "set"=some none)
(z18:W.nsIn K mainGlobals "dict"=some none)
(z19:W.nsIn K mainGlobals "ValueError"=some none)
 : (∃gS gE,W.nsIn K mainGlobals "START"=some (some<|.ref gS)/\W.nsIn K mainGlobals "END"=some (some<|.ref gE)/\KTup K gS "start" /\ KTup K gE "end")/\∃fd:FuncData,(∀(s:Shared) (v:Value),BindsTo s fd #[[v],[]] [("_law_script",v)])/\∀base:Heap,K.In base->base.Ns mainGlobals mg->FnOk P w K mg base CX0 13 fa fd ["_law_script"] (Di K):=by
 cases (hfa.symm.trans (W.mg_of X G a63));have T:Bl mg:=#[W.mg_none_of X G z0,W.mg_none_of X G z1,W.mg_none_of X G z2,W.mg_none_of X G z3,W.mg_none_of X G z4,W.mg_none_of X G z5,W.mg_none_of X G z6,W.mg_none_of X G z7,W.mg_none_of X G z8,W.mg_none_of X G z9,W.mg_none_of X G z10,W.mg_none_of X G z11,W.mg_none_of X G z12,W.mg_none_of X G z13,W.mg_none_of X G z14,W.mg_none_of X G z15,W.mg_none_of X G z16,W.mg_none_of X G z17,W.mg_none_of X G z18,W.mg_none_of X G z19];have j:Tx K mg C gS gE:=#[#[#[pg,hd,po,sa],n0,n1,n2,n3],W.mg_of X G aS,W.mg_of X G aE,aS,aE];have I:DeskC K q:=#[#[Dpg,Dhd,Dpo,Dsa],Dn0];have i:HandC K CH:=#[#[Hpg,Hhd,Hpo,Hsa],Hn0,Hn1,Hn2,Hn3,Hn4,Hn5];have XR:XC K mg "NoRoom" B CR fR:=#[Ty rx rl rfl rg rr ri,rK,W.mg_of X G rC];have Xcy:=WO (st:=GQ) rl rc rk;have XQ:XC K mg "NoNumber" B c fQ:=#[Ty qx ql rfl rg rr ri,qK,W.mg_of X G qC];have XB:Ap K mg B c:=#[qe,W.mg_of X G rY,#[#[qp,qq,qb],qd],qn,#[#[qp,qq,qb],qd,qcl,xs,xt,qm],qk1,qk2];have Xcz:=WO (st:=GS) ql qc qk;have XDT:Bb K mg B f cg f CR c x false true false false false:=#[xdte,W.mg_of X G rY,#[#[xdtp,xdtq,xdtb],xdtd,xdtc,xs,xt,xdtm],R,Q,O,N,J,W.mg_of X G xa0,W.mg_of X G xa1,W.mg_of X G rC,W.mg_of X G qC,W.mg_of X G uN];have XcA:=WO (st:=GR) l81 c81 k81;have XcB:=WO (st:=GO) l82 c82 k82;have XcC:=WO (st:=GP) l83 c83 k83;refine#[#[gS,gE,aS,aE,#[_,_,_,_,lS],#[_,_,_,_,lE]],W.fnOf "law" "law" (Y0 Jr) (VU Jr) (QD Jr) .none t u r H A z,λs v=>.of_eq rfl,λbase _ _=>?_];have Xa7:=OX (P:=P) (w:=w) (base:=base) T (h54.df X G);have Xbl:=ZsD (P:=P) (w:=w) (base:=base) T (h35.df X G);have Xbf:=ZnX T (h36.df X G) Xbl;have Xby:=Zl5 T (h38.df X G) Xbl Xbf;have Xbt:=Zjc T (h39.df X G) Xbf;have m:=ZqE (P:=P) (w:=w) (base:=base) T (h42.df X G);have l:=ZrW (P:=P) (w:=w) (base:=base) T (h3.df X G);have M:=ZqB T (L.df X G) (ZoO (P:=P) (w:=w) (base:=base) T (h0.df X G));have Xbq:=ZlP T (h2.df X G) M;have Xbc:=Zsx (P:=P) (w:=w) (base:=base) T (h11.df X G);have n:=ZrV (P:=P) (w:=w) (base:=base) T (h10.df X G);have Xbr:=Zo4 T (h9.df X G) l M Xbq Xbc n;have Xbo:=ZsG (P:=P) (w:=w) (base:=base) T i (#[PQ tx,tK,W.mg_of X G xa1]) m78.mf;have Xbm:=AY T j m64.mf (Oo (P:=P) (w:=w) (base:=base) T j m65.mf);have Xbj:=IP (P:=P) (w:=w) (base:=base) T (h16.df X G);have Xbe:=Zse (P:=P) (w:=w) (base:=base) T (h20.df X G);have Xbu:=Zsc (P:=P) (w:=w) (base:=base) T (h15.df X G);have Xbv:=IJ (P:=P) (w:=w) (base:=base) T (h17.df X G);have Xbb:=ZsH (P:=P) (w:=w) (base:=base) T (h21.df X G);have Xbi:=ZqV (P:=P) (w:=w) (base:=base) T (h14.df X G);have Xbd:=Zsz (P:=P) (w:=w) (base:=base) T (h13.df X G);have Xbw:=Zsb (P:=P) (w:=w) (base:=base) T (h12.df X G);have Xbp:=Zol (P:=P) (w:=w) (base:=base) T j m67.mf;have Xbx:=ZrR T j (h24.df X G) (#[_,_,#[mk,a81,i81,kc],W.mg_of X G aC,XcA.binds (ps:=Zav) λ_ _ _ _ _ _ us Y=>ln1 Y λ_=>rfl,AI (P:=P) (w:=w) (base:=base) T j XcA]) (Zpc T j (h22.df X G) Xbm Xbj Xbe n Xbu Xbv Xbb Xbi) n (ZtD T j (h23.df X G) Xbm Xbd Xbb Xbc Xbw) (EQ T j m69.mf Xbp (ID (P:=P) (w:=w) (base:=base) T j m68.mf) (En (P:=P) (w:=w) (base:=base) T j m70.mf));have Xbn:=ES T i XQ m79.mf M (#[_,Xcz.binds (ps:=Zab) λ_ _ _ _ _ _ us Y=>ln2 Y λ_ _=>rfl,ZqH (P:=P) (w:=w) (base:=base) T Xcz XQ.cl #[qs,qo,qd] qt<|W.mg_of X G rY]);have Xbk:=ZtO T i m75.mf Xbn Xbj;have Xbs:=ZpJ T i m77.mf (OS (P:=P) (w:=w) (base:=base) T (h18.df X G)) (Ii (P:=P) (w:=w) (base:=base) T (h19.df X G)) Xbk;have k:=ZsJ T (#[#[#[_,_,cL,.cons<|.cons<|.cons<|.cons<|.cons<|.cons<|.cons<|.cons .nil],cN],W.mg_of X G cM]) (#[PQ ux,uK,W.mg_of X G uN]) (h47.df X G) Xbf;have XbA:=IU T i m74.mf Xbn;have Xbz:=Zqc (P:=P) (w:=w) (base:=base) T (h48.df X G);have XbB:=Ol T (h49.df X G) Xbz;have XbC:=ZtP T i m73.mf Xbo n (O0 T (h32.df X G) (OB T j (h26.df X G) Xbx (OQ T j (h25.df X G) n (Ot (P:=P) (w:=w) (base:=base) T j m66.mf) Xbb Xbi Xbe))) Xbs;have Xbh:=IE T I (#[qe,W.mg_of X G rY,XB.is,xdnk0,xdnk1,xdnk2,qk1,S,W.mg_of X G xa0,W.mg_of X G xa1,W.mg_of X G rC,W.mg_of X G qC,W.mg_of X G uN]) XDT XB (h61.df X G) (Oc T I U.mf k m (Os T i (Z.df X G) (Oj (P:=P) (w:=w) (base:=base) T i m71.mf) XbA Xbk (ZtB T i m76.mf Xbk) Xbz)) (Fh (CH:=CH) bkV T I U.mf k m (ZrX T i (Z.df X G) XbA)) (Fh (CH:=CH) bkN T I U.mf k m (OK T i (Z.df X G) XbB XbC));exact EI T I (WO (st:=Jr) l63 c63 k63) (O2 (P:=P) (w:=w) (base:=base) T (h52.df X G)) (Iq (P:=P) (w:=w) (base:=base) T (h53.df X G)) (Zsl T (h55.df X G) Xa7) (Zq2 T (h56.df X G) Xa7) (OU (P:=P) (w:=w) (base:=base) T (h60.df X G)) (#[_,_,#[Dmk,a83,i83,Dkc],W.mg_of X G aD,XcC.binds (ps:=ZaV) λ_ _ _ _ _ _ us Y=>ln2 Y λ_ _=>rfl,Og (P:=P) (w:=w) (base:=base) T I XcC (On T (h46.df X G) (ZrJ T (h41.df X G) (ZoI T (h40.df X G) (Zlw T (h37.df X G) Xbl) Xby Xbt)) (ZlL T (h44.df X G) Xby (Zmj T (h43.df X G) m) (ZpN T (h8.df X G) l M (Zmh T (h7.df X G) (ZqN T (h6.df X G) l (ZoJ T (h4.df X G) M) (Zl0 T (h5.df X G) l Xbq))))) (Zjf T (h45.df X G) Xbt m Xbr)) (#[_,_,#[Hmk,a82,i82,Hkc],W.mg_of X G aH,XcB.binds (ps:=ZaL) λ_ _ _ _ _ _ us Y=>ln2 Y λ_ _=>rfl,IN (P:=P) (w:=w) (base:=base) T i XcB]) (O8 T i XR ul (h51.df X G) (Zs7 T i XR m72.mf Xbr Xbo (Zrz T XR (h34.df X G) (Ik T (h33.df X G) (Zmp T j (h27.df X G) Xbx Xbp Xbe)) (OW T (h31.df X G) Xbj (Zph T (h30.df X G) n (Zsa T (h29.df X G) (ZmJ T (h28.df X G) Xbc Xbu Xbi Xbv Xbw Xbd) Xbd))) (#[_,Xcy.binds (ps:=ZaK) λ_ _ _ _ _ _ us Y=>ln2 Y λ_ _=>rfl,Zp0 (P:=P) (w:=w) (base:=base) T Xcy XR.cl #[rs,ro,rd] rt<|W.mg_of X G rY])) Xbs))]) Xbh (Zrn T I XDT (h61.df X G) (Zt2 T I U.mf k m (OA T i (Z.df X G) XbB XbC))) (Eo T (h62.df X G) Xbh) (Zsm T (h59.df X G) (EH T (h58.df X G) (OC (P:=P) (w:=w) (base:=base) T (h57.df X G))))
end My
namespace PySem.W.Fast
local macro_rules|`(unseal $x*)=>do return Lean.mkNullNode (<-x.mapM λx=>do return(<-`(def $x:ident:=Nat)).raw)
unseal tw11954667266458865078 tw10543644749008652275 tw10721943939568729200 tw4021475177697914015 tw14181529313201809127 tw7227810089980651808 tw12039424523071802297 tw15590224523280339292 tw10454041619423076947 tw7783010038713952370 tw12787046662025827906 tw6583971838148293332 tw16637332828424665606 tw3378063660933994590 tw3146006974055268571 tw17914475873135577006 tw3921454355867290835 tw17918097705942435544 tw18435858502628058279 tw15655997614042236334 tw15336759907993217003 tw4058991762166800609 tw9061661970617481378 tw6649606955370672242 tw9301667580730331685 tw11427681566625730762 tw901217373284933866 tw17356924739087411172 tw4878288617429058791 tw7157234052604427008 tw10042464477858619154 tw12556573268100400759 tw11314509785456441514 tw2099002095635558670 tw2351971241308157297 tw13083538197110229095 tw17565820890809279523 tw7010340044558138043 tw6398429588684343016 tw5302769244000554756 tw15614831457964638295 tw919499148752279688 tw16331252196939963882 tw193501056947474405 tw7223900957569253152 tw18344101144395859436 tw7270381501405736740 tw7508485799000762098 tw12445236090883157448 tw2429912929442504525 tw3071127379255377842 tw9445841491934328284 tw871042242868688911 tw3371998470668188076 tw936558474623933613 tw5517458099025747298 tw9924588478853410459 tw17667044641068500347 tw8687404547082819064 tw8369892209087836878 tw10188098363000881196 tw661698518100851279 tw14314177506164914469 tw10035397583250841792 tw2396353203470605140 tw13755724292355075684 tw17802417351254533192 tw11575853301854507173 tw13349275578184244940 tw8552556463516354889 tw5333312525359056210 tw16166785597476569966 tw7836953013775723637 tw11433948934499730265 tw10538200451250055929 tw13592310738737283814 tw6795169720025399590 tw8335503632589222184 tw10267881806989757486 tw15373480368990851682 tw11182156545718648126 tw12586102101869405066 tw430989802449265176 tw10035799659641755063 tw4874096525187643893 tw13428611273743628976 tw13600319944789794304 tw3196219914731994962 tw6566434387787530417 tw9242029250467952405 tw10616453293553316129 tw18003859029775453982 tw1222756889754414316 tw3787074258007296515 tw6866507289294427577 tw1393116132033510001 tw13803725346954141337 tw5605107018791678058 tw671201499897041280 tw1417619260733277282 tw10699882125750502267 tw11262965032702664533 tw2263672578198911954 tw16981283619062318054 tw15122105783084142176 tw13351948369641687607 tw11674075680623142186 tw14144723560537705596 tw9187516829184727264 tw380540260137621882 tw12180465310231609731 tw2656213046823428909 tw1313366784898627888 tw7561556764330690926 tw9027311568747267910 tw10437662954005877517 tw3537202294335186449 tw9583805919532021366 tw10351899477108405799 tw4052830997861806654 tw5776448569065169730 tw4288954105496210782 tw14794971756886799641 tw18164255938194447596 tw16220975714656361115 tw3451315157465349369 tw17502308569320262612 tw14295536410000008690 tw9085487908073535652 tw15926812981190071234 tw17039136728067297039 tw11126568121557610359 tw3240167618820705548 tw18174634979468756517 tw11622250148871433584 tw13906346990127789249 tw957783011540005410 tw3826109856662292766 tw12661554295008971855 tw17800732766031602644 tw456268495465807637 tw15726876087618665188 tw16199912508008428040 tw11809345447168766443 tw12615037926427077382 tw11523985841550456632 tw12318353331093284748 tw2776373176820347297 tw17859200657268285857 tw15693957664875604776 tw6927411805762082644 tw1128303448792128909 tw1630414755164374986 tw15707568517335325566 tw5170966282791159887 tw16502477790113089178 tw11347896334173334323 tw15126388853497365259 tw17367267390177988877 tw6184701960876718658 tw17822817051094615272 tw3649025126357694162 tw15082272091901628662 tw8342298059530373343 tw16636639580307309448 tw12653165063549227009 tw2334627708715448848 tw11228099140310887200 tw4820973221032101770 tw2577879167868311569 tw4700484965188433789 tw13575773949093764131 tw11142808110306210108 tw7404629313781867077 tw11276917153632942094 tw13012721223976378304 tw7733634171815458811 tw13592922790350451156 tw11808187407894248576 tw8211453498271085413 tw2994618453657682026 tw15927862948029307762 tw13272589224938717794 tw4974755506184739805 tw2582714756574716335 tw16912090994575216464 tw15970273126477479653 tw5083417378808893008 tw602585549088592136 tw16311043137742448009 tw3179816142965884104 tw15328132914493516889 tw6799097809366320643 tw16550161760570436116 tw16735001519320283602 tw2565509965617388828 tw8691493684385720211 tw12856910302437631287 tw1874198828233464068 tw12249468347374390842 tw11297729489789607970 tw14367208177118857362 tw17807224164075674102 tw17996367183022393063 tw17621232558298989191 tw1378870707355658525 tw17634244538409709050 tw11071578337101719317 tw5420750454791816279 tw2172827369125859808 tw15279005117758794076 tw1135609783508565130 tw1420134039947124832 tw14998538288378670905 tw8510701341329960018 tw2560984194323917200 tw171163780797872857 tw141943353471707052 tw978201334599634404 tw3348591556842557980 tw14019873305669359378 tw15102898181477787803 tw13837098253515898634 tw486936261937614085 tw31525709329075205 tw12999473090130426990 tw16761337731404476066 tw13385304992848066363 tw6147744190410458930 tw5690930678446734890 tw8816532441127095063 tw17719212215057844705 tw15898045335541173810 tw16635805522835714279 tw14940711130030656776 tw6529414137693493964 tw10078879467443302957 tw566643535216881792 tw17502345762918927465 tw3138082302492366478 tw7220970391458404691 tw6451981680229724646 tw3746526915323287029 tw8069728006431716001 tw6082600859122752205 tw16987694443690801823 tw10103363222708554068 tw6651176277459141211 tw15722877247846773497 tw13535066039022178868 tw2833776000805487787 tw6430255618901593442 tw10964765214475767641 tw8285668045405788668 tw7776537626505029631 tw7561128587525501092 tw3067316344852916116 tw14300881333582383439 tw13155416868863637104 tw2030366927702615296 tw17895599276287985595 tw14113058818965423602 tw13181720687326259141 tw3511723985678683232 tw8596708799663347463 tw16853543448316507422 tw1448344608556331137 tw596376667585493114 tw13733229630229355953 tw17818781755803931696 tw865729033647856283 tw7258279793811497660 tw794400862195937937 tw6453548905082830974 tw4324913565735399551 tw3646798295583665862 tw2596429236554021790 tw7749381163636789865 tw9058251695287297623 tw7522118596659013282 tw3240157073840010002 tw2930304068241265347 tw12302544031222409210 tw975652279567230254 tw14005844538748213267 tw14709583074528711983 tw7861760701899293930 tw5047749402007681405 tw14524607020238059020 tw14328166575937078870 tw7754890154741958735 tw15591046302481525505 tw14129661260789845625 tw13588407188563839180 tw4990095043178040261 tw15014588492388982691 tw8788380499586132281 tw161188896267236430 tw8813869313345363643 tw17712054969021476612 tw11762246178358986570 tw12130875023545856744 tw10757945766826527208 tw8355891480759580255 tw10582227702993064076 tw8109415962452052382 tw8155369603998730937 tw18332524999201473188 tw11453497167756859663 tw10102465800589521997 tw8006942181759361333 tw450748682713670229 tw372856944498037971 tw2383551690630879909 tw9129963293729620687 tw5824279133324218953 tw2121431522824235108 tw8610354670866263214 tw10555876404833316730 tw15722569010398171975 tw2798743603661619423 tw12914492059616603386 tw3535023126533773820 tw3233493522477831462 tw13115295840792376714 tw5088310587344757608 tw1765238893189118993 tw12772992894469971501 tw8778116376006508214 tw7228668209261147959 tw13998807040948559130 tw14848187309027181668 tw17220765150567068400 tw12251923880660899965 tw9441941985832407899 tw8865536713375953816 tw7358100200287220333 tw7135344323012260391 tw3842874851376511122 tw351178752271640462 tw3044923940106426210 tw2220468049213785224 tw15908085373463470987 tw15879963383240746674 tw15763897969444635600 tw17166190749506946364 tw6380850582440322847 tw12045965969023199459 tw13645248983464714918 tw6841240668593947147 tw5376598256823142158 tw1345050808037117661 tw16304165683640920243 tw12267886777445142727 tw15909137440057929466 tw16299292744696297878 tw6552509382707101763 tw5303516451604169143 tw3889451891519247351 tw3304453637896014615 tw18140130830319094153 tw16486269497322161049 tw5332011574999131324 tw3434636420761278459 tw7252833030803688888 tw9588198159368991202 tw8402038925145925704 tw4370295707153789809 tw3029162915141459696 tw26026678844543741 tw2241420347403256097 tw16875749483085533925 tw15683472832577759528 tw15378656626535915253 tw15181787533802642178 tw15032669443178404082 tw14401292628040742563 tw9735252725352546779 tw9644854916332115428 tw9491712512244618834 tw8781984961466502544 tw8709323470722445046 tw8532300842359885762 tw7506707338250619501 tw706724800001150618 tw7051602002527871276 tw5826656046228533200 tw5646274285666951952 tw5055826238016641739 tw4801652205034288601 tw4780034758549568369 tw4747252149750503122 tw4283911391506641025 tw3408893129487055459 tw3149534425718304877 tw3128543091522764293 tw2780021806021022977 tw26483822016906996 tw2332470042041600557 tw2058928891653076632 tw199178024393009203 tw18388412057422475488 tw17960117405687584411 tw17653347105573509383 tw17114796601561122235 tw16932681364842347290 tw16790791475865557605 tw16684226295311941579 tw16444900332464036693 tw16344175574150438331 tw16318212234469154016 tw16035008240666964412 tw15562085817676172640 tw143994633380007158 tw14307355810596705042 tw13979195703993271691 tw1359725964329468210 tw13391627877844843987 tw12755981697842912087 tw12541071161743105805 tw11898568633003789671 tw11800027548578637018 tw11646168921674032102 tw11566679185995266643 tw10744951748733342823 tw10284917672468538118 tw10178071836735495043 tw9422439786955904297 tw5385994379081255819 tw4000580696681671501 tw6050719747975593245 tw3116527498372754828 tw8023381360232116455 tw4598842398046803600 tw12659091815356578634 tw366558543804660222 tw9150737335307007455 tw894132362807101549 tw8559933326101232823 tw830878110376279990 tw7814085792061688095 tw7346402381712073384 tw6635098973442374324 tw6404730111064664831 tw6151955552811150519 tw5215956071485863200 tw4429922827847665361 tw36877492211512080 tw3049004060161443070 tw2774032979395811016 tw2674211474268461485 tw14910631615264480646 tw14800825549215965949 tw13431142599430199512 tw1271816284036538836 tw11614148524327716680 tw1021898310170386674 tw10166951492233804956 tw9282151548212986121 tw4892402065240113860 tw4789721083595051272 tw15955748260743894918 tw1422862121966348455 tw9158594405122469524 tw18386131096601275543 tw12891378795508882926 tw13337771275254917625 tw12421815057259208865 tw16516033543431270704 tw281382609035634024 tw7714702133160121138 tw8555458503507551100 tw8458133794179433707 tw8292631692767138037 tw7035748212619734704 tw6853107736909368843 tw4488750340902622685 tw4210069205666225413 tw3818308273875429970 tw3390877509741190997 tw3010147005097185251 tw1909402486036771730 tw17870718536777189691 tw15647424003125631476 tw15413533213677614375 tw13302831684063749457 tw11829810624425791185 tw10782842365039906865 tw10351757705845841139 tw10275969930866914455 tw6753982662812958408 tw3033985314884743903 tw18152621772821802854 tw10275445360212701339 tw10302665334622093070 tw918282957277994296 tw5900396774550854970 tw511878758843216983 tw2070585689065808667 tw16848863814445160909 tw12893153385758949042 tw11045304736036420431 tw10874531116190024295
end PySem.W.Fast
open PySem PySem.W PyProof.Rows
set_option maxRecDepth 100000 in
set_option maxHeartbeats 0 in
theorem PySem.Challenge.cw_chargeyard_k82_guests_of_the_text_holds : PySem.Challenge.rw_chargeyard_k82_guests_of_the_text.Holds := by
 w_on; o_law; k_head; (case hw=>w_witness2)
 k_fill
 refine L2.Zpr (l:=PySem.Challenge.rw_chargeyard_k82_guests_of_the_text) (k:=13) (x := "_law_script") rfl rfl #[rfl,by decide,by decide] (λw h Y=>W.kIn_of Y) ?F
 case F=>
  intro w mg fa h KX G hmg
  apply My.Zxb KX G hmg
  all_goals try k_is
  all_goals first | kit_is | kts_exm | decide | (refine' My.DH.mk ?a ?l ?c ?k; case a | l | c | k=>k_is) | (refine' My.MH.mk ?a ?i ?l ?c ?k; case a | i | l | c | k=>k_is) | with_unfolding_all exact Eq.refl true
end
end
