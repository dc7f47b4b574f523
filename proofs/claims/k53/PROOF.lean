import PyProof.Rows.All
import Wide.All
import OpenK.AllK
import Wide.FinOn
import Lean
import PyProof.EqAt
import PyProof.EqKinds
import PyProof.TupleCall
import PyProof.EqLayable
import PyProof.SumAny
import PyProof.ListRange
import PyProof.WalksEnum
import PyProof.ZipIter
import PyProof.EnumMake
import PyProof.ConsumeS
import PyProof.SeqI3
import PyProof.MaxThree
import PyProof.Rows.TupAdd
import PyProof.DictRoadsH
import PyProof.MeetsDict
import PyProof.FactsAll.dict
import PyProof.Rows.TupDisplay
import PyProof.Rows.SortWalk
import PySem.Challenge.RW_chargeyard_k53_whole_levels_are_the_fair
set_option Elab.async false
set_option linter.all false
set_option maxRecDepth 100000
set_option maxHeartbeats 4000000
set_option compiler.extract_closed false
set_option genSizeOf false
namespace L2
open PySem PySem.Spec PyProof.Rows
abbrev Key := Sum Int Str
def Zks : Key -> Value -> Bool
 | .inl k, v => Value.isInt k v
 | .inr x, v => Value.isStrOf x v
def Zs3 (w : World) : Key -> Int
 | .inl k => hashInt k
 | .inr x => hashStr w x
theorem Zb3 : ∀ {k : Key} {v : Value}, Zks k v = true -> (∃ i t, k = Sum.inl i /\ v = Value.int i t) \/ (∃ x t, k = Sum.inr x /\ v = Value.str x t)
 | .inl i, v, h => by
   obtain ⟨t, e⟩ := Value.isInt_shape (k := i) (v := v) h
   exact .inl ⟨i, t, rfl, e⟩
 | .inr x, v, h => by
   obtain ⟨t, e⟩ := Value.isStrOf_shape (x := x) (v := v) h
   exact .inr ⟨x, t, rfl, e⟩
theorem Zmi (i : Int) (t : Tok) : Zks (.inl i) (.int i t) = true := by simp [Zks, Value.isInt]
theorem Zme (x : Str) (t : Tok) : Zks (.inr x) (.str x t) = true := by simp [Zks, Value.isStrOf]
theorem Zrj (a b : Int) : decide ((Sum.inl a : Key) = Sum.inl b) = (a == b) := by
 by_cases e : a = b
 ·subst e; simp
 ·have h : ¬ (Sum.inl a : Key) = Sum.inl b := fun q => e (Sum.inl.inj q)
  rw [decide_eq_false h]
  exact (beq_eq_false_iff_ne.mpr e).symm
theorem Zqv (a b : Str) : decide ((Sum.inr a : Key) = Sum.inr b) = decide (a = b) := by
 by_cases e : a = b
 ·subst e; simp
 ·have h : ¬ (Sum.inr a : Key) = Sum.inr b := fun q => e (Sum.inr.inj q)
  rw [decide_eq_false h, decide_eq_false e]
theorem Zrk (a : Int) (b : Str) : decide ((Sum.inl a : Key) = Sum.inr b) = false := decide_eq_false (fun q => nomatch q)
theorem ZpW (a : Str) (b : Int) : decide ((Sum.inr a : Key) = Sum.inl b) = false := decide_eq_false (fun q => nomatch q)
def ZaZ (prog : Program) (w : World) : PySem.KeyKind prog w Key where
 is := Zks
 hash := Zs3 w
 inj := fun v a b ha hb => by
  rcases Zb3 ha with ⟨i, t, rfl, rfl⟩ | ⟨x, t, rfl, rfl⟩
  ·rcases Zb3 hb with ⟨j, u, rfl, e⟩ | ⟨y, u, rfl, e⟩
   ·injection e with e1 _; rw [e1]
   ·exact nomatch e
  ·rcases Zb3 hb with ⟨j, u, rfl, e⟩ | ⟨y, u, rfl, e⟩
   ·exact nomatch e
   ·injection e with e1 _; rw [e1]
 byValue := fun k v h => by
  rcases Zb3 h with ⟨i, t, rfl, rfl⟩ | ⟨x, t, rfl, rfl⟩ <;> rfl
 pyHash := fun hv h => by
  rcases Zb3 hv with ⟨i, t, rfl, rfl⟩ | ⟨x, t, rfl, rfl⟩
  ·exact wpAny_pyHash_int h
  ·exact wpAny_pyHash_str h
 eqBool := fun hu hv h => by
  rcases Zb3 hu with ⟨i, t, rfl, rfl⟩ | ⟨x, t, rfl, rfl⟩
  ·rcases Zb3 hv with ⟨j, u, rfl, rfl⟩ | ⟨y, u, rfl, rfl⟩
   ·rw [Zrj] at h; exact wpAny_eqBool_int h
   ·rw [Zrk] at h; exact SeqAt.EqAt.int_str i t y u _ _ _ _ h
  ·rcases Zb3 hv with ⟨j, u, rfl, rfl⟩ | ⟨y, u, rfl, rfl⟩
   ·rw [ZpW] at h; exact SeqAt.EqAt.str_int x t j u _ _ _ _ h
   ·rw [Zqv] at h; exact wpAny_eqBool_str h
 «strs» := fun k x t v h => by
  rcases Zb3 h with ⟨i, u, rfl, e⟩ | ⟨y, u, rfl, e⟩
  ·exact nomatch e
  ·injection e with e1 _
   subst e1
   cases v <;> rfl
theorem Zi4 (prog : Program) (w : World) (i : Int) (t : Tok) : (ZaZ prog w).is (.inl i) (.int i t) = true := Zmi i t
theorem ZiU (prog : Program) (w : World) (x : Str) (t : Tok) : (ZaZ prog w).is (.inr x) (.str x t) = true := Zme x t
end L2
namespace L2
open PySem PySem.Spec PyProof.Rows
inductive V where
 | non | bl (b : Bool) | int (i : Int) | str (x : Str) | byt (b : Array UInt8) | flt (b : UInt64) | ref (a : Addr) | ty (n : String)
 deriving DecidableEq
def Zbg : V -> Value -> Prop
 | .non, u => u = Value.none
 | .bl b, u => u = Value.bool b
 | .int i, u => ∃ t, u = Value.int i t
 | .str x, u => ∃ t, u = Value.str x t
 | .byt b, u => ∃ t, u = Value.bytes b t
 | .flt b, u => ∃ t, u = Value.float b t
 | .ref a, u => u = Value.ref a
 | .ty n, u => u = Value.type n
abbrev Zcj : List V -> List Value -> Prop := Paired Zbg
theorem Zcj.length {xs : List V} {us : List Value} (r : Zcj xs us) : xs.length = us.length := Paired.length r
theorem Zcj.get : ∀ {xs : List V} {us : List Value} {i : Nat} {x : V}, Zcj xs us -> xs[i]? = some x -> ∃ u, us[i]? = some u /\ Zbg x u
 | _, _, _, _, .nil, e => by simp at e
 | _, _, 0, _, .cons r _, e => by simp at e; subst e; exact ⟨_, rfl, r⟩
 | _, _, i + 1, x, .cons _ t, e => by
   obtain ⟨u, h1, h2⟩ := Zcj.get (i := i) (x := x) t (by simpa using e)
   exact ⟨u, by simpa using h1, h2⟩
theorem Zcj.set {x : V} {u : Value} (r : Zbg x u) : ∀ {xs : List V} {us : List Value} (i : Nat), Zcj xs us -> Zcj (xs.set i x) (us.set i u)
 | _, _, _, .nil => .nil
 | _, _, 0, .cons _ t => .cons r t
 | _, _, i + 1, .cons q t => .cons q (Zcj.set r i t)
theorem Zcj.append : ∀ {xs ys : List V} {us ws : List Value}, Zcj xs us -> Zcj ys ws -> Zcj (xs ++ ys) (us ++ ws)
 | _, _, _, _, .nil, s => s
 | _, _, _, _, .cons r t, s => .cons r (Zcj.append t s)
def ZfN : Option V -> Option Value -> Prop
 | some v, some u => Zbg v u
 | none, none => True
 | _, _ => False
def KV {κ : Type} : List (κ × V) -> List (κ × Value) -> Prop := Paired fun (p : κ × V) (q : κ × Value) => p.1 = q.1 /\ Zbg p.2 q.2
def kV : Key -> V
 | .inl i => .int i
 | .inr x => .str x
inductive HO where
 | lst (xs : List V)
 | tup (xs : List V)
 | dK (kvs : List (Key × V)) | dT (kvs : List (List Key × V))
 | set (S : Int -> Bool) (n : Nat)
 | ins (C dx : Addr) (fs : List (Str × V))
 | own (x : Addr)
 | xd (fs : List (Str × V))
 | met (f x : Addr)
 | rng (lo hi : Int)
 | frz (o : Obj) (u : HO)
 | tbl (ps : Array Value)
 | ext (φ : Heap -> Prop)
abbrev Hp := Addr -> Option HO
def upd (H : Hp) (a : Addr) (o : HO) : Hp := fun b => if b = a then some o else H b
theorem Zak {H : Hp} {a : Addr} {o : HO} : upd H a o a = some o := by unfold upd; rw [if_pos rfl]
theorem Zag {H : Hp} {a b : Addr} {o : HO} (h : b ≠ a) : upd H a o b = H b := by unfold upd; rw [if_neg h]
theorem Zqe {H : Hp} {a b : Addr} {o u : HO} (h : H a = some o) (h' : H b = some u) (d : o ≠ u) : a ≠ b := by
 intro e; subst e; rw [h] at h'; exact d (Option.some.inj h')
theorem Zat {H : Hp} {a b : Addr} {o : HO} (h : H a = some o) (h' : H b = none) : a ≠ b := by
 intro e; subst e; rw [h] at h'; cases h'
section
variable (P : Program) (w : World)
def ZcE (H : Hp) (h : Heap) (a : Addr) : HO -> Prop
 | .lst xs => xs.length <= sizeLine /\ ∃ (its : List Value) (n : Nat), Zcj xs its /\ h.get? a = some { cls := .type "list", data := .seq its.toArray n }
 | .tup xs => xs.length <= sizeLine /\ ∃ its : List Value, Zcj xs its /\ IsTup h a its.toArray
 | .dK kvs => kvs.length <= sizeLine /\ (a == sysModules) = false /\ ∃ vs, KV kvs vs /\ h.DictOf (ZaZ P w) a vs
 | .dT kvs => kvs.length <= sizeLine /\ (a == sysModules) = false /\ ∃ xs : List (List Key × Addr × Value),
  Paired (fun (p : List Key × V) (q : List Key × Addr × Value) => p.1 = q.1 /\ H q.2.1 = some (.tup (p.1.map kV)) /\ Zbg p.2 q.2.2) kvs xs /\
  ∃ o es ep, h.get? a = some o /\ o.ExactDict /\ o.data = .dict es ep /\ es.toList = xs.map (entryOfKey (tupleKind (ZaZ P w))) /\ (xs.map (·.1)).Nodup
 | .set S n => h.SetOf (intKind P w) a S n
 | .ins C dx fs => H dx = some (.own a) /\ fs.length <= 1000 /\ dx ≠ a /\ h.get? a = some (W.instObj C dx) /\
  ∃ mA, h.Ns1 dx mA /\ (∀ f, ZfN (fs.lookup f) (mA f)) /\ PySem.Within mA (fs.map (·.1))
 | .own _ => ∃ o, h.get? a = some o
 | .xd fs => ∃ mA, h.Ns1 a mA /\ ∀ f, ZfN (fs.lookup f) (mA f)
 | .rng lo hi => ∃ t u v, h.get? a = some { cls := .type "range", data := .fields #[.int lo t, .int hi u, .int 1 v] }
 | .frz o u => h.get? a = some o /\ ZcE H h a u
 | .tbl ps => h.get? a = some { cls := .none, data := .fields ps }
 | .met f x => h.get? a = some (W.methodObj (.ref f) (.ref x))
 | .ext φ => φ h /\ (∃ o, h.get? a = some o) /\ ∀ h1 h2 : Heap, φ h1 -> (∀ o, h1.get? a = some o -> h2.get? a = some o) -> φ h2
def HOk (H : Hp) (h : Heap) : Prop := ∀ a o, H a = some o -> ZcE P w H h a o
end
section
variable {P : Program} {w : World} {H H' : Hp} {h h' : Heap} {a : Addr} {o : HO}
theorem ZcE.lt (x : ZcE P w H h a o) : a < h.objs.size := by
 cases o with
 | lst xs => obtain ⟨_, _, _, _, e⟩ := x; exact Heap.lt_size e
 | tup xs => obtain ⟨_, _, _, p⟩ := x; exact p.lt
 | dK kvs => obtain ⟨_, _, _, _, o, _, _, e, _⟩ := x; exact Heap.lt_size e
 | dT kvs => obtain ⟨_, _, _, _, o, _, _, e, _⟩ := x; exact Heap.lt_size e
 | set S n => obtain ⟨o, _, _, _, e, _⟩ := x; exact Heap.lt_size e
 | ins C dx fs => obtain ⟨_, _, _, e, _⟩ := x; exact Heap.lt_size e
 | own y => obtain ⟨_, e⟩ := x; exact Heap.lt_size e
 | xd fs => obtain ⟨_, ⟨_, _, _, e, _⟩, _⟩ := x; exact Heap.lt_size e
 | rng lo hi => obtain ⟨_, _, _, e⟩ := x; exact Heap.lt_size e
 | frz ob u => obtain ⟨e, _⟩ := x; exact Heap.lt_size e
 | tbl ps => exact Heap.lt_size (show h.get? a = some _ from x)
 | met f y => exact Heap.lt_size (show h.get? a = some _ from x)
 | ext φ => obtain ⟨_, ⟨_, e⟩, _⟩ := x; exact Heap.lt_size e
theorem Paired.mapP {α β : Type} {F G : α -> β -> Prop} : ∀ {l₁ : List α} {l₂ : List β}, Paired F l₁ l₂ -> (∀ a b, F a b -> G a b) -> Paired G l₁ l₂
 | _, _, .nil, _ => .nil
 | _, _, .cons r t, f => .cons (f _ _ r) (Paired.mapP t f)
theorem ZcE.stay (x : ZcE P w H h a o) (k : ∀ b u, (b = a \/ H b = some (.own a)) -> h.get? b = some u -> h'.get? b = some u)
 (ho : ∀ b, H b = some (.own a) -> H' b = some (.own a)) (ht : ∀ b xs, H b = some (.tup xs) -> H' b = some (.tup xs)) : ZcE P w H' h' a o := by
 induction o with
 | lst xs => obtain ⟨z, its, n, r, e⟩ := x; exact ⟨z, its, n, r, k _ _ (.inl rfl) e⟩
 | tup xs => obtain ⟨z, its, r, ob, e, c⟩ := x; exact ⟨z, its, r, ob, k _ _ (.inl rfl) e, c⟩
 | dK kvs => obtain ⟨z, y, vs, r, ob, es, ep, e, c⟩ := x; exact ⟨z, y, vs, r, ob, es, ep, k _ _ (.inl rfl) e, c⟩
 | dT kvs =>
   obtain ⟨z, y, xs, r, ob, es, ep, e, c⟩ := x
   exact ⟨z, y, xs, Paired.mapP r fun p q z => ⟨z.1, ht _ _ z.2.1, z.2.2⟩, ob, es, ep, k _ _ (.inl rfl) e, c⟩
 | set S n => obtain ⟨ob, es, ep, t, e, c⟩ := x; exact ⟨ob, es, ep, t, k _ _ (.inl rfl) e, c⟩
 | ins C dx fs =>
   obtain ⟨d, z, ne, e, mA, ⟨od, es, ep, e2, c⟩, r⟩ := x
   exact ⟨ho _ d, z, ne, k _ _ (.inl rfl) e, mA, ⟨od, es, ep, k _ _ (.inr d) e2, c⟩, r⟩
 | own y => obtain ⟨ob, e⟩ := x; exact ⟨ob, k _ _ (.inl rfl) e⟩
 | xd fs => obtain ⟨mA, ⟨od, es, ep, e, c⟩, r⟩ := x; exact ⟨mA, ⟨od, es, ep, k _ _ (.inl rfl) e, c⟩, r⟩
 | rng lo hi => obtain ⟨t, u, v, e⟩ := x; exact ⟨t, u, v, k _ _ (.inl rfl) e⟩
 | frz ob u ih => obtain ⟨e, q⟩ := x; exact ⟨k _ _ (.inl rfl) e, ih q⟩
 | tbl ps =>
   have e : h.get? a = some { cls := .none, data := .fields ps } := x
   show h'.get? a = some { cls := .none, data := .fields ps }
   exact k a _ (.inl rfl) e
 | met f y =>
   have e : h.get? a = some (W.methodObj (.ref f) (.ref y)) := x
   show h'.get? a = some (W.methodObj (.ref f) (.ref y))
   exact k a _ (.inl rfl) e
 | ext φ => obtain ⟨p, ⟨o, e⟩, st⟩ := x; exact ⟨st _ _ p fun o q => k _ _ (.inl rfl) q, ⟨o, k _ _ (.inl rfl) e⟩, st⟩
theorem HOk.lt (x : HOk P w H h) (e : H a = some o) : a < h.objs.size := (x a o e).lt
theorem HOk.fresh (x : HOk P w H h) (e : h.objs.size <= a) : H a = none := by
 cases q : H a with
 | none => rfl
 | some u => exact absurd (Nat.lt_of_lt_of_le (x.lt q) e) (Nat.lt_irrefl _)
theorem HOk.kept (x : HOk P w H h) (k : ∀ b u, h.get? b = some u -> h'.get? b = some u) : HOk P w H h' := fun a o e =>
 (x a o e).stay (fun b u _ q => k b u q) (fun _ q => q) fun _ _ q => q
theorem HOk.laid (x : HOk P w H h) (k : ∀ b u, h.get? b = some u -> h'.get? b = some u) (hp : h.objs.size <= a) (new : ZcE P w (upd H a o) h' a o) : HOk P w (upd H a o) h' := fun b u e => by
 have hn := x.fresh hp
 by_cases hb : b = a
 ·subst hb; rw [Zak] at e; cases e; exact new
 ·rw [Zag hb] at e
  exact (x b u e).stay (fun c v _ q => k c v q) (fun c q => by rw [Zag (Zat q hn)]; exact q) fun c xs q => by rw [Zag (Zat q hn)]; exact q
end
def Rd (H : Hp) (a : Addr) (u : HO) : Prop := H a = some u \/ ∃ o, H a = some (.frz o u)
theorem Rd.of {H : Hp} {a : Addr} {u : HO} (h : H a = some u) : Rd H a u := .inl h
theorem Rd.ok {P : Program} {w : World} {H : Hp} {h : Heap} {a : Addr} {u : HO} (r : Rd H a u) (x : HOk P w H h) : ZcE P w H h a u := by
 rcases r with r | ⟨o, r⟩
 ·exact x a u r
 ·obtain ⟨_, q⟩ := x a _ r
  exact q
def Mut : Option HO -> Prop
 | some (.lst _) => True
 | some (.dK _) => True
 | some (.dT _) => True
 | some (.set _ _) => True
 | some (.ins _ _ _) => True
 | some (.ext _) => True
 | _ => False
section
variable {P : Program} {w : World} {H : Hp} {h h' : Heap} {x e : Addr} {o' : HO}
theorem HOk.write (ok : HOk P w H h) (mu : Mut (H x)) (he : e = x \/ H e = some (.own x)) (k : ∀ b u, b ≠ e -> h.get? b = some u -> h'.get? b = some u) (heo : ∃ u, h'.get? e = some u)
 (new : ZcE P w (upd H x o') h' x o') : HOk P w (upd H x o') h' := fun b u q => by
 have nown : ∀ c y, H c = some (.own y) -> c ≠ x := fun c y r z => by subst z; rw [r] at mu; exact mu
 have ntup : ∀ c xs, H c = some (.tup xs) -> c ≠ x := fun c xs r z => by subst z; rw [r] at mu; exact mu
 by_cases hb : b = x
 ·subst hb; rw [Zak] at q; cases q; exact new
 ·rw [Zag hb] at q
  by_cases hbe : b = e
  ·have q' : H b = some (.own x) := by
    rcases he with z | z
    ·exact absurd (hbe.trans z) hb
    ·rw [hbe]; exact z
   rw [q] at q'; cases q'
   obtain ⟨v, hv⟩ := heo
   exact ⟨v, by rw [hbe]; exact hv⟩
  ·refine (ok b u q).stay (fun c v hc r => k c v ?_ r) (fun c r => by rw [Zag (nown c b r)]; exact r) fun c xs r => by rw [Zag (ntup c xs r)]; exact r
   rcases hc with rfl | hc
   ·exact hbe
   ·rintro rfl
    rcases he with z | z
    ·exact nown c b hc z
    ·rw [hc] at z; cases z; exact hb rfl
end
structure Un (fs ex : List Addr) (H H' : Hp) (h h' : Heap) : Prop where
 keep : ∀ b o, h.get? b = some o -> H b = none -> b ∉ fs -> b ∉ ex -> h'.get? b = some o
 slot : ∀ b o, h.get? b = some o -> H b = none -> b ∈ fs -> b ∉ ex -> ∃ sl, h'.get? b = some { o with slots := sl }
 free : ∀ b o, h.get? b = some o -> H b = none -> b ∉ ex -> H' b = none
 there : ∀ b o, h.get? b = some o -> b ∉ ex -> ∃ o', h'.get? b = some o'
 tups : ∀ b xs, H b = some (.tup xs) -> H' b = some (.tup xs)
 frzs : ∀ b o u, H b = some (.frz o u) -> H' b = some (.frz o u)
 tupo : ∀ b xs o, H b = some (.tup xs) -> h.get? b = some o -> b ∉ ex -> h'.get? b = some o
 tbls : ∀ b ps, H b = some (.tbl ps) -> ∃ more, H' b = some (.tbl (ps ++ more))
section
variable {fs fs' ex ex' : List Addr} {H H1 H2 : Hp} {h h1 h2 h' : Heap} {a x e : Addr} {o : HO}
theorem Un.any (u : Un fs ex H H1 h h1) {b : Addr} {ob : Obj} (q : h.get? b = some ob) (n : H b = none) (hx : b ∉ ex) : ∃ sl, h1.get? b = some { ob with slots := sl } := by
 by_cases hb : b ∈ fs
 ·exact u.slot b ob q n hb hx
 ·exact ⟨ob.slots, u.keep b ob q n hb hx⟩
theorem Un.kept (k : ∀ b u, h.get? b = some u -> h'.get? b = some u) : Un fs ex H H h h' :=
 ⟨fun b ob q _ _ _ => k b ob q, fun b ob q _ _ _ => ⟨ob.slots, k b ob q⟩, fun _ _ _ n _ => n, fun b ob q _ => ⟨ob, k b ob q⟩, fun _ _ q => q, fun _ _ _ q => q, fun b _ ob _ e _ => k b ob e, fun _ ps q => ⟨#[], by rw [q]; simp⟩⟩
theorem Un.refl : Un fs ex H H h h := Un.kept fun _ _ q => q
theorem Un.laid (k : ∀ b u, h.get? b = some u -> h'.get? b = some u) (hp : h.objs.size <= a) (hn : H a = none) : Un fs ex H (upd H a o) h h' where
 keep := fun b u q _ _ _ => k b u q
 slot := fun b u q _ _ _ => ⟨u.slots, k b u q⟩
 free := fun b u q n _ => by rw [Zag (Nat.ne_of_lt (Nat.lt_of_lt_of_le (Heap.lt_size q) hp))]; exact n
 there := fun b u q _ => ⟨u, k b u q⟩
 tups := fun b xs q => by rw [Zag (Zat q hn)]; exact q
 frzs := fun b u xs q => by rw [Zag (Zat q hn)]; exact q
 tupo := fun b _ ob _ e _ => k b ob e
 tbls := fun b ps q => ⟨#[], by rw [Zag (Zat q hn), q]; simp⟩
theorem Un.write (mu : Mut (H x)) (he : e = x \/ H e = some (.own x)) (k : ∀ b u, b ≠ e -> h.get? b = some u -> h'.get? b = some u) (heo : ∃ u, h'.get? e = some u) : Un fs ex H (upd H x o) h h' := by
 have hx : ∀ b, H b = none -> b ≠ x := fun b n z => by subst z; rw [n] at mu; exact mu
 have hb : ∀ b, H b = none -> b ≠ e := fun b n z => by
  subst z
  rcases he with r | r
  ·exact hx b n r
  ·rw [n] at r; cases r
 have hm : ∀ b u, H b = some u -> ¬ Mut (some u) -> b ≠ x := fun b u q nm z => by subst z; rw [q] at mu; exact nm mu
 refine ⟨fun b u q n _ _ => k b u (hb b n) q, fun b u q n _ _ => ⟨u.slots, k b u (hb b n) q⟩, fun b u q n _ => by rw [Zag (hx b n)]; exact n, fun b u q _ => ?_,
  fun b xs q => by rw [Zag (hm b _ q fun z => z)]; exact q, fun b u xs q => by rw [Zag (hm b _ q fun z => z)]; exact q, fun b xs u q e' _ => k b u (fun z => by
   rcases he with r | r
   ·exact hm b _ q (fun y => y) (z.trans r)
   ·rw [<- z, q] at r; cases r) e', fun b ps q => ⟨#[], by rw [Zag (hm b _ q fun z => z), q]; simp⟩⟩
 by_cases hbe : b = e
 ·subst hbe; exact heo
 ·exact ⟨u, k b u hbe q⟩
end
def trk (h : Heap) (H : Hp) : List Addr := (List.range h.objs.size).filter fun a => (H a).isSome
def ZmV (h : Heap) (H : Hp) : Heap := W.hideAll h (trk h H)
theorem Zli (h : Heap) (H : Hp) : (ZmV h H).objs.size = h.objs.size := W.hideAll_size _ _
theorem ZmR {h : Heap} {H : Hp} {b : Addr} {o : Obj} (e : h.get? b = some o) (n : H b = none) : (ZmV h H).get? b = some o :=
 W.hideAll_get _ e fun hm => by
  have q : (H b).isSome = true := (List.mem_filter.mp hm).2
  rw [n] at q; simp at q
theorem Zph {h : Heap} {H : Hp} {b : Addr} {o : Obj} (e : (ZmV h H).get? b = some o) : h.get? b = some o /\ H b = none := by
 have e' : h.get? b = some o := W.of_hideAll (trk h H) e
 refine ⟨e', ?_⟩
 cases q : H b with
 | none => rfl
 | some x =>
   have hm : b ∈ trk h H := List.mem_filter.mpr ⟨List.mem_range.mpr (Heap.lt_size e'), by simp [q]⟩
   have z : (ZmV h H).get? b = none := W.hideAll_none (trk h H) hm
   rw [z] at e; cases e
end L2
namespace L2
open PySem PySem.Spec PyProof.Rows
structure Mod (K : W.Frag) (mg : Str -> Option Value) (base : Heap) : Prop where
 kin : K.In base
 glob : base.Ns mainGlobals mg
 blt : ∃ mb, base.Ns builtinsNs mb /\ ∀ x : Str, x ≠ "__name__" -> mb x = bootBuiltins x
 nolimit : base.NoLimit
structure Cx where
 prog : Program
 w : World
 K : W.Frag
 mg : Str -> Option Value
 base : Heap
 A : Around
 N : List Str
 s₀ : Shared
 H₀ : Hp
 env : Env
 outer : List Env
 stack : List Env
 ex : List Addr
 fn : Str -> Bool
 calm : Bool
 pn : List (Addr × Obj)
 xe : Value -> Shared -> Prop
def frs (l : List Env) : List Addr := l.filterMap (·.frame)
abbrev Cx.fs (X : Cx) : List Addr := frs X.outer
def Vis (sc : Scope) (x : Str) : Prop := sc.names.lookup x = some .local \/ sc.names.lookup x = some .cell \/ sc.names.lookup x = some .free
def Loc (sc : Scope) (x : Str) : Prop := sc.names.lookup x = some .local \/ sc.names.lookup x = some .cell
def Zs1 (env : Env) (h : Heap) (m : Str -> Option Value) (x : Str) (u : Value) : Prop :=
 (env.kindOf x = some .local /\ m x = some u) \/ ((env.kindOf x = some .cell \/ env.kindOf x = some .free) /\ ∃ c, env.cells.lookup x = some c /\ h.IsCell c (some u))
structure Cx.Ok (X : Cx) : Prop where
 mod : Mod X.K X.mg X.base
 kind : X.env.scope.kind = .function
 glob : X.env.globals = mainGlobals
 blt : X.env.builtins = builtinsNs
 above : X.s₀.heap.objs.size <= X.env.locals
 inj : ∀ x y c, X.env.cells.lookup x = some c -> X.env.cells.lookup y = some c -> x = y
 has : ∀ x, (X.env.kindOf x = some .cell \/ X.env.kindOf x = some .free) -> ∃ c, X.env.cells.lookup x = some c
 cab : ∀ x c, X.fn x = true -> X.env.cells.lookup x = some c -> X.s₀.heap.objs.size <= c
 hd : X.calm = true -> X.A.handled = none
 frames : X.A.frames = some X.stack
 stk : X.stack = X.outer \/ (X.stack = X.env :: X.outer /\ X.env.frame = some X.env.locals)
 exf : ∀ b ∈ X.ex, b ≠ X.env.locals /\ ∀ x c, X.env.cells.lookup x = some c -> c ≠ b
 bs : ∀ b o, X.base.get? b = some o -> X.s₀.heap.get? b = some o /\ (X.H₀ b = none \/ ∃ xs, X.H₀ b = some (.tup xs))
 bsz : X.base.objs.size <= X.s₀.heap.objs.size
 noex : ∀ b o, X.base.get? b = some o -> b ∉ X.ex
 exfs : ∀ b ∈ X.ex, b ∉ X.fs
 funs : X.s₀.heap.FunFrames X.base X.outer
 frf : ∀ b ∈ X.fs, X.H₀ b = none
structure Inv (X : Cx) (pins : List (Addr × Obj)) (σ : List (Option V)) (H : Hp) (s : Shared) : Prop where
 ok : X.Ok
 os : s.os = X.s₀.os
 bare : AllBare s.gens
 base : Un X.fs X.ex X.H₀ H X.s₀.heap s.heap
 loc : ∃ m, s.heap.Ns X.env.locals m /\ ∀ (i : Nat) (x : Str) (v : V), X.N[i]? = some x -> σ[i]? = some (some v) -> Vis X.env.scope x -> ∃ u, Zbg v u /\ Zs1 X.env s.heap m x u
 cell : ∀ x c, X.env.cells.lookup x = some c -> ∃ v, s.heap.IsCell c v
 free : H X.env.locals = none
 freeC : ∀ x c, X.env.cells.lookup x = some c -> H c = none
 pin : ∀ p ∈ X.pn ++ pins, s.heap.get? p.1 = some p.2 /\ H p.1 = none /\ p.1 ≠ X.env.locals /\ p.1 ∉ X.fs /\ ∀ v, p.2.data ≠ .cell v
 hok : HOk X.prog X.w H s.heap
 len : σ.length = X.N.length
section
variable {X : Cx} {pins : List (Addr × Obj)} {σ : List (Option V)} {H H' : Hp} {s : Shared} {h' : Heap}
theorem Cx.Ok.nofr (ok : X.Ok) {b : Addr} {o : Obj} (e : X.base.get? b = some o) : b ∉ X.fs := fun hb => by
 have := (ok.funs.mem hb).1
 rw [e] at this; cases this
theorem Inv.bs (I : Inv X pins σ H s) : ∀ b o, X.base.get? b = some o -> s.heap.get? b = some o /\ (H b = none \/ ∃ xs, H b = some (.tup xs)) := fun b o e => by
 obtain ⟨e1, e2⟩ := I.ok.bs b o e
 rcases e2 with e2 | ⟨xs, e2⟩
 ·exact ⟨I.base.keep b o e1 e2 (I.ok.nofr e) (I.ok.noex b o e), .inl (I.base.free b o e1 e2 (I.ok.noex b o e))⟩
 ·exact ⟨I.base.tupo b xs o e2 e1 (I.ok.noex b o e), .inr ⟨xs, I.base.tups b xs e2⟩⟩
theorem Inv.bk (I : Inv X pins σ H s) : ∀ b o, X.base.get? b = some o -> s.heap.get? b = some o := fun b o e => (I.bs b o e).1
theorem Inv.mod (I : Inv X pins σ H s) : Mod X.K X.mg X.base := I.ok.mod
theorem Inv.kIn (I : Inv X pins σ H s) : X.K.In s.heap := I.ok.mod.kin.keeps I.bk
theorem Inv.lt (I : Inv X pins σ H s) : X.env.locals < s.heap.objs.size := let ⟨_, hn, _⟩ := I.loc; hn.lt
theorem Inv.sz (I : Inv X pins σ H s) : X.s₀.heap.objs.size <= s.heap.objs.size := Nat.le_trans I.ok.above (Nat.le_of_lt I.lt)
theorem Inv.nofs (I : Inv X pins σ H s) {a : Addr} (h : s.heap.objs.size <= a) : a ∉ X.fs := fun hb => by
 obtain ⟨_, o, ho, _⟩ := I.ok.funs.mem hb
 exact absurd (Nat.lt_of_lt_of_le (Heap.lt_size ho) (Nat.le_trans I.sz h)) (Nat.lt_irrefl _)
theorem Inv.cne (I : Inv X pins σ H s) : ∀ x c, X.env.cells.lookup x = some c -> c ≠ X.env.locals := fun x c e z => by
 obtain ⟨v, o, ho, hd⟩ := I.cell x c e
 obtain ⟨m, ⟨o', es, ep, ho', hd', _⟩, _⟩ := I.loc
 rw [z, ho'] at ho; cases ho; rw [hd'] at hd; cases hd
theorem Inv.funs (I : Inv X pins σ H s) : s.heap.FunFrames X.base X.outer := by
 have all : ∀ (l : List Env), (∀ b ∈ frs l, b ∈ X.fs) -> X.s₀.heap.FunFrames X.base l -> s.heap.FunFrames X.base l := by
  intro l
  induction l with
  | nil => intro _ _; trivial
  | cons env r ih =>
    intro hs hl
    obtain ⟨hk, ⟨L, o, hf, hn, ho, hd⟩, hr⟩ := hl
    have hL : L ∈ X.fs := hs L (by unfold frs; rw [List.filterMap_cons, hf]; exact List.mem_cons_self)
    obtain ⟨sl, e⟩ := I.base.slot L o ho (I.ok.frf L hL) hL fun z => I.ok.exfs L z hL
    exact ⟨hk, ⟨L, _, hf, hn, e, hd⟩, ih (fun b hb => hs b (by unfold frs; rw [List.filterMap_cons, hf]; exact List.mem_cons_of_mem _ hb)) hr⟩
 exact all X.outer (fun _ hb => hb) I.ok.funs
theorem Inv.stack (I : Inv X pins σ H s) : s.heap.FunFrames X.base X.stack := by
 rcases I.ok.stk with e | ⟨e, hf⟩
 ·rw [e]; exact I.funs
 ·rw [e]
  obtain ⟨m, hn, _⟩ := I.loc
  refine .cons (by rw [I.ok.kind]; decide) hf hn ?_ I.funs
  exact Heap.get?_none_of_le (Nat.le_trans I.ok.bsz I.ok.above)
theorem Inv.stkSub (I : Inv X pins σ H s) : ∀ b ∈ frs X.stack, b ∈ X.env.locals :: X.fs := fun b hb => by
 rcases I.ok.stk with e | ⟨e, hf⟩
 ·rw [e] at hb; exact List.mem_cons_of_mem _ hb
 ·rw [e] at hb
  unfold frs at hb
  rw [List.filterMap_cons, hf] at hb
  exact hb
theorem Inv.stkFree (I : Inv X pins σ H s) : ∀ b ∈ frs X.stack, H b = none := fun b hb => by
 rcases List.mem_cons.mp (I.stkSub b hb) with e | hb
 ·rw [e]; exact I.free
 ·obtain ⟨_, o, ho, _⟩ := I.ok.funs.mem hb
  exact I.base.free b o ho (I.ok.frf b hb) fun z => I.ok.exfs b z hb
theorem Inv.step {g' : Array GenState} {t' : Nat} {d' : Drawn} {ch : List Addr} (I : Inv X pins σ H s)
 (hch : ∀ b ∈ ch, (b ∈ X.ex \/ X.s₀.heap.objs.size <= b) /\ b ≠ X.env.locals /\ (∀ x c, X.env.cells.lookup x = some c -> c ≠ b) /\ ∀ p ∈ X.pn ++ pins, p.1 ≠ b)
 (keep : ∀ b o, b ≠ X.env.locals -> b ∉ X.fs -> b ∉ ch -> s.heap.get? b = some o -> H b = none -> h'.get? b = some o)
 (slot : ∀ b o, b ≠ X.env.locals -> b ∈ X.fs -> b ∉ ch -> s.heap.get? b = some o -> H b = none -> ∃ sl, h'.get? b = some { o with slots := sl }) (free : ∀ b o, b ∉ ch -> s.heap.get? b = some o -> H b = none -> H' b = none)
 (there : ∀ b o, b ∉ ch -> s.heap.get? b = some o -> ∃ o', h'.get? b = some o')
 (tups : ∀ b xs, H b = some (.tup xs) -> H' b = some (.tup xs)) (frzs : ∀ b o u, H b = some (.frz o u) -> H' b = some (.frz o u)) (tbls : ∀ b ps, H b = some (.tbl ps) -> ∃ more, H' b = some (.tbl (ps ++ more)))
 (ns : ∀ m, s.heap.Ns X.env.locals m -> h'.Ns X.env.locals m) (hok : HOk X.prog X.w H' h') (hg : AllBare g') (tupo : ∀ b xs o, b ∉ ch -> H b = some (.tup xs) -> s.heap.get? b = some o -> h'.get? b = some o) :
 Inv X pins σ H' { s with heap := h', gens := g', drawn := d', toks := t' } := by
 have neL : ∀ b o, X.s₀.heap.get? b = some o -> b ≠ X.env.locals := fun b o e => Nat.ne_of_lt (Nat.lt_of_lt_of_le (Heap.lt_size e) I.ok.above)
 have neC : ∀ b o, X.s₀.heap.get? b = some o -> b ∉ X.ex -> b ∉ ch := fun b o e hx hb => by
  rcases (hch b hb).1 with z | z
  ·exact hx z
  ·exact absurd (Nat.lt_of_lt_of_le (Heap.lt_size e) z) (Nat.lt_irrefl _)
 have cellK : ∀ x c, X.env.cells.lookup x = some c -> ∀ v, s.heap.IsCell c v -> h'.IsCell c v := fun x c e v ⟨o, ho, hd⟩ => by
  have nch : c ∉ ch := fun z => (hch c z).2.2.1 x c e rfl
  by_cases hc : c ∈ X.fs
  ·obtain ⟨sl, q⟩ := slot c o (I.cne x c e) hc nch ho (I.freeC x c e)
   exact ⟨_, q, hd⟩
  ·exact ⟨o, keep c o (I.cne x c e) hc nch ho (I.freeC x c e), hd⟩
 refine ⟨I.ok, I.os, hg, ⟨fun b o e n hb hx => ?_, fun b o e n hb hx => ?_, fun b o e n hx => ?_, fun b o e hx => ?_, fun b xs e => tups b xs (I.base.tups b xs e), fun b o xs e => frzs b o xs (I.base.frzs b o xs e), fun b xs o q e hx => tupo b xs o (neC b o e hx) (I.base.tups b xs q) (I.base.tupo b xs o q e hx), fun b ps e => ?_⟩, ?_, fun x c e => ?_, ?_, fun x c e => ?_, fun p hp => ?_, hok, I.len⟩
 ·exact keep b o (neL b o e) hb (neC b o e hx) (I.base.keep b o e n hb hx) (I.base.free b o e n hx)
 ·obtain ⟨sl, e1⟩ := I.base.slot b o e n hb hx
  obtain ⟨sl', e2⟩ := slot b _ (neL b o e) hb (neC b o e hx) e1 (I.base.free b o e n hx)
  exact ⟨sl', e2⟩
 ·obtain ⟨o', e1⟩ := I.base.there b o e hx
  exact free b o' (neC b o e hx) e1 (I.base.free b o e n hx)
 ·obtain ⟨o', e1⟩ := I.base.there b o e hx
  exact there b o' (neC b o e hx) e1
 ·obtain ⟨m1, e1⟩ := I.base.tbls b ps e
  obtain ⟨m2, e2⟩ := tbls b _ e1
  exact ⟨m1 ++ m2, by rw [e2, Array.append_assoc]⟩
 ·obtain ⟨m, hn, hl⟩ := I.loc
  refine ⟨m, ns m hn, fun i x v e1 e2 e3 => ?_⟩
  obtain ⟨u, r, l⟩ := hl i x v e1 e2 e3
  refine ⟨u, r, ?_⟩
  rcases l with l | ⟨k, c, e, z⟩
  ·exact .inl l
  ·exact .inr ⟨k, c, e, cellK x c e _ z⟩
 ·obtain ⟨v, z⟩ := I.cell x c e
  exact ⟨v, cellK x c e v z⟩
 ·obtain ⟨m, ⟨o, _, _, ho, _⟩, _⟩ := I.loc
  exact free _ o (fun z => (hch _ z).2.1 rfl) ho I.free
 ·obtain ⟨v, o, ho, hd⟩ := I.cell x c e
  exact free c o (fun z => (hch c z).2.2.1 x c e rfl) ho (I.freeC x c e)
 ·obtain ⟨e, n, ne, nf, d⟩ := I.pin p hp
  have nch : p.1 ∉ ch := fun z => (hch p.1 z).2.2.2 p hp rfl
  exact ⟨keep p.1 p.2 ne nf nch e n, free p.1 p.2 nch e n, ne, nf, d⟩
theorem Inv.un {t' : Nat} (I : Inv X pins σ H s) (u : Un X.fs [] H H' s.heap h') (hok : HOk X.prog X.w H' h') : Inv X pins σ H' { s with heap := h', toks := t' } := by
 obtain ⟨m, ⟨o, es, ep, ho, r⟩, _⟩ := id I.loc
 obtain ⟨sl, hL⟩ := u.any ho I.free (by simp)
 exact I.step (g' := s.gens) (d' := s.drawn) (ch := []) (fun _ z => nomatch z) (fun b o _ hb _ e n => u.keep b o e n hb (by simp)) (fun b o _ hb _ e n => u.slot b o e n hb (by simp)) (fun b o _ e n => u.free b o e n (by simp)) (fun b o _ e => u.there b o e (by simp)) u.tups u.frzs u.tbls (fun m' hm => by
  obtain ⟨o', es', ep', ho', r'⟩ := hm
  rw [ho] at ho'; cases ho'
  exact ⟨_, es', ep', hL, r'⟩) hok I.bare (fun b xs o _ q e => u.tupo b xs o q e (by simp))
theorem Inv.call {g' : Array GenState} {t' : Nat} {d' : Drawn} {ch : List Addr} (I : Inv X pins σ H s) (u : Un (frs X.stack) ch H H' s.heap h') (hok : HOk X.prog X.w H' h') (hg : AllBare g')
 (hch : ∀ b ∈ ch, (b ∈ X.ex \/ X.s₀.heap.objs.size <= b) /\ b ≠ X.env.locals /\ (∀ x c, X.env.cells.lookup x = some c -> c ≠ b) /\ ∀ p ∈ X.pn ++ pins, p.1 ≠ b) :
 Inv X pins σ H' { s with heap := h', gens := g', drawn := d', toks := t' } := by
 obtain ⟨m, ⟨o, es, ep, ho, r⟩, _⟩ := id I.loc
 obtain ⟨sl, hL⟩ := u.any ho I.free fun z => (hch _ z).2.1 rfl
 exact I.step (ch := ch) hch (fun b o hL hb hc e n => u.keep b o e n (fun z => (List.mem_cons.mp (I.stkSub b z)).elim hL hb) hc) (fun b o _ _ hc e n => u.any e n hc) (fun b o hc e n => u.free b o e n hc) (fun b o hc e => u.there b o e hc) u.tups u.frzs u.tbls (fun m' hm => by
  obtain ⟨o', es', ep', ho', r'⟩ := hm
  rw [ho] at ho'; cases ho'
  exact ⟨_, es', ep', hL, r'⟩) hok hg (fun b xs o hc q e => u.tupo b xs o q e hc)
theorem Inv.turned {t' : Nat} {it : Addr} (I : Inv X pins σ H s) (k : ∀ b o, b ≠ it -> s.heap.get? b = some o -> h'.get? b = some o) (hn : H it = none) (hL : it ≠ X.env.locals)
 (h1 : it ∈ X.ex \/ X.s₀.heap.objs.size <= it) (h2 : ∀ x c, X.env.cells.lookup x = some c -> c ≠ it) (h3 : ∀ p ∈ X.pn ++ pins, p.1 ≠ it) : Inv X pins σ H { s with heap := h', toks := t' } := by
 have nit : ∀ b u, H b = some u -> b ≠ it := fun b u e z => by rw [z, hn] at e; cases e
 refine I.step (g' := s.gens) (d' := s.drawn) (ch := [it]) (fun b hb => ?_) (fun b o _ _ hc e _ => k b o (fun z => hc (by simp [z])) e) (fun b o _ _ hc e _ => ⟨o.slots, k b o (fun z => hc (by simp [z])) e⟩) (fun _ _ _ _ n => n)
  (fun b o hc e => ⟨o, k b o (fun z => hc (by simp [z])) e⟩) (fun _ _ e => e) (fun _ _ _ e => e) (fun b ps e => ⟨#[], by rw [e]; simp⟩) (fun m hm => ?_) (fun b u e => ?_) I.bare (fun b _ o hc _ e => k b o (fun z => hc (by simp [z])) e)
 ·have e : b = it := by simpa using hb
  subst e
  exact ⟨h1, hL, h2, h3⟩
 ·obtain ⟨o, es, ep, ho, r⟩ := hm
  exact ⟨o, es, ep, k _ o (Ne.symm hL) ho, r⟩
 ·refine (I.hok b u e).stay (fun c v hc q => k c v ?_ q) (fun _ q => q) fun _ _ q => q
  rcases hc with z | z
  ·rw [z]; exact nit b u e
  ·exact nit c _ z
theorem Inv.tok (I : Inv X pins σ H s) (t : Nat) : Inv X pins σ H { s with toks := t } := I.un (h' := s.heap) (t' := t) Un.refl I.hok
theorem Inv.kept {t' : Nat} (I : Inv X pins σ H s) (k : ∀ b u, s.heap.get? b = some u -> h'.get? b = some u) : Inv X pins σ H { s with heap := h', toks := t' } := I.un (Un.kept k) (I.hok.kept k)
theorem Inv.laid {a : Addr} {o : HO} {t' : Nat} (I : Inv X pins σ H s) (k : ∀ b u, s.heap.get? b = some u -> h'.get? b = some u) (hp : s.heap.objs.size <= a) (new : ZcE X.prog X.w (upd H a o) h' a o) :
 Inv X pins σ (upd H a o) { s with heap := h', toks := t' } := I.un (Un.laid k hp (I.hok.fresh hp)) (I.hok.laid k hp new)
theorem Inv.write {x e : Addr} {o : HO} {t' : Nat} (I : Inv X pins σ H s) (mu : Mut (H x)) (he : e = x \/ H e = some (.own x)) (k : ∀ b u, b ≠ e -> s.heap.get? b = some u -> h'.get? b = some u) (heo : ∃ u, h'.get? e = some u)
 (new : ZcE X.prog X.w (upd H x o) h' x o) : Inv X pins σ (upd H x o) { s with heap := h', toks := t' } := I.un (Un.write mu he k heo) (I.hok.write mu he k heo new)
theorem Inv.weak {σ' : List (Option V)} (I : Inv X pins σ H s) (hl : σ'.length = σ.length) (w : ∀ (i : Nat) v, σ'[i]? = some (some v) -> σ[i]? = some (some v)) : Inv X pins σ' H s :=
 ⟨I.ok, I.os, I.bare, I.base, let ⟨m, hn, hl'⟩ := I.loc; ⟨m, hn, fun i x v e1 e2 e3 => hl' i x v e1 (w i v e2) e3⟩, I.cell, I.free, I.freeC, I.pin, I.hok, hl.trans I.len⟩
theorem Inv.pins_of {pins' : List (Addr × Obj)} (I : Inv X pins σ H s) (h : ∀ p ∈ pins', s.heap.get? p.1 = some p.2 /\ H p.1 = none /\ p.1 ≠ X.env.locals /\ p.1 ∉ X.fs /\ ∀ v, p.2.data ≠ .cell v) : Inv X pins' σ H s :=
 ⟨I.ok, I.os, I.bare, I.base, I.loc, I.cell, I.free, I.freeC, fun p hp => (List.mem_append.mp hp).elim (fun z => I.pin p (List.mem_append_left _ z)) (h p), I.hok, I.len⟩
theorem Zjs {N : List Str} (hN : N.Nodup) {i j : Nat} {x : Str} (a : N[i]? = some x) (b : N[j]? = some x) : i = j := by
 obtain ⟨h1, e1⟩ := List.getElem?_eq_some_iff.mp a
 obtain ⟨h2, e2⟩ := List.getElem?_eq_some_iff.mp b
 exact (List.getElem_inj hN).mp (e1.trans e2.symm)
theorem Zh2 {M : Model} {A : Around} {E : Value -> Shared -> Prop} {i : Nat} {x : Str} {v : V} {u : Value} {Q : Unit -> Shared -> Prop} (I : Inv X pins σ H s) (hN : X.N.Nodup) (hi : X.N[i]? = some x) (hx : Loc X.env.scope x) (r : Zbg v u)
 (h : ∀ s', Inv X pins (σ.set i (some v)) H s' -> (∃ a, Heap.SameBut a s.heap s'.heap /\ (a = X.env.locals \/ X.env.cells.lookup x = some a)) -> Q () s') (hf : X.fn x = true \/ X.env.scope.names.lookup x = some .local := by first | exact .inl rfl | exact .inr rfl | assumption) : wpAny M A (storeName X.env x u) Q E s := by
 obtain ⟨m, hn, hl⟩ := id I.loc
 have hcls : (X.env.scope.kind == .class || (X.env.scope.kind == .module && X.env.locals != X.env.globals)) = false := by rw [I.ok.kind]; rfl
 have hiσ : i < σ.length := by rw [I.len]; exact (List.getElem?_eq_some_iff.mp hi).1
 have cne := I.cne
 have tracked : ∀ {a : Addr} {h' : Heap}, (∃ o, s.heap.get? a = some o /\ H a = none) -> Heap.SameBut a s.heap h' -> HOk X.prog X.w H h' := fun {a h'} ha hs b ob e => by
  obtain ⟨_, _, hfree⟩ := ha
  refine (I.hok b ob e).stay (fun c w' hc q => (hs.2 c ?_).trans q) (fun _ q => q) fun _ _ q => q
  rintro rfl
  rcases hc with rfl | hc
  ·rw [hfree] at e; cases e
  ·rw [hfree] at hc; cases hc
 rcases hx with hk | hk
 ·refine wpAny_storeName_local hk hn (fun h' hn' hs => ?_) hcls
  obtain ⟨oL, _, _, hoL, _⟩ := id hn
  refine h _ ⟨I.ok, I.os, I.bare, ⟨fun b o e n hb hx => ?_, fun b o e n hb hx => ?_, I.base.free, fun b o e hx => ?_, I.base.tups, I.base.frzs, fun b xs o q e hx => (hs.2 b (Nat.ne_of_lt (Nat.lt_of_lt_of_le (Heap.lt_size e) I.ok.above))).trans (I.base.tupo b xs o q e hx), I.base.tbls⟩, ⟨_, hn', fun j y v' e1 e2 e3 => ?_⟩, fun y c e => ?_, I.free, I.freeC, fun p hp => ?_, tracked ⟨oL, hoL, I.free⟩ hs, by simpa using I.len⟩ ⟨_, hs, .inl rfl⟩
  ·exact (hs.2 b (Nat.ne_of_lt (Nat.lt_of_lt_of_le (Heap.lt_size e) I.ok.above))).trans (I.base.keep b o e n hb hx)
  ·obtain ⟨sl, e1⟩ := I.base.slot b o e n hb hx
   exact ⟨sl, (hs.2 b (Nat.ne_of_lt (Nat.lt_of_lt_of_le (Heap.lt_size e) I.ok.above))).trans e1⟩
  ·obtain ⟨o', e1⟩ := I.base.there b o e hx
   exact ⟨o', (hs.2 b (Nat.ne_of_lt (Nat.lt_of_lt_of_le (Heap.lt_size e) I.ok.above))).trans e1⟩
  ·by_cases hj : j = i
   ·subst hj
    rw [hi] at e1; cases e1
    rw [List.getElem?_set_self hiσ] at e2
    cases e2
    exact ⟨u, r, .inl ⟨hk, by simp⟩⟩
   ·rw [List.getElem?_set_ne (Ne.symm hj)] at e2
    obtain ⟨u', r', q⟩ := hl j y v' e1 e2 e3
    refine ⟨u', r', ?_⟩
    rcases q with ⟨k, e⟩ | ⟨k, c, e, z⟩
    ·refine .inl ⟨k, ?_⟩
     have : y ≠ x := fun e => hj (Zjs hN e1 (e ▸ hi))
     simp [this, e]
    ·exact .inr ⟨k, c, e, z.sameBut hs (cne y c e)⟩
  ·obtain ⟨w', z⟩ := I.cell y c e
   exact ⟨w', z.sameBut hs (cne y c e)⟩
  ·obtain ⟨e, n, ne, nf, d⟩ := I.pin p hp
   exact ⟨(hs.2 p.1 ne).trans e, n, ne, nf, d⟩
 ·have hfn : X.fn x = true := by
   rcases hf with z | z
   ·exact z
   ·rw [z] at hk; cases hk
  obtain ⟨c, hc⟩ := I.ok.has x (.inl hk)
  obtain ⟨w', z⟩ := I.cell x c hc
  refine wpAny_storeName_cell I.ok.kind hk hc z (fun h' hc' hs => ?_)
  obtain ⟨oc, hoc, hocd⟩ := id z
  refine h { s with heap := h' } ⟨I.ok, I.os, I.bare, ⟨fun b o e n hb hx => ?_, fun b o e n hb hx => ?_, I.base.free, fun b o e hx => ?_, I.base.tups, I.base.frzs, fun b xs o q e hx => (hs.2 b (Nat.ne_of_lt (Nat.lt_of_lt_of_le (Heap.lt_size e) (I.ok.cab x c hfn hc)))).trans (I.base.tupo b xs o q e hx), I.base.tbls⟩, ⟨m, hn.sameBut hs (Ne.symm (cne x c hc)), fun j y v' e1 e2 e3 => ?_⟩, fun y c' e => ?_, I.free, I.freeC, fun p hp => ?_, tracked ⟨oc, hoc, I.freeC x c hc⟩ hs, by simpa using I.len⟩ ⟨c, hs, .inr hc⟩
  ·exact (hs.2 b (Nat.ne_of_lt (Nat.lt_of_lt_of_le (Heap.lt_size e) (I.ok.cab x c hfn hc)))).trans (I.base.keep b o e n hb hx)
  ·obtain ⟨sl, e1⟩ := I.base.slot b o e n hb hx
   exact ⟨sl, (hs.2 b (Nat.ne_of_lt (Nat.lt_of_lt_of_le (Heap.lt_size e) (I.ok.cab x c hfn hc)))).trans e1⟩
  ·obtain ⟨o', e1⟩ := I.base.there b o e hx
   exact ⟨o', (hs.2 b (Nat.ne_of_lt (Nat.lt_of_lt_of_le (Heap.lt_size e) (I.ok.cab x c hfn hc)))).trans e1⟩
  ·by_cases hj : j = i
   ·subst hj
    rw [hi] at e1; cases e1
    rw [List.getElem?_set_self hiσ] at e2
    cases e2
    exact ⟨u, r, .inr ⟨.inl hk, c, hc, hc'⟩⟩
   ·rw [List.getElem?_set_ne (Ne.symm hj)] at e2
    obtain ⟨u', r', q⟩ := hl j y v' e1 e2 e3
    refine ⟨u', r', ?_⟩
    rcases q with q | ⟨k, c', e, z'⟩
    ·exact .inl q
    ·refine .inr ⟨k, c', e, z'.sameBut hs ?_⟩
     rintro rfl
     exact hj (Zjs hN e1 (I.ok.inj _ _ _ e hc ▸ hi))
  ·by_cases hcc : c' = c
   ·subst hcc; exact ⟨_, hc'⟩
   ·obtain ⟨w2, z2⟩ := I.cell y c' e
    exact ⟨w2, z2.sameBut hs hcc⟩
  ·obtain ⟨e, n, ne, nf, d⟩ := I.pin p hp
   refine ⟨(hs.2 p.1 ?_).trans e, n, ne, nf, d⟩
   intro q
   rw [q, hoc] at e
   have q' : oc = p.2 := Option.some.inj e
   exact d w' (by rw [<- q']; exact hocd)
theorem Zex {M : Model} {A : Around} {E : Value -> Shared -> Prop} {i : Nat} {x : Str} {v : V} {u : Value} {Q : Unit -> Shared -> Prop} (I : Inv X pins σ H s) (hN : X.N.Nodup) (hi : X.N[i]? = some x) (hx : Loc X.env.scope x) (r : Zbg v u)
 (h : ∀ s', Inv X pins (σ.set i (some v)) H s' -> Q () s') (hf : X.fn x = true \/ X.env.scope.names.lookup x = some .local := by first | exact .inl rfl | exact .inr rfl | assumption) : wpAny M A (storeName X.env x u) Q E s :=
 Zh2 I hN hi hx r (fun s' I' _ => h s' I') hf
theorem Inv.call' {s' : Shared} {ch : List Addr} (I : Inv X pins σ H s) (ho : s'.os = s.os) (u : Un (frs X.stack) ch H H' s.heap s'.heap) (hok : HOk X.prog X.w H' s'.heap) (hg : AllBare s'.gens)
 (hch : ∀ b ∈ ch, (b ∈ X.ex \/ X.s₀.heap.objs.size <= b) /\ b ≠ X.env.locals /\ (∀ x c, X.env.cells.lookup x = some c -> c ≠ b) /\ ∀ p ∈ X.pn ++ pins, p.1 ≠ b) : Inv X pins σ H' s' := by
 obtain ⟨h', g', d', t', o'⟩ := s'
 have e : o' = s.os := ho
 subst e
 exact I.call (g' := g') (t' := t') (d' := d') u hok hg hch
end
abbrev XK := Value -> Option Addr -> Hp -> Prop
abbrev St := List (Option V)
abbrev VK := V -> Hp -> Prop
abbrev TE := St -> Hp -> VK -> Prop
abbrev TT := St -> Hp -> (Bool -> Hp -> Prop) -> Prop
abbrev TA := St -> Hp -> (List V -> Hp -> Prop) -> Prop
structure Ends where
 nx : St -> Hp -> Prop
 rt : VK
 bk : St -> Hp -> Prop := fun _ _ => False
 ct : St -> Hp -> Prop := fun _ _ => False
abbrev TS := Ends -> St -> Hp -> Prop
def EP (X : Cx) (pins : List (Addr × Obj)) (σ : St) (Q : VK) (u : Value) (s' : Shared) : Prop := ∃ v H', Inv X pins σ H' s' /\ Zbg v u /\ Q v H'
def TP (X : Cx) (pins : List (Addr × Obj)) (σ : St) (Q : Bool -> Hp -> Prop) (b : Bool) (s' : Shared) : Prop := ∃ H', Inv X pins σ H' s' /\ Q b H'
def AP (X : Cx) (pins : List (Addr × Obj)) (σ : St) (Q : List V -> Hp -> Prop) (us : List Value) (s' : Shared) : Prop := ∃ vs H', Inv X pins σ H' s' /\ Zcj vs us /\ Q vs H'
def SP (X : Cx) (pins : List (Addr × Obj)) (D : Ends) (f : Flow) (s' : Shared) : Prop :=
 match f with
 | .next => ∃ σ' H', Inv X pins σ' H' s' /\ D.nx σ' H'
 | .brk => ∃ σ' H', Inv X pins σ' H' s' /\ D.bk σ' H'
 | .cont => ∃ σ' H', Inv X pins σ' H' s' /\ D.ct σ' H'
 | .ret u => ∃ v σ' H', Inv X pins σ' H' s' /\ Zbg v u /\ D.rt v H'
def PE (X : Cx) (e : Expr) (t : TE) : Prop :=
 ∀ (pins : List (Addr × Obj)) (s : Shared) (σ : St) (H : Hp) (Q : VK), Inv X pins σ H s -> t σ H Q -> wpAny (model X.prog X.w) X.A (eval e X.env) (EP X pins σ Q) X.xe s
def PT (X : Cx) (e : Expr) (t : TT) : Prop :=
 ∀ (pins : List (Addr × Obj)) (s : Shared) (σ : St) (H : Hp) (Q : Bool -> Hp -> Prop), Inv X pins σ H s -> t σ H Q -> wpAny (model X.prog X.w) X.A (isTrue e X.env (eval e X.env)) (TP X pins σ Q) X.xe s
def PW (X : Cx) (e : Expr) (t : TT) : Prop :=
 ∀ (whole : Sem Value) (pins : List (Addr × Obj)) (s : Shared) (σ : St) (H : Hp) (Q : Bool -> Hp -> Prop), Inv X pins σ H s -> t σ H Q -> wpAny (model X.prog X.w) X.A (isTrue e X.env whole) (TP X pins σ Q) X.xe s
theorem PW.pt {X : Cx} {e : Expr} {t : TT} (h : PW X e t) : PT X e t := h _
def PA (X : Cx) (es : List Expr) (t : TA) : Prop :=
 ∀ (pos : Pos) (pins : List (Addr × Obj)) (s : Shared) (σ : St) (H : Hp) (Q : List V -> Hp -> Prop), Inv X pins σ H s -> t σ H Q -> wpAny (model X.prog X.w) X.A (spliced (backTo pos (starEach es X.env))) (AP X pins σ Q) X.xe s
def PS (X : Cx) (st : Stmt) (t : TS) : Prop :=
 ∀ (pins : List (Addr × Obj)) (s : Shared) (σ : St) (H : Hp) (D : Ends), Inv X pins σ H s -> t D σ H -> wpAny (model X.prog X.w) X.A (exec st X.env) (SP X pins D) X.xe s
def PSs (X : Cx) (st : List Stmt) (t : TS) : Prop :=
 ∀ (pins : List (Addr × Obj)) (s : Shared) (σ : St) (H : Hp) (D : Ends), Inv X pins σ H s -> t D σ H -> wpAny (model X.prog X.w) X.A (execs st X.env) (SP X pins D) X.xe s
theorem thn {α : Type} {t : Sem α} {Q Q' : α -> Shared -> Prop} {M : Model} {A : Around} {E : Value -> Shared -> Prop} {s : Shared} (h : wpAny M A t Q E s) (hQ : ∀ a s, Q a s -> Q' a s) : wpAny M A t Q' E s := wpAny_mono h hQ fun _ _ x => x
end L2
namespace L2
open PySem PySem.Spec PyProof.Rows
section
variable {X : Cx}
def ZcP (i : Nat) : TE := fun σ H Q => ∃ v, σ[i]? = some (some v) /\ Q v H
def tC (v : V) : TE := fun _ H Q => Q v H
theorem Zqi {i : Nat} {x : Str} {pos : Pos} (hN : X.N[i]? = some x) (hv : Vis X.env.scope x) (hd : (x == ("__debug__" : Str)) = false := by decide) (hcd : (x == ("__classdict__" : Str)) = false := by decide) : PE X (.Name x pos) (ZcP i) := by
 intro pins s σ H Q I h
 obtain ⟨v, e, h⟩ := h
 obtain ⟨m, hn, hl⟩ := I.loc
 obtain ⟨u, r, l⟩ := hl i x v hN e hv
 have fin : EP X pins σ Q u s := ⟨v, H, I, r, h⟩
 rcases l with ⟨hk, hm⟩ | ⟨hk, c, hc, hcell⟩
 ·exact wpAny_Name (wpAny_loadName_local I.ok.kind hk hn hm fin) hd
 ·rcases hk with hk | hk
  ·exact wpAny_Name (wpAny_loadName_cell I.ok.kind hk hc hcell fin) hd
  ·exact wpAny_Name (wpAny_loadName_free I.ok.kind hk hc hcell fin hcd) hd
theorem Zai {i j pos} : PE X (.Constant (.int i) j pos) (tC (.int i)) := fun _ _ _ H _ I h => wpAny_Constant_int ⟨.int i, H, I.tok _, ⟨_, rfl⟩, h⟩
theorem Zmz {b j pos} : PE X (.Constant (.bool b) j pos) (tC (.bl b)) := fun _ _ _ H _ I h => Constant_bool ⟨.bl b, H, I, rfl, h⟩
theorem Zjb {j pos} : PE X (.Constant .none j pos) (tC .non) := fun _ _ _ H _ I h => Constant_none ⟨.non, H, I, rfl, h⟩
theorem ZnY {x j pos} : PE X (.Constant (.str x) j pos) (tC (.str x)) := fun _ _ _ H _ I h => Calls.Constant_str ⟨.str x, H, I.tok _, ⟨_, rfl⟩, h⟩
def Gl (X : Cx) (x : Str) : Prop := X.env.kindOf x = some .globalImplicit
theorem Zit {E : Value -> Shared -> Prop} {pins : List (Addr × Obj)} {s : Shared} {σ : St} {H : Hp} {x : Str} {u : Value} {pos : Pos} {Q : Value -> Shared -> Prop} (I : Inv X pins σ H s) (hg : Gl X x) (hm : X.mg x = some u) (h : Q u s)
 (hd : (x == ("__debug__" : Str)) = false := by decide) : wpAny (model X.prog X.w) X.A (eval (.Name x pos) X.env) Q E s :=
 Calls.Name_function_global I.ok.kind hg (Calls.loadGlobal_global (by rw [I.ok.glob]; exact I.mod.glob.keeps I.bk) hm h) hd
theorem Zfn {E : Value -> Shared -> Prop} {pins : List (Addr × Obj)} {s : Shared} {σ : St} {H : Hp} {x : Str} {u : Value} {pos : Pos} {Q : Value -> Shared -> Prop} (I : Inv X pins σ H s) (hg : Gl X x) (hm : X.mg x = none) (hv : bootBuiltins x = some u) (h : Q u s)
 (hn : x ≠ "__name__" := by decide) (hd : (x == ("__debug__" : Str)) = false := by decide) : wpAny (model X.prog X.w) X.A (eval (.Name x pos) X.env) Q E s := by
 obtain ⟨mb, h1, h2⟩ := I.mod.blt
 exact Calls.Name_function_global I.ok.kind hg (Calls.loadGlobal_builtin (by rw [I.ok.glob]; exact I.mod.glob.keeps I.bk) hm (by rw [I.ok.blt]; exact h1.keeps I.bk) ((h2 x hn).trans hv) h) hd
theorem Zfs {x : Str} {v : V} {u : Value} {pos : Pos} (hg : Gl X x) (hm : X.mg x = some u) (r : Zbg v u) (hd : (x == ("__debug__" : Str)) = false := by decide) : PE X (.Name x pos) (tC v) :=
 fun _ _ _ H _ I h => Zit I hg hm ⟨v, H, I, r, h⟩ hd
variable {a b : Expr} {ta tb : TE} {pos : Pos}
def PC (X : Cx) (op : CmpOp) (a b : Expr) (t : TE) : Prop :=
 ∀ (pins : List (Addr × Obj)) (s : Shared) (σ : St) (H : Hp) (Q : VK), Inv X pins σ H s -> t σ H Q ->
  wpAny (model X.prog X.w) X.A (eval a X.env) (fun v s₁ => wpAny (model X.prog X.w) X.A (eval b X.env) (fun u s₂ => wpAny (model X.prog X.w) X.A (compareOp op v u) (EP X pins σ Q) X.xe s₂) X.xe s₁) X.xe s
theorem Zm8 (b : Expr) {op : CmpOp} (h : op ≠ .In) (h2 : op ≠ .NotIn) : behindInMarks op b = false := by
 have e1 : (op == CmpOp.In) = false := by cases op <;> first | rfl | exact absurd rfl h
 have e2 : (op == CmpOp.NotIn) = false := by cases op <;> first | rfl | exact absurd rfl h2
 cases b <;> simp [behindInMarks, e1, e2]
def Zqg (ta : TE) : TE := fun σ H Q => ta σ H fun x H1 => Q (.bl (!decide (x = .non))) H1
theorem Zbg.none_iff {x : V} {v : Value} (r : Zbg x v) : (v == Value.none) = decide (x = .non) := by
 cases x with
 | non => cases r; rfl
 | bl _ => cases r; rfl
 | int _ => obtain ⟨t, rfl⟩ := r; rfl
 | str _ => obtain ⟨t, rfl⟩ := r; rfl
 | byt _ => obtain ⟨t, rfl⟩ := r; rfl
 | flt _ => obtain ⟨t, rfl⟩ := r; rfl
 | ref _ => cases r; rfl
 | ty _ => cases r; rfl
theorem ZpG {j pos'} (ha : PE X a ta) : PC X .IsNot a (.Constant .none j pos') (Zqg ta) := by
 intro pins s σ H Q I h
 refine thn (ha pins s σ H _ I h) fun v s1 ⟨x, H1, I1, r1, q1⟩ => ?_
 exact Constant_none (isnot_none_gen ⟨.bl _, H1, I1, by rw [r1.none_iff]; rfl, q1⟩)
def tB (t : TE) : TT := fun σ H Q => t σ H fun x H1 => ∃ c, x = .bl c /\ Q c H1
theorem ZjJ {op : CmpOp} {t : TE} (h : PC X op a b t) (h1 : behindInMarks op b = false := by first | exact Zm8 _ (by decide) (by decide) | rfl) : PT X (.Compare a [op] [b] pos) (tB t) := by
 intro pins s σ H Q I hw
 refine wpAny_isTrue_Compare1 (thn (h pins s σ H _ I hw) fun v s1 h1 => thn h1 fun u s2 h2 => thn h2 fun c s3 ⟨x, H1, I1, r1, q1⟩ => ?_) h1
 obtain ⟨d, rfl, q⟩ := q1
 cases r1
 exact wpAny_truthy_bool ⟨H1, I1, q⟩
theorem Zlh {e : Expr} {t : TE} (h : PE X e t) (he : ∀ whole, isTrue e X.env whole = (do let v <- whole; standAt e.pos; holding [v] (truthy v)) := by intro _; rfl) : PT X e (tB t) := by
 intro pins s σ H Q I hw
 refine isTrue_plain (thn (h pins s σ H _ I hw) fun v s1 ⟨x, H1, I1, r1, q1⟩ => ?_) (he _)
 obtain ⟨d, rfl, q⟩ := q1
 cases r1
 exact wpAny_truthy_bool ⟨H1, I1, q⟩
variable {tA tB' : TT} {rest : List Expr}
def ZrQ (t u : TT) : TT := fun σ H Q => t σ H fun c H1 => if c = true then u σ H1 Q else Q false H1
def tOr (t u : TT) : TT := fun σ H Q => t σ H fun c H1 => if c = true then Q true H1 else u σ H1 Q
def ZrY (t : TT) : TT := fun σ H Q => t σ H fun c H1 => Q (!c) H1
theorem ZlR (ha : PT X a tA) : PW X (.BoolOp .And [a] pos) tA := by
 intro wh pins s σ H Q I h
 refine isTrue_and (thn (ha pins s σ H Q I h) fun c s1 e => ?_)
 cases c with
 | true => exact isTrue_and_nil e
 | false => exact e
theorem ZqB (ha : PT X a tA) : PW X (.BoolOp .Or [a] pos) tA := by
 intro wh pins s σ H Q I h
 refine isTrue_or (thn (ha pins s σ H Q I h) fun c s1 e => ?_)
 cases c with
 | false => exact isTrue_or_nil e
 | true => exact e
theorem ZnJ (ha : PT X a tA) (hb : PW X (.BoolOp .And (b :: rest) pos) tB') : PW X (.BoolOp .And (a :: b :: rest) pos) (ZrQ tA tB') := by
 intro wh pins s σ H Q I h
 refine isTrue_and (thn (ha pins s σ H _ I h) fun c s1 ⟨H1, I1, q1⟩ => ?_)
 cases c with
 | true => exact hb wh pins s1 σ H1 Q I1 q1
 | false => exact ⟨H1, I1, q1⟩
theorem ZrJ (ha : PT X a tA) (hb : PW X (.BoolOp .Or (b :: rest) pos) tB') : PW X (.BoolOp .Or (a :: b :: rest) pos) (tOr tA tB') := by
 intro wh pins s σ H Q I h
 refine isTrue_or (thn (ha pins s σ H _ I h) fun c s1 ⟨H1, I1, q1⟩ => ?_)
 cases c with
 | true => exact ⟨H1, I1, q1⟩
 | false => exact hb wh pins s1 σ H1 Q I1 q1
theorem Zq3 (ha : PT X a tA) : PT X (.UnaryOp .Not a pos) (ZrY tA) := by
 intro pins s σ H Q I h
 exact isTrue_not (ha pins s σ H (fun c H1 => Q (!c) H1) I h)
end
end L2
namespace L2
open PySem PySem.Spec PyProof.Rows
def SqL (K : W.Frag) (H : Hp) (a : Addr) (xs : List V) : Prop :=
 Rd H a (.lst xs) \/
  ∃ (o : Obj) (its : Array Value) (n : Nat), K.lookup a = some o /\ o.cls = .type "list" /\ o.dict = none /\ o.data = .seq its n /\ its.size <= sizeLine /\ Zcj xs its.toList
def SqT (K : W.Frag) (H : Hp) (a : Addr) (xs : List V) : Prop :=
 Rd H a (.tup xs) \/
  ∃ (o : Obj) (its : Array Value) (n : Nat), K.lookup a = some o /\ o.cls = .type "tuple" /\ o.data = .seq its n /\ its.size <= sizeLine /\ Zcj xs its.toList
def Zsv : Value -> Option V
 | .none => some .non
 | .bool b => some (.bl b)
 | .int i _ => some (.int i)
 | .str x _ => some (.str x)
 | .bytes b _ => some (.byt b)
 | .float b _ => some (.flt b)
 | .ref a => some (.ref a)
 | .type n => some (.ty n)
 | _ => none
theorem Zbg.abs {x : V} {u : Value} (r : Zbg x u) : Zsv u = some x := by
 cases x with
 | non => cases r; rfl
 | bl _ => cases r; rfl
 | int _ => obtain ⟨t, rfl⟩ := r; rfl
 | str _ => obtain ⟨t, rfl⟩ := r; rfl
 | byt _ => obtain ⟨t, rfl⟩ := r; rfl
 | flt _ => obtain ⟨t, rfl⟩ := r; rfl
 | ref _ => cases r; rfl
 | ty _ => cases r; rfl
theorem Zbg.inj {x y : V} {u : Value} (r : Zbg x u) (q : Zbg y u) : x = y := Option.some.inj (r.abs.symm.trans q.abs)
theorem Zcj.inj : ∀ {xs ys : List V} {us : List Value}, Zcj xs us -> Zcj ys us -> xs = ys
 | _, _, _, .nil, .nil => rfl
 | _, _, _, .cons r t, .cons r' t' => by rw [r.inj r', Zcj.inj t t']
section
variable {X : Cx} {pins : List (Addr × Obj)} {σ : St} {H : Hp} {s : Shared} {a : Addr} {xs ys : List V}
theorem SqL.of {K : W.Frag} (h : H a = some (.lst xs)) : SqL K H a xs := .inl (.inl h)
theorem SqT.of {K : W.Frag} (h : H a = some (.tup xs)) : SqT K H a xs := .inl (.inl h)
theorem Inv.list (I : Inv X pins σ H s) (h : SqL X.K H a xs) : ∃ its : List Value, Zcj xs its /\ PlainL s.heap a its.toArray /\ xs.length <= sizeLine := by
 rcases h with h | ⟨o, its, n, hk, hc, hd, hs, hz, r⟩
 ·obtain ⟨z, its, n, r, e⟩ := h.ok I.hok
  exact ⟨its, r, ⟨_, n, e, rfl, rfl, rfl⟩, z⟩
 ·refine ⟨its.toList, r, ⟨o, n, I.kIn a o hk, hc, hd, by simpa using hs⟩, ?_⟩
  have e := r.length
  simp only [Array.length_toList] at e
  omega
theorem Inv.tuple (I : Inv X pins σ H s) (h : SqT X.K H a xs) : ∃ its : List Value, Zcj xs its /\ IsTup s.heap a its.toArray /\ xs.length <= sizeLine := by
 rcases h with h | ⟨o, its, n, hk, hc, hs, hz, r⟩
 ·obtain ⟨z, its, r, p⟩ := h.ok I.hok
  exact ⟨its, r, p, z⟩
 ·refine ⟨its.toList, r, ⟨o, I.kIn a o hk, hc, n, by simpa using hs⟩, ?_⟩
  have e := r.length
  simp only [Array.length_toList] at e
  omega
theorem Inv.list_inj (I : Inv X pins σ H s) (h : SqL X.K H a xs) (h' : SqL X.K H a ys) : xs = ys := by
 obtain ⟨its, r, ⟨o, n, e, _, _, d⟩, _⟩ := I.list h
 obtain ⟨its', r', ⟨o', n', e', _, _, d'⟩, _⟩ := I.list h'
 rw [e] at e'; cases e'
 rw [d] at d'
 injection d' with d1 _
 have : its = its' := by simpa using congrArg Array.toList d1
 subst this
 exact r.inj r'
theorem Inv.tuple_inj (I : Inv X pins σ H s) (h : SqT X.K H a xs) (h' : SqT X.K H a ys) : xs = ys := by
 obtain ⟨its, r, ⟨o, e, _, n, d⟩, _⟩ := I.tuple h
 obtain ⟨its', r', ⟨o', e', _, n', d'⟩, _⟩ := I.tuple h'
 rw [e] at e'; cases e'
 rw [d] at d'
 injection d' with d1 _
 have : its = its' := by simpa using congrArg Array.toList d1
 subst this
 exact r.inj r'
end
abbrev Cx.wish (X : Cx) (E : Value -> Shared -> Prop) : Cx := { X with xe := E }
abbrev Cx.nox (X : Cx) : Cx := X.wish fun _ _ => False
theorem Cx.Ok.wish {X : Cx} (ok : X.Ok) (E : Value -> Shared -> Prop) : (X.wish E).Ok :=
 ⟨ok.mod, ok.kind, ok.glob, ok.blt, ok.above, ok.inj, ok.has, ok.cab, ok.hd, ok.frames, ok.stk, ok.exf, ok.bs, ok.bsz, ok.noex, ok.exfs, ok.funs, ok.frf⟩
theorem Cx.Ok.unwish {X : Cx} {E : Value -> Shared -> Prop} (ok : (X.wish E).Ok) : X.Ok :=
 ⟨ok.mod, ok.kind, ok.glob, ok.blt, ok.above, ok.inj, ok.has, ok.cab, ok.hd, ok.frames, ok.stk, ok.exf, ok.bs, ok.bsz, ok.noex, ok.exfs, ok.funs, ok.frf⟩
section
variable {X : Cx} {pins : List (Addr × Obj)} {σ : St} {H : Hp} {s : Shared} {E : Value -> Shared -> Prop}
theorem Inv.wish (I : Inv X pins σ H s) (E : Value -> Shared -> Prop) : Inv (X.wish E) pins σ H s := ⟨I.ok.wish E, I.os, I.bare, I.base, I.loc, I.cell, I.free, I.freeC, I.pin, I.hok, I.len⟩
theorem Inv.unwish (I : Inv (X.wish E) pins σ H s) : Inv X pins σ H s := ⟨I.ok.unwish, I.os, I.bare, I.base, I.loc, I.cell, I.free, I.freeC, I.pin, I.hok, I.len⟩
theorem SP.unwish {D : Ends} {f : Flow} {s' : Shared} (h : SP (X.wish E) pins D f s') : SP X pins D f s' := by
 cases f with
 | next => obtain ⟨σ', H', I, q⟩ := h; exact ⟨σ', H', I.unwish, q⟩
 | brk => obtain ⟨σ', H', I, q⟩ := h; exact ⟨σ', H', I.unwish, q⟩
 | cont => obtain ⟨σ', H', I, q⟩ := h; exact ⟨σ', H', I.unwish, q⟩
 | ret u => obtain ⟨v, σ', H', I, r, q⟩ := h; exact ⟨v, σ', H', I.unwish, r, q⟩
theorem PSs.nox {st : List Stmt} {t : TS} (h : PSs X.nox st t) : PSs X st t := fun pins s σ H D I hw =>
 wpAny_mono (h pins s σ H D (I.wish _) hw) (fun _ _ q => q.unwish) fun _ _ z => False.elim z
end
section
variable {X : Cx} {st : Stmt} {rest : List Stmt} {t u : TS} {e : Expr} {te : TE} {pos : Pos}
def ZqT : TS := fun D σ H => D.nx σ H
def ZrB (t u : TS) : TS := fun D σ H => t { D with nx := u D } σ H
theorem ZbZ : PSs X [] ZqT := fun _ _ σ H _ I h => wpAny_execs_nil ⟨σ, H, I, h⟩
theorem Zad (h1 : PS X st t) (h2 : PSs X rest u) : PSs X (st :: rest) (ZrB t u) := by
 intro pins s σ H D I h
 refine wpAny_execs_cons (thn (h1 pins s σ H { D with nx := u D } I h) fun f s1 q => ?_)
 cases f with
 | next =>
   obtain ⟨σ', H', I', q⟩ := q
   exact h2 pins s1 σ' H' D I' q
 | ret v => exact q
 | brk => exact q
 | cont => exact q
theorem Zah (h1 : PS X st t) : PSs X [st] t := by
 intro pins s σ H D I h
 refine wpAny_execs_cons (thn (h1 pins s σ H D I h) fun f s1 q => ?_)
 cases f with
 | next => exact wpAny_execs_nil q
 | ret v => exact q
 | brk => exact q
 | cont => exact q
theorem Inv.quiet {pins : List (Addr × Obj)} {σ : St} {H : Hp} {s : Shared} (I : Inv X pins σ H s) : interactive X.env = false := by simp [interactive, I.ok.kind]
def ZiO (te : TE) : TS := fun D σ H => te σ H fun _ H1 => D.nx σ H1
theorem Zbj (he : PE X e te) (hs : swapsWith e none pos.line X.env = pure false := by rfl) : PS X (.Expr e pos) (ZiO te) := by
 intro pins s σ H D I h
 exact wpAny_Expr_any (thn (he pins s σ H _ I h) fun v s1 ⟨x, H1, I1, r1, q1⟩ => ⟨σ, H1, I1, q1⟩) I.quiet hs
def ZpT (te : TE) : TS := fun D σ H => te σ H D.rt
theorem Zaw (he : PE X e te) : PS X (.Return (some e) pos) (ZpT te) := by
 intro pins s σ H D I h
 exact wpAny_Return_some (thn (he pins s σ H _ I h) fun v s1 ⟨x, H1, I1, r1, q1⟩ => ⟨x, σ, H1, I1, r1, q1⟩)
def Zst (c : TT) (t u : TS) : TS := fun D σ H => c σ H fun b H1 => if b = true then t D σ H1 else u D σ H1
theorem Zea {c : Expr} {a b : List Stmt} {tc : TT} (hc : PT X c tc) (ha : PSs X a t) (hb : PSs X b u) : PS X (.If c a b pos) (Zst tc t u) := by
 intro pins s σ H D I h
 refine wpAny_If (thn (hc pins s σ H _ I h) fun d s1 ⟨H1, I1, q1⟩ => ?_)
 cases d with
 | true => exact ha pins s1 σ H1 D I1 q1
 | false => exact hb pins s1 σ H1 D I1 q1
end
abbrev TG := V -> St -> Hp -> (St -> Hp -> Prop) -> Prop
abbrev TGs := List V -> St -> Hp -> (St -> Hp -> Prop) -> Prop
def PG (X : Cx) (target : Expr) (t : TG) : Prop :=
 ∀ (pins : List (Addr × Obj)) (s : Shared) (σ : St) (H : Hp) (v : V) (u : Value) (Q : St -> Hp -> Prop), Inv X pins σ H s -> Zbg v u -> t v σ H Q ->
  wpAny (model X.prog X.w) X.A (assign target X.env u) (fun _ s' => ∃ σ' H', Inv X pins σ' H' s' /\ Q σ' H') X.xe s
def PGs (X : Cx) (ts : List Expr) (t : TGs) : Prop :=
 ∀ (pins : List (Addr × Obj)) (s : Shared) (σ : St) (H : Hp) (vs : List V) (us : List Value) (Q : St -> Hp -> Prop), Inv X pins σ H s -> Zcj vs us -> t vs σ H Q ->
  wpAny (model X.prog X.w) X.A (assignInOrder ((assignEach ts X.env).map (·.2)) us) (fun _ s' => ∃ σ' H', Inv X pins σ' H' s' /\ Q σ' H') X.xe s
abbrev ZpX := V -> V -> V -> Hp -> (Hp -> Prop) -> Prop
def ZrH (X : Cx) (t : ZpX) : Prop :=
 ∀ (pins : List (Addr × Obj)) (s : Shared) (σ : St) (H : Hp) (o i v : V) (ov iv u : Value) (Q : Hp -> Prop), Inv X pins σ H s -> Zbg o ov -> Zbg i iv -> Zbg v u -> t o i v H Q ->
  wpAny (model X.prog X.w) X.A (setItem ov iv u) (fun _ s' => ∃ H', Inv X pins σ H' s' /\ Q H') X.xe s
abbrev TIp := V -> V -> Hp -> VK -> Prop
def PIp (X : Cx) (op : Operator) (t : TIp) : Prop :=
 ∀ (pins : List (Addr × Obj)) (s : Shared) (σ : St) (H : Hp) (x y : V) (v u : Value) (Q : VK), Inv X pins σ H s -> Zbg x v -> Zbg y u -> t x y H Q ->
  wpAny (model X.prog X.w) X.A (inplaceOp op v u) (EP X pins σ Q) X.xe s
section
variable {X : Cx} {pos : Pos}
def ZgA (i : Nat) : TG := fun v σ H Q => Q (σ.set i (some v)) H
theorem Zam {i : Nat} {x : Str} (hN : X.N.Nodup) (hi : X.N[i]? = some x) (hx : Loc X.env.scope x) (hf : X.fn x = true \/ X.env.scope.names.lookup x = some .local := by first | exact .inl rfl | exact .inr rfl | assumption) : PG X (.Name x pos) (ZgA i) := by
 intro pins s σ H v u Q I r h
 exact wpAny_assign_Name (Zex I hN hi hx r (fun s' I' => ⟨_, H, I', h⟩) hf)
def ZrO : TGs := fun vs σ H Q => vs = [] /\ Q σ H
def ZpK (t : TG) (u : TGs) : TGs := fun vs σ H Q => ∃ v r, vs = v :: r /\ t v σ H fun σ' H' => u r σ' H' Q
theorem Zdb : PGs X [] ZrO := by
 intro pins s σ H vs us Q I r h
 obtain ⟨e, h⟩ := h
 subst e
 cases r
 exact assignInOrder_nil ⟨σ, H, I, h⟩
theorem Za6 {e : Expr} {es : List Expr} {t : TG} {u : TGs} (h1 : PG X e t) (h2 : PGs X es u)
 (hs : (assignEach (e :: es) X.env).map (·.2) = assign e X.env :: (assignEach es X.env).map (·.2) := by rfl) : PGs X (e :: es) (ZpK t u) := by
 intro pins s σ H vs us Q I r h
 obtain ⟨v, vr, e1, h⟩ := h
 subst e1
 cases r with
 | cons r rr =>
   rw [hs]
   refine assignInOrder_cons (thn (h1 pins s σ H _ _ _ I r h) fun _ s1 ⟨σ1, H1, I1, q1⟩ => ?_)
   exact h2 pins s1 σ1 H1 _ _ Q I1 rr q1
def Zrx (K : W.Frag) (n : Nat) (t : TGs) : TG := fun v σ H Q => ∃ a xs, v = .ref a /\ SqT K H a xs /\ xs.length = n /\ t xs σ H Q
theorem ZdR {es : List Expr} {k : Nat} {t : TGs} {n : Nat} (hc : X.calm = true) (h : PGs X es t)
 (hn : (assignEach es X.env).length = n := by rfl) (hst : (assignEach es X.env).findIdx? (·.1) = none := by rfl) : PG X (.Tuple es k pos) (Zrx X.K n t) := by
 intro pins s σ H v u Q I r hw
 obtain ⟨a, xs, e1, hq, hl, hw⟩ := hw
 subst e1
 cases r
 obtain ⟨its, rv, ht, hz⟩ := I.tuple hq
 refine assign_Tuple_tuple (I.ok.hd hc) ht (by simp [hn, <- hl, rv.length]) hst fun h' hx => ?_
 have I1 : Inv X pins σ H { s with heap := h' } := I.kept (t' := s.toks) fun b o e => hx b o (Nat.ne_of_lt (Heap.lt_size e)) e
 exact h pins _ σ H xs _ Q I1 (by simpa using rv) hw
def Zsk (to ti : TE) (t : ZpX) : TG := fun v σ H Q => to σ H fun o H1 => ti σ H1 fun i H2 => t o i v H2 fun H3 => Q σ H3
theorem Zmw {o i : Expr} {to ti : TE} {t : ZpX} (ho : PE X o to) (hi : PE X i ti) (hs : ZrH X t)
 (ha : ∀ v, assign (.Subscript o i pos) X.env v = (do
  let ov <- holding [v] (eval o X.env)
  let iv <- holding [v, ov] (eval i X.env)
  standAt pos
  holding [v, ov, iv] (setItem ov iv v)
  release [v, ov, iv] []) := by intro _; rfl) : PG X (.Subscript o i pos) (Zsk to ti t) := by
 intro pins s σ H v u Q I r h
 rw [ha]
 refine wpAny_bind (wpAny_holding (thn (ho pins s σ H _ I h) fun ov s1 ⟨x, H1, I1, r1, q1⟩ => ?_))
 refine wpAny_bind (wpAny_holding (thn (hi pins s1 σ H1 _ I1 q1) fun iv s2 ⟨y, H2, I2, r2, q2⟩ => ?_))
 refine wpAny_bind (wpAny_standAt (wpAny_bind (wpAny_holding (thn (hs pins s2 σ H2 x y v ov iv u _ I2 r1 r2 r q2) fun _ s3 ⟨H3, I3, q3⟩ => ?_))))
 exact wpAny_release ⟨σ, H3, I3, q3⟩
def Znc (te : TE) (g : TG) : TS := fun D σ H => te σ H fun x H1 => g x σ H1 D.nx
theorem ZeT {tg e : Expr} {te : TE} {g : TG} (he : PE X e te) (hg : PG X tg g) (hs : swapsWithSole [tg] e pos.line X.env = pure false := by rfl) (hw : swappedStores [tg] e X.env = pure none := by rfl)
 (h1 : (assignEach [tg] X.env).map (·.2) = [assign tg X.env] := by rfl) : PS X (.Assign [tg] e pos) (Znc te g) := by
 intro pins s σ H D I h
 refine wpAny_Assign_stores (thn (he pins s σ H _ I h) fun v s1 ⟨x, H1, I1, r1, q1⟩ => ?_) hs hw
 rw [h1]
 exact thn (hg pins s1 σ H1 x v _ I1 r1 q1) fun _ s2 q => q
theorem Zaq {i : Nat} {x : Str} {e : Expr} {te : TE} {pos' : Pos} (hN : X.N.Nodup) (hi : X.N[i]? = some x) (hx : Loc X.env.scope x) (he : PE X e te) (hs : swapsWith e (some (.Name x pos')) pos.line X.env = pure false := by rfl) (hf : X.fn x = true \/ X.env.scope.names.lookup x = some .local := by first | exact .inl rfl | exact .inr rfl | assumption) :
 PS X (.Assign [.Name x pos'] e pos) (Znc te (ZgA i)) := by
 intro pins s σ H D I h
 refine wpAny_Assign_Name (thn (he pins s σ H _ I h) fun v s1 ⟨y, H1, I1, r1, q1⟩ => ?_) hs
 exact Zex I1 hN hi hx r1 (fun s2 I2 => ⟨_, H1, I2, q1⟩) hf
def ZrT (i j : Nat) (ta : TA) : TS := fun D σ H => ta σ H fun vs H1 => ∃ v w, vs = [v, w] /\ D.nx ((σ.set i (some v)).set j (some w)) H1
theorem Zrd {i j : Nat} {x y : Str} {a b : Expr} {ta : TA} {px py pt : Pos} {kt k2 pt2} (hc : X.calm = true) (hN : X.N.Nodup) (hi : X.N[i]? = some x) (hj : X.N[j]? = some y) (hij : i ≠ j)
 (hx : X.env.scope.names.lookup x = some .local) (hy : X.env.scope.names.lookup y = some .local) (ha : PA X [a, b] ta)
 (hw : swappedStores [.Tuple [.Name x px, .Name y py] kt pt] (.Tuple [a, b] k2 pt2) X.env = pure (some [x, y]))
 (hs : swapsWithSole [.Tuple [.Name x px, .Name y py] kt pt] (.Tuple [a, b] k2 pt2) pos.line X.env = pure false := by rfl) :
 PS X (.Assign [.Tuple [.Name x px, .Name y py] kt pt] (.Tuple [a, b] k2 pt2) pos) (ZrT i j ta) := by
 intro pins s σ H D I h
 rw [exec_Assign_arm]
 refine wpAny_bind (wpAny_standAt ?_)
 rw [hs]
 refine wpAny_bind (wpAny_pure ?_)
 rw [if_neg (by decide)]
 refine wpAny_bind (Tuple_ (thn (ha _ pins s σ H _ I h) fun us s1 ⟨vs, H1, I1, r1, q1⟩ => ?_))
 obtain ⟨v, w, e1, q1⟩ := q1
 subst e1
 obtain ⟨u1, u2, rfl, rv, rw'⟩ : ∃ u1 u2, us = [u1, u2] /\ Zbg v u1 /\ Zbg w u2 := by
  cases r1 with
  | cons p q =>
    cases q with
    | cons p' q' =>
      cases q'
      exact ⟨_, _, rfl, p, p'⟩
 refine wpAny_newObj_type ?_ (by show 2 <= sizeLine; decide)
 have I2 : Inv X pins σ H1 { s1 with heap := s1.heap.push { cls := .type "tuple", data := .seq [u1, u2].toArray } } := I1.kept (t' := s1.toks) fun b o e => Heap.get?_push_of_some _ e
 rw [hw]
 refine wpAny_bind (wpAny_pure ?_)
 show wpAny (model X.prog X.w) X.A (do rule "assign.swapped-stores"; let items <- unpackItems (.ref s1.heap.objs.size) 2 none; assignInOrder [fun v => bindName X.env y v, fun v => bindName X.env x v] items.reverse; pure Flow.next) _ _ _
 refine wpAny_bind (wpAny_rule (wpAny_bind (unpackItems_tuple (items := #[u1, u2]) (I.ok.hd hc) (IsTup.new s1.heap _) fun h' hx' => ?_)))
 have I3 := I2.kept (h' := h') (t' := s1.toks) fun b o e => hx' b o (Nat.ne_of_lt (Heap.lt_size e)) e
 show wpAny _ _ (assignInOrder [fun v => bindName X.env y v, fun v => bindName X.env x v] [u2, u1] >>= fun _ => pure Flow.next) _ _ _
 refine wpAny_bind (assignInOrder_cons (wpAny_bindName (Zex I3 hN hj (.inl hy) rw' (fun s2 I4 => ?_) (.inr hy))))
 refine assignInOrder_cons (wpAny_bindName (Zex I4 hN hi (.inl hx) rv (fun s3 I5 => assignInOrder_nil (wpAny_pure ?_)) (.inr hx)))
 rw [List.set_comm _ _ (Ne.symm hij)] at I5
 exact ⟨_, H1, I5, q1⟩
def Zsm (i : Nat) (te : TE) (ti : TIp) : TS := fun D σ H => ∃ x, σ[i]? = some (some x) /\ te σ H fun y H1 => ti x y H1 fun z H2 => D.nx (σ.set i (some z)) H2
theorem Zq4 {i : Nat} {x : Str} {e : Expr} {te : TE} {op : Operator} {ti : TIp} {pos' : Pos} (hN : X.N.Nodup) (hi : X.N[i]? = some x) (hx : Loc X.env.scope x) (he : PE X e te) (ho : PIp X op ti) (hf : X.fn x = true \/ X.env.scope.names.lookup x = some .local := by first | exact .inl rfl | exact .inr rfl | assumption) :
 PS X (.AugAssign (.Name x pos') op e pos) (Zsm i te ti) := by
 intro pins s σ H D I h
 obtain ⟨v, e1, h⟩ := h
 obtain ⟨m, hn, hl⟩ := I.loc
 have vis : Vis X.env.scope x := by rcases hx with k | k; exact .inl k; exact .inr (.inl k)
 obtain ⟨u, r, l⟩ := hl i x v hi e1 vis
 refine wpAny_AugAssign_Name ?_
 have go : wpAny (model X.prog X.w) X.A (eval e X.env) (fun w s₂ => wpAny (model X.prog X.w) X.A (inplaceOp op u w) (fun r s₃ => wpAny (model X.prog X.w) X.A (storeName X.env x r) (fun _ => SP X pins D .next) X.xe s₃) X.xe s₂) X.xe s := by
  refine thn (he pins s σ H _ I h) fun w s1 ⟨y, H1, I1, r1, q1⟩ => ?_
  refine thn (ho pins s1 σ H1 v y u w _ I1 r r1 q1) fun z s2 ⟨zv, H2, I2, r2, q2⟩ => ?_
  exact Zex I2 hN hi hx r2 (fun s3 I3 => ⟨_, H2, I3, q2⟩) hf
 rcases l with ⟨hk, hm⟩ | ⟨hk, c, hc, hcell⟩
 ·exact wpAny_loadName_local I.ok.kind hk hn hm go
 ·rcases hk with hk | hk
  ·exact wpAny_loadName_cell I.ok.kind hk hc hcell go
  ·rcases hx with k | k
   ·have : X.env.scope.names.lookup x = some .free := hk
    rw [k] at this; cases this
   ·have : X.env.scope.names.lookup x = some .free := hk
    rw [k] at this; cases this
def Zpr (to ti te : TE) (tget : V -> V -> Hp -> VK -> Prop) (tip : TIp) (tset : ZpX) : TS := fun D σ H => to σ H fun o H1 => ti σ H1 fun i H2 => tget o i H2 fun x H3 => te σ H3 fun y H4 => tip x y H4 fun z H5 => tset o i z H5 fun H6 => D.nx σ H6
def Zsb (X : Cx) (t : V -> V -> Hp -> VK -> Prop) : Prop :=
 ∀ (pins : List (Addr × Obj)) (s : Shared) (σ : St) (H : Hp) (o i : V) (ov iv : Value) (Q : VK), Inv X pins σ H s -> Zbg o ov -> Zbg i iv -> t o i H Q ->
  wpAny (model X.prog X.w) X.A (getItem ov iv) (EP X pins σ Q) X.xe s
theorem ZgJ {o i e : Expr} {to ti te : TE} {tget : V -> V -> Hp -> VK -> Prop} {tip : TIp} {tset : ZpX} {op : Operator} {tpos : Pos} (ho : PE X o to) (hi : PE X i ti) (hg : Zsb X tget) (he : PE X e te) (hp : PIp X op tip) (hs : ZrH X tset)
 (ha : ∀ ov iv new, augStore i ov iv new = (do holding [new, ov, iv] (setItem ov iv new); release [new, ov, iv] []; pure .next) := by intros; rfl) : PS X (.AugAssign (.Subscript o i tpos) op e pos) (Zpr to ti te tget tip tset) := by
 intro pins s σ H D I h
 refine wpAny_AugAssign_SubscriptAny (thn (ho pins s σ H _ I h) fun ov s1 ⟨x1, H1, I1, r1, q1⟩ => ?_) ha
 refine thn (hi pins s1 σ H1 _ I1 q1) fun iv s2 ⟨x2, H2, I2, r2, q2⟩ => ?_
 refine thn (hg pins s2 σ H2 x1 x2 ov iv _ I2 r1 r2 q2) fun old s3 ⟨x3, H3, I3, r3, q3⟩ => ?_
 refine thn (he pins s3 σ H3 _ I3 q3) fun v s4 ⟨x4, H4, I4, r4, q4⟩ => ?_
 refine thn (hp pins s4 σ H4 x3 x4 old v _ I4 r3 r4 q4) fun new s5 ⟨x5, H5, I5, r5, q5⟩ => ?_
 exact thn (hs pins s5 σ H5 x1 x2 x5 ov iv new _ I5 r1 r2 r5 q5) fun _ s6 ⟨H6, I6, q6⟩ => ⟨σ, H6, I6, q6⟩
def ipI (f : Int -> Int -> Int) : TIp := fun x y H Q => ∃ i j, x = .int i /\ y = .int j /\ Q (.int (f i j)) H
theorem Zmp : PIp X .Add (ipI fun i j => i + j) := by
 intro pins s σ H x y v u Q I r1 r2 h
 obtain ⟨i, j, e1, e2, q⟩ := h
 subst e1; subst e2
 obtain ⟨t, rfl⟩ := r1
 obtain ⟨t', rfl⟩ := r2
 exact iadd_int ⟨.int _, H, I.tok _, ⟨_, rfl⟩, q⟩
theorem ZqA : PIp X .Sub (ipI fun i j => i - j) := by
 intro pins s σ H x y v u Q I r1 r2 h
 obtain ⟨i, j, e1, e2, q⟩ := h
 subst e1; subst e2
 obtain ⟨t, rfl⟩ := r1
 obtain ⟨t', rfl⟩ := r2
 exact isub_int ⟨.int _, H, I.tok _, ⟨_, rfl⟩, q⟩
end
section
variable {X : Cx} {pos : Pos}
def ZnT (c : TT) (tb : TS) : TS := fun D σ H => ∃ W : Nat -> St -> Hp -> Prop, (∃ m, W m σ H) /\ ∀ m σ H, W m σ H ->
 c σ H fun b H1 => if b = true then ∃ N : St -> Hp -> Prop, (∀ σ' H', N σ' H' -> ∃ m', m' < m /\ W m' σ' H') /\ tb { D with nx := N, ct := N, bk := D.nx } σ H1 else D.nx σ H1
theorem Zd6 {c : Expr} {body : List Stmt} {tc : TT} {tb : TS} (hp : PassesOwn (model X.prog X.w) X.A X.env X.xe) (hc : PT X c tc) (hb : PSs X body tb) : PS X (.While c body [] pos) (ZnT tc tb) := by
 intro pins s σ H D I h
 obtain ⟨W, ⟨m0, w0⟩, turn⟩ := h
 refine wpAny_While (codeAny_whileLoop (fun n s' => ∃ σ' H', Inv X pins σ' H' s' /\ W n σ' H') ?_ m0 ⟨σ, H, I, w0⟩)
 rintro n s1 ⟨σ1, H1, I1, w1⟩
 refine wpAny_passesOwn hp (thn (hc pins s1 σ1 H1 _ I1 (turn n σ1 H1 w1)) fun b s2 ⟨H2, I2, q2⟩ => ?_)
 cases b with
 | true =>
   obtain ⟨N, hN, q2⟩ := q2
   rw [if_pos rfl]
   refine wpAny_passesOwn hp (thn (hb pins s2 σ1 H2 _ I2 q2) fun f s3 q3 => ?_)
   cases f with
   | next =>
     obtain ⟨σ3, H3, I3, n3⟩ := q3
     obtain ⟨m', hm, w3⟩ := hN σ3 H3 n3
     exact ⟨m', hm, σ3, H3, I3, w3⟩
   | cont =>
     obtain ⟨σ3, H3, I3, n3⟩ := q3
     obtain ⟨m', hm, w3⟩ := hN σ3 H3 n3
     exact ⟨m', hm, σ3, H3, I3, w3⟩
   | brk => exact q3
   | ret v => exact q3
 | false =>
   rw [if_neg Bool.false_ne_true]
   exact wpAny_execs_nil ⟨σ1, H2, I2, q2⟩
end
structure It where
 go : Nat -> Hp -> Prop
 yld : Nat -> Hp -> V -> Hp -> Prop
 stop : Nat -> Hp -> Prop
def ZkF (X : Cx) (pins : List (Addr × Obj)) (H : Hp) (b : Addr) : Prop :=
 H b = none /\ b ≠ X.env.locals /\ b ∉ X.fs /\ (b ∈ X.ex \/ X.s₀.heap.objs.size <= b) /\ (∀ x c, X.env.cells.lookup x = some c -> c ≠ b) /\ ∀ p ∈ X.pn ++ pins, p.1 ≠ b
theorem Inv.fpOk {X : Cx} {pins : List (Addr × Obj)} {σ : St} {H H' : Hp} {s : Shared} {b : Addr} (I : Inv X pins σ H s) (hb : s.heap.objs.size <= b) (hn : H' b = none) : ZkF X pins H' b := by
 refine ⟨hn, Nat.ne_of_gt (Nat.lt_of_lt_of_le I.lt hb), I.nofs hb, .inr (Nat.le_trans I.sz hb), fun x c e z => ?_, fun p hp z => ?_⟩
 ·obtain ⟨v, q⟩ := I.cell x c e
  exact absurd (Nat.lt_of_lt_of_le q.lt (by rw [z]; exact hb)) (Nat.lt_irrefl _)
 ·exact absurd (Nat.lt_of_lt_of_le (Heap.lt_size (I.pin p hp).1) (by rw [z]; exact hb)) (Nat.lt_irrefl _)
structure Turn (P : Program) (w : World) (K : W.Frag) (tg : Expr) (J : It) (fp : List Addr) (it : Addr) (tn : Nat -> Heap -> Prop) : Prop where
 mem : it ∈ fp
 obj : ∀ i h, tn i h -> ∀ b ∈ fp, ∃ o, h.get? b = some o /\ ∀ v, o.data ≠ .cell v
 keep : ∀ i h h', tn i h -> (∀ b ∈ fp, ∀ o, h.get? b = some o -> h'.get? b = some o) -> tn i h'
 item : ∀ (X : Cx), X.prog = P -> X.w = w -> X.K = K -> X.calm = true -> ∀ (i : Nat) (pins : List (Addr × Obj)) (s : Shared) (σ : St) (H : Hp) (E : Value -> Shared -> Prop), Inv X pins σ H s -> (∀ b ∈ fp, ZkF X pins H b) -> tn i s.heap -> J.go i H ->
  wpAny (model P w) X.A (pyNext (.ref it)) (fun r s1 => ∃ u, r = some u /\
   wpAny (model P w) X.A (letOwnedTupleGo tg (.ref it) u) (fun _ s2 => ∃ x H', Inv X pins σ H' s2 /\ Zbg x u /\ J.yld i H x H' /\ tn (i + 1) s2.heap /\ ∀ b ∈ fp, H' b = none) E s1) E s
 done : ∀ (X : Cx), X.prog = P -> X.w = w -> X.K = K -> X.calm = true -> ∀ (i : Nat) (pins : List (Addr × Obj)) (s : Shared) (σ : St) (H : Hp) (E : Value -> Shared -> Prop), Inv X pins σ H s -> (∀ b ∈ fp, ZkF X pins H b) -> tn i s.heap -> J.stop i H ->
  wpAny (model P w) X.A (pyNext (.ref it)) (fun r s1 => r = none /\ Inv X pins σ H s1) E s
 self : ∀ (A : Around) (i : Nat) (s : Shared) (Q : Value -> Shared -> Prop) (E : Value -> Shared -> Prop), tn i s.heap -> Q (.ref it) s -> wpAny (model P w) A (pyIter (.ref it)) Q E s
abbrev TI := St -> Hp -> (It -> Hp -> Prop) -> Prop
def PIE (X : Cx) (pins : List (Addr × Obj)) (σ : St) (tg : Expr) (R : It -> Hp -> Prop) (itv : Value) (s2 : Shared) : Prop :=
 ∃ (it : Addr) (fp : List Addr) (tn : Nat -> Heap -> Prop) (J : It) (H' : Hp), itv = .ref it /\ Inv X pins σ H' s2 /\ Turn X.prog X.w X.K tg J fp it tn /\ tn 0 s2.heap /\ (∀ b ∈ fp, ZkF X pins H' b) /\ R J H'
def PI (X : Cx) (tg iter : Expr) (wi : TI) : Prop :=
 ∀ (pins : List (Addr × Obj)) (s : Shared) (σ : St) (H : Hp) (R : It -> Hp -> Prop), Inv X pins σ H s -> wi σ H R ->
  wpAny (model X.prog X.w) X.A (eval iter X.env) (fun v s1 => wpAny (model X.prog X.w) X.A (pyIter v) (PIE X pins σ tg R) X.xe s1) X.xe s
theorem ZmQ {M : Model} {A : Around} {E : Value -> Shared -> Prop} {s : Shared} {tg : Expr} {it : Addr} {u : Value} {o : Obj} {n : String} {vs : Array Value} {Q : Unit -> Shared -> Prop} (ho : s.heap.get? it = some o) (hc : o.cls = .type n) (hd : o.data = .fields vs)
 (hn : ["enumerate", "zip", "dict_itemiterator", "dict_reverseitemiterator", "odict_iterator", "itertools.zip_longest", "itertools.pairwise"].contains n = false) (hQ : Q () s) : wpAny M A (letOwnedTupleGo tg (.ref it) u) Q E s := by
 unfold letOwnedTupleGo
 cases tg <;> first
  | exact wpAny_pure hQ
  | (cases u <;> first
   | exact wpAny_pure hQ
   | (refine wpAny_bind (wpAny_load ho ?_)
      rw [hc, hd]
      show wpAny M A (if (["enumerate", "zip", "dict_itemiterator", "dict_reverseitemiterator", "odict_iterator", "itertools.zip_longest", "itertools.pairwise"].contains n && vs[0]? == some (rawInt _)) = true then _ else _) Q E s
      rw [if_neg (by intro h; rw [hn, Bool.false_and] at h; cases h)]
      exact wpAny_pure hQ))
def Itl (K : W.Frag) (a : Addr) : It :=
 ⟨fun i H => ∃ xs x, SqL K H a xs /\ xs[i]? = some x, fun i H x H' => H' = H /\ ∀ xs, SqL K H a xs -> xs[i]? = some x, fun i H => ∃ xs, SqL K H a xs /\ xs.length <= i⟩
def Itt (K : W.Frag) (a : Addr) : It :=
 ⟨fun i H => ∃ xs x, SqT K H a xs /\ xs[i]? = some x, fun i H x H' => H' = H /\ ∀ xs, SqT K H a xs -> xs[i]? = some x, fun i H => ∃ xs, SqT K H a xs /\ xs.length <= i⟩
def Itr (lo : Int) (n : Nat) : It := ⟨fun i _ => i < n, fun i H x H' => H' = H /\ x = .int (lo + i), fun i _ => n <= i⟩
theorem ZlW {P : Program} {w : World} {K : W.Frag} {tg : Expr} (a it : Addr) : Turn P w K tg (Itl K a) [it] it (fun i h => h.IsListIter it a i) where
 mem := by simp
 obj := fun i h st b hb => by
  have e : b = it := by simpa using hb
  subst e
  obtain ⟨o, e, c, d⟩ := st
  exact ⟨o, e, fun v z => by rw [d] at z; cases z⟩
 keep := fun i h h' st k => st.at fun o e => k it (by simp) o e
 item := by
  intro X hP hw hK hc i pins s σ H E I hf st hg
  subst hP hw hK
  obtain ⟨xs, x, hq, hx⟩ := hg
  obtain ⟨its, rv, p, hz⟩ := I.list hq
  obtain ⟨u, hu, ru⟩ := rv.get hx
  obtain ⟨f0, f1, f2, f3, f4, f5⟩ := hf it (by simp)
  refine wpAny_pyNext_list_item st p.isList (x := u) (by simpa using hu) fun h' st' sb => ?_
  have I1 : Inv X pins σ H { s with heap := h' } := I.turned (t' := s.toks) (fun b o hb e => (sb.2 b hb).trans e) f0 f1 f3 f4 f5
  obtain ⟨o, e, c, d⟩ := id st'
  exact ⟨u, rfl, ZmQ (s := { s with heap := h' }) e c d (by decide) ⟨x, H, I1, ru, ⟨rfl, fun ys hy => by rw [I.list_inj hy hq]; exact hx⟩, st', fun b hb => (hf b hb).1⟩⟩
 done := by
  intro X hP hw hK hc i pins s σ H E I hf st hg
  subst hP hw hK
  obtain ⟨xs, hq, hx⟩ := hg
  obtain ⟨its, rv, p, hz⟩ := I.list hq
  obtain ⟨f0, f1, f2, f3, f4, f5⟩ := hf it (by simp)
  have hl := rv.length
  exact wpAny_pyNext_list_end (I.ok.hd hc) st p.isList (by simp; omega) fun h' eb => ⟨rfl, I.turned (t' := s.toks) (fun b o hb e => eb b o hb e) f0 f1 f3 f4 f5⟩
 self := fun _ _ _ _ _ st h => wpAny_pyIter_listiter st h
theorem Zkh {P : Program} {w : World} {K : W.Frag} {tg : Expr} (a it : Addr) : Turn P w K tg (Itt K a) [it] it (fun i h => h.IsTupleIter it a i) where
 mem := by simp
 obj := fun i h st b hb => by
  have e : b = it := by simpa using hb
  subst e
  obtain ⟨o, e, c, d⟩ := st
  exact ⟨o, e, fun v z => by rw [d] at z; cases z⟩
 keep := fun i h h' st k => st.at fun o e => k it (by simp) o e
 item := by
  intro X hP hw hK hc i pins s σ H E I hf st hg
  subst hP hw hK
  obtain ⟨xs, x, hq, hx⟩ := hg
  obtain ⟨its, rv, p, hz⟩ := I.tuple hq
  obtain ⟨u, hu, ru⟩ := rv.get hx
  obtain ⟨f0, f1, f2, f3, f4, f5⟩ := hf it (by simp)
  refine wpAny_pyNext_tuple_item st (show s.heap.IsTuple a its.toArray from p) (x := u) (by simpa using hu) fun h' st' sb => ?_
  have I1 : Inv X pins σ H { s with heap := h' } := I.turned (t' := s.toks) (fun b o hb e => (sb.2 b hb).trans e) f0 f1 f3 f4 f5
  obtain ⟨o, e, c, d⟩ := id st'
  exact ⟨u, rfl, ZmQ (s := { s with heap := h' }) e c d (by decide) ⟨x, H, I1, ru, ⟨rfl, fun ys hy => by rw [I.tuple_inj hy hq]; exact hx⟩, st', fun b hb => (hf b hb).1⟩⟩
 done := by
  intro X hP hw hK hc i pins s σ H E I hf st hg
  subst hP hw hK
  obtain ⟨xs, hq, hx⟩ := hg
  obtain ⟨its, rv, p, hz⟩ := I.tuple hq
  obtain ⟨f0, f1, f2, f3, f4, f5⟩ := hf it (by simp)
  have hl := rv.length
  exact wpAny_pyNext_tuple_end (I.ok.hd hc) st (show s.heap.IsTuple a its.toArray from p) (by simp; omega) fun h' eb => ⟨rfl, I.turned (t' := s.toks) (fun b o hb e => eb b o hb e) f0 f1 f3 f4 f5⟩
 self := fun _ _ _ _ _ st h => wpAny_pyIter_tupleiter st h
theorem Zke {P : Program} {w : World} {K : W.Frag} {tg : Expr} (it : Addr) (lo : Int) (n : Nat) : Turn P w K tg (Itr lo n) [it] it (fun i h => IsRangeIter h it (lo + (i : Nat) * 1) ((n : Int) - (i : Nat)) 1) where
 mem := by simp
 obj := fun i h st b hb => by
  have e : b = it := by simpa using hb
  subst e
  exact ⟨_, st, fun v z => by
   have z' : Data.fields _ = Data.cell v := z
   cases z'⟩
 keep := fun i h h' st k => k it (by simp) _ st
 item := by
  intro X hP hw hK hc i pins s σ H E I hf st hg
  subst hP hw hK
  obtain ⟨f0, f1, f2, f3, f4, f5⟩ := hf it (by simp)
  have W := Walks.range (prog := X.prog) (w := X.w) (I.ok.hd hc) it lo 1 n
  refine W.item i s _ _ hg st fun v h' tk hv st' kk => ?_
  obtain ⟨t, rfl⟩ := hv
  have I1 : Inv X pins σ H { s with heap := h', toks := tk } := I.turned (fun b o hb e => kk b o (by simpa using hb) e) f0 f1 f3 f4 f5
  refine ⟨_, rfl, ZmQ (s := { s with heap := h', toks := tk }) (n := "range_iterator") st' rfl rfl (by decide) ⟨.int (lo + i), H, I1, ⟨t, ?_⟩, ⟨rfl, rfl⟩, st', fun b hb => (hf b hb).1⟩⟩
  rw [Int.mul_one]
 done := by
  intro X hP hw hK hc i pins s σ H E I hf st hg
  subst hP hw hK
  obtain ⟨f0, f1, f2, f3, f4, f5⟩ := hf it (by simp)
  exact wpAny_pyNext_range_end (I.ok.hd hc) st (by have : n <= i := hg; omega) fun h' eb => ⟨rfl, I.turned (t' := s.toks) (fun b o hb e => eb b o hb e) f0 f1 f3 f4 f5⟩
 self := fun _ _ _ _ _ st h => wpAny_pyIter_rangeiter st h
end L2
namespace L2
open PySem PySem.Spec PyProof.Rows
section
variable {X : Cx} {tg : Expr}
def ZqD (K : W.Frag) (tl : TE) : TI := fun σ H R => tl σ H fun x H1 => ∃ a, x = .ref a /\ (∃ xs, SqL K H1 a xs) /\ R (Itl K a) H1
def Zsp (K : W.Frag) (tl : TE) : TI := fun σ H R => tl σ H fun x H1 => ∃ a, x = .ref a /\ (∃ xs, SqT K H1 a xs) /\ R (Itt K a) H1
theorem ZaV {l : Expr} {tl : TE} (hl : PE X l tl) : PI X tg l (ZqD X.K tl) := by
 intro pins s σ H R I h
 refine thn (hl pins s σ H _ I h) fun v s1 ⟨x, H1, I1, r1, q1⟩ => ?_
 obtain ⟨a, e, ⟨xs, hq⟩, q⟩ := q1
 subst e
 cases r1
 obtain ⟨its, rv, p, hz⟩ := I1.list hq
 refine wpAny_pyIter_list p.isList ?_
 refine ⟨s1.heap.objs.size, [s1.heap.objs.size], _, _, H1, rfl, I1.kept (t' := s1.toks) fun b o e => Heap.get?_push_of_some _ e, ZlW a _, ⟨_, Heap.get?_push_size _ rfl, rfl, rfl⟩, fun b hb => ?_, q⟩
 have e : b = s1.heap.objs.size := by simpa using hb
 subst e
 exact I1.fpOk (Nat.le_refl _) (I1.hok.fresh (Nat.le_refl _))
theorem ZlY {l : Expr} {tl : TE} (hl : PE X l tl) : PI X tg l (Zsp X.K tl) := by
 intro pins s σ H R I h
 refine thn (hl pins s σ H _ I h) fun v s1 ⟨x, H1, I1, r1, q1⟩ => ?_
 obtain ⟨a, e, ⟨xs, hq⟩, q⟩ := q1
 subst e
 cases r1
 obtain ⟨its, rv, p, hz⟩ := I1.tuple hq
 refine wpAny_pyIter_tuple (show s1.heap.IsTuple a its.toArray from p) ?_
 refine ⟨s1.heap.objs.size, [s1.heap.objs.size], _, _, H1, rfl, I1.kept (t' := s1.toks) fun b o e => Heap.get?_push_of_some _ e, Zkh a _, ⟨_, Heap.get?_push_size _ rfl, rfl, rfl⟩, fun b hb => ?_, q⟩
 have e : b = s1.heap.objs.size := by simpa using hb
 subst e
 exact I1.fpOk (Nat.le_refl _) (I1.hok.fresh (Nat.le_refl _))
theorem Zj7 {pins : List (Addr × Obj)} {σ : St} {H : Hp} {s : Shared} {R : It -> Hp -> Prop} {E : Value -> Shared -> Prop} {lo hi : Int} {t u v : Tok} {tk : Nat} (I : Inv X pins σ H s) (h1 : -(2 ^ 62) <= lo) (h2 : lo < 2 ^ 62) (h3 : -(2 ^ 62) <= hi) (h4 : hi < 2 ^ 62)
 (q : R (Itr lo (hi - lo).toNat) H) : wpAny (model X.prog X.w) X.A (pyIter (.ref s.heap.objs.size)) (PIE X pins σ tg R) E { s with heap := s.heap.push { cls := .type "range", data := .fields #[.int lo t, .int hi u, .int 1 v] }, toks := tk } := by
 refine wpAny_pyIter_range (IsRange.new ..) (small_one h1 h2 h3 h4) ?_
 have I1 : Inv X pins σ H { s with heap := s.heap.push { cls := .type "range", data := .fields #[.int lo t, .int hi u, .int 1 v] }, toks := tk } := I.kept fun b o e => Heap.get?_push_of_some _ e
 refine ⟨(s.heap.push { cls := .type "range", data := .fields #[.int lo t, .int hi u, .int 1 v] }).objs.size, [(s.heap.push { cls := .type "range", data := .fields #[.int lo t, .int hi u, .int 1 v] }).objs.size], _, _, H, rfl,
  I1.kept (t' := tk) fun b o e => Heap.get?_push_of_some _ e, Zke _ lo (hi - lo).toNat, ?_, fun b hb => ?_, q⟩
 ·have e1 : lo + ((0 : Nat) : Int) * 1 = lo := by simp
  have e2 : (((hi - lo).toNat : Nat) : Int) - ((0 : Nat) : Int) = Builtin.Range.rangeSize lo hi 1 := by rw [rangeSize_one]; split <;> omega
  show IsRangeIter _ _ (lo + ((0 : Nat) : Int) * 1) ((((hi - lo).toNat : Nat) : Int) - ((0 : Nat) : Int)) 1
  rw [e1, e2]
  exact Heap.get?_push_size _ rfl
 ·have e : b = (s.heap.push { cls := .type "range", data := .fields #[.int lo t, .int hi u, .int 1 v] }).objs.size := by simpa using hb
  subst e
  exact I1.fpOk (Nat.le_refl _) (I1.hok.fresh (Nat.le_refl _))
def Zqz (ta : TA) : TI := fun σ H R => ta σ H fun vs H1 => ∃ j : Int, vs = [.int j] /\ -(2 ^ 62) <= j /\ j < 2 ^ 62 /\ R (Itr 0 j.toNat) H1
def ZqC (ta : TA) : TI := fun σ H R => ta σ H fun vs H1 => ∃ i j : Int, vs = [.int i, .int j] /\ (-(2 ^ 62) <= i /\ i < 2 ^ 62 /\ -(2 ^ 62) <= j /\ j < 2 ^ 62) /\ R (Itr i (j - i).toNat) H1
theorem Zbl {a : Expr} {ta : TA} {p pos : Pos} (hg : Gl X "range") (hm : X.mg "range" = none) (ha : PA X [a] ta) (hs : starEach [a] X.env = [(false, eval a X.env)] := by rfl) : PI X tg (.Call (.Name "range" p) [a] [] pos) (Zqz ta) := by
 intro pins s σ H R I h
 refine Call_ (Zfn I hg hm boot_range (callWith_type1 (thn (ha pos pins s σ H _ I h) fun us s1 ⟨vs, H1, I1, r1, q1⟩ => ?_) hs rfl))
 obtain ⟨j, e, q1, q2, q⟩ := q1
 subst e
 cases r1 with
 | cons r rr =>
   cases rr
   obtain ⟨t, rfl⟩ := r
   exact call_range_1 (Zj7 I1 (by omega) (by omega) q1 q2 (by simpa using q))
theorem Zl7 {a b : Expr} {ta : TA} {p pos : Pos} (hg : Gl X "range") (hm : X.mg "range" = none) (ha : PA X [a, b] ta) (hs : starEach [a, b] X.env = [(false, eval a X.env), (false, eval b X.env)] := by rfl) (hs2 : starEach [b] X.env = [(false, eval b X.env)] := by rfl) :
 PI X tg (.Call (.Name "range" p) [a, b] [] pos) (ZqC ta) := by
 intro pins s σ H R I h
 refine Call_ (Zfn I hg hm boot_range (callWith_type1 (thn (ha pos pins s σ H _ I h) fun us s1 ⟨vs, H1, I1, r1, q1⟩ => ?_) (by rw [hs, hs2]) (by rw [hs2]; rfl)))
 obtain ⟨i, j, e, ⟨q1, q2, q3, q4⟩, q⟩ := q1
 subst e
 cases r1 with
 | cons r rr =>
   cases rr with
   | cons r' rr =>
     cases rr
     obtain ⟨t, rfl⟩ := r
     obtain ⟨t', rfl⟩ := r'
     exact call_range_2 (Zj7 I1 q1 q2 q3 q4 q)
def Zr3 (wi : TI) (g : TG) (tb : TS) : TS := fun D σ H => wi σ H fun J H1 => ∃ W : Nat -> Nat -> St -> Hp -> Prop, (∃ m, W 0 m σ H1) /\ ∀ i m σ H, W i m σ H ->
 (J.stop i H /\ D.nx σ H) \/ (J.go i H /\ ∃ N : St -> Hp -> Prop, (∀ σ' H', N σ' H' -> ∃ m', m' < m /\ W (i + 1) m' σ' H') /\ ∀ x H', J.yld i H x H' -> g x σ H' fun σ2 H2 => tb { D with nx := N, ct := N, bk := D.nx } σ2 H2)
def Zil (fp : List Addr) (h : Heap) : List (Addr × Obj) := fp.filterMap fun b => (h.get? b).map fun o => (b, o)
theorem ZdX {fp : List Addr} {h : Heap} {b : Addr} {o : Obj} (hb : b ∈ fp) (e : h.get? b = some o) : (b, o) ∈ Zil fp h := List.mem_filterMap.mpr ⟨b, hb, by rw [e]; rfl⟩
theorem Zmx {fp : List Addr} {h : Heap} {p : Addr × Obj} (hp : p ∈ Zil fp h) : p.1 ∈ fp /\ h.get? p.1 = some p.2 := by
 obtain ⟨b, hb, e⟩ := List.mem_filterMap.mp hp
 cases q : h.get? b with
 | none => rw [q] at e; cases e
 | some o =>
   rw [q] at e
   have e' : (b, o) = p := Option.some.inj e
   subst e'
   exact ⟨hb, q⟩
theorem Inv.pinned {pins : List (Addr × Obj)} {σ : St} {H : Hp} {s : Shared} {fp : List Addr} (I : Inv X pins σ H s) (hf : ∀ b ∈ fp, ZkF X pins H b) (ho : ∀ b ∈ fp, ∃ o, s.heap.get? b = some o /\ ∀ v, o.data ≠ .cell v) : Inv X (pins ++ Zil fp s.heap) σ H s :=
 I.pins_of fun p hp => (List.mem_append.mp hp).elim (fun z => I.pin p (List.mem_append_right _ z)) fun z => by
  obtain ⟨hb, e⟩ := Zmx z
  obtain ⟨f0, f1, f2, _⟩ := hf p.1 hb
  obtain ⟨o, e', d⟩ := ho p.1 hb
  rw [e] at e'; cases e'
  exact ⟨e, f0, f1, f2, d⟩
theorem Inv.unpinned {pins pl : List (Addr × Obj)} {σ : St} {H : Hp} {s : Shared} (I : Inv X (pins ++ pl) σ H s) : Inv X pins σ H s := I.pins_of fun p hp => I.pin p (List.mem_append_right _ (List.mem_append_left _ hp))
theorem ZbB {iter : Expr} {body : List Stmt} {wi : TI} {g : TG} {tb : TS} {pos : Pos} (hp : PassesOwn (model X.prog X.w) X.A X.env X.xe) (hc : X.calm = true) (hi : PI X tg iter wi) (hg : PG X tg g) (hb : PSs X body tb)
 (hs : ∀ x, foldedSetIterable iter X.env x = pure x := by intro _; rfl) : PS X (.For tg iter body [] pos) (Zr3 wi g tb) := by
 intro pins s σ H D I h
 refine wpAny_For (thn (hi pins s σ H _ I h) fun v s1 h1 => thn h1 fun itv s2 h2 => ?_) hs
 obtain ⟨it, fp, tn, J, H2, e, I2, T, st2, f2, W, ⟨m0, w0⟩, turn⟩ := h2
 subst e
 have stat : ∀ {H' : Hp}, (∀ b ∈ fp, H' b = none) -> ∀ b ∈ fp, ZkF X pins H' b := fun hn b hb => ⟨hn b hb, (f2 b hb).2⟩
 refine codeAny_forLoop_any (fun n s' => ∃ i σ' H', Inv X pins σ' H' s' /\ tn i s'.heap /\ (∀ b ∈ fp, H' b = none) /\ W i n σ' H') ?_ m0 ⟨0, σ, H2, I2, st2, fun b hb => (f2 b hb).1, w0⟩
 rintro n s3 ⟨i, σ3, H3, I3, st3, fr3, w3⟩
 rcases turn i n σ3 H3 w3 with ⟨stop, qn⟩ | ⟨go, N, hN, step⟩
 ·refine wpAny_passesOwn hp (thn (T.done X rfl rfl rfl hc i pins s3 σ3 H3 X.xe I3 (stat fr3) st3 stop) fun r s4 ⟨hr, I4⟩ => ?_)
  subst hr
  exact wpAny_execs_nil ⟨σ3, H3, I4, qn⟩
 ·refine wpAny_passesOwn hp (thn (T.item X rfl rfl rfl hc i pins s3 σ3 H3 X.xe I3 (stat fr3) st3 go) fun r s4 ⟨u, hr, h4⟩ => ?_)
  subst hr
  refine wpAny_passesOwn hp (thn h4 fun _ s5 ⟨x, H5, I5, r5, y5, st5, fr5⟩ => ?_)
  have I5' := I5.pinned (stat fr5) (T.obj _ _ st5)
  refine wpAny_passesOwn hp (thn (hg _ s5 σ3 H5 x u _ I5' r5 (step x H5 y5)) fun _ s6 ⟨σ6, H6, I6, q6⟩ => ?_)
  refine wpAny_passesOwn hp (thn (hb _ s6 σ6 H6 _ I6 q6) fun f s7 q7 => ?_)
  have again : ∀ {σ7 : St} {H7 : Hp}, Inv X (pins ++ Zil fp s5.heap) σ7 H7 s7 -> N σ7 H7 -> ∃ m, m < n /\ ∃ i σ' H', Inv X pins σ' H' s7 /\ tn i s7.heap /\ (∀ b ∈ fp, H' b = none) /\ W i m σ' H' := fun {σ7 H7} I7 n7 => by
   obtain ⟨m', hm, w7⟩ := hN σ7 H7 n7
   refine ⟨m', hm, i + 1, σ7, H7, I7.unpinned, T.keep _ _ _ st5 fun b hb o e => (I7.pin (b, o) (List.mem_append_right _ (List.mem_append_right _ (ZdX hb e)))).1, fun b hb => ?_, w7⟩
   obtain ⟨o, e, d⟩ := T.obj _ _ st5 b hb
   exact (I7.pin (b, o) (List.mem_append_right _ (List.mem_append_right _ (ZdX hb e)))).2.1
  cases f with
  | next => obtain ⟨σ7, H7, I7, n7⟩ := q7; exact again I7 n7
  | cont => obtain ⟨σ7, H7, I7, n7⟩ := q7; exact again I7 n7
  | brk => obtain ⟨σ7, H7, I7, q7⟩ := q7; exact ⟨σ7, H7, I7.unpinned, q7⟩
  | ret v => obtain ⟨x7, σ7, H7, I7, r7, q7⟩ := q7; exact ⟨x7, σ7, H7, I7.unpinned, r7, q7⟩
end
end L2
namespace L2
open PySem PySem.Spec PyProof.Rows
abbrev R2 := V -> V -> Hp -> VK -> Prop
def OpR (X : Cx) (f : Value -> Value -> Sem Value) (r : R2) : Prop :=
 ∀ (pins : List (Addr × Obj)) (s : Shared) (σ : St) (H : Hp) (x y : V) (v u : Value) (Q : VK), Inv X pins σ H s -> Zbg x v -> Zbg y u -> r x y H Q ->
  wpAny (model X.prog X.w) X.A (f v u) (EP X pins σ Q) X.xe s
def UnR (X : Cx) (f : Value -> Sem Value) (r : V -> Hp -> VK -> Prop) : Prop :=
 ∀ (pins : List (Addr × Obj)) (s : Shared) (σ : St) (H : Hp) (x : V) (v : Value) (Q : VK), Inv X pins σ H s -> Zbg x v -> r x H Q ->
  wpAny (model X.prog X.w) X.A (f v) (EP X pins σ Q) X.xe s
def ZdD (X : Cx) (f : Value) (r : List V -> Hp -> VK -> Prop) : Prop :=
 ∀ (pins : List (Addr × Obj)) (s : Shared) (σ : St) (H : Hp) (xs : List V) (us : List Value) (Q : VK), Inv X pins σ H s -> Zcj xs us -> r xs H Q ->
  wpAny (model X.prog X.w) X.A (call f us) (EP X pins σ Q) X.xe s
def Zsz (X : Cx) (r : V -> Hp -> (Bool -> Hp -> Prop) -> Prop) : Prop :=
 ∀ (pins : List (Addr × Obj)) (s : Shared) (σ : St) (H : Hp) (x : V) (v : Value) (Q : Bool -> Hp -> Prop), Inv X pins σ H s -> Zbg x v -> r x H Q ->
  wpAny (model X.prog X.w) X.A (truthy v) (TP X pins σ Q) X.xe s
def tOp (r : R2) (ta tb : TE) : TE := fun σ H Q => ta σ H fun x H1 => tb σ H1 fun y H2 => r x y H2 Q
def tUn (r : V -> Hp -> VK -> Prop) (ta : TE) : TE := fun σ H Q => ta σ H fun x H1 => r x H1 Q
def rI (C : Int -> Int -> Prop) (g : Int -> Int -> V) : R2 := fun x y H Q => ∃ i j, x = .int i /\ y = .int j /\ C i j /\ Q (g i j) H
def rI0 (g : Int -> Int -> V) : R2 := fun x y H Q => ∃ i j, x = .int i /\ y = .int j /\ Q (g i j) H
def rU (g : Int -> V) : V -> Hp -> VK -> Prop := fun x H Q => ∃ i, x = .int i /\ Q (g i) H
section
variable {X : Cx} {a b c : Expr} {ta tb tc : TE} {pos : Pos}
theorem ZrP (ha : PE X a ta) (hb : PE X b tb) {pins : List (Addr × Obj)} {s : Shared} {σ : St} {H : Hp} {R : V -> V -> Hp -> Prop} (I : Inv X pins σ H s)
 (h : ta σ H fun x H1 => tb σ H1 fun y H2 => R x y H2) {Q : Value -> Shared -> Prop} {f : Value -> Value -> Sem Value}
 (hf : ∀ v u s2 x y H2, Inv X pins σ H2 s2 -> Zbg x v -> Zbg y u -> R x y H2 -> wpAny (model X.prog X.w) X.A (f v u) Q X.xe s2) :
 wpAny (model X.prog X.w) X.A (eval a X.env) (fun v s₁ => wpAny (model X.prog X.w) X.A (eval b X.env) (fun u s₂ => wpAny (model X.prog X.w) X.A (f v u) Q X.xe s₂) X.xe s₁) X.xe s := by
 refine thn (ha pins s σ H _ I h) fun v s1 ⟨x, H1, I1, r1, q1⟩ => ?_
 refine thn (hb pins s1 σ H1 _ I1 q1) fun u s2 ⟨y, H2, I2, r2, q2⟩ => ?_
 exact hf v u s2 x y H2 I2 r1 r2 q2
theorem Zau {op : Operator} {r : R2} (ho : OpR X (binaryOp op) r) (ha : PE X a ta) (hb : PE X b tb) : PE X (.BinOp a op b pos) (tOp r ta tb) := by
 intro pins s σ H Q I h
 exact wpAny_BinOp (ZrP ha hb I h fun v u s2 x y H2 I2 rx ry q => ho pins s2 σ H2 x y v u Q I2 rx ry q)
theorem Zoz {op : UnaryOp} {r : V -> Hp -> VK -> Prop} (ho : UnR X (unaryOp op) r) (ha : PE X a ta) : PE X (.UnaryOp op a pos) (tUn r ta) := by
 intro pins s σ H Q I h
 exact UnaryOp_ (thn (ha pins s σ H _ I h) fun v s1 ⟨x, H1, I1, r1, q1⟩ => ho pins s1 σ H1 x v Q I1 r1 q1)
theorem opI {f : Value -> Value -> Sem Value} {C : Int -> Int -> Prop} {g : Int -> Int -> Int}
 (rule : ∀ (i j : Int) (t u : Tok) (s : Shared) (Q : Value -> Shared -> Prop) (E : Value -> Shared -> Prop), C i j -> Q (.int (g i j) s.toks) { s with toks := s.toks + 1 } -> wpAny (model X.prog X.w) X.A (f (.int i t) (.int j u)) Q E s) :
 OpR X f (rI C fun i j => .int (g i j)) := by
 intro pins s σ H x y v u Q I rx ry h
 obtain ⟨i, j, rfl, rfl, hc, q⟩ := h
 obtain ⟨t, rfl⟩ := rx
 obtain ⟨t', rfl⟩ := ry
 exact rule i j t t' s _ _ hc ⟨.int (g i j), H, I.tok _, ⟨_, rfl⟩, q⟩
theorem Zru {f : Value -> Value -> Sem Value} {g : Int -> Int -> Int}
 (rule : ∀ (i j : Int) (t u : Tok) (s : Shared) (Q : Value -> Shared -> Prop) (E : Value -> Shared -> Prop), Q (.int (g i j) s.toks) { s with toks := s.toks + 1 } -> wpAny (model X.prog X.w) X.A (f (.int i t) (.int j u)) Q E s) :
 OpR X f (rI0 fun i j => .int (g i j)) := by
 intro pins s σ H x y v u Q I rx ry h
 obtain ⟨i, j, rfl, rfl, q⟩ := h
 obtain ⟨t, rfl⟩ := rx
 obtain ⟨t', rfl⟩ := ry
 exact rule i j t t' s _ _ ⟨.int (g i j), H, I.tok _, ⟨_, rfl⟩, q⟩
theorem Zr5 {f : Value -> Value -> Sem Value} {g : Int -> Int -> Bool}
 (rule : ∀ (i j : Int) (t u : Tok) (s : Shared) (Q : Value -> Shared -> Prop) (E : Value -> Shared -> Prop), Q (.bool (g i j)) s -> wpAny (model X.prog X.w) X.A (f (.int i t) (.int j u)) Q E s) :
 OpR X f (rI0 fun i j => .bl (g i j)) := by
 intro pins s σ H x y v u Q I rx ry h
 obtain ⟨i, j, rfl, rfl, q⟩ := h
 obtain ⟨t, rfl⟩ := rx
 obtain ⟨t', rfl⟩ := ry
 exact rule i j t t' s _ _ ⟨.bl (g i j), H, I, rfl, q⟩
def Zsl (i j : Int) : Prop := 0 <= j /\ j <= 1000000 /\ i.natAbs < 2 ^ 64
def Zrn (i j : Int) : Prop := (-(2 ^ 64) < i /\ i < 2 ^ 64) \/ (-(2 ^ 64) < j /\ j < 2 ^ 64)
theorem Zrn.ok {i j : Int} (h : Zrn i j) : IntMulOk i j := by
 rcases h with ⟨h1, h2⟩ | ⟨h1, h2⟩
 ·exact .of_left (intBits_le_64 h1 h2)
 ·exact .of_right (intBits_le_64 h1 h2)
theorem ZcJ : OpR X (binaryOp .Add) (rI0 fun i j => .int (i + j)) := Zru fun _ _ _ _ _ _ _ q => add_int q
theorem Zh0 : OpR X (binaryOp .Sub) (rI0 fun i j => .int (i - j)) := Zru fun _ _ _ _ _ _ _ q => sub_int q
theorem Zfq : OpR X (binaryOp .Mult) (rI Zrn fun i j => .int (i * j)) := opI fun _ _ _ _ _ _ _ hc q => mul_int q hc.ok
theorem Zcr : OpR X (binaryOp .Mod) (rI (fun _ j => 0 < j) fun i j => .int (i % j)) := opI fun i j _ _ _ _ _ hc q => by
 have h1 : (0 : Int) < j := hc
 exact mod_int' (by omega) (by rw [Int.fmod_eq_emod_of_nonneg i (by omega)]; exact q)
theorem ZnH : OpR X (binaryOp .Pow) (rI Zsl fun i j => .int (i ^ j.toNat)) := opI fun _ _ _ _ _ _ _ hc q => pow_int_small hc.1 hc.2.1 hc.2.2 q
theorem ZnX : OpR X (binaryOp .BitXor) (rI0 fun i j => .int (Builtin.bitXor i j)) := Zru fun _ _ _ _ _ _ _ q => xor_int q
theorem unI {f : Value -> Sem Value} {g : Int -> Int}
 (rule : ∀ (i : Int) (t : Tok) (s : Shared) (Q : Value -> Shared -> Prop) (E : Value -> Shared -> Prop), Q (.int (g i) s.toks) { s with toks := s.toks + 1 } -> wpAny (model X.prog X.w) X.A (f (.int i t)) Q E s) :
 UnR X f (rU fun i => .int (g i)) := by
 intro pins s σ H x v Q I rx h
 obtain ⟨i, rfl, q⟩ := h
 obtain ⟨t, rfl⟩ := rx
 exact rule i t s _ _ ⟨.int (g i), H, I.tok _, ⟨_, rfl⟩, q⟩
theorem ZlA : UnR X (unaryOp .USub) (rU fun i => .int (-i)) := unI fun _ _ _ _ _ q => neg_int q
end
def ZrU : V -> V -> Bool
 | .non, .non => true | .non, .int _ => true | .int _, .non => true | .non, .bl _ => true | .bl _, .non => true | .non, .str _ => true | .str _, .non => true
 | .int _, .int _ => true | .bl _, .bl _ => true | .str _, .str _ => true | .byt _, .byt _ => true
 | .int _, .str _ => true | .str _, .int _ => true | .bl _, .str _ => true | .str _, .bl _ => true
 | _, _ => false
def rEq : R2 := fun x y H Q => ZrU x y = true /\ Q (.bl (decide (x = y))) H
def rNe : R2 := fun x y H Q => ZrU x y = true /\ Q (.bl (!decide (x = y))) H
theorem Zmq {i j : Int} : decide (V.int i = V.int j) = (i == j) := by
 rw [Bool.eq_iff_iff]
 simp
theorem ZnN {i j : Bool} : decide (V.bl i = V.bl j) = (i == j) := by
 rw [Bool.eq_iff_iff]
 simp
theorem ZkW {i j : Str} : decide (V.str i = V.str j) = (i == j) := by
 rw [Bool.eq_iff_iff]
 simp
theorem Zle {i j : Array UInt8} : decide (V.byt i = V.byt j) = (i.toList == j.toList) := by
 rw [Bool.eq_iff_iff]
 cases i
 cases j
 simp
section
variable {X : Cx} {a b c : Expr} {ta tb tc : TE} {pos : Pos}
theorem ZaM {pins : List (Addr × Obj)} {σ : St} {H : Hp} {s : Shared} {Q : VK} {k k' : Bool} (I : Inv X pins σ H s) (q : Q (.bl k) H) (e : k = k') : EP X pins σ Q (.bool k') s := by
 subst e
 exact ⟨.bl k, H, I, rfl, q⟩
theorem Zop : OpR X (compareOp .Eq) rEq := by
 intro pins s σ H x y v u Q I rx ry h
 obtain ⟨hs, q⟩ := h
 cases x with
 | non =>
   cases rx
   cases y with
   | non => cases ry; exact PySem.EqNone.eq_none_none (ZaM I q (by simp))
   | bl j => cases ry; exact PySem.EqNone.eq_none_bool (ZaM I q (by simp))
   | int j => obtain ⟨t', rfl⟩ := ry; exact PySem.EqNone.eq_none_int (ZaM I q (by simp))
   | str j => obtain ⟨t', rfl⟩ := ry; exact PySem.EqNone.eq_none_str (ZaM I q (by simp))
   | _ => exact absurd (show false = true from hs) Bool.false_ne_true
 | bl i =>
   cases rx
   cases y with
   | non => cases ry; exact PySem.EqNone.eq_bool_none (ZaM I q (by simp))
   | bl j => cases ry; exact eq_bool (ZaM I q ZnN)
   | str j => obtain ⟨t', rfl⟩ := ry; exact PySem.EqMixed.eq_bool_str (ZaM I q (by simp))
   | _ => exact absurd (show false = true from hs) Bool.false_ne_true
 | int i =>
   obtain ⟨t, rfl⟩ := rx
   cases y with
   | non => cases ry; exact PySem.EqNone.eq_int_none (ZaM I q (by simp))
   | int j => obtain ⟨t', rfl⟩ := ry; exact eq_int (ZaM I q Zmq)
   | str j => obtain ⟨t', rfl⟩ := ry; exact PySem.EqMixed.eq_int_str (ZaM I q (by simp))
   | _ => exact absurd (show false = true from hs) Bool.false_ne_true
 | str i =>
   obtain ⟨t, rfl⟩ := rx
   cases y with
   | non => cases ry; exact PySem.EqNone.eq_str_none (ZaM I q (by simp))
   | bl j => cases ry; exact PySem.EqMixed.eq_str_bool (ZaM I q (by simp))
   | int j => obtain ⟨t', rfl⟩ := ry; exact PySem.EqMixed.eq_str_int (ZaM I q (by simp))
   | str j => obtain ⟨t', rfl⟩ := ry; exact eq_str (ZaM I q ZkW)
   | _ => exact absurd (show false = true from hs) Bool.false_ne_true
 | byt i =>
   obtain ⟨t, rfl⟩ := rx
   cases y with
   | byt j => obtain ⟨t', rfl⟩ := ry; exact W.eq_bytes (ZaM I q Zle)
   | _ => exact absurd (show false = true from hs) Bool.false_ne_true
 | _ => cases y <;> exact absurd (show false = true from hs) Bool.false_ne_true
theorem ZoH : OpR X (compareOp .NotEq) rNe := by
 intro pins s σ H x y v u Q I rx ry h
 obtain ⟨hs, q⟩ := h
 cases x with
 | non =>
   cases rx
   cases y with
   | non => cases ry; exact PySem.EqNone.ne_none_none (ZaM I q (by simp))
   | bl j => cases ry; exact PySem.EqNone.ne_none_bool (ZaM I q (by simp))
   | int j => obtain ⟨t', rfl⟩ := ry; exact PySem.EqNone.ne_none_int (ZaM I q (by simp))
   | str j => obtain ⟨t', rfl⟩ := ry; exact PySem.EqNone.ne_none_str (ZaM I q (by simp))
   | _ => exact absurd (show false = true from hs) Bool.false_ne_true
 | bl i =>
   cases rx
   cases y with
   | non => cases ry; exact PySem.EqNone.ne_bool_none (ZaM I q (by simp))
   | bl j => cases ry; exact ne_bool (ZaM I q (congrArg not ZnN))
   | str j => obtain ⟨t', rfl⟩ := ry; exact PySem.EqMixed.ne_bool_str (ZaM I q (by simp))
   | _ => exact absurd (show false = true from hs) Bool.false_ne_true
 | int i =>
   obtain ⟨t, rfl⟩ := rx
   cases y with
   | non => cases ry; exact PySem.EqNone.ne_int_none (ZaM I q (by simp))
   | int j => obtain ⟨t', rfl⟩ := ry; exact ne_int (ZaM I q (congrArg not Zmq))
   | str j => obtain ⟨t', rfl⟩ := ry; exact PySem.EqMixed.ne_int_str (ZaM I q (by simp))
   | _ => exact absurd (show false = true from hs) Bool.false_ne_true
 | str i =>
   obtain ⟨t, rfl⟩ := rx
   cases y with
   | non => cases ry; exact PySem.EqNone.ne_str_none (ZaM I q (by simp))
   | bl j => cases ry; exact PySem.EqMixed.ne_str_bool (ZaM I q (by simp))
   | int j => obtain ⟨t', rfl⟩ := ry; exact PySem.EqMixed.ne_str_int (ZaM I q (by simp))
   | str j => obtain ⟨t', rfl⟩ := ry; exact ne_str (ZaM I q (congrArg not ZkW))
   | _ => exact absurd (show false = true from hs) Bool.false_ne_true
 | byt i =>
   obtain ⟨t, rfl⟩ := rx
   cases y with
   | byt j => obtain ⟨t', rfl⟩ := ry; exact W.ne_bytes (ZaM I q (congrArg not Zle))
   | _ => exact absurd (show false = true from hs) Bool.false_ne_true
 | _ => cases y <;> exact absurd (show false = true from hs) Bool.false_ne_true
theorem Zn6 : OpR X (compareOp .Lt) (rI0 fun i j => .bl (decide (i < j))) := Zr5 fun _ _ _ _ _ _ _ q => lt_int q
theorem Zkt : OpR X (compareOp .LtE) (rI0 fun i j => .bl (decide (i <= j))) := Zr5 fun _ _ _ _ _ _ _ q => le_int q
theorem Zlg : OpR X (compareOp .Gt) (rI0 fun i j => .bl (decide (j < i))) := Zr5 fun _ _ _ _ _ _ _ q => gt_int q
theorem ZcL (b : Expr) {op : CmpOp} (h : op ≠ .In := by decide) (h2 : op ≠ .NotIn := by decide) : behindInMarks op b = false := by
 have e1 : (op == CmpOp.In) = false := by cases op <;> first | rfl | exact absurd rfl h
 have e2 : (op == CmpOp.NotIn) = false := by cases op <;> first | rfl | exact absurd rfl h2
 cases b <;> simp [behindInMarks, e1, e2]
theorem Zoy {op : CmpOp} {r : R2} (ho : OpR X (compareOp op) r) (ha : PE X a ta) (hb : PE X b tb) (hm : behindInMarks op b = false) : PE X (.Compare a [op] [b] pos) (tOp r ta tb) := by
 intro pins s σ H Q I h
 exact wpAny_Compare1 (ZrP ha hb I h fun v u s2 x y H2 I2 rx ry q => ho pins s2 σ H2 x y v u Q I2 rx ry q) hm
def ZoN (t : TE) : TT := fun σ H Q => t σ H fun x H' => ∃ k, x = .bl k /\ Q k H'
theorem ZbA {op : CmpOp} {r : R2} (ho : OpR X (compareOp op) r) (ha : PE X a ta) (hb : PE X b tb) (hm : behindInMarks op b = false) : PT X (.Compare a [op] [b] pos) (ZoN (tOp r ta tb)) := by
 intro pins s σ H Q I h
 refine wpAny_isTrue_Compare1 (thn (ha pins s σ H _ I h) fun v s1 ⟨x, H1, I1, r1, q1⟩ => thn (hb pins s1 σ H1 _ I1 q1) fun u s2 ⟨y, H2, I2, r2, q2⟩ =>
  thn (ho pins s2 σ H2 x y v u _ I2 r1 r2 q2) fun c s3 ⟨z, H3, I3, r3, k, e, q3⟩ => ?_) hm
 subst e
 cases r3
 exact wpAny_truthy_bool ⟨H3, I3, q3⟩
def ZlJ (r r' : R2) (ta tb tc : TE) : TE := fun σ H Q => ta σ H fun x H1 => tb σ H1 fun y H2 => r x y H2 fun z H3 => ∃ k, z = .bl k /\
 (if k = true then tc σ H3 fun w' H4 => r' y w' H4 Q else Q (.bl false) H3)
theorem Zno {op op' : CmpOp} {r r' : R2} (ho : OpR X (compareOp op) r) (ho' : OpR X (compareOp op') r') (ha : PE X a ta) (hb : PE X b tb) (hc : PE X c tc)
 (hm : lastMarks [op, op'] [b, c] = false := by with_unfolding_all rfl) : PE X (.Compare a [op, op'] [b, c] pos) (ZlJ r r' ta tb tc) := by
 intro pins s σ H Q I h
 refine Compare_chain (thn (ha pins s σ H _ I h) fun v s1 ⟨x, H1, I1, r1, q1⟩ => chain_link (thn (hb pins s1 σ H1 _ I1 q1) fun u s2 ⟨y, H2, I2, r2, q2⟩ =>
  thn (ho pins s2 σ H2 x y v u _ I2 r1 r2 q2) fun d s3 ⟨z, H3, I3, r3, k, e, q3⟩ => ?_)) hm
 subst e
 cases r3
 refine wpAny_truthy_bool ?_
 cases k with
 | false => exact ite_ff ⟨.bl false, H3, I3, rfl, q3⟩
 | true => exact ite_tt (chain_last (thn (hc pins s3 σ H3 _ I3 q3) fun w' s4 ⟨z', H4, I4, r4, q4⟩ => ho' pins s4 σ H4 y z' u w' Q I4 r2 r4 q4))
theorem Zj3 {op op' : CmpOp} {r r' : R2} (ho : OpR X (compareOp op) r) (ho' : OpR X (compareOp op') r') (ha : PE X a ta) (hb : PE X b tb) (hc : PE X c tc)
 (hm : lastMarks [op, op'] [b, c] = false := by with_unfolding_all rfl) : PT X (.Compare a [op, op'] [b, c] pos) (ZoN (ZlJ r r' ta tb tc)) := by
 intro pins s σ H Q I h
 refine isTrue_chain (thn (ha pins s σ H _ I h) fun v s1 ⟨x, H1, I1, r1, q1⟩ => test_link (thn (hb pins s1 σ H1 _ I1 q1) fun u s2 ⟨y, H2, I2, r2, q2⟩ =>
  thn (ho pins s2 σ H2 x y v u _ I2 r1 r2 q2) fun d s3 ⟨z, H3, I3, r3, k, e, q3⟩ => ?_)) hm
 subst e
 cases r3
 refine wpAny_truthy_bool ?_
 cases k with
 | false =>
   obtain ⟨k', e', q'⟩ := q3
   cases e'
   exact ite_ff ⟨H3, I3, q'⟩
 | true =>
   refine ite_tt (test_last (thn (hc pins s3 σ H3 _ I3 q3) fun w' s4 ⟨z', H4, I4, r4, q4⟩ => thn (ho' pins s4 σ H4 y z' u w' _ I4 r2 r4 q4) fun d' s5 ⟨z2, H5, I5, r5, k2, e2, q5⟩ => ?_))
   subst e2
   cases r5
   exact wpAny_truthy_bool ⟨H5, I5, q5⟩
def Zrw (K : W.Frag) (x : V) (H : Hp) (k : Bool) : Prop :=
 match x with
 | .non => k = false
 | .bl b => k = b
 | .int i => k = (i != 0)
 | .str y => y.length <= sizeLine /\ k = ((y.length : Int) != 0)
 | .byt y => y.size <= sizeLine /\ k = ((y.size : Int) != 0)
 | .ref p => (∃ xs, SqL K H p xs /\ k = !xs.isEmpty) \/ (∃ xs, SqT K H p xs /\ k = !xs.isEmpty) \/ ∃ kvs, H p = some (.dK kvs) /\ k = !kvs.isEmpty
 | _ => False
theorem Zk2 {κ : Type} {kvs : List (κ × V)} {vs : List (κ × Value)} (r : KV kvs vs) : (!vs.isEmpty) = !kvs.isEmpty := by
 cases r <;> rfl
theorem Zgq {xs : List V} {its : List Value} (r : Zcj xs its) : (!its.toArray.isEmpty) = !xs.isEmpty := by
 cases r <;> simp
theorem Zf8 : (sizeLine : Nat) < 2 ^ 63 := by rw [sizeLine_eq]; decide
theorem Zqw : Zsz X (fun x H Q => ∃ k, Zrw X.K x H k /\ Q k H) := by
 intro pins s σ H x v Q I rx h
 obtain ⟨k, e, q⟩ := h
 have hl := Zf8
 have hs : sizeLine = 16777216 := sizeLine_eq
 cases x with
 | non =>
   cases rx
   have e' : k = false := e
   subst e'
   exact truthy_none ⟨H, I, q⟩
 | bl b =>
   cases rx
   have e' : k = b := e
   subst e'
   exact wpAny_truthy_bool ⟨H, I, q⟩
 | int i =>
   obtain ⟨t, rfl⟩ := rx
   have e' : k = (i != 0) := e
   subst e'
   exact PySem.P.truthy_int ⟨H, I, q⟩
 | str y =>
   obtain ⟨t, rfl⟩ := rx
   obtain ⟨hy, e'⟩ : y.length <= sizeLine /\ k = ((y.length : Int) != 0) := e
   subst e'
   exact PySem.P.truthy_str (by omega) ⟨H, I.tok _, q⟩
 | byt y =>
   obtain ⟨t, rfl⟩ := rx
   obtain ⟨hy, e'⟩ : y.size <= sizeLine /\ k = ((y.size : Int) != 0) := e
   subst e'
   exact W.truthy_bytes (by omega) ⟨H, I.tok _, q⟩
 | ref p =>
   cases rx
   have e' : (∃ xs, SqL X.K H p xs /\ k = !xs.isEmpty) \/ (∃ xs, SqT X.K H p xs /\ k = !xs.isEmpty) \/ ∃ kvs, H p = some (.dK kvs) /\ k = !kvs.isEmpty := e
   rcases e' with ⟨xs, hx, e'⟩ | ⟨xs, hx, e'⟩ | ⟨kvs, hx, e'⟩
   ·subst e'
    obtain ⟨its, r, pl, hz⟩ := I.list hx
    have hlen := r.length
    exact wpAny_truthy_list pl.isList (by simp only [List.size_toArray]; omega) ⟨H, I.tok _, by rw [Zgq r]; exact q⟩
   ·subst e'
    obtain ⟨its, r, pl, hz⟩ := I.tuple hx
    have hlen := r.length
    exact truthy_tuple pl (by simp only [List.size_toArray]; omega) ⟨H, I.tok _, by rw [Zgq r]; exact q⟩
   ·subst e'
    obtain ⟨hz, hS, vs, r, m⟩ : kvs.length <= sizeLine /\ (p == sysModules) = false /\ ∃ vs, KV kvs vs /\ s.heap.DictOf (ZaZ X.prog X.w) p vs := I.hok p _ hx
    have hlen : kvs.length = vs.length := Paired.length r
    exact wpAny_truthy_dict hS m (by omega) ⟨H, I.tok _, by rw [Zk2 r]; exact q⟩
 | _ => exact (show False from e).elim
theorem Zjm (ha : PE X a ta) (he : ∀ whole, isTrue a X.env whole = (do let v <- whole; standAt a.pos; holding [v] (truthy v))) :
 PT X a (fun σ H Q => ta σ H fun x H' => ∃ k, Zrw X.K x H' k /\ Q k H') := by
 intro pins s σ H Q I h
 exact isTrue_plain (thn (ha pins s σ H _ I h) fun v s1 ⟨x, H1, I1, r1, q1⟩ => Zqw pins s1 σ H1 x v Q I1 r1 q1) (he _)
theorem Zic {x : V} {us : List Value} (r : Zcj [x] us) : ∃ u, us = [u] /\ Zbg x u := by
 cases r with
 | cons r1 r2 => cases r2; exact ⟨_, rfl, r1⟩
theorem Zpn {x y : V} {us : List Value} (r : Zcj [x, y] us) : ∃ u w', us = [u, w'] /\ Zbg x u /\ Zbg y w' := by
 cases r with
 | cons r1 r2 =>
   cases r2 with
   | cons r3 r4 => cases r4; exact ⟨_, _, rfl, r1, r3⟩
theorem Znm : ZdD X (.builtin "abs") (fun xs H Q => ∃ i, xs = [.int i] /\ Q (.int (if i < 0 then -i else i)) H) := by
 intro pins s σ H xs us Q I r h
 obtain ⟨i, rfl, q⟩ := h
 obtain ⟨u, rfl, t, rfl⟩ := Zic r
 exact call_abs_int fun u tk => ⟨.int (if i < 0 then -i else i), H, I.tok _, ⟨_, rfl⟩, q⟩
theorem Zlq (hc : X.calm = true) : ZdD X (.builtin "max") (fun xs H Q => ∃ i j, xs = [.int i, .int j] /\ Q (.int (if j > i then j else i)) H) := by
 intro pins s σ H xs us Q I r h
 obtain ⟨i, j, rfl, q⟩ := h
 obtain ⟨u, w', rfl, ⟨t, rfl⟩, ⟨t', rfl⟩⟩ := Zpn r
 refine max_two_ints (I.ok.hd hc) fun h' tk k => ⟨_, H, I.kept k, ?_, q⟩
 by_cases hj : j > i
 ·rw [if_pos hj, if_pos hj]; exact ⟨_, rfl⟩
 ·rw [if_neg hj, if_neg hj]; exact ⟨_, rfl⟩
theorem ZlK (hc : X.calm = true) : ZdD X (.builtin "min") (fun xs H Q => ∃ i j, xs = [.int i, .int j] /\ Q (.int (if j < i then j else i)) H) := by
 intro pins s σ H xs us Q I r h
 obtain ⟨i, j, rfl, q⟩ := h
 obtain ⟨u, w', rfl, ⟨t, rfl⟩, ⟨t', rfl⟩⟩ := Zpn r
 refine min_two_ints (I.ok.hd hc) fun h' tk k => ⟨_, H, I.kept k, ?_, q⟩
 by_cases hj : j < i
 ·rw [if_pos hj, if_pos hj]; exact ⟨_, rfl⟩
 ·rw [if_neg hj, if_neg hj]; exact ⟨_, rfl⟩
end
end L2
namespace L2
open PySem PySem.Spec PyProof.Rows
structure ObjM (h : Heap) (x dx C : Addr) (mA : Str -> Option Value) : Prop where
 obj : h.get? x = some (W.instObj C dx)
 ns : h.Ns1 dx mA
 ne : dx ≠ x
theorem ZkY {h : Heap} {dx : Addr} {mA : Str -> Option Value} (n : h.Ns1 dx mA) : ∃ od, h.get? dx = some od /\ ∀ name, W.lookIn name od = some (mA name) := by
 obtain ⟨o, es, ep, ho, hd, hk, _, hm⟩ := n
 refine ⟨o, ho, fun name => ?_⟩
 have e := hm name
 unfold nsFind findBy at e
 rw [<- Array.find?_toList] at e
 unfold W.lookIn
 rw [hd]
 dsimp only
 split
 ·rename_i y q
  rw [q] at e
  exact congrArg some e
 ·rename_i q
  rw [q] at e
  have a : es.toList.any (·.refKey) = false := by
   rw [List.any_eq_false]
   intro y hy
   obtain ⟨z, t, hkey⟩ := hk y (Array.mem_toList_iff.mp hy)
   simp [DictEntry.refKey, hkey]
  have a' : ¬ es.toList.any (·.refKey) = true := by rw [a]; exact Bool.false_ne_true
  rw [if_neg a']
  exact congrArg some e
theorem ObjM.look {h : Heap} {x dx C : Addr} {mA : Str -> Option Value} (I : ObjM h x dx C mA) : ∃ od, W.InstAt h x (W.instObj C dx) C (some od) /\ ∀ name, W.lookIn name od = some (mA name) :=
 let ⟨od, ho, hl⟩ := ZkY I.ns
 ⟨od, ⟨I.obj, rfl, rfl, ho⟩, hl⟩
section
variable {prog : Program} {w : World} {A : Around} {E : Value -> Shared -> Prop} {s : Shared} {K : W.Frag} {x dx C f : Addr} {mA : Str -> Option Value} {name : Str} {v : Value}
theorem Zpe {expr : Bool} {Q : Value -> Shared -> Prop} (X : K.In s.heap) (I : ObjM s.heap x dx C mA) (hg : W.plainGet K C name = true) (hh : W.hasDictIn K C = true)
 (ha : W.findIn K (.ref C) name = some none) (hv : mA name = some v) (hv' : W.handedIn v = true) (h : Q v { s with toks := s.toks + 1 }) :
 wpAny (model prog w) A (getAttr (.ref x) name expr) Q E s := by
 obtain ⟨od, J, hl⟩ := I.look
 exact W.get_value X J (W.plainGet_of hg).1 (W.findObj_own hh ha rfl (by rw [hl, hv])) hv' h
theorem Zny {pl : Sem Bool} {Q : Value × List Value -> Shared -> Prop} (X : K.In s.heap) (I : ObjM s.heap x dx C mA) (hg : W.plainGet K C name = true)
 (hf : W.findIn K (.ref C) name = some (some (.ref f))) (ht : W.isFn K (.ref f) = true) (hv : mA name = none) (h : Q (.ref f, [.ref x]) s) :
 wpAny (model prog w) A (getMethod (.ref x) name pl) Q E s := by
 obtain ⟨od, J, hl⟩ := I.look
 exact W.method_fn X J (W.plainGet_of hg).1 (W.plainGet_of hg).2 hf (beq_iff_eq.mp ht) (by show (W.lookIn name od).map (·.isSome) = some false; rw [hl, hv]; rfl) h
theorem Zp6 {ns : List Str} {Q : Unit -> Shared -> Prop} (X : K.In s.heap) (I : ObjM s.heap x dx C mA)
 (hs : W.findIn K (.ref C) "__setattr__" = some (some (.builtin "object.__setattr__"))) (hp : W.plainOver K C = true) (ht : W.takerIn K C name = some none) (hh : W.hasDictIn K C = true)
 (hw : PySem.Within mA ns) (hsz : ns.length <= sizeLine)
 (h : ∀ h', ObjM h' x dx C (fun y => if y = name then some v else mA y) -> Heap.SameBut dx s.heap h' -> Q () { s with heap := h', toks := s.toks + 2 }) :
 wpAny (model prog w) A (setAttr (.ref x) name v) Q E s := by
 obtain ⟨od, J, hl⟩ := I.look
 refine W.set_plain X J hs (W.osa_open (s := { s with toks := s.toks + 1 }) (r := none) X J hp ht fun b => ?_)
 obtain ⟨cd, hc, hd'⟩ := W.any_some hh
 have hx : s.heap.get? x = some ⟨.ref C, some dx, .plain, #[]⟩ := I.obj
 refine wpAny_bind (wpAny_pure (wpAny_bind (wpAny_bind (wpAny_loadPart hx (wpAny_bind (W.Looks.here (s := { s with toks := s.toks + 1 }) (W.looks_clsIn X hc) ?_))))))
 rw [hd']
 refine wpAny_pure (a := some dx) (wpAny_bind (wpAny_pure (wpAny_bind ?_)))
 refine wpAny_nsSet1 (s := { s with toks := s.toks + 1 }) I.ns fun h' hn2 hs2 => ?_
 obtain ⟨oD, esD, epD, hoD, hdD, hcD⟩ := hn2.count (PySem.Within.cons name v hw)
 refine wpAny_bind (wpAny_lookBehind hoD (by rw [hdD]; exact pastItsLine_dict (Nat.le_trans hcD (by rw [List.length_cons]; omega))) ?_)
 exact wpAny_pure (h _ ⟨(hs2.2 _ (Ne.symm I.ne)).trans I.obj, hn2, I.ne⟩ hs2)
theorem Znr {R : Result -> Shared -> Prop} {vs : List Value} {kw : List (Str × Value)} (X : K.In s.heap) (hm : W.makesIn K C = true)
 (hi : W.findIn K (.ref C) "__init__" = some (some (.ref f))) (hf : W.typeIn K (.ref f) = some (.type "function"))
 (h : codeAny (model prog w) (A.under (.builtin "type.__call__" ⟨.ref C :: vs, kw⟩)) (.call (.ref f) ⟨.ref (s.heap.objs.size + 1) :: vs, kw⟩) (W.InitBack (s.heap.objs.size + 1) R)
  { s with heap := (s.heap.push W.emptyDict).push (W.instObj C s.heap.objs.size) }) :
 codeAny (model prog w) A (.call (.ref C) ⟨vs, kw⟩) R s := by
 obtain ⟨hh, g, d, t, os⟩ := s
 exact W.make_core (W.makes_of X hm) (W.looks_findIn X hi) (fun self => W.bind_fn X self hf) (.inl rfl) h
end
def Ziq (f : Str) (v : V) : List (Str × V) -> List (Str × V)
 | [] => [(f, v)]
 | (g, x) :: r => if g = f then (g, v) :: r else (g, x) :: Ziq f v r
theorem Zfp (f g : Str) (v : V) : ∀ fs : List (Str × V), (Ziq f v fs).lookup g = if g = f then some v else fs.lookup g
 | [] => by
   show List.lookup g [(f, v)] = _
   by_cases h : g = f
   ·have hb : (g == f) = true := beq_iff_eq.mpr h
    simp only [List.lookup, hb, if_pos h]
   ·have hb : (g == f) = false := beq_eq_false_iff_ne.mpr h
    simp only [List.lookup, hb, if_neg h]
 | (k, x) :: r => by
   have ih := Zfp f g v r
   rw [show Ziq f v ((k, x) :: r) = (if k = f then (k, v) :: r else (k, x) :: Ziq f v r) from rfl]
   by_cases hk : k = f
   ·rw [if_pos hk]
    by_cases h : g = k
    ·have hb : (g == k) = true := beq_iff_eq.mpr h
     simp only [List.lookup, hb, if_pos (h.trans hk)]
    ·have hb : (g == k) = false := beq_eq_false_iff_ne.mpr h
     simp only [List.lookup, hb, if_neg (fun e : g = f => h (e.trans hk.symm))]
   ·rw [if_neg hk]
    by_cases h : g = k
    ·have hb : (g == k) = true := beq_iff_eq.mpr h
     simp only [List.lookup, hb, if_neg (fun e : g = f => hk (h.symm.trans e))]
    ·have hb : (g == k) = false := beq_eq_false_iff_ne.mpr h
     simp only [List.lookup, hb]
     exact ih
theorem ZfG (f : Str) (v : V) : ∀ fs : List (Str × V), f ∈ (Ziq f v fs).map (·.1) /\ ∀ g, g ∈ fs.map (·.1) -> g ∈ (Ziq f v fs).map (·.1)
 | [] => ⟨by simp [Ziq], fun g h => by simp at h⟩
 | (k, x) :: r => by
   obtain ⟨i1, i2⟩ := ZfG f v r
   rw [show Ziq f v ((k, x) :: r) = (if k = f then (k, v) :: r else (k, x) :: Ziq f v r) from rfl]
   by_cases hk : k = f
   ·rw [if_pos hk]
    subst hk
    exact ⟨by simp, fun g h => by simpa using h⟩
   ·rw [if_neg hk]
    refine ⟨?_, fun g h => ?_⟩
    ·rw [List.map_cons]
     exact List.mem_cons_of_mem _ i1
    ·rw [List.map_cons] at h ⊢
     rcases List.mem_cons.mp h with e | e
     ·exact List.mem_cons.mpr (.inl e)
     ·exact List.mem_cons_of_mem _ (i2 g e)
theorem Zfx (f : Str) (v : V) : ∀ fs : List (Str × V), (Ziq f v fs).length <= fs.length + 1
 | [] => by simp [Ziq]
 | (k, x) :: r => by
   have ih := Zfx f v r
   rw [show Ziq f v ((k, x) :: r) = (if k = f then (k, v) :: r else (k, x) :: Ziq f v r) from rfl]
   by_cases hk : k = f
   ·rw [if_pos hk, List.length_cons, List.length_cons]; omega
   ·rw [if_neg hk, List.length_cons, List.length_cons]; omega
theorem ZfN.some_of {v : V} {o : Option Value} (r : ZfN (some v) o) : ∃ u, o = some u /\ Zbg v u := by
 cases o with
 | none => exact (show False from r).elim
 | some u => exact ⟨u, rfl, r⟩
theorem ZfN.none_of {o : Option Value} (r : ZfN none o) : o = none := by
 cases o with
 | none => rfl
 | some u => exact (show False from r).elim
theorem Zmr {v : V} {u : Value} (r : Zbg v u) : W.handedIn u = true := by
 cases v with
 | non => cases (show u = Value.none from r); rfl
 | bl b => cases (show u = Value.bool b from r); rfl
 | int i => obtain ⟨t, e⟩ := (show ∃ t, u = Value.int i t from r); cases e; rfl
 | str x => obtain ⟨t, e⟩ := (show ∃ t, u = Value.str x t from r); cases e; rfl
 | byt b => obtain ⟨t, e⟩ := (show ∃ t, u = Value.bytes b t from r); cases e; rfl
 | flt b => obtain ⟨t, e⟩ := (show ∃ t, u = Value.float b t from r); cases e; rfl
 | ref a => cases (show u = Value.ref a from r); rfl
 | ty n => cases (show u = Value.type n from r); rfl
section
variable {P : Program} {w : World} {H H' : Hp} {h h' : Heap} {a C dx : Addr} {fs fs' : List (Str × V)}
theorem Zis (hok : HOk P w H h) (e : H a = some (.ins C dx fs)) : ∃ mA, ObjM h a dx C mA /\ (∀ f, ZfN (fs.lookup f) (mA f)) /\ PySem.Within mA (fs.map (·.1)) /\ fs.length <= 1000 /\ H dx = some (.own a) := by
 obtain ⟨d, z, ne, ob, mA, n, r, q⟩ := (show ZcE P w H h a (.ins C dx fs) from hok a _ e)
 exact ⟨mA, ⟨ob, n, ne⟩, r, q, z, d⟩
end
structure Cls (K : W.Frag) (C : Addr) : Prop where
 pg : W.plainGet K C Str.empty = true
 hd : W.hasDictIn K C = true
 po : W.plainOver K C = true
 sa : W.findIn K (.ref C) "__setattr__" = some (some (.builtin "object.__setattr__"))
theorem Cls.get {K : W.Frag} {C : Addr} (c : Cls K C) (f : Str) : W.plainGet K C f = true := c.pg
def Zed (K : W.Frag) (C : Addr) (f : Str) : Prop := W.findIn K (.ref C) f = some none
theorem Zed.taker {K : W.Frag} {C : Addr} {f : Str} (n : Zed K C f) : W.takerIn K C f = some none := by
 unfold W.takerIn
 rw [show W.findIn K (.ref C) f = some none from n]
 rfl
structure Meth (K : W.Frag) (C : Addr) (m : Str) (f : Addr) : Prop where
 at_ : W.findIn K (.ref C) m = some (some (.ref f))
 fn : W.isFn K (.ref f) = true
 kp : W.keepIn K (.ref f) = true
section
variable {X : Cx} {pins : List (Addr × Obj)} {σ : St} {H : Hp} {s : Shared} {a C dx : Addr} {fs : List (Str × V)} {f : Str} {v : V} {A : Around} {E : Value -> Shared -> Prop}
theorem Zku {b : Bool} {Q : Value -> Shared -> Prop} (I : Inv X pins σ H s) (e : H a = some (.ins C dx fs)) (c : Cls X.K C) (n : Zed X.K C f) (l : fs.lookup f = some v)
 (h : ∀ u s', Inv X pins σ H s' -> Zbg v u -> Q u s') : wpAny (model X.prog X.w) A (getAttr (.ref a) f b) Q E s := by
 obtain ⟨mA, O, r, _, _, _⟩ := Zis I.hok e
 obtain ⟨u, hu, ru⟩ := ZfN.some_of (v := v) (o := mA f) (by rw [<- l]; exact r f)
 exact Zpe I.kIn O (c.get f) c.hd n hu (Zmr ru) (h u _ (I.tok _) ru)
theorem ZjZ {m : Str} {g : Addr} {pl : Sem Bool} {Q : Value × List Value -> Shared -> Prop} (I : Inv X pins σ H s) (e : H a = some (.ins C dx fs)) (c : Cls X.K C) (k : Meth X.K C m g) (l : fs.lookup m = none)
 (h : Q (.ref g, [.ref a]) s) : wpAny (model X.prog X.w) A (getMethod (.ref a) m pl) Q E s := by
 obtain ⟨mA, O, r, _, _, _⟩ := Zis I.hok e
 have hn : mA m = none := ZfN.none_of (by rw [<- l]; exact r m)
 exact Zny I.kIn O (c.get m) k.at_ k.fn hn h
theorem Zk9 {y : V} {u : Value} {Q : Unit -> Shared -> Prop} (I : Inv X pins σ H s) (e : H a = some (.ins C dx fs)) (c : Cls X.K C) (n : Zed X.K C f) (hl : fs.length < 1000) (ry : Zbg y u)
 (h : ∀ s', Inv X pins σ (upd H a (.ins C dx (Ziq f y fs))) s' -> Q () s') : wpAny (model X.prog X.w) A (setAttr (.ref a) f u) Q E s := by
 obtain ⟨mA, O, r, wi, _, ho⟩ := Zis I.hok e
 have hz : (fs.map (·.1)).length <= sizeLine := by rw [List.length_map, sizeLine_eq]; omega
 refine Zp6 I.kIn O c.sa c.po n.taker c.hd wi hz fun h' O' sb => h _ ?_
 have hd : ∃ o, h'.get? dx = some o := let ⟨o, _, _, e', _⟩ := O'.ns; ⟨o, e'⟩
 refine I.write (x := a) (e := dx) (by rw [e]; exact True.intro) (.inr ho) (fun b q hb z => (sb.2 b hb).trans z) hd ?_
 refine ⟨by rw [Zag O.ne]; exact ho, ?_, O.ne, O'.obj, _, O'.ns, fun g => ?_, fun g hg => ?_⟩
 ·have := Zfx f y fs; omega
 ·show ZfN ((Ziq f y fs).lookup g) (if g = f then some u else mA g)
  rw [Zfp]
  by_cases q : g = f
  ·rw [if_pos q, if_pos q]; exact ry
  ·rw [if_neg q, if_neg q]; exact r g
 ·by_cases q : g = f
  ·rw [q]; exact (ZfG f y fs).1
  ·refine (ZfG f y fs).2 g (wi g fun z => hg ?_)
   show (if g = f then some u else mA g) = none
   rw [if_neg q]; exact z
theorem Inv.made (I : Inv X pins σ H s) : Inv X pins σ (upd (upd H s.heap.objs.size (.own (s.heap.objs.size + 1))) (s.heap.objs.size + 1) (.ins C s.heap.objs.size []))
 { s with heap := (s.heap.push W.emptyDict).push (W.instObj C s.heap.objs.size) } := by
 have e1 : (s.heap.push W.emptyDict).get? s.heap.objs.size = some W.emptyDict := Heap.get?_push_size s.heap rfl
 have e2 : ((s.heap.push W.emptyDict).push (W.instObj C s.heap.objs.size)).get? (s.heap.objs.size + 1) = some (W.instObj C s.heap.objs.size) := by
  have := Heap.get?_push_size (s.heap.push W.emptyDict) (o := W.instObj C s.heap.objs.size) rfl
  rwa [Heap.size_push] at this
 have e3 : (s.heap.push W.emptyDict).Ns s.heap.objs.size (fun _ => none) := ⟨W.emptyDict, #[], _, e1, rfl, (fun e he => absurd he (by simp)), fun _ => rfl⟩
 have I1 := I.laid (a := s.heap.objs.size) (o := .own (s.heap.objs.size + 1)) (h' := s.heap.push W.emptyDict) (t' := s.toks) (fun b u q => Heap.get?_push_of_some _ q) (Nat.le_refl _) ⟨_, e1⟩
 refine I1.laid (a := s.heap.objs.size + 1) (o := .ins C s.heap.objs.size []) (t' := s.toks) (fun b u q => Heap.get?_push_of_some _ q) (Nat.le_of_eq (Heap.size_push _ _)) ?_
 have ne : s.heap.objs.size ≠ s.heap.objs.size + 1 := Nat.ne_of_lt (Nat.lt_succ_self _)
 refine ⟨by rw [Zag ne, Zak], Nat.zero_le _, ne, e2, fun _ => none, (Heap.Ns1.of_empty e3).at fun o q => Heap.get?_push_of_some _ q, fun _ => True.intro, fun y hy => absurd rfl hy⟩
theorem ZpM {prog : Program} {w : World} {env : Env} {e : Expr} {f : Str} {pos : Pos} {s : Shared} {Q : Value -> Shared -> Prop} (hb : attributeBase e f env (eval e env) = eval e env)
 (h : wpAny (model prog w) A (eval e env) (fun o s₁ => wpAny (model prog w) A (getAttr o f true) Q E s₁) E s) : wpAny (model prog w) A (eval (.Attribute e f pos) env) Q E s :=
 Attribute_any_ h (by rw [arm_eval_Attribute, hb])
end
def Zlj (K : W.Frag) (ta : TE) (f : Str) : TE := fun σ H Q => ta σ H fun x H1 => ∃ a C dx fs v, x = .ref a /\ H1 a = some (.ins C dx fs) /\ Cls K C /\ Zed K C f /\ fs.lookup f = some v /\ Q v H1
def Zsw (K : W.Frag) (ta tv : TE) (f : Str) : TS := fun D σ H => tv σ H fun y H1 => ta σ H1 fun x H2 => ∃ a C dx fs, x = .ref a /\ H2 a = some (.ins C dx fs) /\ Cls K C /\ Zed K C f /\ fs.length < 1000 /\
 D.nx σ (upd H2 a (.ins C dx (Ziq f y fs)))
section
variable {X : Cx} {o e value : Expr} {f : Str} {pos pos' tpos : Pos} {ta tv : TE}
theorem ZcU (he : PE X e ta) (hb : attributeBase e f X.env (eval e X.env) = eval e X.env) : PE X (.Attribute e f pos) (Zlj X.K ta f) := by
 intro pins s σ H Q I h
 refine ZpM hb (thn (he pins s σ H _ I h) fun u s1 ⟨x, H1, I1, rx, a, C, dx, fs, v, ex, ea, c, n, l, q⟩ => ?_)
 subst ex
 obtain rfl : u = Value.ref a := rx
 exact Zku I1 ea c n l fun u' s2 I2 ru => ⟨v, H1, I2, ru, q⟩
theorem ZjG (ha : PE X o ta) (hv : PE X value tv) (hs : swapsWith value (some (.Attribute o f pos')) pos.line X.env = pure false) : PS X (.Assign [.Attribute o f pos'] value pos) (Zsw X.K ta tv f) := by
 intro pins s σ H D I h
 refine plainObj_wpAny_Assign_Attribute (thn (hv pins s σ H _ I h) fun u s1 ⟨y, H1, I1, ry, q⟩ => thn (ha pins s1 σ H1 _ I1 q) fun ov s2 ⟨x, H2, I2, rx, a, C, dx, fs, ex, ea, c, n, l, q2⟩ => ?_) hs
 subst ex
 obtain rfl : ov = Value.ref a := rx
 exact Zk9 I2 ea c n l ry fun s3 I3 => ⟨σ, _, I3, q2⟩
end
section
variable {X : Cx} {pins : List (Addr × Obj)} {σ : St} {H : Hp} {s : Shared} {A : Around} {E : Value -> Shared -> Prop} {Q : Value -> Shared -> Prop} {c : Value} {b : Bool}
end
end L2
namespace L2
open PySem PySem.Spec PyProof.Rows
structure Room (k : Nat) (A : Around) : Prop where
 hd : A.handled = none
 dp : A.depth + 3 * k + 5 < recursionLimit
 un : A.units + 16 * k + 200 < cLine
theorem Room.mono {j k : Nat} {A : Around} (r : Room k A) (h : j <= k) : Room j A := ⟨r.hd, by have := r.dp; omega, by have := r.un; omega⟩
theorem Room.deeper {k : Nat} {A : Around} (r : Room (k + 1) A) (env : Env) : Room k (A.deeper env) :=
 ⟨r.hd, by have := r.dp; show A.depth + 1 + 3 * k + 5 < _; omega, by have := r.un; show A.units + 3 + 16 * k + 200 < _; omega⟩
theorem ZjV {A : Around} {C : Addr} {us : List Value} {kw : List (Str × Value)} : (A.under (.builtin "type.__call__" ⟨.ref C :: us, kw⟩)).depth = A.depth + 1 := by
 first | rfl | simp [Around.under, Code.weight, Code.isCreation, Code.isGuard, Code.isCaller, Code.frames, Code.isFrame, guardIds]
theorem ZjO {A : Around} {C : Addr} {us : List Value} {kw : List (Str × Value)} : (A.under (.builtin "type.__call__" ⟨.ref C :: us, kw⟩)).units = A.units + 1 := by
 first | rfl | simp [Around.under, Code.cUnits, Code.frames, Code.isFrame]
theorem Room.make {k : Nat} {A : Around} (r : Room (k + 1) A) (C : Addr) (us : List Value) (kw : List (Str × Value)) : Room k (A.under (.builtin "type.__call__" ⟨.ref C :: us, kw⟩)) :=
 ⟨r.hd, by have := r.dp; rw [ZjV]; omega, by have := r.un; rw [ZjO]; omega⟩
theorem Room.depth {k : Nat} {A : Around} (r : Room k A) : A.depth < recursionLimit := by have := r.dp; omega
theorem Room.units {k : Nat} {A : Around} (r : Room k A) : A.units + 64 < cLine := by have := r.un; omega
def ZdF : TA := fun _ H Q => Q [] H
def Zbd (ta : TE) (tr : TA) : TA := fun σ H Q => ta σ H fun x H1 => tr σ H1 fun xs H2 => Q (x :: xs) H2
section
variable {X : Cx} {e : Expr} {es : List Expr} {te : TE} {t : TA} {pos : Pos}
theorem Zae : PA X [] ZdF := fun _ _ _ _ H Q I h => Calls.spliced_nil ⟨[], H, I, .nil, h⟩
theorem Zaa (ha : PE X e te) (hr : PA X es t) (hs : starEach (e :: es) X.env = (false, eval e X.env) :: starEach es X.env := by rfl) : PA X (e :: es) (Zbd te t) := by
 intro pos pins s σ H Q I h
 rw [hs]
 show wpAny _ _ (spliced ((false, eval e X.env) :: backTo pos (starEach es X.env))) _ _ s
 refine Calls.spliced_cons (thn (ha pins s σ H _ I h) fun u s1 ⟨x, H1, I1, r1, q1⟩ => ?_)
 exact thn (hr pos pins s1 σ H1 _ I1 q1) fun us s2 ⟨xs, H2, I2, r2, q2⟩ => ⟨x :: xs, H2, I2, .cons r1 r2, q2⟩
def ZrW (t : TA) : TE := fun σ H Q => t σ H fun xs H1 => xs.length <= sizeLine /\ ∀ p, H1 p = none -> Q (.ref p) (upd H1 p (.tup xs))
def Zro (t : TA) : TE := fun σ H Q => t σ H fun xs H1 => xs.length <= sizeLine /\ ∀ p, H1 p = none -> Q (.ref p) (upd H1 p (.lst xs))
theorem Zcy {x1} (h : PA X es t) : PE X (.Tuple es x1 pos) (ZrW t) := by
 intro pins s σ H Q I hq
 refine wpAny_Tuple_spliced (thn (h pos pins s σ H _ I hq) fun us s1 ⟨xs, H1, I1, r, z, q⟩ => ⟨by rw [<- r.length]; exact z, ?_⟩)
 have hf : H1 s1.heap.objs.size = none := I1.hok.fresh (Nat.le_refl _)
 refine ⟨.ref s1.heap.objs.size, upd H1 s1.heap.objs.size (.tup xs), I1.laid (t' := s1.toks) (fun b u e => Heap.get?_push_of_some _ e) (Nat.le_refl _) ?_, rfl, q _ hf⟩
 exact ⟨z, us, r, ⟨_, Heap.get?_push_size _ rfl, rfl, _, rfl⟩⟩
theorem Zct (h : PA X es t) : PE X (.List es pos) (Zro t) := by
 intro pins s σ H Q I hq
 refine wpAny_List_spliced (thn (h pos pins s σ H _ I hq) fun us s1 ⟨xs, H1, I1, r, z, q⟩ => ⟨by rw [<- r.length]; exact z, ?_⟩)
 have hf : H1 s1.heap.objs.size = none := I1.hok.fresh (Nat.le_refl _)
 refine ⟨.ref s1.heap.objs.size, upd H1 s1.heap.objs.size (.lst xs), I1.laid (t' := s1.toks) (fun b u e => Heap.get?_push_of_some _ e) (Nat.le_refl _) ?_, rfl, q _ hf⟩
 exact ⟨z, us, 0, r, Heap.get?_push_size _ rfl⟩
end
abbrev Sp := List V -> Hp -> VK -> XK -> Prop
abbrev CXT := List Env -> Hp -> Shared -> XK -> Value -> Shared -> Prop
structure Env0 (P : Program) (w : World) (K : W.Frag) (mg : Str -> Option Value) (base : Heap) (A : Around) (outer : List Env) (s : Shared) (H : Hp) : Prop where
 frames : A.frames = some outer
 mod : Mod K mg base
 bs : ∀ b o, base.get? b = some o -> s.heap.get? b = some o /\ (H b = none \/ ∃ xs, H b = some (.tup xs))
 bsz : base.objs.size <= s.heap.objs.size
 funs : s.heap.FunFrames base outer
 frf : ∀ b ∈ frs outer, H b = none
 hok : HOk P w H s.heap
 bare : AllBare s.gens
def CE (outer : List Env) (P : Program) (w : World) (H : Hp) (s : Shared) (Q : VK) (u : Value) (s' : Shared) : Prop :=
 ∃ v H', s'.os = s.os /\ AllBare s'.gens /\ Un (frs outer) [] H H' s.heap s'.heap /\ HOk P w H' s'.heap /\ Zbg v u /\ Q v H'
def CR (CX : CXT) (outer : List Env) (P : Program) (w : World) (H : Hp) (s : Shared) (Q : VK) (E : XK) (r : Result) (s' : Shared) : Prop :=
 match r with
 | .ok (.ret u) => CE outer P w H s Q u s'
 | .ok _ => False
 | .error e => CX outer H s E e s'
structure FnOk (P : Program) (w : World) (K : W.Frag) (mg : Str -> Option Value) (base : Heap) (CX : CXT) (k : Nat) (f : Addr) (fd : FuncData) (ps : List Str) (sp : Sp) : Prop where
 len : ∀ vs H Q E, sp vs H Q E -> vs.length = ps.length
 run : ∀ (A : Around) (outer : List Env) (s : Shared) (H : Hp) (args : Args) (us : List Value) (vs : List V) (Q : VK) (E : XK), Room k A -> Env0 P w K mg base A outer s H -> BindsTo s fd args (ps.zip us) -> Zcj vs us -> sp vs H Q E ->
  codeAny (model P w) A (.call (.ref f) args) (CR CX outer P w H s Q E) s
theorem Env0.make {P : Program} {w : World} {K : W.Frag} {mg : Str -> Option Value} {base : Heap} {A : Around} {outer : List Env} {s : Shared} {H : Hp} (e : Env0 P w K mg base A outer s H) (C : Addr) (us : List Value) (kw : List (Str × Value)) :
 Env0 P w K mg base (A.under (.builtin "type.__call__" ⟨.ref C :: us, kw⟩)) outer s H := ⟨by first | exact e.frames | (simpa [Around.under, Code.envs, Code.isFrame, pushEnvs] using e.frames), e.mod, e.bs, e.bsz, e.funs, e.frf, e.hok, e.bare⟩
section
variable {X : Cx} {pins : List (Addr × Obj)} {σ : St} {H : Hp} {s s' : Shared}
theorem Inv.env0 (I : Inv X pins σ H s) : Env0 X.prog X.w X.K X.mg X.base X.A X.stack s H :=
 ⟨I.ok.frames, I.ok.mod, I.bs, Nat.le_trans I.ok.bsz I.sz, I.stack, I.stkFree, I.hok, I.bare⟩
theorem Inv.after {Q : VK} {u : Value} (I : Inv X pins σ H s) (h : CE X.stack X.prog X.w H s Q u s') : EP X pins σ Q u s' := by
 obtain ⟨v, H', os, bare, un, hok, r, q⟩ := h
 obtain ⟨hh, g, d, t, os'⟩ := s'
 obtain rfl : os' = s.os := os
 exact ⟨v, H', I.call (h' := hh) (g' := g) (d' := d) (t' := t) (ch := []) un hok bare (fun b z => absurd z (by simp)), r, q⟩
end
def ZhP (sp : Sp) (dvs : List V) (E : XK) (t : TA) : TE := fun σ H Q => t σ H fun vs H1 => sp (vs ++ dvs) H1 Q E
def Zki (C : Addr) (m : Str) (sp : Sp) (dvs : List V) (E : XK) (ta : TE) (t : TA) : TE := fun σ H Q => ta σ H fun x H1 => ∃ a dx fs, x = .ref a /\ H1 a = some (.ins C dx fs) /\ fs.lookup m = none /\
 t σ H1 fun vs H2 => sp (x :: (vs ++ dvs)) H2 Q E
def ZoP (C : Addr) (sp : Sp) (dvs : List V) (E : XK) (t : TA) : TE := fun σ H Q => t σ H fun vs H1 => ∀ x dx, H1 x = none -> H1 dx = none -> dx ≠ x ->
 sp (.ref x :: (vs ++ dvs)) (upd (upd H1 dx (.own x)) x (.ins C dx [])) (fun v H2 => v = .non /\ Q (.ref x) H2) E
def ZeK (K : W.Frag) (fd : FuncData) (ps : List Str) (ds : List Value) : Prop :=
 ∀ (s : Shared) (us : List Value), K.In s.heap -> (us ++ ds).length = ps.length -> BindsTo s fd ⟨us, []⟩ (ps.zip (us ++ ds))
theorem ZeK.all {K : W.Frag} {fd : FuncData} {ps : List Str} (h : ∀ us : List Value, us.length = ps.length -> bindArgs fd ⟨us, []⟩ = pure (ps.zip us)) : ZeK K fd ps [] := fun s us _ hl => by
 rw [List.append_nil] at hl ⊢
 exact .of_eq (h us hl)
def Zgj (CX : CXT) (X : Cx) (E : XK) : Prop := ∀ (pins : List (Addr × Obj)) (σ : St) (H : Hp) (s : Shared) (e : Value) (s' : Shared), Inv X pins σ H s -> CX X.stack H s E e s' -> X.xe e s'
section
variable {X : Cx} {CX : CXT} {k : Nat} {f C : Addr} {fd : FuncData} {ps : List Str} {sp : Sp} {dvs : List V} {ds : List Value} {E : XK} {x m : Str} {p pos apos : Pos} {e o : Expr} {es : List Expr} {ta : TE} {t : TA}
theorem ZnR {pins : List (Addr × Obj)} {σ : St} {H : Hp} {s : Shared} {Q : VK} {us : List Value} {vs : List V} (F : FnOk X.prog X.w X.K X.mg X.base CX k f fd ps sp) (hr : Room k X.A) (hb : ZeK X.K fd ps ds) (hd : Zcj dvs ds) (hx : Zgj CX X E)
 (I : Inv X pins σ H s) (r : Zcj vs us) (h : sp (vs ++ dvs) H Q E) : wpAny (model X.prog X.w) X.A (call (.ref f) us) (EP X pins σ Q) X.xe s := by
 have r2 : Zcj (vs ++ dvs) (us ++ ds) := r.append hd
 have hl : (us ++ ds).length = ps.length := by rw [<- r2.length]; exact F.len _ _ _ _ h
 refine wpAny_call (codeAny_mono (F.run X.A X.stack s H ⟨us, []⟩ (us ++ ds) (vs ++ dvs) Q E hr I.env0 (hb s us I.kIn hl) r2 h) fun r s' hq => ?_)
 cases r with
 | error e => exact hx pins σ H s e s' I hq
 | ok fl =>
   cases fl with
   | ret u => exact I.after hq
   | next => exact False.elim hq
   | brk => exact False.elim hq
   | cont => exact False.elim hq
theorem ZoX (F : FnOk X.prog X.w X.K X.mg X.base CX k f fd ps sp) (hr : Room k X.A) (hg : Gl X x) (hm : X.mg x = some (.ref f)) (hk : W.keepIn X.K (.ref f) = true) (hb : ZeK X.K fd ps ds) (hd : Zcj dvs ds) (hx : Zgj CX X E)
 (ha : PA X (e :: es) t) (hdb : (x == ("__debug__" : Str)) = false := by decide) (he : starEach (e :: es) X.env = (false, eval e X.env) :: starEach es X.env := by rfl) (hpl : (backTo pos (starEach es X.env)).any (·.1) = false := by rfl) :
 PE X (.Call (.Name x p) (e :: es) [] pos) (ZhP sp dvs E t) := by
 intro pins s σ H Q I h
 refine wpAny_Call_Name_kw (Zit I hg hm ?_ hdb)
 refine W.callWith_K (h₀ := X.base) I.ok.mod.kin hk (thn (ha pos pins s σ H _ I h) fun us s1 ⟨vs, H1, I1, r, q⟩ => ⟨I1.kIn, ?_⟩) he hpl
 exact ZnR F hr hb hd hx I1 r q
theorem Zo1 {pl : Sem Bool} (he : PE X o ta) (c : Cls X.K C) (hm : Meth X.K C m f) (F : FnOk X.prog X.w X.K X.mg X.base CX k f fd ps sp) (hr : Room k X.A) (hb : ZeK X.K fd ps ds) (hd : Zcj dvs ds) (hx : Zgj CX X E) (ha : PA X (e :: es) t)
 (hst : starEach (e :: es) X.env = (false, eval e X.env) :: starEach es X.env := by rfl) (hpl : (backTo pos (starEach es X.env)).any (·.1) = false := by rfl)
 (ht : eval (.Call (.Attribute o m apos) (e :: es) [] pos) X.env = (do
  let ov <- eval o X.env
  standAt apos.atName
  let (f, first) <- holding [ov] (getMethod ov m pl)
  callWith pos f first (backTo pos (starEach (e :: es) X.env)) (backToKw pos (keywordEach [] X.env))) := by rfl) :
 PE X (.Call (.Attribute o m apos) (e :: es) [] pos) (Zki C m sp dvs E ta t) := by
 intro pins s σ H Q I h
 refine W.methodCall_KW (pl := pl) (thn (he pins s σ H _ I h) fun u s1 ⟨x, H1, I1, rx, a, dx, fs, ex, ea, l, q⟩ => ?_) ht
 subst ex
 obtain rfl : u = Value.ref a := rx
 refine ZjZ I1 ea c hm l ?_
 refine W.callWith_K (first := [.ref a]) (h₀ := X.base) I.ok.mod.kin hm.kp (thn (ha pos pins s1 σ H1 _ I1 q) fun us s2 ⟨vs, H2, I2, r, q2⟩ => ⟨I2.kIn, ?_⟩) hst hpl
 exact ZnR (us := .ref a :: us) (vs := .ref a :: vs) F hr hb hd hx I2 (.cons rfl r) q2
structure Mk (K : W.Frag) (C f : Addr) : Prop where
 makes : W.makesIn K C = true
 init : W.findIn K (.ref C) "__init__" = some (some (.ref f))
 fn : W.isFn K (.ref f) = true
 kp : W.keepIn K (.ref C) = true
theorem ZmJ {pins : List (Addr × Obj)} {σ : St} {H : Hp} {s : Shared} {Q : VK} {us : List Value} {vs : List V} (M : Mk X.K C f) (F : FnOk X.prog X.w X.K X.mg X.base CX k f fd ps sp) (hr : Room (k + 1) X.A) (hb : ZeK X.K fd ps ds) (hd : Zcj dvs ds)
 (hx : Zgj CX X E) (I : Inv X pins σ H s) (r : Zcj vs us)
 (h : ∀ x dx, H x = none -> H dx = none -> dx ≠ x -> sp (.ref x :: (vs ++ dvs)) (upd (upd H dx (.own x)) x (.ins C dx [])) (fun v H2 => v = .non /\ Q (.ref x) H2) E) :
 wpAny (model X.prog X.w) X.A (call (.ref C) us) (EP X pins σ Q) X.xe s := by
 have hq := h (s.heap.objs.size + 1) s.heap.objs.size (I.hok.fresh (Nat.le_succ _)) (I.hok.fresh (Nat.le_refl _)) (Nat.ne_of_lt (Nat.lt_succ_self _))
 have I2 := Inv.made (C := C) I
 have r2 : Zcj (V.ref (s.heap.objs.size + 1) :: (vs ++ dvs)) (Value.ref (s.heap.objs.size + 1) :: (us ++ ds)) := .cons rfl (r.append hd)
 have hl : (Value.ref (s.heap.objs.size + 1) :: us ++ ds).length = ps.length := by
  have e := r2.length
  rw [F.len _ _ _ _ hq] at e
  exact e.symm
 refine wpAny_call (Znr (f := f) I.kIn M.makes M.init (beq_iff_eq.mp M.fn) (codeAny_mono (F.run _ X.stack _ _ ⟨Value.ref (s.heap.objs.size + 1) :: us, []⟩ (Value.ref (s.heap.objs.size + 1) :: (us ++ ds)) _ _ E (hr.make C us [])
  (I2.env0.make C us []) (hb _ (Value.ref (s.heap.objs.size + 1) :: us) I2.kIn hl) r2 hq) fun r s' hq' => ?_))
 cases r with
 | error e => exact hx pins σ _ _ e s' I2 hq'
 | ok fl =>
   cases fl with
   | ret u =>
     obtain ⟨v, H', I3, rv, ev, q3⟩ := I2.after hq'
     subst ev
     exact ⟨rv, ⟨V.ref (s.heap.objs.size + 1), H', I3, rfl, q3⟩⟩
   | next => exact False.elim hq'
   | brk => exact False.elim hq'
   | cont => exact False.elim hq'
theorem Znf (M : Mk X.K C f) (F : FnOk X.prog X.w X.K X.mg X.base CX k f fd ps sp) (hr : Room (k + 1) X.A) (hg : Gl X x) (hm : X.mg x = some (.ref C)) (hb : ZeK X.K fd ps ds) (hd : Zcj dvs ds) (hx : Zgj CX X E)
 (hdb : (x == ("__debug__" : Str)) = false := by decide) : PE X (.Call (.Name x p) [] [] pos) (ZoP C sp dvs E ZdF) := by
 intro pins s σ H Q I h
 refine wpAny_Call_Name_kw (Zit I hg hm ?_ hdb)
 exact W.callWith_K0 I.kIn M.kp (ZmJ (us := []) M F hr hb hd hx I .nil h)
end
section
variable {X : Cx} {CX : CXT} {k : Nat} {f C : Addr} {fd : FuncData} {ps ks : List Str} {sp : Sp} {E : XK} {x m : Str} {p pos apos kpos : Pos} {e o : Expr} {es : List Expr} {kws : List Keyword} {te ta : TE} {t tk : TA} {nm : Option Str}
variable {g : List Value -> List Value -> List Value} {gV : List V -> List V -> List V}
end
structure FnScope (N P : List Str) (sc : Scope) : Prop where
 kind : sc.kind = .function
 co : sc.isCoroutine = false
 gen : sc.isGenerator = false
 nd : N.Nodup
 pre : N.take P.length = P
 par : ∀ x ∈ P, sc.names.lookup x = some .local \/ sc.names.lookup x = some .cell
 nofree : ∀ y ∈ sc.names, y.2 ≠ .free
theorem Zie {kindOf : Str -> Option NameKind} {x : Str} : ∀ {binds : List (Str × Value)} {m : Str -> Option Value}, (∀ v, (x, v) ∉ binds) -> bindL kindOf binds m x = m x
 | [], _, _ => rfl
 | (n, v) :: r, m, h => by
   unfold bindL
   rw [Zie fun w hw => h w (List.mem_cons_of_mem _ hw)]
   split
   ·have : x ≠ n := by rintro rfl; exact h v List.mem_cons_self
    simp [this]
   ·rfl
theorem Zhp {kindOf : Str -> Option NameKind} {x : Str} : ∀ {binds : List (Str × Value)} {m : Str -> Option Value}, (∀ v, (x, v) ∉ binds) -> bindC kindOf binds m x = m x
 | [], _, _ => rfl
 | (n, v) :: r, m, h => by
   unfold bindC
   rw [Zhp fun w hw => h w (List.mem_cons_of_mem _ hw)]
   split
   ·rfl
   ·have : x ≠ n := by rintro rfl; exact h v List.mem_cons_self
    simp [this]
theorem ZhM {kindOf : Str -> Option NameKind} {x : Str} {v : Value} : ∀ {P : List Str} {vs : List Value} {i : Nat} {m : Str -> Option Value}, P.Nodup -> P[i]? = some x -> vs[i]? = some v -> kindOf x = some .local ->
 bindL kindOf (P.zip vs) m x = some v
 | [], _, _, _, _, h, _, _ => by simp at h
 | _ :: _, [], _, _, _, _, h, _ => by simp at h
 | p :: P, w :: vs, 0, m, nd, h1, h2, hk => by
   simp at h1 h2; subst h1; subst h2
   show bindL kindOf ((p, w) :: P.zip vs) m p = _
   unfold bindL
   rw [Zie fun v hv => (List.nodup_cons.mp nd).1 (List.of_mem_zip hv).1, if_pos hk]
   simp
 | p :: P, w :: vs, i + 1, m, nd, h1, h2, hk => by
   show bindL kindOf ((p, w) :: P.zip vs) m x = _
   unfold bindL
   exact ZhM (i := i) (List.nodup_cons.mp nd).2 (by simpa using h1) (by simpa using h2) hk
theorem Zhk {kindOf : Str -> Option NameKind} {x : Str} {v : Value} : ∀ {P : List Str} {vs : List Value} {i : Nat} {m : Str -> Option Value}, P.Nodup -> P[i]? = some x -> vs[i]? = some v -> kindOf x ≠ some .local ->
 bindC kindOf (P.zip vs) m x = some v
 | [], _, _, _, _, h, _, _ => by simp at h
 | _ :: _, [], _, _, _, _, h, _ => by simp at h
 | p :: P, w :: vs, 0, m, nd, h1, h2, hk => by
   simp at h1 h2; subst h1; subst h2
   show bindC kindOf ((p, w) :: P.zip vs) m p = _
   unfold bindC
   rw [Zhp fun v hv => (List.nodup_cons.mp nd).1 (List.of_mem_zip hv).1, if_neg hk]
   simp
 | p :: P, w :: vs, i + 1, m, nd, h1, h2, hk => by
   show bindC kindOf ((p, w) :: P.zip vs) m x = _
   unfold bindC
   exact Zhk (i := i) (List.nodup_cons.mp nd).2 (by simpa using h1) (by simpa using h2) hk
def start (N : List Str) (vs : List V) : St := vs.map some ++ List.replicate (N.length - vs.length) none
def Zin (CX : CXT) (P : Program) (w : World) (K : W.Frag) (mg : Str -> Option Value) (base : Heap) (N : List Str) (qual : Str) (scope : Scope) (f : Addr) (cd : Value) (A : Around) (outer : List Env) (s : Shared) (H : Hp) (E : XK) : Cx where
 prog := P
 w := w
 K := K
 mg := mg
 base := base
 A := A.deeper (envOfC qual scope s.heap.objs.size f cd)
 N := N
 s₀ := s
 H₀ := H
 env := envOfC qual scope s.heap.objs.size f cd
 outer := outer
 stack := envOfC qual scope s.heap.objs.size f cd :: outer
 ex := []
 calm := true
 fn := fun _ => true
 pn := []
 xe := fun e s' => wpAny (model P w) (A.deeper (envOfC qual scope s.heap.objs.size f cd)) (leaving (envOfC qual scope s.heap.objs.size f cd) e) (fun _ s'' => CX outer H s E e s'') (fun e' s'' => CX outer H s E e' s'') s'
theorem Zj5 {sc : Scope} {n : Nat} {x : Str} (h : sc.names.lookup x = some .cell) : ∃ c, (cellsFrom n sc.names []).lookup x = some c := by
 have q := W.cellsFrom_some sc.names n [] (.inl h)
 exact Option.isSome_iff_exists.mp q
theorem Zlf {CX : CXT} {P : Program} {w : World} {K : W.Frag} {mg : Str -> Option Value} {base : Heap} {N ps : List Str} {qual : Str} {scope : Scope} {f : Addr} {cd : Value} {A : Around} {outer : List Env} {s s1 : Shared} {H : Hp} {E : XK} {us : List Value} {vs : List V}
 (S : FnScope N ps scope) (hd : A.handled = none) (e0 : Env0 P w K mg base A outer s H) (hl : vs.length = ps.length) (r : Zcj vs us)
 (x : InCallC s s.heap.objs.size (bindL (envOfC qual scope s.heap.objs.size f cd).kindOf (ps.zip us) fun _ => none) (cellsFrom (s.heap.objs.size + 1) scope.names []) (bindC (envOfC qual scope s.heap.objs.size f cd).kindOf (ps.zip us) fun _ => none) s1) :
 Inv (Zin CX P w K mg base N qual scope f cd A outer s H E) [] (start N vs) H s1 := by
 have hpl : ps.length <= N.length := by have := congrArg List.length S.pre; rw [List.length_take] at this; omega
 obtain ⟨h1, tk, rfl, hk⟩ := x.done
 have noA : ∀ b : Addr, b ∉ (Zin CX P w K mg base N qual scope f cd A outer s H E).ex := fun b z => absurd (show b ∈ ([] : List Addr) from z) (by simp)
 refine ⟨⟨e0.mod, S.kind, rfl, rfl, Nat.le_refl _, fun y z c h1 h2 => ?_, fun y hy => ?_, fun y c _ h => ?_, fun _ => hd, Around.frames_deeper e0.frames, .inr ⟨rfl, rfl⟩, fun b z => absurd z (noA b), e0.bs, e0.bsz, fun b _ _ => noA b, fun b z => absurd z (noA b), e0.funs, e0.frf⟩,
  rfl, e0.bare, Un.kept hk, ⟨_, x.toInCall.ns, fun i y v h1 h2 h3 => ?_⟩, fun y c h => ⟨_, x.cell y c h⟩, e0.hok.fresh (Nat.le_refl _), fun y c h => ?_, fun p hp => absurd (show p ∈ ([] : List (Addr × Obj)) from hp) (by simp), e0.hok.kept hk, ?_⟩
 ·exact name_of_addr x.apart (PySem.mem_of_lookup h1) (PySem.mem_of_lookup h2)
 ·have hy : scope.names.lookup y = some .cell \/ scope.names.lookup y = some .free := hy
  rcases hy with hy | hy
  ·exact Zj5 hy
  ·exact absurd rfl (S.nofree _ (PySem.mem_of_lookup hy))
 ·exact Nat.le_of_lt (x.above y c (PySem.mem_of_lookup h))
 ·have hi : i < vs.length := by
   unfold start at h2
   by_cases hi : i < vs.length
   ·exact hi
   ·rw [List.getElem?_append_right (by simpa using hi)] at h2
    rw [List.getElem?_replicate] at h2
    split at h2 <;> cases h2
  have ha : vs[i]? = some v := by
   unfold start at h2
   rw [List.getElem?_append_left (by simpa using hi), List.getElem?_map] at h2
   cases e : vs[i]? with
   | none => rw [e] at h2; cases h2
   | some a => rw [e] at h2; cases h2; rfl
  obtain ⟨u, hu, rv⟩ := r.get ha
  have hp : ps[i]? = some y := by
   rw [<- S.pre, List.getElem?_take_of_lt (by omega)]; exact h1
  have ndP : ps.Nodup := by rw [<- S.pre]; exact S.nd.sublist (List.take_sublist _ _)
  refine ⟨u, rv, ?_⟩
  rcases S.par y (List.mem_of_getElem? hp) with k | k
  ·exact .inl ⟨k, ZhM ndP hp hu k⟩
  ·obtain ⟨c, e⟩ := Zj5 (n := s.heap.objs.size + 1) k
   refine .inr ⟨.inl k, c, e, ?_⟩
   have q := x.cell y c e
   rw [Zhk ndP hp hu (by show scope.names.lookup y ≠ _; rw [k]; decide)] at q
   exact q
 ·exact e0.hok.fresh (Nat.le_of_lt (x.above y c (PySem.mem_of_lookup h)))
 ·unfold start
  show _ = N.length
  rw [List.length_append, List.length_map, List.length_replicate]
  omega
theorem ZrC {CX : CXT} {P : Program} {w : World} {K : W.Frag} {mg : Str -> Option Value} {base : Heap} {k : Nat} {f : Addr} {name qual : Str} {params : Arguments} {body : List Stmt} {scope : Scope} {dV kV doc pm cdv ct oc : Value} {an od : Option Addr}
 {osl : Array (Option Value)} {N ps : List Str} {sp : Sp} (lk : K.lookup f = some ⟨oc, od, .func (W.fnOf name qual params body scope dV kV doc pm an cdv ct), osl⟩) (hcd : W.codeIn K cdv qual = true) (S : FnScope N ps scope)
 (len : ∀ vs H Q E, sp vs H Q E -> vs.length = ps.length)
 (hbody : ∀ (A : Around) (outer : List Env) (s : Shared) (H : Hp) (vs : List V) (Q : VK) (E : XK), Room k (A.deeper (envOfC qual scope s.heap.objs.size f cdv)) -> sp vs H Q E ->
  ∃ t, PSs (Zin CX P w K mg base N qual scope f cdv A outer s H E) body t /\ t { nx := fun _ H' => Q .non H', rt := Q } (start N vs) H) :
 FnOk P w K mg base CX (k + 1) f (W.fnOf name qual params body scope dV kV doc pm an cdv ct) ps sp := by
 refine ⟨len, fun A outer s H args us vs Q E hr e0 hb r hsp => ?_⟩
 have hl := len _ _ _ _ hsp
 have KX : K.In s.heap := e0.mod.kin.keeps fun b o e => (e0.bs b o e).1
 have lim : s.heap.NoLimit := e0.mod.nolimit.keeps fun b o e => (e0.bs b o e).1
 have hkind : ∀ y ∈ ps.zip us, scope.names.lookup y.1 = some .local \/ (scope.names.lookup y.1 = some .cell /\ ((cellsFrom (s.heap.objs.size + 1) scope.names []).lookup y.1).isSome = true) := fun ⟨n, v⟩ hy => by
  rcases S.par n (List.of_mem_zip hy).1 with q | q
  ·exact .inl q
  ·exact .inr ⟨q, W.cellsFrom_some _ _ _ (.inl q)⟩
 refine codeAny_call_function hr.depth (KX _ _ lk) rfl S.co S.gen rfl (W.codeRec_of KX hcd) (hb _ _ _ _ ?_)
 refine wpAny_newFunctionEnv_cells S.kind hkind fun env he s1 x => ?_
 subst he
 refine ⟨lim.keeps x.toInCall.keep, codeAny_func ?_⟩
 obtain ⟨t, ht, hq⟩ := hbody A outer s H vs Q E (hr.deeper _) hsp
 have I : Inv (Zin CX P w K mg base N qual scope f cdv A outer s H E) [] (start N vs) H s1 := Zlf S hr.hd e0 hl r x
 refine wpAny_mono (ht [] s1 (start N vs) H _ I hq) (fun fl s' hs => ?_) fun e s' hs => hs
 have fin : ∀ {σ' : St} {H' : Hp} {v : V} {u : Value}, Inv (Zin CX P w K mg base N qual scope f cdv A outer s H E) [] σ' H' s' -> Zbg v u -> Q v H' -> CE outer P w H s Q u s' :=
  fun {σ' H' v u} J rv q => ⟨v, H', J.os, J.bare, J.base, J.hok, rv, q⟩
 cases fl with
 | ret u =>
   obtain ⟨v, σ', H', J, rv, q⟩ := hs
   exact fin J rv q
 | next =>
   obtain ⟨σ', H', J, q⟩ := hs
   exact fin (v := V.non) (u := Value.none) J rfl q
 | brk =>
   obtain ⟨_, _, _, q⟩ := hs
   exact False.elim q
 | cont =>
   obtain ⟨_, _, _, q⟩ := hs
   exact False.elim q
end L2
namespace L2
open PySem PySem.Spec PyProof.Rows
section
variable {X : Cx} {x : Str} {p pos : Pos} {e : Expr} {es : List Expr} {t : TA} {id T : String} {r : List V -> Hp -> VK -> Prop}
def tCB (r : List V -> Hp -> VK -> Prop) (t : TA) : TE := fun σ H Q => t σ H fun vs H1 => r vs H1 Q
theorem Za0 (hc : ZdD X (.builtin id) r) (hg : Gl X x) (hm : X.mg x = none) (hv : bootBuiltins x = some (.builtin id)) (ha : PA X (e :: es) t) (hn : x ≠ "__name__" := by decide) (hdb : (x == ("__debug__" : Str)) = false := by decide)
 (he : starEach (e :: es) X.env = (false, eval e X.env) :: starEach es X.env := by rfl) (hpl : (backTo pos (starEach es X.env)).any (·.1) = false := by rfl) : PE X (.Call (.Name x p) (e :: es) [] pos) (tCB r t) := by
 intro pins s σ H Q I h
 refine wpAny_Call_Name_kw (Zfn I hg hm hv ?_ hn hdb)
 exact callWith_builtin1 (thn (ha pos pins s σ H _ I h) fun us s1 ⟨vs, H1, I1, r1, q1⟩ => hc pins s1 σ H1 vs us Q I1 r1 q1) he hpl
theorem ZdI (hc : ZdD X (.type T) r) (hg : Gl X x) (hm : X.mg x = none) (hv : bootBuiltins x = some (.type T)) (ha : PA X (e :: es) t) (hn : x ≠ "__name__" := by decide) (hdb : (x == ("__debug__" : Str)) = false := by decide)
 (he : starEach (e :: es) X.env = (false, eval e X.env) :: starEach es X.env := by rfl) (hpl : (backTo pos (starEach es X.env)).any (·.1) = false := by rfl) : PE X (.Call (.Name x p) (e :: es) [] pos) (tCB r t) := by
 intro pins s σ H Q I h
 refine wpAny_Call_Name_kw (Zfn I hg hm hv ?_ hn hdb)
 exact callWith_type1 (thn (ha pos pins s σ H _ I h) fun us s1 ⟨vs, H1, I1, r1, q1⟩ => hc pins s1 σ H1 vs us Q I1 r1 q1) he hpl
end
end L2
namespace HT
open PySem PyProof.Rows
section
open PySem.SeqAt
open PySem.AutoSeq1 (wpAny_loadPart')
open PySem.MeetsSeq PySem.MeetsSeq2 PySem.MeetsSeq3
end
section
variable {prog : Program} {w : World} {A : Around} {E : Value -> Shared -> Prop} {s : Shared}
def sIx (n d : Nat) : Option Int -> Nat
 | none => d
 | some v => if v < 0 then (v + (n : Int)).toNat else min v.toNat n
end
end HT
namespace L2
open PySem PySem.Spec PyProof.Rows
theorem Zdt {ns : List Int} : ∀ {us : List Value}, Zcj (ns.map V.int) us -> IntsAre us ns := by
 induction ns with
 | nil => intro us r; rw [List.map_nil] at r; cases r; exact .nil
 | cons n ns ih =>
   intro us r
   rw [List.map_cons] at r
   cases r with
   | cons r1 r2 =>
     obtain ⟨t, e⟩ := r1
     subst e
     exact .cons n t (ih r2)
section
variable {X : Cx} {e : Expr} {te : TE} {lo hi : Option Expr} {tl th : TO} {pos p2 : Pos}
end
end L2
namespace L2
open PySem PySem.Spec PyProof.Rows
def ixN (n : Nat) (i : Int) : Option Nat := if 0 <= i then (if i < n then some i.toNat else none) else if -(n : Int) <= i then some (i + n).toNat else none
def atI {α : Type} (xs : List α) (i : Int) : Option α := (ixN xs.length i).bind fun j => xs[j]?
theorem ZkN {n : Nat} {i : Int} {j : Nat} (h : ixN n i = some j) : seqIndex? i n = some j /\ j < n /\ -(n : Int) <= i /\ i < n := by
 unfold ixN at h
 by_cases h0 : 0 <= i
 ·rw [if_pos h0] at h
  by_cases h1 : i < n
  ·rw [if_pos h1] at h
   have e : i.toNat = j := Option.some.inj h
   exact ⟨by rw [seqIndex_of h0 h1, e], by omega, by omega, h1⟩
  ·rw [if_neg h1] at h; cases h
 ·rw [if_neg h0] at h
  by_cases h1 : -(n : Int) <= i
  ·rw [if_pos h1] at h
   have e : (i + n).toNat = j := Option.some.inj h
   exact ⟨by rw [seqIndex_neg (by omega) h1, e], by omega, h1, by omega⟩
  ·rw [if_neg h1] at h; cases h
theorem ZiL {α : Type} {xs : List α} {i : Int} {v : α} (h : atI xs i = some v) : ∃ j, seqIndex? i xs.length = some j /\ xs[j]? = some v /\ j < xs.length /\ -(xs.length : Int) <= i /\ i < xs.length := by
 unfold atI at h
 cases e : ixN xs.length i with
 | none => rw [e] at h; cases h
 | some j =>
   rw [e] at h
   obtain ⟨h1, h2, h3, h4⟩ := ZkN e
   exact ⟨j, h1, h, h2, h3, h4⟩
theorem Zd8 {α : Type} {xs : List α} {j : Nat} {v : α} (h : xs[j]? = some v) : atI xs (j : Int) = some v := by
 have hj : j < xs.length := (List.getElem?_eq_some_iff.mp h).1
 have e : ixN xs.length (j : Int) = some j := by
  unfold ixN
  rw [if_pos (by omega), if_pos (by omega)]; simp
 unfold atI; rw [e]; exact h
def Zpb (b : Expr) : Prop := ∀ o i, subscripted b false o i = operate [o, i] (getItem o i)
def IxR (X : Cx) (r : R2) : Prop :=
 ∀ (value slice : Expr) (pins : List (Addr × Obj)) (s : Shared) (σ : St) (H : Hp) (x y : V) (v u : Value) (Q : VK), Inv X pins σ H s -> Zbg x v -> Zbg y u -> r x y H Q ->
  subscripted slice false v u = operate [v, u] (getItem v u) -> wpAny (model X.prog X.w) X.A (subscriptTail value slice v u) (EP X pins σ Q) X.xe s
def MtR (X : Cx) (id : String) (r : V -> List V -> Hp -> VK -> Prop) : Prop :=
 ∀ (pins : List (Addr × Obj)) (s : Shared) (σ : St) (H : Hp) (x : V) (xs : List V) (v : Value) (us : List Value) (Q : VK), Inv X pins σ H s -> Zbg x v -> Zcj xs us -> r x xs H Q ->
  wpAny (model X.prog X.w) X.A (call (.builtin id) (v :: us)) (EP X pins σ Q) X.xe s
section
variable {X : Cx} {a b : Expr} {ta tb : TE} {pos : Pos}
theorem IxR.or {r r' : R2} (h : IxR X r) (h' : IxR X r') : IxR X (fun x y H Q => r x y H Q \/ r' x y H Q) := by
 intro value slice pins s σ H x y v u Q I rx ry q hs
 rcases q with q | q
 ·exact h value slice pins s σ H x y v u Q I rx ry q hs
 ·exact h' value slice pins s σ H x y v u Q I rx ry q hs
theorem Zax {r : R2} (hr : IxR X r) (ha : PE X a ta) (hb : PE X b tb) (hs : Zpb b) : PE X (.Subscript a b pos) (tOp r ta tb) := by
 intro pins s σ H Q I h
 exact Subscript_ (ZrP ha hb I h fun v u s2 x y H2 I2 rx ry q => hr a b pins s2 σ H2 x y v u Q I2 rx ry q (hs _ _))
def Zsf (K : W.Frag) : R2 := fun x y H Q => ∃ p xs i v, x = .ref p /\ y = .int i /\ SqL K H p xs /\ atI xs i = some v /\ Q v H
def ZrS (K : W.Frag) : R2 := fun x y H Q => ∃ p xs i v, x = .ref p /\ y = .int i /\ SqT K H p xs /\ atI xs i = some v /\ Q v H
def ZrR : R2 := fun x y H Q => ∃ z i c, x = .str z /\ y = .int i /\ z.length <= sizeLine /\ atI z.cps.toList i = some c /\ Q (.str ⟨#[c]⟩) H
theorem Zpf : IxR X (Zsf X.K) := by
 intro value slice pins s σ H x y v u Q I rx ry h hs
 obtain ⟨p, xs, i, z, rfl, rfl, hq, he, q⟩ := h
 cases rx
 obtain ⟨t, rfl⟩ := ry
 obtain ⟨its, r, pl, hz⟩ := I.list hq
 obtain ⟨j, h1, h2, h3, h4, h5⟩ := ZiL he
 obtain ⟨w, ew, rw'⟩ := r.get h2
 have hl := r.length
 have hn := Zf8
 have fin : EP X pins σ Q w s := ⟨z, H, I, rw', q⟩
 by_cases h0 : 0 <= i
 ·have hj : i.toNat = j := by
   rw [seqIndex_of h0 h5] at h1
   exact Option.some.inj h1
  exact item_listR pl.isList h0 (by omega) (by rw [hj]; simpa using ew) fin hs
 ·have hj : (i + (its.toArray.size : Int)).toNat = j := by
   rw [seqIndex_neg (by omega) h4] at h1
   rw [List.size_toArray, <- hl]
   exact Option.some.inj h1
  exact subscriptTail_builtinR (x := w) pl.isList.typeIs slot_list_getitem.lookup
   (wpAny_getItem_list_neg (Q := fun r s' => r = w /\ EP X pins σ Q r s') pl.isList (by omega) (by rw [List.size_toArray] <;> omega) (by omega) (by rw [hj]; simpa using ew) ⟨rfl, fin⟩) hs
theorem ZqV : IxR X (ZrS X.K) := by
 intro value slice pins s σ H x y v u Q I rx ry h hs
 obtain ⟨p, xs, i, z, rfl, rfl, hq, he, q⟩ := h
 cases rx
 obtain ⟨t, rfl⟩ := ry
 obtain ⟨its, r, pl, hz⟩ := I.tuple hq
 obtain ⟨j, h1, h2, h3, h4, h5⟩ := ZiL he
 obtain ⟨w, ew, rw'⟩ := r.get h2
 have hl := r.length
 have hn := Zf8
 have fin : EP X pins σ Q w s := ⟨z, H, I, rw', q⟩
 exact subscriptTail_builtinR (x := w) pl.typeIs slot_tuple_getitem.lookup
  (getItem_tuple (j := j) (Q := fun r s' => r = w /\ EP X pins σ Q r s') pl (by omega) (by omega) (by rw [List.size_toArray, <- hl]; exact h1) (by simpa using ew) ⟨rfl, fin⟩) hs
theorem ZpV : IxR X ZrR := by
 intro value slice pins s σ H x y v u Q I rx ry h hs
 obtain ⟨z, i, c, rfl, rfl, hz, he, q⟩ := h
 obtain ⟨t, rfl⟩ := rx
 obtain ⟨t', rfl⟩ := ry
 obtain ⟨j, h1, h2, h3, h4, h5⟩ := ZiL he
 have hl : z.cps.toList.length = z.length := by simp [Str.length]
 rw [hl] at h1 h4 h5
 have hn := Zf8
 exact tail_any (typeIs_str s z t) slot_str_getitem.lookup (getItem_str (c := c) (by
  have e1 : decide (i < -(2 ^ 63 : Int)) = false := decide_eq_false (by omega)
  have e2 : decide (i >= 2 ^ 63) = false := decide_eq_false (by omega)
  rw [e1, e2, Bool.or_false]) (by rw [h1]; simpa using h2) ⟨.str ⟨#[c]⟩, H, I.tok _, ⟨_, rfl⟩, q⟩) hs
def rIx (K : W.Frag) : R2 := fun x y H Q => Zsf K x y H Q \/ ZrS K x y H Q \/ ZrR x y H Q
theorem Zan : IxR X (rIx X.K) := Zpf.or (ZqV.or ZpV)
theorem ZjX (its : List Value) (n j : Nat) (u : Value) : Obj.mapSeq (·.setIfInBounds j u) { cls := .type "list", data := .seq its.toArray n } = { cls := .type "list", data := .seq (its.set j u).toArray n } := by
 simp [Obj.mapSeq]
theorem Inv.lst {pins : List (Addr × Obj)} {σ : St} {H : Hp} {s : Shared} {p : Addr} {xs : List V} (I : Inv X pins σ H s) (h : H p = some (.lst xs)) :
 ∃ (its : List Value) (n : Nat), Zcj xs its /\ s.heap.get? p = some { cls := .type "list", data := .seq its.toArray n } /\ xs.length <= sizeLine := by
 obtain ⟨z, its, n, r, e⟩ := I.hok p _ h
 exact ⟨its, n, r, e, z⟩
theorem Inv.lstUpd {pins : List (Addr × Obj)} {σ : St} {H : Hp} {s : Shared} {p : Addr} {xs ys : List V} {its its' : List Value} {n n' : Nat} {f : Obj -> Obj} (I : Inv X pins σ H s) (h : H p = some (.lst xs))
 (ho : s.heap.get? p = some { cls := .type "list", data := .seq its.toArray n }) (hf : f { cls := .type "list", data := .seq its.toArray n } = { cls := .type "list", data := .seq its'.toArray n' }) (r : Zcj ys its') (hz : ys.length <= sizeLine) (t : Nat) :
 Inv X pins σ (upd H p (.lst ys)) { s with heap := s.heap.update p f, toks := t } := by
 have e : (s.heap.update p f).get? p = some { cls := .type "list", data := .seq its'.toArray n' } := by
  rw [Heap.get?_update_self f ho (by rw [hf] <;> rfl), hf]
 refine I.write (x := p) (e := p) (by rw [h]; trivial) (.inl rfl) (fun b u hb q => (Heap.get?_update_other _ _ (Ne.symm hb)).trans q) ⟨_, e⟩ ?_
 exact ⟨hz, its', n', r, e⟩
def Zn9 : V -> V -> V -> Hp -> (Hp -> Prop) -> Prop := fun o i v H Q => ∃ p xs k j, o = .ref p /\ i = .int k /\ H p = some (.lst xs) /\ ixN xs.length k = some j /\ Q (upd H p (.lst (xs.set j v)))
theorem Zd4 : ZrH X Zn9 := by
 intro pins s σ H o i v ov iv u Q I ro ri rv h
 obtain ⟨p, xs, k, j, rfl, rfl, hp, hj, q⟩ := h
 cases ro
 obtain ⟨t, rfl⟩ := ri
 obtain ⟨its, n, r, ho, hz⟩ := I.lst hp
 obtain ⟨h1, h2, h3, h4⟩ := ZkN hj
 have hl := r.length
 have hn := Zf8
 have I' : Inv X pins σ (upd H p (.lst (xs.set j v))) { s with heap := s.heap.update p (Obj.mapSeq (·.setIfInBounds j u)) } :=
  I.lstUpd hp ho (ZjX its n j u) (r.set rv j) (by rw [List.length_set]; exact hz) s.toks
 by_cases h0 : 0 <= k
 ·have hk : k.toNat = j := by
   rw [seqIndex_of h0 h4] at h1
   exact Option.some.inj h1
  exact W.ki_setAt ho h0 (by omega) (by rw [List.size_toArray, <- hl]; exact h4) (by rw [hk]; exact ⟨_, I', q⟩)
 ·have hk : (k + (its.toArray.size : Int)).toNat = j := by
   rw [seqIndex_neg (by omega) h3] at h1
   rw [List.size_toArray, <- hl]
   exact Option.some.inj h1
  exact W.ki_setBack ho (by omega) (by rw [List.size_toArray, <- hl]; exact h3) (by omega) (by rw [hk]; exact ⟨_, I', q⟩)
def ZhY : V -> Bool
 | .non => true
 | .bl _ => true
 | .int _ => true
 | .str _ => true
 | _ => false
def eqV : V -> V -> Bool
 | .non, .non => true
 | .bl a, .bl b => a == b
 | .bl a, .int b => (if a then 1 else 0) == b
 | .int a, .bl b => a == (if b then 1 else 0)
 | .int a, .int b => a == b
 | .str a, .str b => a == b
 | _, _ => false
theorem Zq2 {A : Around} {s : Shared} {y x : V} {u v : Value} (ry : Zbg y u) (rx : Zbg x v) (fy : ZhY y = true) (fx : ZhY x = true) : SeqAt.EqAt A s u v (eqV y x) := by
 cases y with
 | non =>
   cases ry
   cases x with
   | non => cases rx; exact SeqAt.EqAt.same _
   | bl b => cases rx; exact SeqAt.EqAt.none_bool b
   | int b => obtain ⟨t, rfl⟩ := rx; exact SeqAt.EqAt.none_int b t
   | str b => obtain ⟨t, rfl⟩ := rx; exact SeqAt.EqAt.none_str b t
   | _ => exact absurd (show false = true from fx) Bool.false_ne_true
 | bl a =>
   cases ry
   cases x with
   | non => cases rx; exact SeqAt.EqAt.bool_none a
   | bl b => cases rx; exact SeqAt.EqAt.bool_bool a b
   | int b => obtain ⟨t, rfl⟩ := rx; exact SeqAt.EqAt.bool_int a b t
   | str b => obtain ⟨t, rfl⟩ := rx; exact SeqAt.EqAt.bool_str a b t
   | _ => exact absurd (show false = true from fx) Bool.false_ne_true
 | int a =>
   obtain ⟨t', rfl⟩ := ry
   cases x with
   | non => cases rx; exact SeqAt.EqAt.int_none a t'
   | bl b => cases rx; exact SeqAt.EqAt.int_bool a t' b
   | int b => obtain ⟨t, rfl⟩ := rx; exact SeqAt.EqAt.int_int a t' b t
   | str b => obtain ⟨t, rfl⟩ := rx; exact SeqAt.EqAt.int_str a t' b t
   | _ => exact absurd (show false = true from fx) Bool.false_ne_true
 | str a =>
   obtain ⟨t', rfl⟩ := ry
   cases x with
   | non => cases rx; exact SeqAt.EqAt.str_none a t'
   | bl b => cases rx; exact SeqAt.EqAt.str_bool a t' b
   | int b => obtain ⟨t, rfl⟩ := rx; exact SeqAt.EqAt.str_int a t' b t
   | str b => obtain ⟨t, rfl⟩ := rx; exact SeqAt.EqAt.str_str a t' b t
   | _ => exact absurd (show false = true from fx) Bool.false_ne_true
 | _ => exact absurd (show false = true from fy) Bool.false_ne_true
def eqU (x : V) (u : Value) : Bool := match u with
 | .none => eqV .non x
 | .bool b => eqV (.bl b) x
 | .int i _ => eqV (.int i) x
 | .str z _ => eqV (.str z) x
 | _ => false
theorem ZnG {x y : V} {u : Value} (r : Zbg y u) (f : ZhY y = true) : eqU x u = eqV y x := by
 cases y with
 | non => cases r; rfl
 | bl b => cases r; rfl
 | int i => obtain ⟨t, rfl⟩ := r; rfl
 | str z => obtain ⟨t, rfl⟩ := r; rfl
 | _ => exact absurd (show false = true from f) Bool.false_ne_true
theorem Ziu {x : V} : ∀ {xs : List V} {us : List Value}, Zcj xs us -> xs.all ZhY = true -> us.any (eqU x) = xs.any fun y => eqV y x
 | _, _, .nil, _ => rfl
 | y :: xs, u :: us, .cons r t, f => by
   rw [List.all_cons, Bool.and_eq_true] at f
   rw [List.any_cons, List.any_cons, ZnG r f.1, Ziu t f.2]
theorem Zg8 {A : Around} {s : Shared} {x : V} {v : Value} (rx : Zbg x v) (fx : ZhY x = true) : ∀ {xs : List V} {us : List Value}, Zcj xs us -> xs.all ZhY = true -> ∀ u ∈ us, SeqAt.EqAt A s u v (eqU x u)
 | _, _, .nil, _ => fun u hu => by cases hu
 | y :: xs, u :: us, .cons r t, f => fun u' hu => by
   rw [List.all_cons, Bool.and_eq_true] at f
   rcases List.mem_cons.mp hu with rfl | hu
   ·rw [ZnG r f.1]; exact Zq2 r rx f.1 fx
   ·exact Zg8 rx fx t f.2 u' hu
def inV (x : V) (xs : List V) : Bool := xs.any fun y => eqV y x
def rIn (K : W.Frag) (neg : Bool) : R2 := fun x y H Q => ∃ p xs, y = .ref p /\ (SqL K H p xs \/ SqT K H p xs) /\ ZhY x = true /\ xs.all ZhY = true /\ Q (.bl (if neg then !inV x xs else inV x xs)) H
theorem ZeX : OpR X (compareOp .NotIn) (rIn X.K true) := by
 intro pins s σ H x y v u Q I rx ry h
 obtain ⟨p, xs, rfl, hq, fx, fs, q⟩ := h
 cases ry
 rcases hq with hq | hq
 ·obtain ⟨its, r, pl, hz⟩ := I.list hq
  refine SeqAt.notIn_listAt (eqU x) pl.isList (fun w hw => Zg8 rx fx r fs w (by simpa using hw)) ⟨.bl _, H, I, rfl, ?_⟩
  rw [show its.toArray.any (eqU x) = its.any (eqU x) by simp, Ziu r fs]
  exact q
 ·obtain ⟨its, r, pl, hz⟩ := I.tuple hq
  refine SeqAt.notIn_tupleAt (eqU x) pl (fun w hw => Zg8 rx fx r fs w (by simpa using hw)) ⟨.bl _, H, I, rfl, ?_⟩
  rw [show its.toArray.any (eqU x) = its.any (eqU x) by simp, Ziu r fs]
  exact q
theorem Zh1 : ZdD X (.builtin "len") (fun xs H Q => ∃ p ys, xs = [.ref p] /\ (SqL X.K H p ys \/ SqT X.K H p ys) /\ Q (.int ys.length) H) := by
 intro pins s σ H xs us Q I r h
 obtain ⟨p, ys, rfl, hq, q⟩ := h
 obtain ⟨u, rfl, rx⟩ := Zic r
 cases rx
 have hn := Zf8
 rcases hq with hq | hq
 ·obtain ⟨its, r', pl, hz⟩ := I.list hq
  have hlen := r'.length
  exact Calls.call_len_list pl.isList (by simp only [List.size_toArray] <;> omega) ⟨.int ys.length, H, I.tok _, ⟨s.toks + 1, by rw [List.size_toArray, hlen]⟩, q⟩
 ·obtain ⟨its, r', pl, hz⟩ := I.tuple hq
  have hlen := r'.length
  exact len_tuple pl (by simp only [List.size_toArray] <;> omega) ⟨.int ys.length, H, I.tok _, ⟨s.toks + 1, by rw [List.size_toArray, hlen]⟩, q⟩
theorem Zhd : ZdD X (.type "list") (fun xs H Q => ∃ p ys, xs = [.ref p] /\ (SqL X.K H p ys \/ SqT X.K H p ys) /\ ∀ l, H l = none -> Q (.ref l) (upd H l (.lst ys))) := by
 intro pins s σ H xs us Q I r h
 obtain ⟨p, ys, rfl, hq, q⟩ := h
 obtain ⟨u, rfl, rx⟩ := Zic r
 cases rx
 have fin : ∀ (its : List Value), Zcj ys its -> ys.length <= sizeLine -> ∀ (h' : Heap) (c' : Nat), (∀ b o', s.heap.get? b = some o' -> h'.get? b = some o') ->
  h'.get? s.heap.objs.size = some { cls := .type "list", dict := none, data := .seq its.toArray c', slots := #[] } -> EP X pins σ Q (.ref s.heap.objs.size) { s with heap := h' } := fun its r' hz h' c' kp e =>
  ⟨.ref s.heap.objs.size, _, I.laid (t' := s.toks) kp (Nat.le_refl _) (show ZcE X.prog X.w _ h' _ (.lst ys) from ⟨hz, its, c', r', e⟩), rfl, q _ (I.hok.fresh (Nat.le_refl _))⟩
 rcases hq with hq | hq
 ·obtain ⟨its, r', pl, hz⟩ := I.list hq
  have hlen := r'.length
  obtain ⟨o, ho, hc, n, hd⟩ := pl.isList
  exact call_list_seq p (.inl rfl) ho hc hd (fun h' c' kp e => fin its r' hz h' c' kp e) (by simp only [List.size_toArray] <;> omega)
 ·obtain ⟨its, r', pl, hz⟩ := I.tuple hq
  have hlen := r'.length
  obtain ⟨o, ho, hc, n, hd⟩ := pl
  exact call_list_seq p (.inr rfl) ho hc hd (fun h' c' kp e => fin its r' hz h' c' kp e) (by simp only [List.size_toArray] <;> omega)
theorem ZgS : ZdD X (.type "tuple") (fun xs H Q => ∃ p ys, xs = [.ref p] /\ ((SqL X.K H p ys /\ ∀ l, H l = none -> Q (.ref l) (upd H l (.tup ys))) \/ (SqT X.K H p ys /\ Q (.ref p) H))) := by
 intro pins s σ H xs us Q I r h
 obtain ⟨p, ys, rfl, h⟩ := h
 obtain ⟨u, rfl, rx⟩ := Zic r
 cases rx
 rcases h with ⟨hq, q⟩ | ⟨hq, q⟩
 ·obtain ⟨its, r', pl, hz⟩ := I.list hq
  have hlen := r'.length
  refine call_tuple_list pl.isList (fun h' kp => ?_) (by simp only [List.size_toArray] <;> omega)
  have I1 : Inv X pins σ H { s with heap := h' } := I.kept (t' := s.toks) kp
  have I2 : Inv X pins σ (upd H h'.objs.size (.tup ys)) { s with heap := h'.push { cls := .type "tuple", data := .seq its.toArray } } :=
   I1.laid (t' := s.toks) (fun b o e => Heap.get?_push_of_some _ e) (Nat.le_refl _) (show ZcE X.prog X.w _ _ _ (.tup ys) from ⟨hz, its, r', IsTup.new _ _⟩)
  exact ⟨.ref h'.objs.size, _, I2, rfl, q _ (I1.hok.fresh (Nat.le_refl _))⟩
 ·obtain ⟨its, r', pl, hz⟩ := I.tuple hq
  exact call_tuple_same pl ⟨.ref p, H, I, rfl, q⟩
def tyV (K : W.Frag) (T : String) (x : V) (H : Hp) : Prop := match x with
 | .str _ => T = "str"
 | .int _ => T = "int"
 | .ref p => (T = "list" /\ ∃ xs, SqL K H p xs) \/ (T = "tuple" /\ ∃ o, K.lookup p = some o /\ o.cls = .type "tuple" /\ o.dict = none) \/
  (T = "dict" /\ ((∃ kvs, H p = some (.dK kvs)) \/ ∃ kvs, H p = some (.dT kvs))) \/ (T = "set" /\ ∃ S n, H p = some (.set S n))
 | _ => False
theorem ZnF {pins : List (Addr × Obj)} {σ : St} {H : Hp} {s : Shared} {T : String} {x : V} {v : Value} (I : Inv X pins σ H s) (r : Zbg x v) (ty : tyV X.K T x H) :
 s.TypeIs v T /\ ∀ a, v = .ref a -> ∃ ob, s.heap.get? a = some ob /\ ob.dict = none := by
 cases x with
 | str z =>
   obtain ⟨t, rfl⟩ := r
   cases (show T = "str" from ty)
   exact ⟨typeIs_str s z t, fun _ e => nomatch e⟩
 | int i =>
   obtain ⟨t, rfl⟩ := r
   cases (show T = "int" from ty)
   exact ⟨typeIs_int s i t, fun _ e => nomatch e⟩
 | ref p =>
   cases r
   rcases ty with ⟨rfl, xs, hq⟩ | ⟨rfl, o, hk, hc, hd⟩ | ⟨rfl, hk⟩ | ⟨rfl, S, n, hk⟩
   ·obtain ⟨its, _, pl, _⟩ := I.list hq
    refine ⟨pl.isList.typeIs, fun a e => ?_⟩
    cases e
    obtain ⟨o, n, e, c, hd, _⟩ := pl
    exact ⟨o, e, hd⟩
   ·refine ⟨⟨o, I.kIn p o hk, hc⟩, fun a e => ?_⟩
    cases e
    exact ⟨o, I.kIn _ o hk, hd⟩
   ·have z : ∃ o, s.heap.get? p = some o /\ o.ExactDict := by
     rcases hk with ⟨kvs, hk⟩ | ⟨kvs, hk⟩
     ·obtain ⟨_, _, _, _, o, _, _, e, ex, _⟩ := I.hok p _ hk
      exact ⟨o, e, ex⟩
     ·obtain ⟨_, _, _, _, o, _, _, e, ex, _⟩ := I.hok p _ hk
      exact ⟨o, e, ex⟩
    obtain ⟨o, e, ex⟩ := z
    refine ⟨⟨o, e, ex.1⟩, fun a e2 => ?_⟩
    cases e2
    exact ⟨o, e, ex.2.1⟩
   ·obtain ⟨o, _, _, _, e, ex, _⟩ := I.hok p _ hk
    refine ⟨⟨o, e, ex.1⟩, fun a e2 => ?_⟩
    cases e2
    exact ⟨o, e, ex.2.1⟩
 | _ => exact False.elim ty
def Zsq (K : W.Frag) (T : String) (r : V -> List V -> Hp -> VK -> Prop) (to : TE) : TE := fun σ H Q => to σ H fun x H1 => tyV K T x H1 /\ r x [] H1 Q
def tBM (K : W.Frag) (T : String) (r : V -> List V -> Hp -> VK -> Prop) (to : TE) (t : TA) : TE := fun σ H Q => to σ H fun x H1 => tyV K T x H1 /\ t σ H1 fun xs H2 => r x xs H2 Q
variable {o e : Expr} {es : List Expr} {to : TE} {t : TA} {name : Str} {apos cpos : Pos} {T id : String} {r : V -> List V -> Hp -> VK -> Prop}
theorem ZqZ (pa : PlainAttrs T) (slot : Slot T name id) (hty : typeOf (.builtin id) = pure (.type "method_descriptor")) (hm : MtR X id r) (ho : PE X o to)
 (hbase : attributeBase o name X.env (eval o X.env) = eval o X.env := by rfl) (hline : (apos.endLine == cpos.line) = true := by rfl) : PE X (.Call (.Attribute o name apos) [] [] cpos) (Zsq X.K T r to) := by
 intro pins s σ H Q I h
 refine wpAny_Call_method0_late hbase hline (thn (ho pins s σ H _ I h) fun v s1 ⟨x, H1, I1, r1, ty, q1⟩ => ?_)
 obtain ⟨h1, h2⟩ := ZnF I1 r1 ty
 exact ⟨T, id, pa, slot, hty, h1, h2, Calls.callWith_builtin rfl (PySem.evalArgs_none (hm pins s1 σ H1 x [] v [] Q I1 r1 .nil q1))⟩
theorem ZfP (pa : PlainAttrs T) (slot : Slot T name id) (hty : typeOf (.builtin id) = pure (.type "method_descriptor")) (hm : MtR X id r) (ho : PE X o to) (ha : PA X (e :: es) t)
 (hbase : attributeBase o name X.env (eval o X.env) = eval o X.env := by rfl)
 (hfew : ((backTo cpos (starEach (e :: es) X.env)).all (fun x => !x.1) && (backToKw cpos (keywordEach [] X.env)).all (fun x => x.1.isSome)
  && decide ((e :: es).length + ([] : List Keyword).length + (if ([] : List Keyword).isEmpty then 0 else 1) < 30)) = true := by rfl)
 (hline : (apos.endLine == cpos.line) = true := by rfl) (hs : starEach (e :: es) X.env = (false, eval e X.env) :: starEach es X.env := by rfl) (hplain : (backTo cpos (starEach es X.env)).any (·.1) = false := by rfl) :
 PE X (.Call (.Attribute o name apos) (e :: es) [] cpos) (tBM X.K T r to t) := by
 intro pins s σ H Q I h
 refine wpAny_Call_method_late hbase hfew hline rfl (thn (ho pins s σ H _ I h) fun v s1 ⟨x, H1, I1, r1, ty, q1⟩ => ?_)
 obtain ⟨h1, h2⟩ := ZnF I1 r1 ty
 refine ⟨T, id, pa, slot, hty, h1, h2, ?_⟩
 have hA := ha cpos pins s1 σ H1 _ I1 q1
 rw [hs] at hA ⊢
 refine Calls.callWith_builtin (by show (false || (backTo cpos (starEach es X.env)).any (·.1)) = false; rw [hplain] <;> rfl) (Calls.evalArgs_plain ?_)
 exact thn hA fun us s2 ⟨vs, H2, I2, r2, q2⟩ => hm pins s2 σ H2 x vs v us Q I2 r1 r2 q2
end
end L2
namespace L2
open PySem PySem.Spec PyProof.Rows
def MtM (X : Cx) (id : String) (r : V -> List V -> Hp -> VK -> Prop) : Prop :=
 ∀ (pins : List (Addr × Obj)) (s : Shared) (σ : St) (H : Hp) (x : V) (xs : List V) (v : Value) (us : List Value) (Q : VK), Inv X pins σ H s -> Zbg x v -> Zcj xs us -> r x xs H Q ->
  wpAny (model X.prog X.w) X.A (call (.builtin id) (v :: us)) (EP X pins σ Q) X.xe s
theorem Zcj.one : ∀ {x : V} {us : List Value}, Zcj [x] us -> ∃ u, us = [u] /\ Zbg x u
 | _, _, .cons r .nil => ⟨_, rfl, r⟩
section
variable {X : Cx} {pins : List (Addr × Obj)} {σ : St} {H : Hp} {s : Shared} {l b : Addr} {xs ys zs : List V}
theorem Inv.lset {its its' : List Value} {n : Nat} {f : Array Value -> Array Value} {t' : Nat} (I : Inv X pins σ H s) (hH : H l = some (.lst xs))
 (e : s.heap.get? l = some { cls := .type "list", data := .seq its.toArray n }) (hf : f its.toArray = its'.toArray) (hv : Zcj ys its') (hz : ys.length <= sizeLine) :
 Inv X pins σ (upd H l (.lst ys)) { s with heap := s.heap.update l (Obj.mapSeq f), toks := t' } := by
 have q := PySem.IsL.update e f
 rw [hf] at q
 refine I.write (x := l) (e := l) (by rw [hH]; exact trivial) (.inl rfl) (fun b' u hb hu => (Heap.get?_update_other s.heap (Obj.mapSeq f) (Ne.symm hb)).trans hu) ⟨_, q⟩ ?_
 exact ⟨hz, its', _, hv, q⟩
theorem Inv.lnew {its : List Value} {t' : Nat} (I : Inv X pins σ H s) (hv : Zcj ys its) (hz : ys.length <= sizeLine) :
 Inv X pins σ (upd H s.heap.objs.size (.lst ys)) { s with heap := s.heap.push { cls := .type "list", data := .seq its.toArray }, toks := t' } :=
 I.laid (fun _ _ q => Heap.get?_push_of_some _ q) (Nat.le_refl _) ⟨hz, its, 0, hv, Heap.get?_push_size _ rfl⟩
theorem Inv.fresh (I : Inv X pins σ H s) : H s.heap.objs.size = none := I.hok.fresh (Nat.le_refl _)
theorem Inv.lstM (I : Inv X pins σ H s) (hH : H l = some (.lst xs)) : xs.length <= sizeLine /\ ∃ (its : List Value) (n : Nat), Zcj xs its /\ xs.length = its.length /\ s.heap.get? l = some { cls := .type "list", data := .seq its.toArray n } := by
 obtain ⟨z, its, n, r, e⟩ := I.hok l _ hH
 exact ⟨z, its, n, r, r.length, e⟩
end
section
variable {X : Cx}
def Ze9 : V -> List V -> Hp -> VK -> Prop := fun x vs H Q => ∃ l xs y, x = .ref l /\ vs = [y] /\ H l = some (.lst xs) /\ xs.length < sizeLine /\ Q .non (upd H l (.lst (xs ++ [y])))
theorem ZbW : MtM X "list.append" Ze9 := by
 intro pins s σ H x vs v us Q I rx rv h
 obtain ⟨l, xs, y, rfl, rfl, hH, hz, q⟩ := h
 cases rx
 obtain ⟨u, rfl, ru⟩ := rv.one
 obtain ⟨z, its, n, r, hl, e⟩ := I.lstM hH
 refine call_meets F.slot_list_append ⟨_, e, rfl⟩ F.entry_list_append (F.args_list_append_2 _ _) (PySem.list_append l its.toArray n u (by rw [List.size_toArray]; omega)) ⟨e, ?_⟩
 refine ⟨.non, _, I.lset (its' := its ++ [u]) hH e (by simp) (r.append (.cons ru .nil)) ?_, rfl, q⟩
 rw [List.length_append, List.length_singleton]
 omega
def Zsa : R2 := fun x y H Q => ∃ l b xs zs, x = .ref l /\ y = .ref b /\ H l = some (.lst xs) /\ H b = some (.lst zs) /\ xs.length + zs.length <= sizeLine /\ ∀ p, H p = none -> Q (.ref p) (upd H p (.lst (xs ++ zs)))
theorem Zgl : OpR X (binaryOp .Add) Zsa := by
 intro pins s σ H x y v u Q I rx ry h
 obtain ⟨l, b, xs, zs, rfl, rfl, hH, hB, hz, q⟩ := h
 cases rx
 cases ry
 obtain ⟨z, its, n, r, hl, e⟩ := I.lstM hH
 obtain ⟨z2, its2, n2, r2, hl2, e2⟩ := I.lstM hB
 refine PySem.P.add_list e e2 ?_ (by rw [List.size_toArray, List.size_toArray]; omega)
 have ea : its.toArray ++ its2.toArray = (its ++ its2).toArray := by simp
 rw [ea]
 exact ⟨.ref _, _, I.lnew (t' := s.toks) (r.append r2) (by rw [List.length_append]; omega), rfl, q _ I.fresh⟩
end
section
variable {prog : Program} {w : World} {A : Around} {E : Value -> Shared -> Prop} {s : Shared}
end
section
variable {X : Cx}
end
end L2
namespace Att
open PySem PySem.W PySem.Calls PyProof.Rows
theorem ZfC {P : Params} {h : Heap} : ∀ (ns : List Int) (vs : List Value), WellAll P h vs (ns.map WData.int) -> IntsAre vs ns := by
 intro ns
 induction ns with
 | nil =>
   intro vs w
   rw [List.map_nil] at w
   cases w
   exact .nil
 | cons n ns ih =>
   intro vs w
   rw [List.map_cons] at w
   cases w with
   | cons a b =>
     cases a
     exact .cons _ _ (ih _ b)
theorem ZlZ {l : OpenLaw} {n : Nat} (hn : l.most = some n) {P : Params} {h : Heap} {args : List WData} {vals : List Value}
 (hpre : l.row.toRowW.claim.pre args = true) (hwl : WellAll P h vals args) :
 ∃ a vs ns, vals = [Value.ref a] /\ args = [WData.list (ns.map WData.int)] /\ h.get? a = some { cls := .type "list", data := .seq vs.toArray } /\ IntsAre vs ns /\ ns.length <= n := by
 have hsh : WShape.hasAll [] args [.list .int] = true := (pre_splitW hpre).1
 have hc : l.pre.holds [] { args := args } = true := (pre_splitW hpre).2
 obtain ⟨d, r, rfl, h1, h2⟩ := hasAllW_cons hsh
 obtain rfl := hasAllW_nil h2
 obtain ⟨xs, rfl, h3⟩ := hasW_list h1
 obtain ⟨ns, rfl⟩ := items_int h3
 have hlen : ns.length <= n := by
  unfold OpenLaw.pre at hc
  have h4 : (WTm.not (.lt (.lit (.int (n : Int))) (.len (.arg 0)))).holds [] { args := [.list (ns.map .int)] } = true := by
   have h4 := (holds_andW hc).1
   rw [hn] at h4
   exact h4
  have h5 := condW_of h4 (w_not (w_lt w_lit (w_len_list (w_arg rfl))))
  rw [List.length_map] at h5
  refine Nat.le_of_not_lt fun q => ?_
  have q' : (n : Int) < ((ns.length : Nat) : Int) := by omega
  first
   | (rw [decide_eq_true q'] at h5; exact absurd h5 (by decide))
   | (simp at h5; omega)
 cases hwl with
 | cons w1 w2 =>
   cases w2
   cases w1 with
   | list ho hall => exact ⟨_, _, ns, rfl, rfl, ho, ZfC ns _ hall, hlen⟩
theorem ZkM (l : OpenLaw) (args : List WData) : l.row.toRowW.claim.post args (.bool true) args = true :=
 postW_of (r := l.row.toRowW) (X := (true == true))
  (show WShape.has [] (.bool true) .bool = true by first | rfl | decide | simp [WShape.has, WShape.arms, WShape.armsAll])
  (show (WTm.eq .res (.lit (.bool true))).value [] { args := args, res := some (.bool true), after := args } = some (.bool (true == true)) from w_eq_bool (w_res rfl) w_lit) rfl
section
variable {prog : Program} {w : World} {A : Around} {E : Value -> Shared -> Prop} {s : Shared} {K : Frag}
end
end Att
namespace L2
open PySem PySem.Spec PyProof.Rows
theorem Zig : ∀ {vs : List Value} {ns : List Int}, IntsAre vs ns -> Zcj (ns.map V.int) vs
 | _, _, .nil => .nil
 | _, _, .cons n t h => .cons ⟨t, rfl⟩ (Zig h)
def Zsx (H : Hp) : Prop := ∀ b, H b = none \/ ∃ o xs, H b = some (.frz o (.lst xs))
end L2
namespace L2
open PySem PySem.Spec PyProof.Rows
abbrev KOf {K : W.Frag} {h : Heap} (_ : K.In h) : W.Frag := K
end L2
namespace L2
open PySem PySem.Spec PyProof.Rows
def Zei (s : Stmt) (j : Nat) : Stmt := match s with
 | .ClassDef _ _ _ body _ _ _ _ _ _ _ => body.getD j (.Pass ⟨0, 0, 0, 0⟩)
 | _ => .Pass ⟨0, 0, 0, 0⟩
def Zao (s : Stmt) : Arguments := match s with
 | .FunctionDef _ a _ _ _ _ _ _ _ _ => a
 | _ => { posonlyargs := [], args := [], vararg := none, kwonlyargs := [], kw_defaults := [], kwarg := none, defaults := [] }
def Zal (s : Stmt) : List Stmt := match s with
 | .FunctionDef _ _ b _ _ _ _ _ _ _ => b
 | _ => []
def Zab (s : Stmt) : Scope := match s with
 | .FunctionDef _ _ _ _ _ _ sc _ _ _ => sc
 | _ => { kind := .function, names := [], isGenerator := false, isCoroutine := false }
abbrev CX0 : CXT := fun _ _ _ _ _ _ => False
abbrev E0 : XK := fun _ _ _ => False
theorem ZpB {X : Cx} : Zgj CX0 X E0 := fun _ _ _ _ _ _ _ h => h.elim
structure Fun (K : W.Frag) (x qual : Str) (st : Stmt) (f : Addr) (fd : FuncData) : Prop where
 ex : ∃ (oc : Value) (od : Option Addr) (kV doc pm : Value) (an : Option Addr) (cdv ct : Value) (osl : Array (Option Value)),
  fd = W.fnOf x qual (Zao st) (Zal st) (Zab st) .none kV doc pm an cdv ct /\ K.lookup f = some ⟨oc, od, .func fd, osl⟩ /\ W.codeIn K cdv qual = true
 kp : W.keepIn K (.ref f) = true
section
variable {P : Program} {w : World} {K : W.Frag} {mg : Str -> Option Value} {base : Heap}
theorem Fun.ok {x qual : Str} {st : Stmt} {f : Addr} {fd : FuncData} {N ps : List Str} {k : Nat} {sp : Sp} (F : Fun K x qual st f fd) (S : FnScope N ps (Zab st)) (len : ∀ vs H Q E, sp vs H Q E -> vs.length = ps.length)
 (hbody : ∀ (cdv : Value) (A : Around) (outer : List Env) (s : Shared) (H : Hp) (vs : List V) (Q : VK) (E : XK), Room k (A.deeper (envOfC qual (Zab st) s.heap.objs.size f cdv)) -> sp vs H Q E ->
  ∃ t, PSs (Zin CX0 P w K mg base N qual (Zab st) f cdv A outer s H E).nox (Zal st) t /\ t { nx := fun _ H' => Q .non H', rt := Q } (start N vs) H) : FnOk P w K mg base CX0 (k + 1) f fd ps sp := by
 obtain ⟨oc, od, kV, doc, pm, an, cdv, ct, osl, rfl, lk, hcd⟩ := F.ex
 refine ZrC lk hcd S len fun A outer s H vs Q E hr hsp => ?_
 obtain ⟨t, h, q⟩ := hbody cdv A outer s H vs Q E hr hsp
 exact ⟨t, h.nox, q⟩
theorem Fun.binds {x qual : Str} {st : Stmt} {f : Addr} {fd : FuncData} {ps : List Str} (F : Fun K x qual st f fd)
 (h : ∀ (kV doc pm : Value) (an : Option Addr) (cdv ct : Value) (us : List Value), us.length = ps.length -> bindArgs (W.fnOf x qual (Zao st) (Zal st) (Zab st) .none kV doc pm an cdv ct) ⟨us, []⟩ = pure (ps.zip us)) : ZeK K fd ps [] := by
 obtain ⟨oc, od, kV, doc, pm, an, cdv, ct, osl, rfl, lk, hcd⟩ := F.ex
 exact .all (h kV doc pm an cdv ct)
theorem Zaz {x qual : Str} {st : Stmt} {f : Addr} {oc : Value} {od an : Option Addr} {osl : Array (Option Value)} {kV doc pm cdv ct : Value} (l : K.lookup f = some ⟨oc, od, .func (W.fnOf x qual (Zao st) (Zal st) (Zab st) .none kV doc pm an cdv ct), osl⟩)
 (c : W.codeIn K cdv qual = true) (k : W.keepIn K (.ref f) = true) : Fun K x qual st f (W.fnOf x qual (Zao st) (Zal st) (Zab st) .none kV doc pm an cdv ct) := ⟨⟨oc, od, kV, doc, pm, an, cdv, ct, osl, rfl, l, c⟩, k⟩
end
theorem ZgX {A : Around} {k : Nat} (hr : Room k A) : A.units + 1 < cLine := Nat.lt_of_le_of_lt (Nat.add_le_add_left (by decide : 1 <= 64) _) hr.units
theorem Zbh {n : Nat} (h : n <= 1000) : n < sizeLine := Nat.lt_of_le_of_lt h (by decide)
section
variable {X : Cx}
theorem pv (i : Nat) {x : Str} {pos : Pos} (hN : X.N[i]? = some x := by rfl) (hv : Vis X.env.scope x := by first | exact Or.inl rfl | exact Or.inr (Or.inl rfl) | exact Or.inr (Or.inr rfl)) (hd : (x == ("__debug__" : Str)) = false := by decide)
 (hcd : (x == ("__classdict__" : Str)) = false := by decide) : PE X (.Name x pos) (ZcP i) := Zqi hN hv hd hcd
end
def ZaF (H H' : Hp) : Prop := ∀ b o, H b = some o -> H' b = some o
theorem ZaF.refl (H : Hp) : ZaF H H := fun _ _ h => h
theorem ZaF.trans {H H1 H2 : Hp} (a : ZaF H H1) (b : ZaF H1 H2) : ZaF H H2 := fun c o h => b c o (a c o h)
theorem ZaF.free {H H' : Hp} (e : ZaF H H') {l : Addr} (h : H' l = Option.none) : H l = Option.none := by
 cases q : H l with
 | none => rfl
 | some o =>
   rw [e l o q] at h
   cases h
theorem ZaF.seq {K : W.Frag} {H H' : Hp} {a : Addr} {xs : List V} (e : ZaF H H') (h : SqL K H a xs) : SqL K H' a xs := by
 rcases h with (h | ⟨o, h⟩) | h
 ·exact .inl (.inl (e _ _ h))
 ·exact .inl (.inr ⟨o, e _ _ h⟩)
 ·exact .inr h
end L2
section
namespace L2
open PySem PySem.Spec PyProof.Rows
theorem ZeF {env : Env} {F : Str × NameKind -> List (Str × Addr) -> Sem (ForInStep (List (Str × Addr)))}
 (h1 : ∀ n c cs, env.cells.lookup n = some c -> F (n, NameKind.free) cs = pure (.yield ((n, c) :: cs)))
 (h2 : ∀ n k cs, k ≠ NameKind.free -> F (n, k) cs = pure (.yield cs)) :
 ∀ (l : List (Str × NameKind)) (cs : List (Str × Addr)), (∀ p ∈ l, p.2 = NameKind.free -> ∃ c, env.cells.lookup p.1 = some c) -> (∀ x c, cs.lookup x = some c -> env.cells.lookup x = some c) ->
  ∃ cl, forIn l cs F = pure cl /\ (∀ x c, cl.lookup x = some c -> env.cells.lookup x = some c) /\ (∀ x c, cs.lookup x = some c -> ∃ c', cl.lookup x = some c') /\ ∀ p ∈ l, p.2 = NameKind.free -> ∃ c, cl.lookup p.1 = some c
 | [], cs, _, hc => ⟨cs, by rw [List.forIn_nil], hc, fun x c h => ⟨c, h⟩, fun p hp => absurd hp (by simp)⟩
 | (n, k) :: l, cs, hl, hc => by
   have hl' : ∀ p ∈ l, p.2 = NameKind.free -> ∃ c, env.cells.lookup p.1 = some c := fun p hp => hl p (List.mem_cons_of_mem _ hp)
   by_cases hk : k = NameKind.free
   ·subst hk
    obtain ⟨c, e⟩ := hl (n, NameKind.free) List.mem_cons_self rfl
    have hc' : ∀ x d, ((n, c) :: cs).lookup x = some d -> env.cells.lookup x = some d := fun x d q => by
     cases hx : x == n with
     | true =>
       simp only [List.lookup_cons, hx] at q
       cases q
       rw [eq_of_beq hx]; exact e
     | false =>
       simp only [List.lookup_cons, hx] at q
       exact hc x d q
    obtain ⟨cl, a1, a2, a3, a4⟩ := ZeF h1 h2 l ((n, c) :: cs) hl' hc'
    have up : ∀ x d, cs.lookup x = some d -> ∃ d', ((n, c) :: cs).lookup x = some d' := fun x d q => by
     cases hx : x == n with
     | true => exact ⟨c, by simp only [List.lookup_cons, hx]⟩
     | false => exact ⟨d, by simp only [List.lookup_cons, hx]; exact q⟩
    refine ⟨cl, by rw [List.forIn_cons, h1 n c cs e, pure_bind]; exact a1, a2, fun x d q => ?_, fun p hp hf => ?_⟩
    ·obtain ⟨d', q'⟩ := up x d q
     exact a3 x d' q'
    ·rcases List.mem_cons.mp hp with rfl | hp
     ·exact a3 n c (by simp only [List.lookup_cons, beq_self_eq_true])
     ·exact a4 p hp hf
   ·obtain ⟨cl, a1, a2, a3, a4⟩ := ZeF h1 h2 l cs hl' hc
    refine ⟨cl, by rw [List.forIn_cons, h2 n k cs hk, pure_bind]; exact a1, a2, a3, fun p hp hf => ?_⟩
    rcases List.mem_cons.mp hp with rfl | hp
    ·exact absurd hf hk
    ·exact a4 p hp hf
theorem Zgb {scope : Scope} {env : Env} (h : ∀ p ∈ scope.names, p.2 = NameKind.free -> ∃ c, env.cells.lookup p.1 = some c) :
 ∃ cl, closureFor scope env = pure cl /\ (∀ x c, cl.lookup x = some c -> env.cells.lookup x = some c) /\ ∀ p ∈ scope.names, p.2 = NameKind.free -> ∃ c, cl.lookup p.1 = some c := by
 simp only [closureFor]
 obtain ⟨cl, a1, a2, _, a4⟩ := ZeF (env := env) (F := fun x r => match x with | (name, kind) => if (kind == NameKind.free) = true then do let a <- cellOf env name; pure (ForInStep.yield ((name, a) :: r)) else pure (ForInStep.yield r))
  (fun n c cs e => by
   show (if (NameKind.free == NameKind.free) = true then _ else _) = _
   rw [if_pos (show (NameKind.free == NameKind.free) = true from rfl)]
   unfold cellOf
   rw [e]
   rfl)
  (fun n k cs hk => by
   have : (k == NameKind.free) = false := by simpa using hk
   show (if (k == NameKind.free) = true then _ else _) = _
   rw [this, if_neg Bool.false_ne_true]) scope.names [] h (fun x c q => by simp at q)
 refine ⟨cl, ?_, a2, a4⟩
 first
  | exact a1
  | (rw [bind_pure]; exact a1)
  | (simp only [bind_pure] at *; exact a1)
  | (rw [show (forIn scope.names ([] : List (Str × Addr)) _ >>= fun r => pure r) = _ from bind_pure _]; exact a1)
theorem Zda {env : Env} : ∀ {names : List (Str × NameKind)} {x : Str}, names.lookup x = some .free ->
 (names.map fun (n, k) => if (k == NameKind.free && env.scope.kind == .function && env.kindOf n == some .cell) then (n, NameKind.cell) else (n, k)).lookup x = some .cell \/
 (names.map fun (n, k) => if (k == NameKind.free && env.scope.kind == .function && env.kindOf n == some .cell) then (n, NameKind.cell) else (n, k)).lookup x = some .free
 | [], _, h => by simp at h
 | (n, k) :: r, x, h => by
   have ih := @Zda env r x
   show List.lookup x ((if (k == NameKind.free && env.scope.kind == .function && env.kindOf n == some .cell) = true then (n, NameKind.cell) else (n, k)) :: _) = _ \/ List.lookup x ((if (k == NameKind.free && env.scope.kind == .function && env.kindOf n == some .cell) = true then (n, NameKind.cell) else (n, k)) :: _) = _
   cases hx : x == n with
   | true =>
     simp only [List.lookup_cons, hx] at h
     cases h
     by_cases hc : (NameKind.free == NameKind.free && env.scope.kind == .function && env.kindOf n == some .cell) = true
     ·rw [if_pos hc]; left; simp only [List.lookup_cons, hx]
     ·rw [if_neg hc]; right; simp only [List.lookup_cons, hx]
   | false =>
     simp only [List.lookup_cons, hx] at h
     by_cases hc : (k == NameKind.free && env.scope.kind == .function && env.kindOf n == some .cell) = true
     ·rw [if_pos hc]; simp only [List.lookup_cons, hx]; exact ih h
     ·rw [if_neg hc]; simp only [List.lookup_cons, hx]; exact ih h
theorem Zdl {env : Env} : ∀ {names : List (Str × NameKind)} {x : Str}, ((names.map fun (n, k) => if (k == NameKind.free && env.scope.kind == .function && env.kindOf n == some .cell) then (n, NameKind.cell) else (n, k)).lookup x = some .cell \/
 (names.map fun (n, k) => if (k == NameKind.free && env.scope.kind == .function && env.kindOf n == some .cell) then (n, NameKind.cell) else (n, k)).lookup x = some .free) -> names.lookup x = some .free \/ names.lookup x = some .cell
 | [], _, h => by simp at h
 | (n, k) :: r, x, h => by
   have ih := @Zdl env r x
   have h : List.lookup x ((if (k == NameKind.free && env.scope.kind == .function && env.kindOf n == some .cell) = true then (n, NameKind.cell) else (n, k)) :: _) = _ \/ List.lookup x ((if (k == NameKind.free && env.scope.kind == .function && env.kindOf n == some .cell) = true then (n, NameKind.cell) else (n, k)) :: _) = _ := h
   cases hx : x == n with
   | true =>
     simp only [List.lookup_cons, hx]
     by_cases hc : (k == NameKind.free && env.scope.kind == .function && env.kindOf n == some .cell) = true
     ·have : k = NameKind.free := by
       rw [Bool.and_eq_true, Bool.and_eq_true] at hc
       exact eq_of_beq hc.1.1
      left; rw [this]
     ·rw [if_neg hc] at h
      simp only [List.lookup_cons, hx] at h
      exact h.symm
   | false =>
     simp only [List.lookup_cons, hx]
     by_cases hc : (k == NameKind.free && env.scope.kind == .function && env.kindOf n == some .cell) = true
     ·rw [if_pos hc] at h; simp only [List.lookup_cons, hx] at h; exact ih h
     ·rw [if_neg hc] at h; simp only [List.lookup_cons, hx] at h; exact ih h
structure CIn where
 cl : List (Str × Addr)
 C : Addr
 s₀ : Shared
 H₀ : Hp
 ex : List Addr
 pn : List (Addr × Obj)
def Zcg (X : Cx) (N : List Str) (scope : Scope) (c : CIn) : Cx where
 prog := X.prog
 w := X.w
 K := X.K
 mg := X.mg
 base := X.base
 A := X.A
 N := N
 s₀ := c.s₀
 H₀ := c.H₀
 env := compEnvC scope c.cl c.C X.env
 outer := X.stack
 stack := X.stack
 ex := c.ex
 fn := fun _ => false
 calm := X.calm
 pn := c.pn
 xe := fun _ _ => False
def Zj0 (f : List (Option Nat)) (σ : St) : St := f.map fun o => match o with | some i => (σ[i]?).join | none => none
structure CompOk (NX : List Str) (sc : Scope) (N : List Str) (f : List (Option Nat)) (scope : Scope) : Prop where
 kind : scope.kind = .function
 nocell : ∀ y ∈ scope.names, y.2 ≠ NameKind.cell
 names : ∀ y ∈ scope.names, y.2 = NameKind.local -> scope.names.lookup y.1 = some .local
 free : ∀ y ∈ scope.names, y.2 = NameKind.free -> sc.names.lookup y.1 = some .cell \/ sc.names.lookup y.1 = some .free
 len : f.length = N.length
 ix : ∀ (j i : Nat), f[j]? = some (some i) -> ∃ x, N[j]? = some x /\ NX[i]? = some x /\ scope.names.lookup x = some .free
def ZgF (NX : List Str) (sc : Scope) (N : List Str) (f : List (Option Nat)) (scope : Scope) : Bool :=
 decide (scope.kind = .function) && (scope.names.all fun y => decide (y.2 ≠ NameKind.cell) && (decide (y.2 ≠ NameKind.local) || decide (scope.names.lookup y.1 = some .local)) &&
  (decide (y.2 ≠ NameKind.free) || decide (sc.names.lookup y.1 = some .cell) || decide (sc.names.lookup y.1 = some .free))) && decide (f.length = N.length) &&
 (List.range f.length).all fun j => match f[j]? with
  | some (some i) => (match N[j]? with
    | some x => decide (NX[i]? = some x) && decide (scope.names.lookup x = some .free)
    | none => false)
  | _ => true
theorem Zhf {NX : List Str} {sc : Scope} {N : List Str} {f : List (Option Nat)} {scope : Scope} (h : ZgF NX sc N f scope = true) : CompOk NX sc N f scope := by
 unfold ZgF at h
 simp only [Bool.and_eq_true, List.all_eq_true, decide_eq_true_eq, Bool.or_eq_true] at h
 obtain ⟨⟨⟨h1, h2⟩, h3⟩, h4⟩ := h
 refine ⟨h1, fun y hy => (h2 y hy).1.1, fun y hy e => ?_, fun y hy e => ?_, h3, fun j i e => ?_⟩
 ·rcases (h2 y hy).1.2 with z | z
  ·exact absurd e z
  ·exact z
 ·rcases (h2 y hy).2 with (z | z) | z
  ·exact absurd e z
  ·exact .inl z
  ·exact .inr z
 ·have hj : j < f.length := (List.getElem?_eq_some_iff.mp e).1
  have q := h4 j (List.mem_range.mpr hj)
  rw [e] at q
  cases hN : N[j]? with
  | none => rw [hN] at q; simp at q
  | some x =>
    rw [hN] at q
    simp only [Bool.and_eq_true, decide_eq_true_eq] at q
    exact ⟨x, rfl, q.1, q.2⟩
def Zsg (f : List (Option Nat)) (σ σ' : St) : Prop := σ'.length = σ.length /\ ∀ (i j : Nat), f[i]? = some (some j) -> σ'[i]? = σ[i]?
structure TgOk (f : List (Option Nat)) (g : TG) : Prop where
 keep : ∀ x σ H Q, g x σ H Q -> g x σ H fun σ2 H2 => Zsg f σ σ2 /\ Q σ2 H2
 mono : ∀ x σ H Q Q', (∀ σ H, Q σ H -> Q' σ H) -> g x σ H Q -> g x σ H Q'
structure TgsOk (f : List (Option Nat)) (g : TGs) : Prop where
 keep : ∀ xs σ H Q, g xs σ H Q -> g xs σ H fun σ2 H2 => Zsg f σ σ2 /\ Q σ2 H2
 mono : ∀ xs σ H Q Q', (∀ σ H, Q σ H -> Q' σ H) -> g xs σ H Q -> g xs σ H Q'
theorem Zbk {f : List (Option Nat)} {j : Nat} (h : f[j]? = some none := by rfl) : TgOk f (ZgA j) where
 keep := fun x σ H Q q => ⟨⟨List.length_set .., fun i k e => List.getElem?_set_ne (by rintro rfl; rw [h] at e; cases e)⟩, q⟩
 mono := fun x σ H Q Q' m q => m _ _ q
theorem ZoI {f : List (Option Nat)} : TgsOk f ZrO where
 keep := fun xs σ H Q ⟨e, q⟩ => ⟨e, ⟨rfl, fun _ _ _ => rfl⟩, q⟩
 mono := fun xs σ H Q Q' m ⟨e, q⟩ => ⟨e, m _ _ q⟩
theorem Zjv {f : List (Option Nat)} {t : TG} {u : TGs} (h1 : TgOk f t) (h2 : TgsOk f u) : TgsOk f (ZpK t u) where
 keep := fun xs σ H Q ⟨v, r, e, q⟩ => ⟨v, r, e, h1.mono _ _ _ _ _ (fun σ1 H1 z => h2.mono _ _ _ _ _ (fun σ2 H2 y => ⟨⟨y.1.1.trans z.1.1, fun i j ef => (y.1.2 i j ef).trans (z.1.2 i j ef)⟩, y.2⟩) (h2.keep _ _ _ _ z.2)) (h1.keep _ _ _ _ q)⟩
 mono := fun xs σ H Q Q' m ⟨v, r, e, q⟩ => ⟨v, r, e, h1.mono _ _ _ _ _ (fun σ1 H1 z => h2.mono _ _ _ _ _ m z) q⟩
theorem Zq6 {f : List (Option Nat)} {K : W.Frag} {n : Nat} {t : TGs} (h : TgsOk f t) : TgOk f (Zrx K n t) where
 keep := fun x σ H Q ⟨a, xs, e, q, l, z⟩ => ⟨a, xs, e, q, l, h.keep _ _ _ _ z⟩
 mono := fun x σ H Q Q' m ⟨a, xs, e, q, l, z⟩ => ⟨a, xs, e, q, l, h.mono _ _ _ _ _ m z⟩
def PCs (X : Cx) (ifs : List Expr) (tc : TT) : Prop :=
 ∀ (pins : List (Addr × Obj)) (s : Shared) (σ : St) (H : Hp) (Q : Bool -> Hp -> Prop), Inv X pins σ H s -> tc σ H Q ->
  wpAny (model X.prog X.w) X.A (forIn ifs true fun c r => if r = true then do let ok <- isTrue c X.env (eval c X.env); pure (ForInStep.yield ok) else pure (ForInStep.yield r)) (TP X pins σ Q) X.xe s
def ZpZ : TT := fun _ H Q => Q true H
theorem ZbQ {X : Cx} : PCs X [] ZpZ := fun _ _ _ H _ I h => wpAny_tests_nil ⟨H, I, h⟩
theorem Zi9 {X : Cx} {c : Expr} {tc : TT} (h : PT X c tc) : PCs X [c] tc := fun pins s σ H Q I q => wpAny_tests_one (h pins s σ H Q I q)
theorem ZhQ {prog : Program} {w : World} {A : Around} {R : Result -> Shared -> Prop} {s : Shared} {elt target iter : Expr} {ifs : List Expr} {scope : Scope} {pos : Pos} {it acc : Value} {env : Env} (I : Nat -> Shared -> Prop)
 (turn : ∀ n s, I n s -> wpAny (model prog w) A (pyNext it) (fun r s₁ => match r with
  | none => R (.ok .next) s₁
  | some v => wpAny (model prog w) A (letOwnedTupleGo target it v) (fun _ s₁' => wpAny (model prog w) A (assign target env v) (fun _ s₂ =>
   wpAny (model prog w) A (forIn ifs true fun c r => if r = true then do let ok <- isTrue c env (eval c env); pure (ForInStep.yield ok) else pure (ForInStep.yield r)) (fun ok s₃ =>
    if ok = true then wpAny (model prog w) A (eval elt env) (fun x s₄ =>
     wpAny (model prog w) A (call (.builtin "list.append") [acc, x]) (fun _ s₅ => ∃ m, m < n /\ I m s₅) (fun _ _ => False) s₄) (fun _ _ => False) s₃
    else ∃ m, m < n /\ I m s₃) (fun _ _ => False) s₂) (fun _ _ => False) s₁') (fun _ _ => False) s₁) (fun _ _ => False) s)
 (n : Nat) (h : I n s) :
 codeAny (model prog w) A (.compLoop (.ListComp elt [⟨target, iter, ifs, 0⟩] scope pos) 0 it acc env) R s := by
 refine codeAny_loop rfl I (fun n s hI => ?_) n h
 show wpAny _ A ((compTurn (.ListComp elt [⟨target, iter, ifs, 0⟩] scope pos) 0 it acc env).onRaise (fun x => do noteFrame x env; theTreesLotGoes x)) _ _ s
 refine wpAny_noted ?_
 rw [compTurn_list]
 refine wpAny_bind (wpAny_standAt (wpAny_bind (wpAny_mono (turn n s hI) (fun r s₁ h₁ => ?_) fun _ _ h' => h'.elim)))
 cases r with
 | none => exact wpAny_pure h₁
 | some v =>
   refine wpAny_bind (wpAny_mono h₁ (fun _ s₁' h₁' => ?_) fun _ _ h' => h'.elim)
   refine wpAny_bind (wpAny_mono h₁' (fun _ s₂ h₂ => wpAny_bind (wpAny_mono h₂ (fun ok s₃ h₃ => ?_) fun _ _ h' => h'.elim)) fun _ _ h' => h'.elim)
   cases ok with
   | false => exact wpAny_pure ⟨rfl, h₃⟩
   | true =>
     exact wpAny_bind (wpAny_bind (wpAny_mono h₃ (fun x s₄ h₄ => wpAny_bind (wpAny_mono h₄ (fun _ s₅ h₅ => wpAny_pure (wpAny_pure ⟨rfl, h₅⟩)) fun _ _ h' => h'.elim)) fun _ _ h' => h'.elim))
theorem Inv.track {X : Cx} {pins : List (Addr × Obj)} {σ : St} {H : Hp} {s : Shared} {a : Addr} {o : HO} (I : Inv X pins σ H s) (hn : H a = none) (h0 : X.s₀.heap.objs.size <= a) (hL : a ≠ X.env.locals) (hC : ∀ x c, X.env.cells.lookup x = some c -> c ≠ a)
 (hp : ∀ p ∈ X.pn ++ pins, p.1 ≠ a) (new : ZcE X.prog X.w (upd H a o) s.heap a o) : Inv X pins σ (upd H a o) s where
 ok := I.ok
 os := I.os
 bare := I.bare
 base :=
  { keep := I.base.keep
    slot := I.base.slot
    free := fun b ob q n hx => by rw [Zag (Nat.ne_of_lt (Nat.lt_of_lt_of_le (Heap.lt_size q) h0))]; exact I.base.free b ob q n hx
    there := I.base.there
    tups := fun b xs q => by have z := I.base.tups b xs q; rw [Zag (Zat z hn)]; exact z
    tupo := I.base.tupo
    frzs := fun b u xs q => by have z := I.base.frzs b u xs q; rw [Zag (Zat z hn)]; exact z
    tbls := fun b ps q => by obtain ⟨more, z⟩ := I.base.tbls b ps q; exact ⟨more, by rw [Zag (Zat z hn)]; exact z⟩ }
 loc := I.loc
 cell := I.cell
 free := by rw [Zag hL.symm]; exact I.free
 freeC := fun x c e => by rw [Zag (hC x c e)]; exact I.freeC x c e
 pin := fun p hp' => by obtain ⟨e, n, r⟩ := I.pin p hp'; exact ⟨e, by rw [Zag (hp p hp')]; exact n, r⟩
 hok := fun b u e => by
  by_cases hb : b = a
  ·subst hb; rw [Zak] at e; cases e; exact new
  ·rw [Zag hb] at e
   exact (I.hok b u e).stay (fun _ _ _ q => q) (fun c q => by rw [Zag (Zat q hn)]; exact q) fun c xs q => by rw [Zag (Zat q hn)]; exact q
 len := I.len
def LCw (f : List (Option Nat)) (g : TG) (tc : TT) (te : TE) (σ : St) (J : It) (Q : VK) (H1 : Hp) : Prop :=
 ∃ W : Nat -> Nat -> List V -> Hp -> Prop, (∃ m, W 0 m [] H1) /\ ∀ i m ys H, W i m ys H ->
  (J.stop i H /\ ∀ p, H p = none -> Q (.ref p) (upd H p (.lst ys))) \/
  (J.go i H /\ ∀ x H', J.yld i H x H' -> g x (Zj0 f σ) H' fun σ2 H2 => tc σ2 H2 fun b H3 =>
   if b = true then te σ2 H3 fun y H4 => ys.length < sizeLine /\ ∃ m', m' < m /\ W (i + 1) m' (ys ++ [y]) H4
   else ∃ m', m' < m /\ W (i + 1) m' ys H3)
def tLC (f : List (Option Nat)) (wi : TI) (g : CIn -> TG) (tc : CIn -> TT) (te : CIn -> TE) : TE := fun σ H Q => wi σ H fun J H1 => ∀ c : CIn, LCw f (g c) (tc c) (te c) σ J Q H1
abbrev ZkG (its : List Value) (k : Nat) : Obj := { cls := .type "list", data := .seq its.toArray k }
section
variable {X : Cx} {pins : List (Addr × Obj)} {σ : St} {H2 : Hp} {s₂ : Shared}
theorem Zok {tg iter elt : Expr} {ifs : List Expr} {scope : Scope} {pos : Pos} {N : List Str} {f : List (Option Nat)} {g : CIn -> TG} {tc : CIn -> TT} {te : CIn -> TE} {cl : List (Str × Addr)}
 (hc : X.calm = true) (ck : CompOk X.N X.env.scope N f scope)
 (hg : ∀ c, PG (Zcg X N scope c) tg (g c)) (ht : ∀ c, TgOk f (g c)) (hcs : ∀ c, PCs (Zcg X N scope c) ifs (tc c)) (he : ∀ c, PE (Zcg X N scope c) elt (te c))
 (I2 : Inv X pins σ H2 s₂) {it : Addr} {fp : List Addr} {tn : Nat -> Heap -> Prop} {J : It} (T : Turn X.prog X.w X.K tg J fp it tn) (st : tn 0 s₂.heap) (f2 : ∀ b ∈ fp, ZkF X pins H2 b)
 {Q : VK} (hq : ∀ c : CIn, LCw f (g c) (tc c) (te c) σ J Q H2)
 (hcl1 : ∀ x c, cl.lookup x = some c -> X.env.cells.lookup x = some c) (hcl2 : ∀ p ∈ scope.names, p.2 = NameKind.free -> ∃ c, cl.lookup p.1 = some c)
 {RR : Value -> Addr -> Result -> Shared -> Prop} {E : Value -> Shared -> Prop}
 (hRR : ∀ (acc C : Addr) (H' : Hp) (s' : Shared) (m' : Str -> Option Value), s'.heap.Ns C m' -> Inv X pins σ H' s' -> H' C = none -> C ≠ X.env.locals -> X.s₀.heap.objs.size <= C -> (∀ x c, X.env.cells.lookup x = some c -> c ≠ C) ->
  (∀ p ∈ X.pn ++ pins, p.1 ≠ C) -> Q (.ref acc) H' -> RR (.ref acc) C (.ok .next) s') :
 wpAny (model X.prog X.w) X.A (newList []) (fun acc s₃ => wpAny (model X.prog X.w) X.A (newFunctionEnv scope X.env.globals cl [] X.env.qual none .none (some X.env)) (fun cenv s₄ =>
  codeAny (model X.prog X.w) X.A (.compStart (.ListComp elt [⟨tg, iter, ifs, 0⟩] scope pos) 0 (.ref it) acc { cenv with scope := relabel scope X.env }) (RR acc cenv.locals) s₄) E s₃) E s₂ := by
 refine wpAny_newObj_type (wpAny_newFunctionEnv ck.nocell (by intro y hy; simp at hy) (fun h₁ hns₁ hsb₁ => ?_) ck.kind)
 dsimp only at hns₁ hsb₁ ⊢
 have I3 : Inv X pins σ H2 { s₂ with heap := s₂.heap.push (ZkG [] 0) } := I2.kept (t' := s₂.toks) fun b u e => Heap.get?_push_of_some _ e
 have hD : (s₂.heap.push (ZkG [] 0)).get? s₂.heap.objs.size = some (ZkG [] 0) := Heap.get?_push_size _ rfl
 generalize hs3 : ({ s₂ with heap := s₂.heap.push (ZkG [] 0) } : Shared) = s₃ at I3 hns₁ hsb₁ ⊢
 have hp3 : s₂.heap.push (ZkG [] 0) = s₃.heap := by rw [<- hs3]
 have hp3' : s₂.heap.push { cls := .type "list", dict := none, data := .seq ([] : List Value).toArray } = s₃.heap := hp3
 rw [hp3] at hD
 simp only [hp3'] at hns₁ hsb₁ ⊢
 have sz3 : s₂.heap.objs.size < s₃.heap.objs.size := by rw [<- hp3, Heap.size_push]; exact Nat.lt_succ_self _
 have k3 : ∀ b u, s₂.heap.get? b = some u -> s₃.heap.get? b = some u := fun b u e => by rw [<- hp3]; exact Heap.get?_push_of_some _ e
 have k1 : ∀ b u, s₃.heap.get? b = some u -> h₁.get? b = some u := fun b u e =>
  hsb₁.extBut b u (Nat.ne_of_lt (Heap.lt_size e)) (Heap.get?_push_of_some _ e)
 have fpo : ∀ b ∈ fp, b < s₂.heap.objs.size := fun b hb => by
  obtain ⟨o, e, _⟩ := T.obj 0 _ st b hb
  exact Heap.lt_size e
 have st1 : tn 0 h₁ := T.keep _ _ _ st fun b hb o e => k1 b o (k3 b o e)
 have fneC : ∀ b ∈ fp, b ≠ s₃.heap.objs.size := fun b hb => Nat.ne_of_lt (Nat.lt_trans (fpo b hb) sz3)
 have fneD : ∀ b ∈ fp, b ≠ s₂.heap.objs.size := fun b hb => Nat.ne_of_lt (fpo b hb)
 have cneD : ∀ x d, X.env.cells.lookup x = some d -> d ≠ s₂.heap.objs.size := fun x d e => by
  obtain ⟨v, z⟩ := I2.cell x d e
  exact Nat.ne_of_lt z.lt
 have pneD : ∀ p ∈ X.pn ++ pins, p.1 ≠ s₂.heap.objs.size := fun p hp => Nat.ne_of_lt (Heap.lt_size (I2.pin p hp).1)
 have freeD : H2 s₂.heap.objs.size = none := I2.fresh
 have stk : ∀ b, b ≠ X.env.locals -> b ∉ X.fs -> b ∉ frs X.stack := fun b h1 h2 hb => by
  rcases List.mem_cons.mp (I3.stkSub b hb) with z | z
  ·exact h1 z
  ·exact h2 z
 have exD : ∀ b, b ∈ s₂.heap.objs.size :: fp -> b = s₂.heap.objs.size \/ b ∈ fp := fun b hb => List.mem_cons.mp hb
 let c : CIn := ⟨cl, s₃.heap.objs.size, s₃, H2, s₂.heap.objs.size :: fp, X.pn ++ pins⟩
 have okX : (Zcg X N scope c).Ok :=
  { mod := I3.ok.mod
    kind := ck.kind
    glob := I3.ok.glob
    blt := I3.ok.blt
    above := Nat.le_refl _
    inj := fun x y d h1 h2 => I3.ok.inj x y d (hcl1 x d h1) (hcl1 y d h2)
    has := fun x hx => by
     rcases Zdl hx with z | z
     ·exact hcl2 (x, .free) (PySem.mem_of_lookup z) rfl
     ·exact absurd rfl (ck.nocell (x, .cell) (PySem.mem_of_lookup z))
    cab := fun x d h => absurd (show false = true from h) Bool.false_ne_true
    hd := I3.ok.hd
    frames := I3.ok.frames
    stk := .inl rfl
    exf := fun b hb => by
     rcases exD b hb with rfl | hb
     ·exact ⟨Nat.ne_of_lt sz3, fun x d e => cneD x d (hcl1 x d e)⟩
     ·exact ⟨fneC b hb, fun x d e => (f2 b hb).2.2.2.2.1 x d (hcl1 x d e)⟩
    bs := fun b o e => I3.bs b o e
    bsz := Nat.le_trans I3.ok.bsz I3.sz
    noex := fun b o e hb => by
     rcases exD b hb with rfl | hb
     ·exact absurd (Heap.lt_size (I2.bk _ _ e)) (Nat.lt_irrefl _)
     ·rcases (f2 b hb).2.2.2.1 with z | z
      ·exact I3.ok.noex b o e z
      ·exact absurd (Nat.lt_of_lt_of_le (Heap.lt_size (I3.ok.bs b o e).1) z) (Nat.lt_irrefl _)
    exfs := fun b hb => by
     rcases exD b hb with rfl | hb
     ·exact stk _ (Nat.ne_of_gt I2.lt) (I2.nofs (Nat.le_refl _))
     ·exact stk b (f2 b hb).2.1 (f2 b hb).2.2.1
    funs := I3.stack
    frf := I3.stkFree }
 have I4 : Inv (Zcg X N scope c) [(s₂.heap.objs.size, ZkG [] 0)] (Zj0 f σ) H2 { s₃ with heap := h₁, toks := s₃.toks + ([] : List (Str × Value)).length } :=
  { ok := okX
    os := rfl
    bare := I3.bare
    base := Un.kept k1
    loc := ⟨_, hns₁, fun i x v e1 e2 e3 => by
     have hfi : ∃ j, f[i]? = some (some j) /\ σ[j]? = some (some v) := by
      unfold Zj0 at e2
      rw [List.getElem?_map] at e2
      cases ef : f[i]? with
      | none => rw [ef] at e2; cases e2
      | some o =>
        rw [ef] at e2
        cases o with
        | none => cases e2
        | some j =>
          refine ⟨j, rfl, ?_⟩
          have e2' : (σ[j]?).join = some v := Option.some.inj e2
          cases es : σ[j]? with
          | none => rw [es] at e2'; cases e2'
          | some o2 =>
            rw [es] at e2'
            have : o2 = some v := e2'
            rw [this]
     obtain ⟨j, ef, es⟩ := hfi
     obtain ⟨x', n1, n2, n3⟩ := ck.ix i j ef
     have : x' = x := Option.some.inj (n1.symm.trans e1)
     subst this
     have hfr := ck.free (x', .free) (PySem.mem_of_lookup n3) rfl
     obtain ⟨m0, hm0, hl0⟩ := I3.loc
     obtain ⟨u, ru, lk⟩ := hl0 j x' v n2 es (hfr.elim (fun z => .inr (.inl z)) fun z => .inr (.inr z))
     refine ⟨u, ru, .inr ⟨Zda n3, ?_⟩⟩
     rcases lk with ⟨kl, _⟩ | ⟨_, d, ed, hd⟩
     ·have kl' : X.env.scope.names.lookup x' = some .local := kl
      rcases hfr with z | z
      ·rw [kl'] at z; cases z
      ·rw [kl'] at z; cases z
     ·obtain ⟨d', ed'⟩ := hcl2 (x', .free) (PySem.mem_of_lookup n3) rfl
      have : d' = d := Option.some.inj ((hcl1 x' d' ed').symm.trans ed)
      subst this
      exact ⟨d', ed', hd.keeps k1⟩⟩
    cell := fun x d e => by
     obtain ⟨v, z⟩ := I3.cell x d (hcl1 x d e)
     exact ⟨v, z.keeps k1⟩
    free := I3.fresh
    freeC := fun x d e => I3.freeC x d (hcl1 x d e)
    pin := fun p hp => by
     rcases List.mem_append.mp (show p ∈ (X.pn ++ pins) ++ [(s₂.heap.objs.size, ZkG [] 0)] from hp) with hp' | hp'
     ·obtain ⟨e, n, ne, nf, d⟩ := I3.pin p hp'
      exact ⟨k1 _ _ e, n, Nat.ne_of_lt (Heap.lt_size e), stk p.1 ne nf, d⟩
     ·have z : p = (s₂.heap.objs.size, ZkG [] 0) := List.mem_singleton.mp hp'
      subst z
      exact ⟨k1 _ _ hD, freeD, Nat.ne_of_lt sz3, stk _ (Nat.ne_of_gt I2.lt) (I2.nofs (Nat.le_refl _)), fun v z => nomatch (show Data.seq _ _ = Data.cell v from z)⟩
    hok := I3.hok.kept k1
    len := by
     show (Zj0 f σ).length = N.length
     unfold Zj0
     rw [List.length_map]
     exact ck.len }
 have back : ∀ {σ' : St} {H' : Hp} {s' : Shared} {ps : List (Addr × Obj)}, Inv (Zcg X N scope c) ps σ' H' s' -> Inv X pins σ H' s' := fun {σ' H' s' ps} J' =>
  I3.call' (ch := s₂.heap.objs.size :: fp) J'.os J'.base J'.hok J'.bare fun b hb => by
   rcases exD b hb with rfl | hb
   ·exact ⟨.inr I2.sz, Nat.ne_of_gt I2.lt, cneD, pneD⟩
   ·exact ⟨(f2 b hb).2.2.2.1, (f2 b hb).2.1, (f2 b hb).2.2.2.2.1, (f2 b hb).2.2.2.2.2⟩
 have fpX : ∀ {H' : Hp} {ob : Obj}, (∀ b ∈ fp, H' b = none) -> ∀ b ∈ fp, ZkF (Zcg X N scope c) [(s₂.heap.objs.size, ob)] H' b := fun {H' ob} hn b hb =>
  ⟨hn b hb, (okX.exf b (List.mem_cons_of_mem _ hb)).1, okX.exfs b (List.mem_cons_of_mem _ hb), .inl (List.mem_cons_of_mem _ hb), (okX.exf b (List.mem_cons_of_mem _ hb)).2, fun p hp => by
   rcases List.mem_append.mp (show p ∈ (X.pn ++ pins) ++ [(s₂.heap.objs.size, ob)] from hp) with z | z
   ·exact (f2 b hb).2.2.2.2.2 p z
   ·have z : p = (s₂.heap.objs.size, ob) := List.mem_singleton.mp z
    subst z
    exact (fneD b hb).symm⟩
 obtain ⟨W, ⟨m0, w0⟩, turn⟩ := hq c
 have loop : ∀ s, s = ({ s₃ with heap := h₁, toks := s₃.toks + ([] : List (Str × Value)).length } : Shared) ->
  codeAny (model X.prog X.w) X.A (.compLoop (.ListComp elt [⟨tg, iter, ifs, 0⟩] scope pos) 0 (.ref it) (.ref s₂.heap.objs.size) (compEnvC scope cl s₃.heap.objs.size X.env)) (RR (.ref s₂.heap.objs.size) s₃.heap.objs.size) s := by
  rintro s rfl
  refine ZhQ (fun n s' => ∃ i H' ys its k, Inv (Zcg X N scope c) [(s₂.heap.objs.size, ZkG its k)] (Zj0 f σ) H' s' /\ Zcj ys its /\ ys.length <= sizeLine /\ tn i s'.heap /\ (∀ b ∈ fp, H' b = none) /\ W i n ys H') ?_ m0 ⟨0, _, [], [], 0, I4, .nil, Nat.zero_le _, st1, fun b hb => (f2 b hb).1, w0⟩
  rintro n s5 ⟨i, H5, ys, its, k, I5, rv5, hz5, st5, fr5, w5⟩
  rcases turn i n ys H5 w5 with ⟨stop, qn⟩ | ⟨go, step⟩
  ·refine thn (T.done (Zcg X N scope c) rfl rfl rfl hc i _ s5 (Zj0 f σ) H5 _ I5 (fpX fr5) st5 stop) fun r s6 ⟨hr, I6⟩ => ?_
   subst hr
   obtain ⟨m6, hn6, _⟩ := id I6.loc
   obtain ⟨eD, nD, _⟩ := I6.pin (s₂.heap.objs.size, ZkG its k) (List.mem_append_right _ (List.mem_singleton.mpr rfl))
   have I7 : Inv X pins σ (upd H5 s₂.heap.objs.size (.lst ys)) s6 := (back I6).track nD I2.sz (Nat.ne_of_gt I2.lt) cneD pneD ⟨hz5, its, k, rv5, eD⟩
   refine hRR _ _ _ s6 m6 hn6 I7 (by rw [Zag (Nat.ne_of_gt sz3)]; exact I6.free) (Nat.ne_of_gt I3.lt) I3.sz (fun x d e => ?_) (fun p hp => ?_) (qn _ nD)
   ·obtain ⟨v, z⟩ := I3.cell x d e
    exact Nat.ne_of_lt z.lt
   ·exact Nat.ne_of_lt (Heap.lt_size (I3.pin p hp).1)
  ·refine thn (T.item (Zcg X N scope c) rfl rfl rfl hc i _ s5 (Zj0 f σ) H5 _ I5 (fpX fr5) st5 go) fun r s6 ⟨u, hr, h6⟩ => ?_
   subst hr
   refine thn h6 fun _ s7 ⟨x, H7, I7, r7, y7, st7, fr7⟩ => ?_
   have I7' := I7.pinned (fpX fr7) (T.obj _ _ st7)
   refine thn (hg c _ s7 (Zj0 f σ) H7 x u _ I7' r7 ((ht c).keep _ _ _ _ (step x H7 y7))) fun _ s8 ⟨σ8, H8, I8, kp8, q8⟩ => ?_
   have wk : ∀ (j : Nat) v, (Zj0 f σ)[j]? = some (some v) -> σ8[j]? = some (some v) := fun j v e => by
    have ef : ∃ k, f[j]? = some (some k) := by
     have e' := e
     unfold Zj0 at e'
     rw [List.getElem?_map] at e'
     cases q : f[j]? with
     | none => rw [q] at e'; cases e'
     | some o =>
       cases o with
       | none => rw [q] at e'; cases e'
       | some k => exact ⟨k, rfl⟩
    obtain ⟨k, ef⟩ := ef
    rw [kp8.2 j k ef]; exact e
   have recs : ∀ {H9 : Hp} {s9 : Shared} {ob : Obj}, Inv (Zcg X N scope c) ([(s₂.heap.objs.size, ob)] ++ Zil fp s7.heap) σ8 H9 s9 -> tn (i + 1) s9.heap /\ ∀ b ∈ fp, H9 b = none := fun {H9 s9 ob} I9 =>
    ⟨T.keep _ _ _ st7 fun b hb o e => (I9.pin (b, o) (List.mem_append_right _ (List.mem_append_right _ (ZdX hb e)))).1, fun b hb => by
     obtain ⟨o, e, d⟩ := T.obj _ _ st7 b hb
     exact (I9.pin (b, o) (List.mem_append_right _ (List.mem_append_right _ (ZdX hb e)))).2.1⟩
   refine thn (hcs c _ s8 σ8 H8 _ I8 q8) fun ok s9 ⟨H9, I9, q9⟩ => ?_
   cases ok with
   | false =>
     obtain ⟨m', hm, w9⟩ := (show ∃ m', m' < n /\ W (i + 1) m' ys H9 from q9)
     obtain ⟨z1, z2⟩ := recs I9
     exact ⟨m', hm, i + 1, H9, ys, its, k, (I9.unpinned).weak kp8.1.symm wk, rv5, hz5, z1, z2, w9⟩
   | true =>
     refine thn (he c _ s9 σ8 H9 _ I9 (show te c σ8 H9 _ from q9)) fun v s10 ⟨y, H10, I10, r10, hlen, m', hm, w10⟩ => ?_
     obtain ⟨eD, nD, neD, nfD, dD⟩ := I10.pin (s₂.heap.objs.size, ZkG its k) (List.mem_append_right _ (List.mem_append_left _ (List.mem_singleton.mpr rfl)))
     obtain ⟨z1, z2⟩ := recs I10
     have lv := rv5.length
     refine call_meets F.slot_list_append ⟨_, eD, rfl⟩ F.entry_list_append (F.args_list_append_2 _ _) (PySem.list_append s₂.heap.objs.size its.toArray k v (by rw [List.size_toArray]; omega)) ⟨eD, ?_⟩
     have q := PySem.IsL.update eD (·.push v)
     have hf : its.toArray.push v = (its ++ [v]).toArray := by simp
     rw [hf] at q
     have I11 : Inv (Zcg X N scope c) [] σ8 H10 { s10 with heap := s10.heap.update s₂.heap.objs.size (Obj.mapSeq (·.push v)) } :=
      (I10.pins_of (pins' := []) fun p hp => absurd hp (by simp)).turned (t' := s10.toks) (it := s₂.heap.objs.size) (fun b o hb e => (Heap.get?_update_other s10.heap (Obj.mapSeq (·.push v)) (Ne.symm hb)).trans e) nD neD (.inl List.mem_cons_self) (okX.exf _ List.mem_cons_self).2 fun p hp => by
       have z : p ∈ (X.pn ++ pins) ++ [] := hp
       rw [List.append_nil] at z
       exact pneD p z
     have I12 : Inv (Zcg X N scope c) [(s₂.heap.objs.size, ZkG (its ++ [v]) _)] σ8 H10 { s10 with heap := s10.heap.update s₂.heap.objs.size (Obj.mapSeq (·.push v)) } :=
      I11.pins_of fun p hp => by
       have z : p = (s₂.heap.objs.size, _) := List.mem_singleton.mp hp
       subst z
       exact ⟨q, nD, neD, nfD, fun v z => nomatch (show Data.seq _ _ = Data.cell v from z)⟩
     refine ⟨m', hm, i + 1, H10, ys ++ [y], its ++ [v], _, I12.weak kp8.1.symm wk, rv5.append (.cons r10 .nil), by rw [List.length_append, List.length_singleton]; omega, ?_, z2, w10⟩
     exact T.keep _ _ _ z1 fun b hb o e => (Heap.get?_update_other s10.heap (Obj.mapSeq (·.push v)) (fneD b hb).symm).trans e
 exact codeAny_compStart_list (loop _ (by rw [<- hs3])) (T.self _ 0 _ _ _ st1 (loop _ (by rw [<- hs3])))
theorem ZeO {tg iter elt : Expr} {ifs : List Expr} {scope : Scope} {pos : Pos} {NX : List Str} {sc : Scope} {N : List Str} {f : List (Option Nat)} {wi : TI} {g : CIn -> TG} {tc : CIn -> TT} {te : CIn -> TE}
 (hc : X.calm = true) (ck : ZgF NX sc N f scope = true) (hNX : X.N = NX) (hsc : X.env.scope = sc) (hi : PI X tg iter wi)
 (hg : ∀ c, PG (Zcg X N scope c) tg (g c)) (ht : ∀ c, TgOk f (g c)) (hcs : ∀ c, PCs (Zcg X N scope c) ifs (tc c)) (he : ∀ c, PE (Zcg X N scope c) elt (te c))
 (hs : ∀ x, foldedSetIterable iter X.env x = pure x := by intro _; rfl) : PE X (.ListComp elt [⟨tg, iter, ifs, 0⟩] scope pos) (tLC f wi g tc te) := by
 subst hNX hsc
 intro pins s σ H Q I h
 have ck' := Zhf ck
 obtain ⟨cl, hclos, hcl1, hcl2⟩ := Zgb (scope := scope) (env := X.env) fun p hp hf => I.ok.has p.1 (ck'.free p hp hf)
 rw [eval_ListComp]
 refine wpAny_comprehension_free (use := none) rfl hs hclos ck'.kind ck'.names (thn (hi pins s σ H _ I h) fun xv s₁ h₁ => thn h₁ fun itv s₂ h₂ => ?_)
 obtain ⟨it, fp, tn, J, H2, e, I2, T, st, f2, hq⟩ := h₂
 subst e
 refine Zok (RR := fun acc C => compPost (model X.prog X.w) X.A X.xe none (EP X pins σ Q) acc C) hc ck' hg ht hcs he I2 T st f2 hq hcl1 hcl2 ?_
 intro acc C H' s' m' hn I' hC hL h0 h1 h2 q
 exact ⟨m', hn, fun h'' hs'' => ⟨.ref acc, H', I'.turned (t' := s'.toks) (fun b o hb e => (hs''.2 b hb).trans e) hC hL (.inr h0) h1 h2, rfl, q⟩⟩
theorem ZdU {i : Nat} {x : Str} {px spos : Pos} {tg iter elt : Expr} {ifs : List Expr} {scope : Scope} {pos : Pos} {NX : List Str} {sc : Scope} {N : List Str} {f : List (Option Nat)} {wi : TI} {g : CIn -> TG} {tc : CIn -> TT} {te : CIn -> TE}
 (hN : X.N.Nodup) (hix : X.N[i]? = some x) (hx : X.env.scope.names.lookup x = some .local)
 (hc : X.calm = true) (ck : ZgF NX sc N f scope = true) (hNX : X.N = NX) (hsc : X.env.scope = sc) (hi : PI X tg iter wi)
 (hg : ∀ c, PG (Zcg X N scope c) tg (g c)) (ht : ∀ c, TgOk f (g c)) (hcs : ∀ c, PCs (Zcg X N scope c) ifs (tc c)) (he : ∀ c, PE (Zcg X N scope c) elt (te c))
 (hsw : swapsWith (.ListComp elt [⟨tg, iter, ifs, 0⟩] scope pos) (some (.Name x px)) spos.line X.env = pure true)
 (hs : ∀ x, foldedSetIterable iter X.env x = pure x := by intro _; rfl) : PS X (.Assign [.Name x px] (.ListComp elt [⟨tg, iter, ifs, 0⟩] scope pos) spos) (Znc (tLC f wi g tc te) (ZgA i)) := by
 subst hNX hsc
 intro pins s σ H D I h
 have ck' := Zhf ck
 obtain ⟨cl, hclos, hcl1, hcl2⟩ := Zgb (scope := scope) (env := X.env) fun p hp hf => I.ok.has p.1 (ck'.free p hp hf)
 rw [exec_Assign_Name_used _ _ _ _ hsw]
 refine wpAny_bind (wpAny_standAt (wpAny_bind ?_))
 show wpAny _ X.A (do let _ <- comprehension (.ListComp elt [⟨tg, iter, ifs, 0⟩] scope pos) scope X.env _ (newList []) false (eval iter X.env) (some (assign (.Name x px) X.env))) _ _ s
 refine wpAny_bind (wpAny_mono (wpAny_comprehension_free (use := some (assign (.Name x px) X.env)) (Q := fun _ s' => SP X pins D .next s') rfl hs hclos ck'.kind ck'.names
  (thn (hi pins s σ H _ I h) fun xv s₁ h₁ => thn h₁ fun itv s₂ h₂ => ?_)) (fun _ s' hq => wpAny_pure (wpAny_pure hq)) fun _ _ e => e)
 obtain ⟨it, fp, tn, J, H2, e, I2, T, st, f2, hq⟩ := h₂
 subst e
 refine Zok (RR := fun acc C => compPost (model X.prog X.w) X.A X.xe (some (assign (.Name x px) X.env)) (fun _ s' => SP X pins D .next s') acc C) hc ck' hg ht hcs he I2 T st f2 hq hcl1 hcl2 ?_
 intro acc C H' s' m' hn I' hC hL h0 h1 h2 q
 show wpAny _ X.A (assign (.Name x px) X.env (.ref acc)) _ _ _
 refine wpAny_assign_Name (Zh2 I' hN hix (.inl hx) (v := .ref acc) rfl (fun s'' I'' ⟨a, sb, ha⟩ => ?_) (.inr hx))
 have nC : C ≠ a := by
  rcases ha with z | z
  ·rw [z]; exact hL
  ·exact (h1 _ _ z).symm
 refine ⟨m', hn.sameBut sb nC, fun h'' hs'' => ?_⟩
 exact ⟨_, H', I''.turned (t' := s''.toks) (fun b o hb e => (hs''.2 b hb).trans e) hC hL (.inr h0) h1 h2, q⟩
end
section
variable {f : List (Option Nat)} {g : TG} {tc : TT} {te : TE} {σ : St} {Q : VK} {H1 : Hp} {K : W.Frag} {a : Addr} {xs : List V}
end
end L2
end
section
namespace L2
open PySem PySem.Spec PyProof.Rows
mutual
inductive Rep (H : Hp) : V -> PyData -> Prop
 | non : Rep H .non .none
 | bl (b : Bool) : Rep H (.bl b) (.bool b)
 | int (i : Int) : Rep H (.int i) (.int i)
 | str (x : Str) : Rep H (.str x) (.str x)
 | lst {a : Addr} {xs : List V} {ds : List PyData} : H a = some (.lst xs) -> Reps H xs ds -> Rep H (.ref a) (.list ds)
 | tup {a : Addr} {xs : List V} {ds : List PyData} : H a = some (.tup xs) -> Reps H xs ds -> Rep H (.ref a) (.tuple ds)
 | dct {a : Addr} : H a = some (.dK []) -> Rep H (.ref a) (.dict [])
inductive Reps (H : Hp) : List V -> List PyData -> Prop
 | nil : Reps H [] []
 | cons {x : V} {xs : List V} {d : PyData} {ds : List PyData} : Rep H x d -> Reps H xs ds -> Reps H (x :: xs) (d :: ds)
end
mutual
theorem Rep.mono {H H' : Hp} (s : ZaF H H') : ∀ {v : V} {d : PyData}, Rep H v d -> Rep H' v d
 | _, _, .non => .non
 | _, _, .bl b => .bl b
 | _, _, .int i => .int i
 | _, _, .str x => .str x
 | _, _, .lst h r => .lst (s _ _ h) (Reps.mono s r)
 | _, _, .tup h r => .tup (s _ _ h) (Reps.mono s r)
 | _, _, .dct h => .dct (s _ _ h)
theorem Reps.mono {H H' : Hp} (s : ZaF H H') : ∀ {vs : List V} {ds : List PyData}, Reps H vs ds -> Reps H' vs ds
 | _, _, .nil => .nil
 | _, _, .cons r t => .cons (Rep.mono s r) (Reps.mono s t)
end
theorem Reps.length {H : Hp} : ∀ {vs : List V} {ds : List PyData}, Reps H vs ds -> vs.length = ds.length
 | _, _, .nil => rfl
 | _, _, .cons _ t => by simp [Reps.length t]
theorem Reps.get {H : Hp} : ∀ {vs : List V} {ds : List PyData} {i : Nat} {d : PyData}, Reps H vs ds -> ds[i]? = some d -> ∃ v, vs[i]? = some v /\ Rep H v d
 | _, _, _, _, .nil, e => by simp at e
 | _, _, 0, _, .cons r _, e => by simp at e; subst e; exact ⟨_, rfl, r⟩
 | _, _, i + 1, d, .cons _ t, e => by
   obtain ⟨u, h1, h2⟩ := Reps.get (i := i) (d := d) t (by simpa using e)
   exact ⟨u, by simpa using h1, h2⟩
theorem Reps.snoc {H : Hp} {v : V} {d : PyData} : ∀ {vs : List V} {ds : List PyData}, Reps H vs ds -> Rep H v d -> Reps H (vs ++ [v]) (ds ++ [d])
 | _, _, .nil, h => .cons h .nil
 | _, _, .cons r t, h => .cons r (Reps.snoc t h)
theorem Reps.append {H : Hp} : ∀ {vs ws : List V} {ds es : List PyData}, Reps H vs ds -> Reps H ws es -> Reps H (vs ++ ws) (ds ++ es)
 | _, _, _, _, .nil, s => s
 | _, _, _, _, .cons r t, s => .cons r (Reps.append t s)
theorem Reps.set {H : Hp} {v : V} {d : PyData} (r : Rep H v d) : ∀ {vs : List V} {ds : List PyData} (i : Nat), Reps H vs ds -> Reps H (vs.set i v) (ds.set i d)
 | _, _, _, .nil => .nil
 | _, _, 0, .cons _ t => .cons r t
 | _, _, i + 1, .cons q t => .cons q (Reps.set r i t)
theorem ZcS {H : Hp} : ∀ {vs : List V} {l : List Int}, Reps H vs (l.map PyData.int) -> vs = l.map V.int
 | _, [], .nil => rfl
 | _, i :: l, .cons (.int _) t => by rw [List.map_cons, ZcS t]
theorem Zh7 {H : Hp} : ∀ (l : List Int), Reps H (l.map V.int) (l.map PyData.int)
 | [] => .nil
 | i :: l => .cons (.int i) (Zh7 l)
section
variable {X : Cx} {pins : List (Addr × Obj)} {σ : St} {H : Hp} {s : Shared}
mutual
theorem Rep.reads (I : Inv X pins σ H s) : ∀ {v : V} {d : PyData} {u : Value}, Rep H v d -> Zbg v u -> ∃ as, Reads s.heap u d as
 | _, _, _, .non, r => by cases r; exact ⟨_, .none⟩
 | _, _, _, .bl b, r => by cases r; exact ⟨_, .bool b⟩
 | _, _, _, .int i, r => by obtain ⟨t, rfl⟩ := r; exact ⟨_, .int i t⟩
 | _, _, _, .str x, r => by obtain ⟨t, rfl⟩ := r; exact ⟨_, .str x t⟩
 | _, _, _, .lst h q, r => by
   cases r
   obtain ⟨z, its, n, rv, e⟩ := I.hok _ _ h
   obtain ⟨as, ra⟩ := Reps.reads I q rv
   exact ⟨_, .list e rfl rfl (by simpa using ra)⟩
 | _, _, _, .tup h q, r => by
   cases r
   obtain ⟨z, its, rv, o, e, c, n, dd⟩ := I.hok _ _ h
   obtain ⟨as, ra⟩ := Reps.reads I q rv
   exact ⟨_, .tuple e c dd (by simpa using ra)⟩
 | _, _, _, .dct h, r => by
   cases r
   obtain ⟨z, y, vs, kv, ob, es, ep, e, c, dd, _, pr, _⟩ := I.hok _ _ h
   cases kv
   have ee : es.toList = [] := List.eq_nil_of_length_eq_zero pr.length
   exact ⟨_, .dict (kvs := []) e c.1 dd (by rw [ee]; exact .nil) (by rw [ee]; exact .nil)⟩
theorem Reps.reads (I : Inv X pins σ H s) : ∀ {vs : List V} {ds : List PyData} {us : List Value}, Reps H vs ds -> Zcj vs us -> ∃ as, ReadsAll s.heap us ds as
 | _, _, _, .nil, r => by cases r; exact ⟨_, .nil⟩
 | _, _, _, .cons q t, r => by
   cases r with
   | cons r1 r2 =>
     obtain ⟨as, ra⟩ := Rep.reads I q r1
     obtain ⟨bs, rb⟩ := Reps.reads I t r2
     exact ⟨_, .cons ra rb⟩
end
def ZpQ (d : PyData) : Prop := d.canLay0 = true /\ d.depth <= 60
end
theorem Zoa {α : Type} {xs : List α} {i : Int} {v : α} (h : atI xs i = some v) : ∃ j : Nat, xs[j]? = some v /\ ixN xs.length i = some j := by
 unfold atI at h
 cases e : ixN xs.length i with
 | none => rw [e] at h; cases h
 | some j => rw [e] at h; exact ⟨j, h, rfl⟩
section
variable {X : Cx}
end
section
variable {X : Cx}
def ZeY (_ j : Int) : Prop := 0 < j /\ j < 2 ^ 8000
theorem Zp8 {j : Int} (h : ZeY 0 j) : j.natAbs.log2 < 9000 := by
 have h0 : j.natAbs ≠ 0 := by have := h.1; omega
 have h1 : j.natAbs < 2 ^ 8000 := by have := h.2; have := h.1; omega
 have := (Nat.log2_lt h0).mpr h1
 omega
theorem ZaL : OpR X (binaryOp .FloorDiv) (rI ZeY fun i j => .int (i / j)) := opI fun i j _ _ _ _ _ hc q => by
 have e : i.fdiv j = i / j := Int.fdiv_eq_ediv_of_nonneg _ (Int.le_of_lt hc.1)
 refine floordiv_int (Int.ne_of_gt hc.1) ?_ (.inl (PyProof.noPylong_of_log2 (Zp8 hc)))
 rw [e]
 exact q
def Zse (i j : Int) : Prop := 0 <= j /\ (Builtin.Int.intBits i : Int) + j <= 2 ^ 27
theorem ZoM : OpR X (binaryOp .LShift) (rI Zse fun i j => .int (i * 2 ^ j.toNat)) := opI fun _ _ _ _ _ _ _ hc q => lshift_int hc.1 hc.2 q
theorem ZcV : OpR X (binaryOp .Mult) (rI IntMulOk fun i j => .int (i * j)) := opI fun _ _ _ _ _ _ _ hc q => mul_int q hc
theorem Zpy : MtR X "int.bit_length" (fun x xs H Q => ∃ i, x = .int i /\ xs = [] /\ Q (.int (Builtin.Int.intBits i)) H) := by
 intro pins s σ H x xs v us Q I rx rv h
 obtain ⟨i, rfl, rfl, q⟩ := h
 obtain ⟨t, rfl⟩ := rx
 cases rv
 exact call_givesAt F.slot_int_bit_length (typeIs_int s i t) F.entry_int_bit_length (F.args_int_bit_length_1 _) (Gives.at (P := fun _ => True) (AutoIntG2.int_bit_length_int_0 i t)) trivial (show EP X pins σ Q _ _ from ⟨.int (Builtin.Int.intBits i), H, I.tok _, ⟨_, rfl⟩, q⟩)
end
theorem ZaF.upd {H H' : Hp} {a : Addr} {o : HO} (s : ZaF H H') (h : H a = none) : ZaF H (L2.upd H' a o) := fun b u e => by
 rw [Zag (Zat e h)]; exact s b u e
theorem ZaF.new {H : Hp} {a : Addr} {o : HO} (h : H a = none) : ZaF H (L2.upd H a o) := (ZaF.refl H).upd h
end L2
end
section
namespace Att
open PySem PySem.W PySem.Calls PyProof.Rows
theorem ZfX : ∀ (ns : List Int) (i : Int), i ∈ ns -> Builtin.Int.intBits i <= WData.weightAll (ns.map WData.int)
 | [], i, h => by simp at h
 | n :: ns, i, h => by
   rw [List.map_cons, WData.weightAll]
   rcases List.mem_cons.mp h with rfl | h
   ·have : WData.weight (.int i) = Builtin.Int.intBits i := by rw [WData.weight]; rfl
    omega
   ·have := ZfX ns i h
    omega
theorem ZoK {ns : List Int} (h : WData.layableAll [WData.list (ns.map WData.int)] = true) : ∀ i ∈ ns, Builtin.Int.intBits i <= 2 ^ 20 := fun i hi => by
 have h1 := layableW_arg h (WData.list (ns.map WData.int)) (List.mem_singleton.mpr rfl)
 obtain ⟨_, _, h2⟩ := layableW_iff.mp h1
 rw [WData.weight] at h2
 exact Nat.le_trans (ZfX ns i hi) h2
theorem attach_callW {l : OpenLaw} {n : Nat} {q : Program} {loose : List Str} {XP : (Str -> Option Value) -> Heap -> Prop} {YP : World -> Heap -> Prop} {d : DefRec}
 (hn : l.most = some n) (hdf : d.params.defaults = [])
 (call : ∀ (w : World) (s₀ s₁ : Shared) (mg mb : Str -> Option Value) (fa : Addr) (o : Obj) (pm cd doc : Value) (a : Addr) (vs : List Value) (ns : List Int),
  Ground q loose [] XP w s₀ mg mb s₁.heap -> YP w s₁.heap ->
  s₁.heap.get? fa = some o -> o.data = .func (docDef d.name d.params d.body d.scope pm cd doc) -> s₁.heap.CodeRec cd d.name -> mg d.name = some (.ref fa) ->
  s₁.heap.get? a = some { cls := .type "list", data := .seq vs.toArray } -> IntsAre vs ns -> ns.length <= n -> (∀ i ∈ ns, Builtin.Int.intBits i <= 2 ^ 20) -> s₁.gens = #[] ->
  codeAny (model l.prog w) callerA (.call (.ref fa) ⟨[.ref a], []⟩) (fun r s' => r = .ok (.ret (.bool true)) /\ OldK s₁.heap s'.heap /\ s'.os = s₁.os /\ AllBare s'.gens) s₁) :
 WalkO q loose XP YP l.row.toRowW d [] (fun f vs => PySem.call f vs) := by
 intro w s₀ s₁ mg mb G Y fa o pm cd doc dV kV ho hd hcd hD hmg hg args vals as hpre hlay hrd hwl hlo
 obtain rfl : dV = .none := Dflts.none hD hdf
 obtain rfl : kV = .none := Dflts.noKw hD
 obtain ⟨a, vs, ns, rfl, rfl, hobj, hints, hlen⟩ := ZlZ hn hpre hwl
 refine enter_call (codeAny_mono (call w s₀ s₁ mg mb fa o pm cd doc a vs ns G Y ho (fd_plain hd) hcd hmg hobj hints hlen (ZoK hlay) hg) fun r s' hq => ?_)
 obtain ⟨rfl, h2, h3, h4⟩ := hq
 exact ⟨.inl ⟨.bool true, .bool true, [], rfl, fun _ => rfl, .bool true, ZkM l _, fun _ => ⟨List.Pairwise.nil, fun _ hm => (nomatch hm)⟩⟩, h2, h3, h4⟩
end Att
namespace L2
open PySem PySem.Spec PyProof.Rows
structure Scr (K : W.Frag) (H : Hp) (a : Addr) (ns : List Int) : Prop where
 sq : SqL K H a (ns.map V.int)
 len : ns.length <= 63
 bits : ∀ i ∈ ns, Builtin.Int.intBits i <= 2 ^ 20
theorem Scr.mono {K : W.Frag} {H H' : Hp} {a : Addr} {ns : List Int} (h : Scr K H a ns) (s : ZaF H H') : Scr K H' a ns := ⟨s.seq h.sq, h.len, h.bits⟩
structure Df (K : W.Frag) (mg : Str -> Option Value) (x : Str) (st : Stmt) (ps : List Str) : Prop where
 ex : ∃ f fd, Fun K x x st f fd /\ mg x = some (.ref f) /\ ZeK K fd ps []
def Cal (P : Program) (w : World) (K : W.Frag) (mg : Str -> Option Value) (base : Heap) (x : Str) (ps : List Str) (k : Nat) (sp : Sp) : Prop :=
 ∃ f fd, mg x = some (.ref f) /\ W.keepIn K (.ref f) = true /\ ZeK K fd ps [] /\ FnOk P w K mg base CX0 k f fd ps sp
theorem Df.cal {P : Program} {w : World} {K : W.Frag} {mg : Str -> Option Value} {base : Heap} {x : Str} {st : Stmt} {N ps : List Str} {k : Nat} {sp : Sp} (D : Df K mg x st ps) (S : FnScope N ps (Zab st)) (len : ∀ vs H Q E, sp vs H Q E -> vs.length = ps.length)
 (hbody : ∀ (f : Addr) (cdv : Value) (A : Around) (outer : List Env) (s : Shared) (H : Hp) (vs : List V) (Q : VK) (E : XK), Room k (A.deeper (envOfC x (Zab st) s.heap.objs.size f cdv)) -> sp vs H Q E ->
  ∃ t, PSs (Zin CX0 P w K mg base N x (Zab st) f cdv A outer s H E).nox (Zal st) t /\ t { nx := fun _ H' => Q .non H', rt := Q } (start N vs) H) : Cal P w K mg base x ps (k + 1) sp := by
 obtain ⟨f, fd, F, hm, hb⟩ := D.ex
 exact ⟨f, fd, hm, F.kp, hb, F.ok S len fun cdv A outer s H vs Q E hr h => hbody f cdv A outer s H vs Q E hr h⟩
section
variable {X : Cx}
theorem Zap {x : Str} {p pos : Pos} {e : Expr} {es : List Expr} {t : TA} {ps : List Str} {j k : Nat} {sp : Sp} (C : Cal X.prog X.w X.K X.mg X.base x ps j sp) (hr : Room k X.A) (ha : PA X (e :: es) t) (hj : j <= k := by decide) (hg : Gl X x := by rfl)
 (hdb : (x == ("__debug__" : Str)) = false := by decide +kernel)
 (he : starEach (e :: es) X.env = (false, eval e X.env) :: starEach es X.env := by rfl) (hpl : (backTo pos (starEach es X.env)).any (·.1) = false := by rfl) : PE X (.Call (.Name x p) (e :: es) [] pos) (ZhP sp [] E0 t) := by
 obtain ⟨f, fd, hm, hk, hb, F⟩ := C
 exact ZoX F (hr.mono hj) hg hm hk hb .nil ZpB ha hdb he hpl
end
theorem Zj4 : bootBuiltins "abs" = some (.builtin "abs") := by decide +kernel
theorem Zdx : bootBuiltins "len" = some (.builtin "len") := by decide +kernel
theorem ZnU : bootBuiltins "max" = some (.builtin "max") := by decide +kernel
theorem ZhL : bootBuiltins "min" = some (.builtin "min") := by decide +kernel
theorem Zja : bootBuiltins "sum" = some (.builtin "sum") := by decide +kernel
theorem Zpt : bootBuiltins "list" = some (.type "list") := by decide +kernel
theorem Zfi : bootBuiltins "tuple" = some (.type "tuple") := by decide +kernel
end L2
end
section
namespace L2
open PySem PySem.Spec PyProof.Rows
mutual
theorem Rep.uniq {H : Hp} : ∀ {v : V} {d e : PyData}, Rep H v d -> Rep H v e -> d = e
 | _, _, _, .non, .non => rfl
 | _, _, _, .bl b, .bl _ => rfl
 | _, _, _, .int b, .int _ => rfl
 | _, _, _, .str b, .str _ => rfl
 | _, _, _, .lst h r, .lst h' r' => by
   rw [h] at h'; cases h'
   rw [Reps.uniq r r']
 | _, _, _, .tup h r, .tup h' r' => by
   rw [h] at h'; cases h'
   rw [Reps.uniq r r']
 | _, _, _, .lst h r, .tup h' r' => by rw [h] at h'; cases h'
 | _, _, _, .tup h r, .lst h' r' => by rw [h] at h'; cases h'
 | _, _, _, .dct h, .dct h' => rfl
 | _, _, _, .lst h r, .dct h' => by rw [h] at h'; cases h'
 | _, _, _, .tup h r, .dct h' => by rw [h] at h'; cases h'
 | _, _, _, .dct h, .lst h' r' => by rw [h] at h'; cases h'
 | _, _, _, .dct h, .tup h' r' => by rw [h] at h'; cases h'
theorem Reps.uniq {H : Hp} : ∀ {vs : List V} {ds es : List PyData}, Reps H vs ds -> Reps H vs es -> ds = es
 | _, _, _, .nil, .nil => rfl
 | _, _, _, .cons r t, .cons r' t' => by rw [Rep.uniq r r', Reps.uniq t t']
end
section
variable {X : Cx} {tg : Expr}
end
section
variable {v : V} {ds : List PyData} {g : TG} {tb : TS} {D : Ends} {σ : St} {H : Hp}
end
section
variable {f : List (Option Nat)} {g : TG} {tc : TT} {te : TE} {σ : St} {Q : VK} {H1 : Hp} {v : V} {ds : List PyData}
end
mutual
def noL : PyData -> Bool
 | .none => true
 | .bool _ => true
 | .int _ => true
 | .str _ => true
 | .list _ => false
 | .dict _ => false
 | .tuple ds => noLs ds
def noLs : List PyData -> Bool
 | [] => true
 | d :: ds => noL d && noLs ds
end
mutual
theorem Rep.updL {H : Hp} {l : Addr} {us zs : List V} (hl : H l = some (.lst us)) : ∀ {v : V} {d : PyData}, noL d = true -> Rep H v d -> Rep (L2.upd H l (.lst zs)) v d
 | _, _, _, .non => .non
 | _, _, _, .bl b => .bl b
 | _, _, _, .int i => .int i
 | _, _, _, .str x => .str x
 | _, _, h, .lst _ _ => by simp [noL] at h
 | _, _, h, .tup ha r => .tup (by rw [Zag (Zqe ha hl (by intro z; cases z))]; exact ha) (Reps.updL hl (by simpa [noL] using h) r)
theorem Reps.updL {H : Hp} {l : Addr} {us zs : List V} (hl : H l = some (.lst us)) : ∀ {vs : List V} {ds : List PyData}, noLs ds = true -> Reps H vs ds -> Reps (L2.upd H l (.lst zs)) vs ds
 | _, _, _, .nil => .nil
 | _, _, h, .cons r t => .cons (Rep.updL hl (by simp [noLs] at h; exact h.1) r) (Reps.updL hl (by simp [noLs] at h; exact h.2) t)
end
end L2
end
section
namespace L2
open PySem PySem.Spec PyProof.Rows
theorem Zgh (a b : Int) : Builtin.Range.rangeSize a b (-1) = ((a - b).toNat : Int) := by
 unfold Builtin.Range.rangeSize
 simp only [show ¬ ((-1 : Int) > 0) by decide, if_false, show (-(-1) : Int) = 1 from rfl, Int.ediv_one]
 split <;> omega
theorem ZiB {a b : Int} (ha : -(2 ^ 62) <= a) (ha' : a < 2 ^ 62) (hb : -(2 ^ 62) <= b) (hb' : b < 2 ^ 62) : Builtin.Range.small a b (-1) = true := by
 unfold Builtin.Range.small
 rw [Zgh]
 simp only [Builtin.Range.rangeFitsLong, Bool.and_eq_true, Bool.or_eq_true, decide_eq_true_eq, beq_iff_eq, show ¬ ((-1 : Int) > 0) by decide, if_false]
 omega
def ZrD (hi : Int) (n : Nat) : It := ⟨fun i _ => i < n, fun i H x H' => H' = H /\ x = .int (hi - i), fun i _ => n <= i⟩
theorem ZiG {P : Program} {w : World} {K : W.Frag} {tg : Expr} (it : Addr) (hi : Int) (n : Nat) : Turn P w K tg (ZrD hi n) [it] it (fun i h => IsRangeIter h it (hi + (i : Nat) * (-1)) ((n : Int) - (i : Nat)) (-1)) where
 mem := by simp
 obj := fun i h st b hb => by
  have e : b = it := by simpa using hb
  subst e
  exact ⟨_, st, fun v z => by
   have z' : Data.fields _ = Data.cell v := z
   cases z'⟩
 keep := fun i h h' st k => k it (by simp) _ st
 item := by
  intro X hP hw hK hc i pins s σ H E I hf st hg
  subst hP hw hK
  obtain ⟨f0, f1, f2, f3, f4, f5⟩ := hf it (by simp)
  have W := Walks.range (prog := X.prog) (w := X.w) (I.ok.hd hc) it hi (-1) n
  refine W.item i s _ _ hg st fun v h' tk hv st' kk => ?_
  obtain ⟨t, rfl⟩ := hv
  have I1 : Inv X pins σ H { s with heap := h', toks := tk } := I.turned (fun b o hb e => kk b o (by simpa using hb) e) f0 f1 f3 f4 f5
  refine ⟨_, rfl, ZmQ (s := { s with heap := h', toks := tk }) (n := "range_iterator") st' rfl rfl (by decide) ⟨.int (hi - i), H, I1, ⟨t, ?_⟩, ⟨rfl, rfl⟩, st', fun b hb => (hf b hb).1⟩⟩
  rw [show hi + (i : Int) * (-1) = hi - i by omega]
 done := by
  intro X hP hw hK hc i pins s σ H E I hf st hg
  subst hP hw hK
  obtain ⟨f0, f1, f2, f3, f4, f5⟩ := hf it (by simp)
  exact wpAny_pyNext_range_end (I.ok.hd hc) st (by have : n <= i := hg; omega) fun h' eb => ⟨rfl, I.turned (t' := s.toks) (fun b o hb e => eb b o hb e) f0 f1 f3 f4 f5⟩
 self := fun _ _ _ _ _ st h => wpAny_pyIter_rangeiter st h
section
variable {X : Cx} {tg : Expr}
theorem Zls {pins : List (Addr × Obj)} {σ : St} {H : Hp} {s : Shared} {R : It -> Hp -> Prop} {E : Value -> Shared -> Prop} {lo hi : Int} {t u v : Tok} {tk : Nat} (I : Inv X pins σ H s) (h1 : -(2 ^ 62) <= hi) (h2 : hi < 2 ^ 62) (h3 : -(2 ^ 62) <= lo) (h4 : lo < 2 ^ 62)
 (q : R (ZrD hi (hi - lo).toNat) H) : wpAny (model X.prog X.w) X.A (pyIter (.ref s.heap.objs.size)) (PIE X pins σ tg R) E { s with heap := s.heap.push { cls := .type "range", data := .fields #[.int hi t, .int lo u, .int (-1) v] }, toks := tk } := by
 refine wpAny_pyIter_range (IsRange.new ..) (ZiB h1 h2 h3 h4) ?_
 have I1 : Inv X pins σ H { s with heap := s.heap.push { cls := .type "range", data := .fields #[.int hi t, .int lo u, .int (-1) v] }, toks := tk } := I.kept fun b o e => Heap.get?_push_of_some _ e
 refine ⟨(s.heap.push { cls := .type "range", data := .fields #[.int hi t, .int lo u, .int (-1) v] }).objs.size, [(s.heap.push { cls := .type "range", data := .fields #[.int hi t, .int lo u, .int (-1) v] }).objs.size], _, _, H, rfl,
  I1.kept (t' := tk) fun b o e => Heap.get?_push_of_some _ e, ZiG _ hi (hi - lo).toNat, ?_, fun b hb => ?_, q⟩
 ·have e1 : hi + ((0 : Nat) : Int) * (-1) = hi := by simp
  have e2 : (((hi - lo).toNat : Nat) : Int) - ((0 : Nat) : Int) = Builtin.Range.rangeSize hi lo (-1) := by rw [Zgh]; omega
  show IsRangeIter _ _ (hi + ((0 : Nat) : Int) * (-1)) ((((hi - lo).toNat : Nat) : Int) - ((0 : Nat) : Int)) (-1)
  rw [e1, e2]
  exact Heap.get?_push_size _ rfl
 ·have e : b = (s.heap.push { cls := .type "range", data := .fields #[.int hi t, .int lo u, .int (-1) v] }).objs.size := by simpa using hb
  subst e
  exact I1.fpOk (Nat.le_refl _) (I1.hok.fresh (Nat.le_refl _))
def ZqK (ta : TA) : TI := fun σ H R => ta σ H fun vs H1 => ∃ i j : Int, vs = [.int i, .int j, .int (-1)] /\ (-(2 ^ 62) <= i /\ i < 2 ^ 62 /\ -(2 ^ 62) <= j /\ j < 2 ^ 62) /\ R (ZrD i (i - j).toNat) H1
theorem Zhe {a b c : Expr} {ta : TA} {p pos : Pos} (hg : Gl X "range") (hm : X.mg "range" = none) (ha : PA X [a, b, c] ta) (hs : starEach [a, b, c] X.env = [(false, eval a X.env), (false, eval b X.env), (false, eval c X.env)] := by rfl)
 (hs2 : starEach [b, c] X.env = [(false, eval b X.env), (false, eval c X.env)] := by rfl) : PI X tg (.Call (.Name "range" p) [a, b, c] [] pos) (ZqK ta) := by
 intro pins s σ H R I h
 refine Call_ (Zfn I hg hm boot_range (callWith_type1 (thn (ha pos pins s σ H _ I h) fun us s1 ⟨vs, H1, I1, r1, q1⟩ => ?_) (by rw [hs, hs2]) (by rw [hs2]; rfl)))
 obtain ⟨i, j, e, ⟨q1, q2, q3, q4⟩, q⟩ := q1
 subst e
 cases r1 with
 | cons r rr =>
   cases rr with
   | cons r' rr =>
     cases rr with
     | cons r2 rr =>
       cases rr
       obtain ⟨t, rfl⟩ := r
       obtain ⟨t', rfl⟩ := r'
       obtain ⟨t2, rfl⟩ := r2
       exact call_range_3 (by decide) (Zls I1 q1 q2 q3 q4 q) (.inl (PyProof.noPylong_small (by decide)))
end
def Zoo (K : W.Frag) : V -> V -> Hp -> VK -> Prop := fun o i H Q => ∃ p xs k v, o = .ref p /\ i = .int k /\ SqL K H p xs /\ 0 <= k /\ xs[k.toNat]? = some v /\ Q v H
theorem Zi0 (ns : List Int) : preSum (fun i => ns.getD i 0) ns.length = ns.sum := by
 have key : ∀ k, k <= ns.length -> preSum (fun i => ns.getD i 0) k = (ns.take k).sum := by
  intro k
  induction k with
  | zero => intro _; simp [preSum]
  | succ k ih =>
    intro hk
    have h1 : k < ns.length := by omega
    rw [List.take_succ, List.sum_append, <- ih (by omega)]
    simp [preSum, h1]
 rw [key ns.length (Nat.le_refl _), List.take_length]
theorem ZgK : ∀ {vs : List Value} {ns : List Int} {i : Nat} {v : Value}, IntsAre vs ns -> vs[i]? = some v -> ∃ t, v = .int (ns.getD i 0) t
 | _, _, _, _, .nil, e => by simp at e
 | _, _, 0, _, .cons n t h, e => by simp at e; exact ⟨t, by simp [<- e]⟩
 | _, _, i + 1, v, .cons n t h, e => by
   obtain ⟨t', z⟩ := ZgK (i := i) (v := v) h (by simpa using e)
   exact ⟨t', by simpa using z⟩
theorem Zhg {prog : Program} {w : World} {A : Around} {E : Value -> Shared -> Prop} {s : Shared} {l : Addr} {vs : List Value} {ns : List Int} {Q : Value -> Shared -> Prop} (hh : A.handled = none) (hl : s.heap.IsList l vs.toArray) (hi : IntsAre vs ns)
 (h : ∀ h' tk t', (∀ b o, s.heap.get? b = some o -> h'.get? b = some o) -> Q (.int ns.sum t') { s with heap := h', toks := tk }) : wpAny (model prog w) A (call (.builtin "sum") [.ref l]) Q E s := by
 obtain ⟨o, ho, hc, n, hd⟩ := id hl
 have hne : l ≠ s.heap.objs.size := Nat.ne_of_lt (Heap.lt_size ho)
 have W := (Walks.list (prog := prog) (w := w) (A := A.in1) hh s.heap.objs.size l hne vs.toArray).toS
 refine call_sum_walkAnyS (wpAny_pyIter_list hl ?_)
 refine ⟨s.heap.objs.size, _, _, _, _, _, _, fun i => ns.getD i 0, rfl, W, ⟨⟨_, Heap.get?_push_size _ rfl, rfl, rfl⟩, hl.at fun o e => Heap.get?_push_of_some _ e⟩, fun b hb => ?_, fun i v hP => ZgK hi (by simpa using hP), fun s' t' hm => ?_⟩
 ·rcases List.mem_cons.mp hb with rfl | hb
  ·exact Heap.lt_size (Heap.get?_push_size _ rfl)
  ·obtain rfl := List.mem_singleton.mp hb
   exact Heap.lt_size (Heap.get?_push_of_some _ ho)
 ·obtain ⟨h', g', d', tk', os'⟩ := s'
  have e1 : g' = s.gens := hm.gens
  have e2 : d' = s.drawn := hm.drawn
  have e3 : os' = s.os := hm.os
  subst e1 e2 e3
  have es : vs.toArray.size = ns.length := by rw [List.size_toArray, hi.length]
  rw [es, Zi0]
  exact h h' tk' t' fun b o e => hm.heap b o (fun hb => absurd (Heap.lt_size e) ((List.mem_singleton.mp hb) ▸ Nat.lt_irrefl _)) (Heap.get?_push_of_some _ e)
section
variable {X : Cx}
theorem Zfh : Zsb X (Zoo X.K) := by
 intro pins s σ H o i ov iv Q I ro ri h
 obtain ⟨p, xs, k, v, rfl, rfl, hq, h0, hv, q⟩ := h
 cases ro
 obtain ⟨t, rfl⟩ := ri
 obtain ⟨its, r, pl, hz⟩ := I.list hq
 obtain ⟨w, ew, rw'⟩ := r.get hv
 have hl := r.length
 have hn := Zf8
 have hlt : k.toNat < xs.length := (List.getElem?_eq_some_iff.mp hv).1
 exact wpAny_getItem_list pl.isList h0 (by omega) (by simpa using ew) ⟨v, H, I, rw', q⟩
theorem ZkK : ZdD X (.builtin "sum") (fun xs H Q => X.calm = true /\ ∃ (x : V) (ns : List Int), xs = [x] /\ Rep H x (.list (ns.map PyData.int)) /\ Q (.int ns.sum) H) := by
 intro pins s σ H xs us Q I r h
 obtain ⟨hc, x, ns, rfl, hx, q⟩ := h
 obtain ⟨u, rfl, rx⟩ := Zic r
 cases hx with
 | lst ha rr =>
   cases rx
   have er := ZcS rr
   subst er
   obtain ⟨its, rv, p, hz⟩ := I.list (SqL.of (K := X.K) ha)
   exact Zhg (I.ok.hd hc) p.isList (Zdt rv) fun h' tk t' k => ⟨.int ns.sum, H, I.kept k, ⟨_, rfl⟩, q⟩
end
end L2
end
section
namespace L2
open PySem PySem.Spec PyProof.Rows
section
variable {X : Cx}
end
end L2
end
section
namespace L2
open PySem PySem.Spec PyProof.Rows
theorem Inv.turnedL {X : Cx} {pins : List (Addr × Obj)} {σ : St} {H : Hp} {s : Shared} {h' : Heap} {t' : Nat} {ch : List Addr} (I : Inv X pins σ H s) (k : ∀ b o, b ∉ ch -> s.heap.get? b = some o -> h'.get? b = some o) (hch : ∀ b ∈ ch, ZkF X pins H b) : Inv X pins σ H { s with heap := h', toks := t' } := by
 refine I.step (g' := s.gens) (d' := s.drawn) (ch := ch) (fun b hb => ?_) (fun b o _ _ hc e _ => k b o hc e) (fun b o _ _ hc e _ => ⟨o.slots, k b o hc e⟩) (fun _ _ _ _ n => n)
  (fun b o hc e => ⟨o, k b o hc e⟩) (fun _ _ e => e) (fun _ _ _ e => e) (fun b ps e => ⟨#[], by rw [e]; simp⟩) (fun m hm => ?_) (fun b u e => ?_) I.bare (fun b _ o hc _ e => k b o hc e)
 ·obtain ⟨f0, f1, f2, f3, f4, f5⟩ := hch b hb
  exact ⟨f3, f1, f4, f5⟩
 ·obtain ⟨o, es, ep, ho, r⟩ := hm
  exact ⟨o, es, ep, k _ o (fun z => (hch _ z).2.1 rfl) ho, r⟩
 ·refine (I.hok b u e).stay (fun c v hc q => k c v (fun z => ?_) q) (fun _ q => q) fun _ _ q => q
  have hn := (hch c z).1
  rcases hc with rfl | hc
  ·rw [hn] at e; cases e
  ·rw [hn] at hc; cases hc
theorem Inv.trackTup {X : Cx} {pins : List (Addr × Obj)} {σ : St} {H : Hp} {s0 s : Shared} {T : Addr} {x y : V} {u v : Value} (I0 : Inv X pins σ H s0) (I : Inv X pins σ H s) (hT : s0.heap.objs.size <= T) (rx : Zbg x u) (ry : Zbg y v) (tup : s.heap.IsTuple T #[u, v]) : Inv X pins σ (upd H T (.tup [x, y])) s := by
 refine I.track (I0.hok.fresh hT) (Nat.le_trans I0.sz hT) (Nat.ne_of_gt (Nat.lt_of_lt_of_le I0.lt hT)) (fun z c e q => ?_) (fun p hp q => ?_) ⟨by show 2 <= sizeLine; decide, [u, v], .cons rx (.cons ry .nil), tup⟩
 ·obtain ⟨w, hw⟩ := I0.cell z c e
  exact absurd (Nat.lt_of_lt_of_le hw.lt (by rw [q]; exact hT)) (Nat.lt_irrefl _)
 ·exact absurd (Nat.lt_of_lt_of_le (Heap.lt_size (I0.pin p hp).1) (by rw [q]; exact hT)) (Nat.lt_irrefl _)
def Itz (K : W.Frag) (a b : Addr) : It :=
 ⟨fun i H => ∃ xs ys x y, SqL K H a xs /\ SqL K H b ys /\ xs[i]? = some x /\ ys[i]? = some y,
  fun i H v H' => ∃ p x y, H p = none /\ v = .ref p /\ H' = upd H p (.tup [x, y]) /\ (∀ xs, SqL K H a xs -> xs[i]? = some x) /\ ∀ ys, SqL K H b ys -> ys[i]? = some y,
  fun i H => ∃ xs ys, SqL K H a xs /\ SqL K H b ys /\ i = min xs.length ys.length⟩
def Ite (K : W.Frag) (a : Addr) : It :=
 ⟨fun i H => ∃ xs x, SqL K H a xs /\ xs[i]? = some x,
  fun i H v H' => ∃ p x, H p = none /\ v = .ref p /\ H' = upd H p (.tup [.int (i : Int), x]) /\ ∀ xs, SqL K H a xs -> xs[i]? = some x,
  fun i H => ∃ xs, SqL K H a xs /\ i = xs.length⟩
theorem Zn7 {P : Program} {w : World} {K : W.Frag} {elts : List Expr} {k : Nat} {pos : Pos} {z TI TO i1 i2 a b : Addr} (D : ZipApart z TI TO i1 i2 a b) :
 Turn P w K (.Tuple elts k pos) (Itz K a b) [z, TI, TO, i1, i2] z (fun i h => IsZip h z TI TO .none /\ IsPair h TI (.ref i1) (.ref i2) /\ (∃ p q, IsPair h TO p q) /\ h.IsListIter i1 a i /\ h.IsListIter i2 b i) where
 mem := by simp
 obj := fun i h st c hc => by
  obtain ⟨hz, hTI, ⟨p, q, hTO⟩, ⟨o1, e1, c1, d1⟩, o2, e2, c2, d2⟩ := st
  simp only [List.mem_cons, List.not_mem_nil, or_false] at hc
  rcases hc with rfl | rfl | rfl | rfl | rfl
  ·exact ⟨_, hz, fun v z => nomatch z⟩
  ·exact ⟨_, hTI, fun v z => nomatch z⟩
  ·exact ⟨_, hTO, fun v z => nomatch z⟩
  ·exact ⟨_, e1, fun v z => by rw [d1] at z; cases z⟩
  ·exact ⟨_, e2, fun v z => by rw [d2] at z; cases z⟩
 keep := fun i h h' st kk => by
  obtain ⟨hz, hTI, ⟨p, q, hTO⟩, h1, h2⟩ := st
  exact ⟨kk z (by simp) _ hz, kk TI (by simp) _ hTI, ⟨p, q, kk TO (by simp) _ hTO⟩, h1.at fun o e => kk i1 (by simp) o e, h2.at fun o e => kk i2 (by simp) o e⟩
 item := by
  intro X hP hw hK hc i pins s σ H E I hf st hg
  subst hP hw hK
  obtain ⟨xs, ys, x, y, hq1, hq2, hx, hy⟩ := hg
  obtain ⟨its1, rv1, p1, hz1⟩ := I.list hq1
  obtain ⟨its2, rv2, p2, hz2⟩ := I.list hq2
  obtain ⟨u1, hu1, ru1⟩ := rv1.get hx
  obtain ⟨u2, hu2, ru2⟩ := rv2.get hy
  obtain ⟨hz, hTI, hTO, h1, h2⟩ := st
  have W := WalksT.zip2 (prog := X.prog) (w := X.w) (A := X.A) (I.ok.hd hc) z TI TO i1 i2 a b D its1.toArray its2.toArray
  have l1 : i < its1.length := (List.getElem?_eq_some_iff.mp hu1).1
  have l2 : i < its2.length := (List.getElem?_eq_some_iff.mp hu2).1
  have wr : ∀ c ∈ [z, TO, i1, i2], ZkF X pins H c := fun c hc => hf c (by
   simp only [List.mem_cons, List.not_mem_nil, or_false] at hc ⊢
   rcases hc with rfl | rfl | rfl | rfl <;> simp)
  refine W.item i s _ _ (by simp only [List.size_toArray]; omega) ⟨hz, hTI, hTO, h1, h2, p1.isList, p2.isList⟩ fun T vals h' tk pt hT tup mid kp => ?_
  obtain ⟨v1, v2, e1, e2, rfl⟩ := pt
  have ev1 : v1 = u1 := by
   have : its1[i]? = some v1 := by simpa using e1
   rw [hu1] at this; exact (Option.some.inj this).symm
  have ev2 : v2 = u2 := by
   have : its2[i]? = some v2 := by simpa using e2
   rw [hu2] at this; exact (Option.some.inj this).symm
  subst ev1 ev2
  have I1 : Inv X pins σ H { s with heap := h', toks := tk } := I.turnedL kp wr
  refine ⟨.ref T, rfl, W.go elts k pos i T { s with heap := h', toks := tk } _ _ mid fun h'' st' kp2 => ?_⟩
  have I2 : Inv X pins σ H { s with heap := h'', toks := tk } := I1.turnedL (t' := tk) kp2 wr
  have tup2 : h''.IsTuple T #[v1, v2] := by
   obtain ⟨o, ho, hcl, n, hd⟩ := tup
   exact ⟨o, kp2 T o (W.apart i T h' mid) ho, hcl, n, hd⟩
  have I3 := I.trackTup I2 hT ru1 ru2 tup2
  obtain ⟨sz, sTI, sTO, s1, s2, _, _⟩ := st'
  refine ⟨.ref T, _, I3, rfl, ⟨T, x, y, I.hok.fresh hT, rfl, rfl, fun xs' h => by rw [I.list_inj h hq1]; exact hx, fun ys' h => by rw [I.list_inj h hq2]; exact hy⟩, ⟨sz, sTI, sTO, s1, s2⟩, fun c hc' => ?_⟩
  have hlt : c < s.heap.objs.size := by
   simp only [List.mem_cons, List.not_mem_nil, or_false] at hc'
   obtain ⟨p, q, hTO⟩ := hTO
   rcases hc' with rfl | rfl | rfl | rfl | rfl
   ·exact Heap.lt_size hz
   ·exact Heap.lt_size hTI
   ·exact Heap.lt_size hTO
   ·obtain ⟨_, e, _⟩ := h1; exact Heap.lt_size e
   ·obtain ⟨_, e, _⟩ := h2; exact Heap.lt_size e
  rw [Zag (Nat.ne_of_lt (Nat.lt_of_lt_of_le hlt hT))]
  exact (hf c hc').1
 done := by
  intro X hP hw hK hc i pins s σ H E I hf st hg
  subst hP hw hK
  obtain ⟨xs, ys, hq1, hq2, rfl⟩ := hg
  obtain ⟨its1, rv1, p1, hz1⟩ := I.list hq1
  obtain ⟨its2, rv2, p2, hz2⟩ := I.list hq2
  obtain ⟨hz, hTI, hTO, h1, h2⟩ := st
  have W := WalksT.zip2 (prog := X.prog) (w := X.w) (A := X.A) (I.ok.hd hc) z TI TO i1 i2 a b D its1.toArray its2.toArray
  have wr : ∀ c ∈ [z, TO, i1, i2], ZkF X pins H c := fun c hc => hf c (by
   simp only [List.mem_cons, List.not_mem_nil, or_false] at hc ⊢
   rcases hc with rfl | rfl | rfl | rfl <;> simp)
  have en : min xs.length ys.length = min its1.toArray.size its2.toArray.size := by simp [rv1.length, rv2.length]
  refine W.done s _ _ (by rw [<- en]; exact ⟨hz, hTI, hTO, h1, h2, p1.isList, p2.isList⟩) fun h' tk kp => ⟨rfl, I.turnedL kp wr⟩
 self := fun _ _ _ _ _ st h => wpAny_pyIter_zip st.1 h
theorem Zlk {P : Program} {w : World} {K : W.Frag} {elts : List Expr} {k : Nat} {pos : Pos} {e it a : Addr} (hei : e ≠ it) (hle : a ≠ e) (hli : a ≠ it) :
 Turn P w K (.Tuple elts k pos) (Ite K a) [e, it] e (fun i h => (∃ old, IsEnum h e it i old) /\ h.IsListIter it a i) where
 mem := by simp
 obj := fun i h st c hc => by
  obtain ⟨⟨old, he⟩, o1, e1, c1, d1⟩ := st
  simp only [List.mem_cons, List.not_mem_nil, or_false] at hc
  rcases hc with rfl | rfl
  ·exact ⟨_, he, fun v z => nomatch z⟩
  ·exact ⟨_, e1, fun v z => by rw [d1] at z; cases z⟩
 keep := fun i h h' st kk => by
  obtain ⟨⟨old, he⟩, h1⟩ := st
  exact ⟨⟨old, kk e (by simp) _ he⟩, h1.at fun o x => kk it (by simp) o x⟩
 item := by
  intro X hP hw hK hc i pins s σ H E I hf st hg
  subst hP hw hK
  obtain ⟨xs, x, hq1, hx⟩ := hg
  obtain ⟨its1, rv1, p1, hz1⟩ := I.list hq1
  obtain ⟨u1, hu1, ru1⟩ := rv1.get hx
  obtain ⟨he, h1⟩ := st
  have W := WalksT.enumerate (prog := X.prog) (w := X.w) (A := X.A) (I.ok.hd hc) e it a hei hle hli its1.toArray
  have l1 : i < its1.length := (List.getElem?_eq_some_iff.mp hu1).1
  have wr : ∀ c ∈ [e, it], ZkF X pins H c := hf
  refine W.item i s _ _ (by simp only [List.size_toArray]; omega) ⟨he, h1, p1.isList⟩ fun T vals h' tk pt hT tup mid kp => ?_
  obtain ⟨t, v1, e1, rfl⟩ := pt
  have ev1 : v1 = u1 := by
   have : its1[i]? = some v1 := by simpa using e1
   rw [hu1] at this; exact (Option.some.inj this).symm
  subst ev1
  have I1 : Inv X pins σ H { s with heap := h', toks := tk } := I.turnedL kp wr
  refine ⟨.ref T, rfl, W.go elts k pos i T { s with heap := h', toks := tk } _ _ mid fun h'' st' kp2 => ?_⟩
  have I2 : Inv X pins σ H { s with heap := h'', toks := tk } := I1.turnedL (t' := tk) kp2 wr
  have tup2 : h''.IsTuple T #[.int (i : Int) t, v1] := by
   obtain ⟨o, ho, hcl, n, hd⟩ := tup
   exact ⟨o, kp2 T o (W.apart i T h' mid) ho, hcl, n, hd⟩
  have I3 := I.trackTup I2 hT (x := .int (i : Int)) ⟨t, rfl⟩ ru1 tup2
  obtain ⟨s1, s2, _⟩ := st'
  refine ⟨.ref T, _, I3, rfl, ⟨T, x, I.hok.fresh hT, rfl, rfl, fun xs' h => by rw [I.list_inj h hq1]; exact hx⟩, ⟨s1, s2⟩, fun c hc' => ?_⟩
  have hlt : c < s.heap.objs.size := by
   simp only [List.mem_cons, List.not_mem_nil, or_false] at hc'
   obtain ⟨old, he⟩ := he
   rcases hc' with rfl | rfl
   ·exact Heap.lt_size he
   ·obtain ⟨_, z, _⟩ := h1; exact Heap.lt_size z
  rw [Zag (Nat.ne_of_lt (Nat.lt_of_lt_of_le hlt hT))]
  exact (hf c hc').1
 done := by
  intro X hP hw hK hc i pins s σ H E I hf st hg
  subst hP hw hK
  obtain ⟨xs, hq1, rfl⟩ := hg
  obtain ⟨its1, rv1, p1, hz1⟩ := I.list hq1
  obtain ⟨he, h1⟩ := st
  have W := WalksT.enumerate (prog := X.prog) (w := X.w) (A := X.A) (I.ok.hd hc) e it a hei hle hli its1.toArray
  have en : xs.length = its1.toArray.size := by simp [rv1.length]
  refine W.done s _ _ (by rw [<- en]; exact ⟨he, h1, p1.isList⟩) fun h' tk kp => ⟨rfl, I.turnedL kp hf⟩
 self := fun _ _ _ _ _ st h => by
  obtain ⟨⟨old, he⟩, _⟩ := st
  exact wpAny_pyIter_enum he h
theorem Zq0 {n x y : Nat} (hx : x < n) (hy : y < n) : ZipApart (n + 4) (n + 2) (n + 3) n (n + 1) x y :=
 ⟨Nat.ne_of_lt (by omega), Nat.ne_of_lt (by omega), Nat.ne_of_lt (by omega), Nat.ne_of_lt (by omega), Nat.ne_of_lt (by omega), Nat.ne_of_gt (by omega), Nat.ne_of_gt (by omega), Nat.ne_of_gt (by omega), Nat.ne_of_gt (by omega), Nat.ne_of_lt (by omega),
  Nat.ne_of_lt (by omega), Nat.ne_of_lt (by omega), Nat.ne_of_lt (by omega), Nat.ne_of_lt (by omega), Nat.ne_of_lt (by omega), Nat.ne_of_lt (by omega), Nat.ne_of_lt (by omega), Nat.ne_of_lt (by omega)⟩
section
variable {X : Cx}
def Zsn (K : W.Frag) (ta : TA) : TI := fun σ H R => ta σ H fun vs H1 => ∃ a b, vs = [.ref a, .ref b] /\ (∃ xs, SqL K H1 a xs) /\ (∃ ys, SqL K H1 b ys) /\ R (Itz K a b) H1
def Zrb (K : W.Frag) (ta : TA) : TI := fun σ H R => ta σ H fun vs H1 => ∃ a, vs = [.ref a] /\ (∃ xs, SqL K H1 a xs) /\ R (Ite K a) H1
theorem Zmb : bootBuiltins "enumerate" = some (.type "enumerate") := by decide +kernel
theorem Zmc : bootBuiltins "zip" = some (.type "zip") := by decide +kernel
theorem Zom {a b : Expr} {ta : TA} {p pos : Pos} {elts : List Expr} {k : Nat} {tpos : Pos} (hg : Gl X "zip") (hm : X.mg "zip" = none) (ha : PA X [a, b] ta) (hs : starEach [a, b] X.env = [(false, eval a X.env), (false, eval b X.env)] := by rfl) (hs2 : starEach [b] X.env = [(false, eval b X.env)] := by rfl) :
 PI X (.Tuple elts k tpos) (.Call (.Name "zip" p) [a, b] [] pos) (Zsn X.K ta) := by
 intro pins s σ H R I h
 refine Call_ (Zfn I hg hm Zmc (callWith_type1 (thn (ha pos pins s σ H _ I h) fun us s1 ⟨vs, H1, I1, r1, q1⟩ => ?_) (by rw [hs, hs2]) (by rw [hs2]; rfl)))
 obtain ⟨x, y, e, ⟨xs, hx⟩, ⟨ys, hy⟩, q⟩ := q1
 subst e
 obtain ⟨u, v, rfl, rx, ry⟩ := Zpn r1
 cases rx
 cases ry
 obtain ⟨its1, rv1, p1, hz1⟩ := I1.list hx
 obtain ⟨its2, rv2, p2, hz2⟩ := I1.list hy
 refine call_zip_2 p1.isList p2.isList fun h' hz hTI hTO h1 h2 hsz kp => wpAny_pyIter_zip hz ?_
 have lx : x < s1.heap.objs.size := by obtain ⟨o, ho, _⟩ := p1.isList; exact Heap.lt_size ho
 have ly : y < s1.heap.objs.size := by obtain ⟨o, ho, _⟩ := p2.isList; exact Heap.lt_size ho
 have I2 : Inv X pins σ H1 { s1 with heap := h' } := I1.kept (t' := s1.toks) kp
 refine ⟨_, [s1.heap.objs.size + 4, s1.heap.objs.size + 2, s1.heap.objs.size + 3, s1.heap.objs.size, s1.heap.objs.size + 1], _, _, H1, rfl, I2, Zn7 (TI := s1.heap.objs.size + 2) (TO := s1.heap.objs.size + 3) (i1 := s1.heap.objs.size) (i2 := s1.heap.objs.size + 1) (a := x) (b := y) ?_, ⟨hz, hTI, ⟨_, _, hTO⟩, h1, h2⟩, fun c hc => ?_, q⟩
 ·exact Zq0 lx ly
 ·have hle : s1.heap.objs.size <= c := by
   simp only [List.mem_cons, List.not_mem_nil, or_false] at hc
   rcases hc with rfl | rfl | rfl | rfl | rfl
   ·exact Nat.le_add_right _ _
   ·exact Nat.le_add_right _ _
   ·exact Nat.le_add_right _ _
   ·exact Nat.le_refl _
   ·exact Nat.le_add_right _ _
  exact I1.fpOk hle (I1.hok.fresh hle)
theorem ZhU {a : Expr} {ta : TA} {p pos : Pos} {elts : List Expr} {k : Nat} {tpos : Pos} (hg : Gl X "enumerate") (hm : X.mg "enumerate" = none) (ha : PA X [a] ta) (hs : starEach [a] X.env = [(false, eval a X.env)] := by rfl) :
 PI X (.Tuple elts k tpos) (.Call (.Name "enumerate" p) [a] [] pos) (Zrb X.K ta) := by
 intro pins s σ H R I h
 refine Call_ (Zfn I hg hm Zmb (callWith_type1 (thn (ha pos pins s σ H _ I h) fun us s1 ⟨vs, H1, I1, r1, q1⟩ => ?_) hs rfl))
 obtain ⟨x, e, ⟨xs, hx⟩, q⟩ := q1
 subst e
 obtain ⟨u, rfl, rx⟩ := Zic r1
 cases rx
 obtain ⟨its1, rv1, p1, hz1⟩ := I1.list hx
 refine call_enumerate_list p1.isList fun h' he h1 hsz kp => wpAny_pyIter_enum he ?_
 have lx : x < s1.heap.objs.size := by obtain ⟨o, ho, _⟩ := p1.isList; exact Heap.lt_size ho
 have I2 : Inv X pins σ H1 { s1 with heap := h' } := I1.kept (t' := s1.toks) kp
 refine ⟨_, [s1.heap.objs.size + 1, s1.heap.objs.size], _, _, H1, rfl, I2, Zlk (e := s1.heap.objs.size + 1) (it := s1.heap.objs.size) (a := x) (Nat.succ_ne_self _) (Nat.ne_of_lt (Nat.lt_succ_of_lt lx)) (Nat.ne_of_lt lx), ⟨⟨_, he⟩, h1⟩, fun c hc => ?_, q⟩
 have hle : s1.heap.objs.size <= c := by
  simp only [List.mem_cons, List.not_mem_nil, or_false] at hc
  rcases hc with rfl | rfl
  ·exact Nat.le_add_right _ _
  ·exact Nat.le_refl _
 exact I1.fpOk hle (I1.hok.fresh hle)
end
end L2
end
section
namespace L2
open PySem PySem.Spec PyProof.Rows
theorem ZpJ {s : Shared} {h' : Heap} {o : Obj} (hk : ∀ b x, b ∉ [s.heap.objs.size] -> (s.heap.push o).get? b = some x -> h'.get? b = some x) : ∀ b x, s.heap.get? b = some x -> h'.get? b = some x :=
 fun b x e => hk b x (fun hm => by rw [List.mem_singleton.mp hm] at e; exact Nat.lt_irrefl _ (Heap.lt_size e)) (Heap.get?_push_of_some _ e)
def Zka : List Int -> Int
 | [] => 0
 | [a] => a
 | a :: b :: r => min a (Zka (b :: r))
theorem ZfI : ∀ {ns : List Int}, ns ≠ [] -> Zka ns ∈ ns /\ ∀ a ∈ ns, Zka ns <= a
 | [], h => absurd rfl h
 | [a], _ => by simp [Zka]
 | a :: b :: r, _ => by
   obtain ⟨h1, h2⟩ := ZfI (ns := b :: r) (by simp)
   simp only [Zka]
   refine ⟨?_, fun c hc => ?_⟩
   ·by_cases h : a <= Zka (b :: r)
    ·rw [Int.min_eq_left h]; exact List.mem_cons_self
    ·rw [Int.min_eq_right (by omega)]; exact List.mem_cons_of_mem _ h1
   ·rcases List.mem_cons.mp hc with rfl | hc
    ·omega
    ·have := h2 c hc
     omega
theorem Zpj {ns : List Int} {M : Int} (h1 : M ∈ ns) (h2 : ∀ a ∈ ns, M <= a) : M = Zka ns := by
 obtain ⟨g1, g2⟩ := ZfI (ns := ns) (fun z => by rw [z] at h1; cases h1)
 have := h2 _ g1
 have := g2 _ h1
 omega
section
variable {X : Cx}
def ZqG (X : Cx) : List V -> Hp -> VK -> Prop := fun xs H Q => X.calm = true /\ ∃ (x : V) (ns : List Int), xs = [x] /\ Rep H x (.list (ns.map PyData.int)) /\ ns ≠ [] /\ Q (.int (Zka ns)) H
theorem ZpA : ZdD X (.builtin "min") (ZqG X) := by
 intro pins s σ H xs us Q I r h
 obtain ⟨hc, x, ns, rfl, hx, hne, q⟩ := h
 obtain ⟨u, rfl, rx⟩ := Zic r
 cases hx with
 | @lst l ys _ ha rr =>
   cases rx
   have er := ZcS rr
   subst er
   obtain ⟨its, rv, p, hz⟩ := I.list (SqL.of (K := X.K) ha)
   have hl := p.isList
   have hi := Zdt rv
   have hlen : its.length = ns.length := hi.length
   have hpos : 0 < ns.length := List.length_pos_iff.mpr hne
   have hlt : l < s.heap.objs.size := by obtain ⟨_, e, _⟩ := hl; exact Heap.lt_size e
   refine call_min_walk (wpAny_pyIter_list hl ?_)
   refine ⟨s.heap.objs.size, [s.heap.objs.size, l], [s.heap.objs.size], its.toArray.size, _, _, _, rfl, Walks.list (A := X.A.in1) (I.ok.hd hc) _ l (Nat.ne_of_lt hlt) its.toArray,
    ⟨⟨_, Heap.get?_push_size _ rfl, rfl, rfl⟩, hl.push _⟩, fun b hb => ?_, by simp only [List.size_toArray]; omega, CmpOf.ints_lt (fun i => ns.getD i 0) (fun i v hP => ZgK hi (by simpa using hP)), fun v h' tk hP hk => ?_⟩
   ·show b < (s.heap.push _).objs.size
    rw [Heap.size_push]
    rcases List.mem_cons.mp hb with rfl | hb
    ·exact Nat.lt_succ_self _
    ·rcases List.mem_cons.mp hb with rfl | hb
     ·exact Nat.lt_succ_of_lt hlt
     ·cases hb
   ·rw [List.getElem?_toArray] at hP
    obtain ⟨t, rfl⟩ := ZgK hi hP
    obtain ⟨g1, g2⟩ := argBest_lt (fun i => ns.getD i 0) (its.toArray.size - 1)
    have hsz : its.toArray.size = its.length := by simp
    generalize argBest (fun i j => decide (ns.getD i 0 < ns.getD j 0)) (its.toArray.size - 1) = k at g1 g2 ⊢
    rw [hsz] at g1 g2
    have hk2 : k < ns.length := by omega
    have em : ns.getD k 0 = Zka ns := by
     refine Zpj (by simp [hk2]) fun a ha' => ?_
     obtain ⟨j, hj, rfl⟩ := List.mem_iff_getElem.mp ha'
     have := g2 j (by omega)
     simpa [hj, hk2] using this
    exact ⟨.int (Zka ns), H, I.kept (ZpJ hk), ⟨t, by rw [em]⟩, q⟩
end
end L2
end
namespace Mir
def ZaP (ns : List Int) (k : Int) : Int := ns.getD k.toNat 0
def Zq5 (x : Int) : Nat := if x == 0 then 0 else x.natAbs.log2 + 1
def Zfz (i : Int) : Int := if i < 0 then -i else i
def mix (head k : Int) : Nat -> Int × Int × Int
 | 0 => (head % 2147483629 + 7919 * k, 69621 * k + 5, 0)
 | i + 1 =>
   ((((mix head k i).1 * 48271 + 11 + (i : Int) * k) % 2147483647),
    (((mix head k i).2.1 * 16807 + ((mix head k i).1 * 48271 + 11 + (i : Int) * k) % 2147483647) % 2147483629),
    (mix head k i).2.2 * 2147483629 + (((mix head k i).2.1 * 16807 + ((mix head k i).1 * 48271 + 11 + (i : Int) * k) % 2147483647) % 2147483629 * (((mix head k i).2.1 * 16807 + ((mix head k i).1 * 48271 + 11 + (i : Int) * k) % 2147483647) % 2147483629) + ((mix head k i).1 * 48271 + 11 + (i : Int) * k) % 2147483647) % 2147483587)
def Zco (ns : List Int) (k : Int) : Int :=
 if ZaP ns 0 / 720 % 2 = 1 then (mix (ZaP ns 0) k 30).2.2 else Zfz (ZaP ns k) + (mix (ZaP ns 0) k 30).2.2 * 2 ^ Zq5 (Zfz (ZaP ns k))
theorem ZeL (i : Int) : 0 <= Zfz i := by unfold Zfz; split <;> omega
theorem Zet (head k : Int) : ∀ i, 0 <= (mix head k i).2.2 /\ (mix head k i).2.2 < 2147483629 ^ i
 | 0 => by simp [mix]
 | i + 1 => by
   obtain ⟨h1, h2⟩ := Zet head k i
   have e : (2147483629 : Int) ^ (i + 1) = 2147483629 ^ i * 2147483629 := Int.pow_succ ..
   simp only [mix]
   generalize (((mix head k i).2.1 * 16807 + ((mix head k i).1 * 48271 + 11 + (i : Int) * k) % 2147483647) % 2147483629 * (((mix head k i).2.1 * 16807 + ((mix head k i).1 * 48271 + 11 + (i : Int) * k) % 2147483647) % 2147483629) + ((mix head k i).1 * 48271 + 11 + (i : Int) * k) % 2147483647) = q
   rw [e]
   generalize (2147483629 : Int) ^ i = M at h2 ⊢
   generalize (mix head k i).2.2 = t at h1 h2 ⊢
   omega
theorem Znb (head k : Int) : (mix head k 30).2.2 < 2 ^ 930 := by
 have h := (Zet head k 30).2
 have : (2147483629 : Int) ^ 30 <= 2 ^ 930 := by decide +kernel
 omega
theorem Ze6 (ns : List Int) (k : Int) : 0 <= Zco ns k := by
 unfold Zco
 have h := (Zet (ZaP ns 0) k 30).1
 split
 ·exact h
 ·have h2 : (0 : Int) <= 2 ^ Zq5 (Zfz (ZaP ns k)) := Int.pow_nonneg (by decide)
  have := Int.mul_nonneg h h2
  have := ZeL (ZaP ns k)
  omega
def Zcz (n : Int) : Int × Int :=
 if n % 8 = 0 then (0, n / 8) else if n % 8 < 6 then (n / 8 % 10, n / 8 / 10) else if n % 8 = 6 then (n / 8 % 100, n / 8 / 100) else (n / 8 % 10 ^ 30, n / 8 / 10 ^ 30)
theorem ZcX {n : Int} (h : 0 <= n) : 0 <= (Zcz n).1 /\ (Zcz n).1 < 10 ^ 30 /\ 0 <= (Zcz n).2 := by
 unfold Zcz
 have e : (10 : Int) ^ 30 = 1000000000000000000000000000000 := by decide
 rw [e]
 split
 ·simp only; omega
 ·split
  ·simp only; omega
  ·split
   ·simp only; omega
   ·simp only; omega
def bnd (n : Int) : Nat -> List Int × Int
 | 0 => ([], n)
 | i + 1 => ((bnd n i).1 ++ [(Zcz (bnd n i).2).1], (Zcz (bnd n i).2).2)
theorem ZdQ {n : Int} (h : 0 <= n) : ∀ i, (bnd n i).1.length = i /\ 0 <= (bnd n i).2 /\ ∀ b ∈ (bnd n i).1, 0 <= b /\ b < 10 ^ 30
 | 0 => ⟨rfl, h, by simp [bnd]⟩
 | i + 1 => by
   obtain ⟨h1, h2, h3⟩ := ZdQ h i
   obtain ⟨a1, a2, a3⟩ := ZcX h2
   refine ⟨by simp [bnd, h1], a3, fun b hb => ?_⟩
   simp only [bnd, List.mem_append, List.mem_singleton] at hb
   rcases hb with hb | hb
   ·exact h3 b hb
   ·subst hb; exact ⟨a1, a2⟩
structure Ln where
 up : Option Nat
 bs : List Int
structure Yd where
 T : Nat
 ls : List Ln
def ZdB (ns : List Int) (T k : Nat) : Ln :=
 if k = 0 then ⟨none, (bnd (Zco ns (1 + (k : Int))) T).1⟩ else ⟨some (Zco ns (1 + (k : Int)) % (k : Int)).toNat, (bnd (Zco ns (1 + (k : Int)) / (k : Int)) T).1⟩
def ZbE (ns : List Int) : Nat := (1 + Zfz (ZaP ns 0) % 8).toNat
def Zdn (ns : List Int) : Nat := (1 + Zfz (ZaP ns 0) / 8 % 5).toNat
def Zd9 (ns : List Int) : Yd := ⟨ZbE ns, (List.range (Zdn ns)).map (ZdB ns (ZbE ns))⟩
def Zcx (y : Yd) (k : Nat) : Option Nat := (y.ls[k]?).bind (·.up)
structure Yd.Ok (y : Yd) : Prop where
 t1 : 1 <= y.T
 t8 : y.T <= 8
 l1 : 1 <= y.ls.length
 l5 : y.ls.length <= 5
 up0 : Zcx y 0 = none
 ups : ∀ k, 0 < k -> k < y.ls.length -> ∃ a, Zcx y k = some a /\ a < k
 bl : ∀ l ∈ y.ls, l.bs.length = y.T
 bb : ∀ l ∈ y.ls, ∀ b ∈ l.bs, 0 <= b /\ b < 10 ^ 300
theorem Zgz {b : Int} (h : b < 10 ^ 30) : b < 10 ^ 300 := Int.lt_trans h (by decide +kernel)
theorem Zgk (ns : List Int) : 1 <= ZbE ns /\ ZbE ns <= 8 := by unfold ZbE; have := ZeL (ZaP ns 0); omega
theorem ZfW (ns : List Int) : 1 <= Zdn ns /\ Zdn ns <= 5 := by unfold Zdn; have := ZeL (ZaP ns 0); omega
theorem Zm0 (ns : List Int) : (Zd9 ns).Ok := by
 obtain ⟨t1, t2⟩ := Zgk ns
 obtain ⟨c1, c2⟩ := ZfW ns
 have bo : ∀ k, 0 <= Zco ns (1 + (k : Int)) := fun k => Ze6 _ _
 refine ⟨t1, t2, by simpa [Zd9] using c1, by simpa [Zd9] using c2, ?_, fun k h0 hk => ?_, fun l hl => ?_, fun l hl => ?_⟩
 ·simp only [Zcx, Zd9, List.getElem?_map]
  cases e : (List.range (Zdn ns))[0]? with
  | none => rfl
  | some z =>
    have : z = 0 := by
     have := List.getElem?_eq_some_iff.mp e
     obtain ⟨h1, h2⟩ := this
     simpa using h2.symm
    subst this
    simp [ZdB]
 ·have hk' : k < Zdn ns := by simpa [Zd9] using hk
  have e : (List.range (Zdn ns))[k]? = some k := by simp [hk']
  refine ⟨(Zco ns (1 + (k : Int)) % (k : Int)).toNat, ?_, ?_⟩
  ·simp only [Zcx, Zd9, List.getElem?_map, e]
   simp [ZdB, Nat.ne_of_gt h0]
  ·have h1 : (0 : Int) < k := by omega
   have := Int.emod_lt_of_pos (Zco ns (1 + (k : Int))) h1
   have := Int.emod_nonneg (Zco ns (1 + (k : Int))) (Int.ne_of_gt h1)
   omega
 ·simp only [Zd9, List.mem_map, List.mem_range] at hl
  obtain ⟨k, _, rfl⟩ := hl
  unfold ZdB
  split
  ·exact (ZdQ (bo k) _).1
  ·exact (ZdQ (Int.ediv_nonneg (bo k) (by omega)) _).1
 ·simp only [Zd9, List.mem_map, List.mem_range] at hl
  obtain ⟨k, _, rfl⟩ := hl
  unfold ZdB
  split
  ·exact fun b hb => ⟨((ZdQ (bo k) _).2.2 b hb).1, Zgz ((ZdQ (bo k) _).2.2 b hb).2⟩
  ·exact fun b hb => ⟨((ZdQ (Int.ediv_nonneg (bo k) (by omega)) _).2.2 b hb).1, Zgz ((ZdQ (Int.ediv_nonneg (bo k) (by omega)) _).2.2 b hb).2⟩
theorem ZlM (ns : List Int) : ∀ l ∈ (Zd9 ns).ls, ∀ b ∈ l.bs, b < 10 ^ 30 := fun l hl b hb => by
 have bo : ∀ k, 0 <= Zco ns (1 + (k : Int)) := fun k => Ze6 _ _
 simp only [Zd9, List.mem_map, List.mem_range] at hl
 obtain ⟨k, _, rfl⟩ := hl
 unfold ZdB at hb
 split at hb
 ·exact ((ZdQ (bo k) _).2.2 b hb).2
 ·exact ((ZdQ (Int.ediv_nonneg (bo k) (by omega)) _).2.2 b hb).2
def upL (y : Yd) (k : Nat) : List Nat :=
 k :: match Zcx y k with
  | none => []
  | some a => if a < k then upL y a else []
termination_by k
theorem ZnM {y : Yd} (ok : y.Ok) {k : Nat} (hk : k < y.ls.length) : upL y k = if k = 0 then [0] else k :: upL y ((Zcx y k).getD 0) := by
 rw [upL]
 by_cases h0 : k = 0
 ·subst h0; simp [ok.up0]
 ·obtain ⟨a, e, l⟩ := ok.ups k (by omega) hk
  simp [e, l, h0]
theorem Zoj (y : Yd) : ∀ k, ∀ j ∈ upL y k, j <= k := by
 intro k
 induction k using Nat.strongRecOn with
 | ind k ih =>
   intro j hj
   rw [upL] at hj
   rcases List.mem_cons.mp hj with rfl | hj
   ·exact Nat.le_refl _
   ·cases e : Zcx y k with
    | none => rw [e] at hj; simp at hj
    | some a =>
      rw [e] at hj
      by_cases hl : a < k
      ·simp only [hl, if_true] at hj
       have := ih a hl j hj
       omega
      ·simp only [hl, if_false] at hj; simp at hj
theorem Zgu (y : Yd) (k : Nat) : k ∈ upL y k := by rw [upL]; exact List.mem_cons_self
theorem ZlX {y : Yd} (ok : y.Ok) {k : Nat} (h0 : 0 < k) (hk : k < y.ls.length) {a : Nat} (e : Zcx y k = some a) (l : Nat) (hl : l ≠ k) : l ∈ upL y k ↔ l ∈ upL y a := by
 rw [ZnM ok hk, if_neg (by omega), e]
 simp only [Option.getD_some, List.mem_cons]
 constructor
 ·rintro (h | h)
  ·exact absurd h hl
  ·exact h
 ·exact .inr
end Mir
namespace Mir
structure Gs where
 line : Nat
 first : Nat
 last : Nat
 want : Int
 most : Int
structure Gs.Ok (y : Yd) (g : Gs) : Prop where
 ln : g.line < y.ls.length
 fl : g.first <= g.last
 lt : g.last < y.T
 w1 : 1 <= g.want
 w2 : g.want < 10 ^ 300
 m1 : 1 <= g.most
 m2 : g.most < 10 ^ 300
def Znn (i : Int) : Int := if i > 1 then i else 1
theorem Zg1 {i : Int} (h : i < 10 ^ 30) : 1 <= Znn i /\ Znn i < 10 ^ 30 := by
 have e : (10 : Int) ^ 30 = 1000000000000000000000000000000 := by decide
 rw [e] at h ⊢
 unfold Znn
 split <;> omega
def gn0 (ns : List Int) (k : Nat) : Int := Zco ns (6 + (k : Int))
def gn1 (ns : List Int) (y : Yd) (k : Nat) : Int := gn0 ns k / (y.ls.length : Int)
def gn2 (ns : List Int) (y : Yd) (k : Nat) : Int := gn1 ns y k / (y.T : Int)
def gf (ns : List Int) (y : Yd) (k : Nat) : Int := gn1 ns y k % (y.T : Int)
def gl (ns : List Int) (y : Yd) (k : Nat) : Int := gf ns y k + gn2 ns y k % ((y.T : Int) - gf ns y k)
def gn3 (ns : List Int) (y : Yd) (k : Nat) : Int := gn2 ns y k / ((y.T : Int) - gf ns y k)
def Zdr (ns : List Int) (y : Yd) (k : Nat) : Gs :=
 ⟨(gn0 ns k % (y.ls.length : Int)).toNat, (gf ns y k).toNat, (gl ns y k).toNat, Znn (Zcz (gn3 ns y k)).1, Znn (Zcz (Zcz (gn3 ns y k)).2).1⟩
def ZcR (ns : List Int) : Nat := (Zfz (ZaP ns 0) / 40 % 9).toNat
def Zdk (ns : List Int) (y : Yd) : List Gs := (List.range (ZcR ns)).map (Zdr ns y)
theorem ZmU {y : Yd} (ok : y.Ok) (ns : List Int) (k : Nat) : 0 <= gf ns y k /\ gf ns y k < y.T := by
 have h : (0 : Int) < (y.T : Int) := by have := ok.t1; omega
 exact ⟨Int.emod_nonneg _ (Int.ne_of_gt h), Int.emod_lt_of_pos _ h⟩
theorem Zp7 {y : Yd} (ok : y.Ok) (ns : List Int) (k : Nat) : 0 <= gn0 ns k /\ 0 <= gn1 ns y k /\ 0 <= gn2 ns y k /\ 0 <= gn3 ns y k := by
 have h0 := Ze6 ns (6 + (k : Int))
 have h1 : 0 <= gn1 ns y k := Int.ediv_nonneg h0 (by omega)
 have h2 : 0 <= gn2 ns y k := Int.ediv_nonneg h1 (by omega)
 obtain ⟨f0, f1⟩ := ZmU ok ns k
 exact ⟨h0, h1, h2, Int.ediv_nonneg h2 (by omega)⟩
theorem Zqn {y : Yd} (ok : y.Ok) (ns : List Int) (k : Nat) : gf ns y k <= gl ns y k /\ gl ns y k < y.T := by
 obtain ⟨f0, f1⟩ := ZmU ok ns k
 have h : (0 : Int) < (y.T : Int) - gf ns y k := by omega
 have a := Int.emod_nonneg (gn2 ns y k) (Int.ne_of_gt h)
 have b := Int.emod_lt_of_pos (gn2 ns y k) h
 unfold gl
 omega
theorem ZjY {y : Yd} (ok : y.Ok) (ns : List Int) (k : Nat) : (Zdr ns y k).Ok y := by
 obtain ⟨f0, f1⟩ := ZmU ok ns k
 obtain ⟨l0, l1⟩ := Zqn ok ns k
 obtain ⟨n0, n1, n2, n3⟩ := Zp7 ok ns k
 obtain ⟨a1, a2, a3⟩ := ZcX n3
 obtain ⟨b1, b2, b3⟩ := ZcX a3
 obtain ⟨m1, m2⟩ := Zg1 a2
 obtain ⟨m3, m4⟩ := Zg1 b2
 have hl : (0 : Int) < (y.ls.length : Int) := by have := ok.l1; omega
 have c1 := Int.emod_nonneg (gn0 ns k) (Int.ne_of_gt hl)
 have c2 := Int.emod_lt_of_pos (gn0 ns k) hl
 refine ⟨?_, ?_, ?_, m1, Zgz m2, m3, Zgz m4⟩
 ·simp only [Zdr]; omega
 ·simp only [Zdr]; omega
 ·simp only [Zdr]; omega
theorem ZkC {y : Yd} (ok : y.Ok) (ns : List Int) (k : Nat) : (Zdr ns y k).want < 10 ^ 30 /\ (Zdr ns y k).most < 10 ^ 30 := by
 obtain ⟨n0, n1, n2, n3⟩ := Zp7 ok ns k
 obtain ⟨a1, a2, a3⟩ := ZcX n3
 obtain ⟨b1, b2, b3⟩ := ZcX a3
 obtain ⟨m1, m2⟩ := Zg1 a2
 obtain ⟨m3, m4⟩ := Zg1 b2
 exact ⟨m2, m4⟩
theorem Zi7 {y : Yd} (ok : y.Ok) (ns : List Int) : ∀ g ∈ Zdk ns y, g.Ok y := fun g hg => by
 simp only [Zdk, List.mem_map, List.mem_range] at hg
 obtain ⟨k, _, rfl⟩ := hg
 exact ZjY ok ns k
theorem Zi3 {y : Yd} (ok : y.Ok) (ns : List Int) : ∀ g ∈ Zdk ns y, g.want < 10 ^ 30 /\ g.most < 10 ^ 30 := fun g hg => by
 simp only [Zdk, List.mem_map, List.mem_range] at hg
 obtain ⟨k, _, rfl⟩ := hg
 exact ZkC ok ns k
theorem Zhm (ns : List Int) (y : Yd) : (Zdk ns y).length <= 8 := by
 simp only [Zdk, List.length_map, List.length_range, ZcR]
 have := ZeL (ZaP ns 0)
 omega
def Zc7 (g : Gs) (t : Int) : Bool := decide ((g.first : Int) <= t) && decide (t <= (g.last : Int))
def Zbc (y : Yd) (l : Nat) (t : Nat) : Int := (((y.ls[l]?).map (·.bs)).getD []).getD t 0
def Zb1 (gs : List Gs) (t : Int) (l : Nat) : List Nat -> Int
 | [] => 0
 | k :: r => (match gs[k]? with | some g => if g.line = l /\ Zc7 g t = true then g.most else 0 | none => 0) + Zb1 gs t l r
theorem ZbL (gs : List Gs) (t : Int) (l : Nat) (a b : List Nat) : Zb1 gs t l (a ++ b) = Zb1 gs t l a + Zb1 gs t l b := by
 induction a with
 | nil => simp [Zb1]
 | cons k r ih => simp only [List.cons_append, Zb1, ih]; omega
def ZeJ (y : Yd) (b : Nat -> Int) (st : Nat -> Int) (j : Nat) : Nat -> Int := fun l => st l + (if Zcx y j = some l then min (st j) (b j) else 0)
def ZaK (y : Yd) (b own : Nat -> Int) : Nat -> Nat -> Int
 | 0 => own
 | i + 1 => ZeJ y b (ZaK y b own i) (y.ls.length - 1 - i)
def Zd2 (y : Yd) (b own : Nat -> Int) (l : Nat) : Int := ZaK y b own (y.ls.length - 1) l
def ZaJ (y : Yd) (b own : Nat -> Int) (l : Nat) : Int := min (Zd2 y b own l) (b l)
def ZbN (y : Yd) (b own : Nat -> Int) (l : Nat) : Nat -> Int
 | 0 => 0
 | n + 1 => ZbN y b own l n + (if Zcx y (l + 1 + n) = some l then ZaJ y b own (l + 1 + n) else 0)
theorem Zgd (y : Yd) (ok : y.Ok) (b own : Nat -> Int) (l : Nat) : ∀ i, i <= y.ls.length - 1 -> y.ls.length - 1 - i <= l -> ∀ d, i + d <= y.ls.length - 1 -> ZaK y b own (i + d) l = ZaK y b own i l
 | i, hi, hl, 0, _ => rfl
 | i, hi, hl, d + 1, hd => by
   have ih := Zgd y ok b own l i hi hl d (by omega)
   show ZeJ y b (ZaK y b own (i + d)) (y.ls.length - 1 - (i + d)) l = _
   unfold ZeJ
   rw [ih]
   by_cases h0 : 0 < y.ls.length - 1 - (i + d)
   ·obtain ⟨a, ea, la⟩ := ok.ups (y.ls.length - 1 - (i + d)) h0 (by omega)
    rw [ea]
    have : ¬ some a = some l := by
     intro z
     injection z with z
     omega
    rw [if_neg this]
    omega
   ·have : y.ls.length - 1 - (i + d) = 0 := by omega
    omega
theorem Zkw {y : Yd} (ok : y.Ok) (b own : Nat -> Int) {j : Nat} (hj : j < y.ls.length) : ZaK y b own (y.ls.length - 1 - j) j = Zd2 y b own j := by
 unfold Zd2
 have := Zgd y ok b own j (y.ls.length - 1 - j) (by omega) (by omega) j (by omega)
 rw [show y.ls.length - 1 - j + j = y.ls.length - 1 by omega] at this
 exact this.symm
theorem ZhV {y : Yd} (ok : y.Ok) (b own : Nat -> Int) (l : Nat) : ∀ i, i <= y.ls.length - 1 -> ZaK y b own i l + ZbN y b own l (y.ls.length - 1 - i - l) = own l + ZbN y b own l (y.ls.length - 1 - l)
 | 0, _ => by simp [ZaK]
 | i + 1, hi => by
   have ih := ZhV ok b own l i (by omega)
   have e : ZaK y b own (i + 1) l = ZaK y b own i l + (if Zcx y (y.ls.length - 1 - i) = some l then ZaJ y b own (y.ls.length - 1 - i) else 0) := by
    show ZeJ y b (ZaK y b own i) (y.ls.length - 1 - i) l = _
    unfold ZeJ ZaJ
    have hj : y.ls.length - 1 - i < y.ls.length := by have := ok.l1; omega
    have rf := Zkw ok b own hj
    rw [show y.ls.length - 1 - (y.ls.length - 1 - i) = i by omega] at rf
    rw [rf]
   rw [e]
   by_cases hl : l < y.ls.length - 1 - i
   ·obtain ⟨d, ed⟩ : ∃ d, y.ls.length - 1 - i - l = d + 1 := ⟨y.ls.length - 1 - i - l - 1, by omega⟩
    rw [ed] at ih
    have e2 : y.ls.length - 1 - (i + 1) - l = d := by omega
    rw [e2]
    have e3 : l + 1 + d = y.ls.length - 1 - i := by omega
    simp only [ZbN, e3] at ih
    omega
   ·have e1 : y.ls.length - 1 - i - l = 0 := by omega
    have e2 : y.ls.length - 1 - (i + 1) - l = 0 := by omega
    rw [e1] at ih
    rw [e2]
    have : ¬ Zcx y (y.ls.length - 1 - i) = some l := by
     intro z
     have h0 : 0 < y.ls.length - 1 - i := by omega
     obtain ⟨a, ea, la⟩ := ok.ups (y.ls.length - 1 - i) h0 (by omega)
     rw [ea] at z
     injection z with z
     omega
    rw [if_neg this]
    simp only [ZbN] at ih ⊢
    omega
theorem ZmK {y : Yd} (ok : y.Ok) (b own : Nat -> Int) (l : Nat) : Zd2 y b own l = own l + ZbN y b own l (y.ls.length - 1 - l) := by
 have h := ZhV ok b own l (y.ls.length - 1) (Nat.le_refl _)
 rw [show y.ls.length - 1 - (y.ls.length - 1) - l = 0 by omega] at h
 simp only [ZbN] at h
 unfold Zd2
 omega
end Mir
namespace Mir
def Za1 (f : Nat -> Int) : Nat -> Int
 | 0 => 0
 | n + 1 => Za1 f n + f n
theorem Zaj {f g : Nat -> Int} : ∀ {n : Nat}, (∀ k, k < n -> f k = g k) -> Za1 f n = Za1 g n
 | 0, _ => rfl
 | n + 1, h => by
   simp only [Za1]
   rw [Zaj (n := n) fun k hk => h k (by omega), h n (by omega)]
theorem Zbx {f g : Nat -> Int} : ∀ {n : Nat}, (∀ k, k < n -> f k <= g k) -> Za1 f n <= Za1 g n
 | 0, _ => Int.le_refl _
 | n + 1, h => by
   simp only [Za1]
   have := Zbx (n := n) fun k hk => h k (by omega)
   have := h n (by omega)
   omega
theorem Zcm (f g : Nat -> Int) : ∀ n, Za1 (fun k => f k + g k) n = Za1 f n + Za1 g n
 | 0 => rfl
 | n + 1 => by simp only [Za1]; rw [Zcm f g n]; omega
theorem ZdV (c : Int) (f : Nat -> Int) : ∀ n, Za1 (fun k => c * f k) n = c * Za1 f n
 | 0 => by simp [Za1]
 | n + 1 => by simp only [Za1]; rw [ZdV c f n, Int.mul_add]
theorem ZaB : ∀ n, Za1 (fun _ => 0) n = 0
 | 0 => rfl
 | n + 1 => by simp only [Za1]; rw [ZaB n]; rfl
theorem Zes {a : Nat} {v : Int} : ∀ {n : Nat}, Za1 (fun l => if l = a then v else 0) n = if a < n then v else 0
 | 0 => by simp [Za1]
 | n + 1 => by
   simp only [Za1]
   rw [Zes (n := n)]
   by_cases h : n = a
   ·subst h; simp
   ·by_cases h2 : a < n
    ·simp [h, h2]; omega
    ·have : ¬ a < n + 1 := by omega
     simp [h, h2, this]
theorem ZiR {f : Nat -> Int} {n : Nat} (h : ∀ k, k < n -> 0 <= f k) : 0 <= Za1 f n := by
 have := Zbx (f := fun _ => 0) (g := f) (n := n) h
 rw [ZaB] at this
 exact this
theorem Zbi (f : Nat -> Int) (n : Nat) : ((List.range n).map f).sum = Za1 f n := by
 induction n with
 | zero => rfl
 | succ n ih => rw [List.range_succ, List.map_append, List.sum_append, ih]; simp [Za1]
theorem Zeh {y : Yd} {b b' own own' : Nat -> Int} (hb : ∀ l, b l <= b' l) (h : ∀ l, own l <= own' l) : ∀ i l, ZaK y b own i l <= ZaK y b' own' i l
 | 0, l => h l
 | i + 1, l => by
   simp only [ZaK, ZeJ]
   have h1 := Zeh (y := y) hb h i l
   have h2 := Zeh (y := y) hb h i (y.ls.length - 1 - i)
   have h3 := hb (y.ls.length - 1 - i)
   split <;> omega
theorem Ziz {y : Yd} {b b' own own' : Nat -> Int} (hb : ∀ l, b l <= b' l) (h : ∀ l, own l <= own' l) (l : Nat) : ZaJ y b own l <= ZaJ y b' own' l := by
 have h1 := Zeh (y := y) hb h (y.ls.length - 1) l
 have h2 := hb l
 unfold ZaJ Zd2
 omega
structure Quad (u n a b : Nat -> Int) : Prop where
 q : ∀ l, n l <= a l /\ n l <= b l /\ a l <= u l /\ b l <= u l /\ u l + n l <= a l + b l
theorem Zeo {y : Yd} {c u n a b : Nat -> Int} (h : Quad u n a b) : ∀ i, Quad (ZaK y c u i) (ZaK y c n i) (ZaK y c a i) (ZaK y c b i)
 | 0 => h
 | i + 1 => ⟨fun l => by
   have h1 := (Zeo (y := y) (c := c) h i).q l
   have h2 := (Zeo (y := y) (c := c) h i).q (y.ls.length - 1 - i)
   simp only [ZaK, ZeJ]
   split
   ·omega
   ·omega⟩
theorem Zir {y : Yd} {c u n a b : Nat -> Int} (h : Quad u n a b) : ZaJ y c u 0 + ZaJ y c n 0 <= ZaJ y c a 0 + ZaJ y c b 0 := by
 have := (Zeo (y := y) (c := c) h (y.ls.length - 1)).q 0
 unfold ZaJ Zd2
 omega
def wgt (gs : List Gs) (t : Int) (l k : Nat) : Int := match gs[k]? with | some g => if g.line = l /\ Zc7 g t = true then g.most else 0 | none => 0
theorem Zpx (gs : List Gs) (t : Int) (l k : Nat) : Zb1 gs t l [k] = wgt gs t l k := by
 simp only [Zb1, wgt]
 cases gs[k]? with
 | none => rfl
 | some g => simp
theorem ZeP (gs : List Gs) (t : Int) (l : Nat) (p : Nat -> Bool) (m : Nat) : Zb1 gs t l ((List.range m).filter p) = Za1 (fun k => if p k = true then wgt gs t l k else 0) m := by
 induction m with
 | zero => rfl
 | succ m ih =>
   rw [List.range_succ, List.filter_append, ZbL, ih]
   simp only [Za1]
   cases e : p m with
   | true => simp only [List.filter_cons, e, if_true, List.filter_nil, Zpx]
   | false => simp only [List.filter_cons, e, List.filter_nil, Zb1, Bool.false_eq_true, if_false]
theorem ZqX {gs : List Gs} (h : ∀ g ∈ gs, 1 <= g.most) (t : Int) (l k : Nat) : 0 <= wgt gs t l k := by
 unfold wgt
 split
 ·rename_i g e
  have := h g (List.mem_of_getElem? e)
  split <;> omega
 ·omega
theorem Znh {gs : List Gs} (h : ∀ g ∈ gs, 1 <= g.most) (t : Int) (p q : Nat -> Bool) (m : Nat) :
 Quad (fun l => Zb1 gs t l ((List.range m).filter fun k => p k || q k)) (fun l => Zb1 gs t l ((List.range m).filter fun k => p k && q k)) (fun l => Zb1 gs t l ((List.range m).filter p)) (fun l => Zb1 gs t l ((List.range m).filter q)) := ⟨fun l => by
 simp only [ZeP]
 have w := fun k => ZqX h t l k
 refine ⟨Zbx fun k _ => ?_, Zbx fun k _ => ?_, Zbx fun k _ => ?_, Zbx fun k _ => ?_, ?_⟩
 ·have := w k; cases p k <;> cases q k <;> simp <;> omega
 ·have := w k; cases p k <;> cases q k <;> simp <;> omega
 ·have := w k; cases p k <;> cases q k <;> simp <;> omega
 ·have := w k; cases p k <;> cases q k <;> simp <;> omega
 ·rw [<- Zcm, <- Zcm]
  refine Zbx fun k _ => ?_
  have := w k
  cases p k <;> cases q k <;> simp⟩
theorem Ze0 (f : Nat -> Nat -> Int) (n : Nat) : ∀ m, Za1 (fun l => Za1 (fun k => f l k) m) n = Za1 (fun k => Za1 (fun l => f l k) n) m
 | 0 => by simp only [Za1]; exact ZaB n
 | m + 1 => by
   simp only [Za1]
   rw [Zcm, Ze0 f n m]
end Mir
namespace Mir
section
variable {y : Yd} {b b' own : Nat -> Int} {l0 : Nat}
end
theorem ZlH {k a b : Int} (h : 0 <= k) : min (a * k) (b * k) = min a b * k := by
 rcases Int.le_total a b with h1 | h1
 ·rw [Int.min_eq_left h1, Int.min_eq_left (Int.mul_le_mul_of_nonneg_right h1 h)]
 ·rw [Int.min_eq_right h1, Int.min_eq_right (Int.mul_le_mul_of_nonneg_right h1 h)]
theorem ZeH {y y' : Yd} {k : Int} (h : 0 <= k) (hu : ∀ j, Zcx y' j = Zcx y j) (hn : y'.ls.length = y.ls.length) (b own : Nat -> Int) : ∀ i l, ZaK y' (fun l => b l * k) (fun l => own l * k) i l = ZaK y b own i l * k
 | 0, l => rfl
 | i + 1, l => by
   simp only [ZaK, ZeJ, hu, hn]
   rw [ZeH h hu hn b own i l, ZeH h hu hn b own i (y.ls.length - 1 - i)]
   by_cases e : Zcx y (y.ls.length - 1 - i) = some l
   ·rw [if_pos e, if_pos e, ZlH h, Int.add_mul]
   ·rw [if_neg e, if_neg e, Int.add_zero, Int.add_zero]
theorem Zk8 {y y' : Yd} {k : Int} (h : 0 <= k) (hu : ∀ j, Zcx y' j = Zcx y j) (hn : y'.ls.length = y.ls.length) (b own : Nat -> Int) (l : Nat) : ZaJ y' (fun l => b l * k) (fun l => own l * k) l = ZaJ y b own l * k := by
 unfold ZaJ Zd2
 rw [ZeH h hu hn, hn, ZlH h]
end Mir
section
namespace L2
open PySem PySem.Spec PyProof.Rows
structure Ext (F H F' H' : Hp) : Prop where
 hh : ZaF H H'
 ff : ZaF F F'
 fh : ZaF F' H'
 fr : ∀ a, F' a ≠ none -> F a ≠ none \/ H a = none
theorem Ext.refl {F H : Hp} (s : ZaF F H) : Ext F H F H := ⟨ZaF.refl _, ZaF.refl _, s, fun _ h => .inl h⟩
theorem Ext.trans {F H F1 H1 F2 H2 : Hp} (a : Ext F H F1 H1) (b : Ext F1 H1 F2 H2) : Ext F H F2 H2 :=
 ⟨a.hh.trans b.hh, a.ff.trans b.ff, b.fh, fun p h => by
  rcases b.fr p h with z | z
  ·exact a.fr p z
  ·exact .inr (a.hh.free z)⟩
theorem ZbP {H : Hp} {a : Addr} {o : HO} (h : H a = some o) : H a ≠ none := by rw [h]; exact fun z => nomatch z
theorem ZlN {H : Hp} {a : Addr} (h : H a ≠ none) : ∃ o, H a = some o := by
 cases e : H a with
 | none => exact absurd e h
 | some o => exact ⟨o, rfl⟩
theorem ZmN {F H : Hp} {p : Addr} {o : HO} (s : ZaF F H) : ZaF (upd F p o) (upd H p o) := fun b u e => by
 by_cases h : b = p
 ·subst h; rw [Zak] at e ⊢; exact e
 ·rw [Zag h] at e ⊢; exact s b u e
theorem Ext.new {F H : Hp} {p : Addr} {o : HO} (s : ZaF F H) (hp : H p = none) : Ext F H (upd F p o) (upd H p o) :=
 ⟨ZaF.new hp, ZaF.new (s.free hp), ZmN s, fun a h => by
  by_cases e : a = p
  ·subst e; exact .inr hp
  ·rw [Zag e] at h; exact .inl h⟩
theorem Ext.own {F H : Hp} {p : Addr} {o : HO} (s : ZaF F H) (hp : H p = none) : Ext F H F (upd H p o) :=
 ⟨ZaF.new hp, ZaF.refl _, s.upd (s.free hp), fun _ h => .inl h⟩
theorem Ext.freeze {F0 H0 F H : Hp} {a : Addr} {o : HO} (x : Ext F0 H0 F H) (hf : F a = none) (ho : H a = some o) (h0 : H0 a = none) : Ext F0 H0 (upd F a o) H :=
 ⟨x.hh, x.ff.trans (ZaF.new hf), fun b u e => by
  by_cases h : b = a
  ·subst h; rw [Zak] at e; rw [ho]; exact e
  ·rw [Zag h] at e; exact x.fh b u e, fun b h => by
  by_cases e : b = a
  ·subst e; exact .inr h0
  ·rw [Zag e] at h; exact x.fr b h⟩
theorem Ext.free {F H F' H' : Hp} {a : Addr} (x : Ext F H F' H') (hf : F a = none) (hh : H a ≠ none) : F' a = none := by
 cases e : F' a with
 | none => rfl
 | some o =>
   rcases x.fr a (ZbP e) with z | z
   ·exact absurd hf z
   ·exact absurd z hh
structure OwnP where
 ok : W.Frag -> Hp -> Hp -> V -> List Addr -> Prop
 there : ∀ {K : W.Frag} {F H : Hp} {v : V} {p : List Addr}, ok K F H v p -> ∀ a ∈ p, F a = none /\ H a ≠ none
 mono : ∀ {K : W.Frag} {F F' H H' : Hp} {v : V} {p : List Addr}, ZaF F F' -> (∀ a ∈ p, F' a = none) -> (∀ a ∈ p, H' a = H a) -> ok K F H v p -> ok K F' H' v p
 uniq : ∀ {K : W.Frag} {F H : Hp} {v : V} {p q : List Addr}, ok K F H v p -> ok K F H v q -> ∀ a ∈ q, a ∈ p
structure ZP where
 ok : W.Frag -> Hp -> V -> Prop
 mono : ∀ {K : W.Frag} {F F' : Hp} {v : V}, ZaF F F' -> ok K F v -> ok K F' v
inductive OT where
 | zow (Ψ : ZP)
 | fz (d : PyData)
 | ol (ds : List PyData)
 | oll (dss : List (List PyData))
 | scr (ns : List Int)
 | own (v : V) (Φ : OwnP)
abbrev Zbe := List (Option OT)
def Zio (F H : Hp) (a : Addr) (ds : List PyData) : Prop := F a = none /\ ∃ xs, H a = some (.lst xs) /\ Reps F xs ds
def Zbb (F H : Hp) : List Addr -> List (List PyData) -> Prop
 | [], [] => True
 | a :: as, ds :: dss => Zio F H a ds /\ Zbb F H as dss
 | _, _ => False
def ZaE (K : W.Frag) (F H : Hp) (v : V) : OT -> List Addr -> Prop
 | .fz d, p => p = [] /\ Rep F v d
 | .ol ds, p => ∃ a, v = .ref a /\ p = [a] /\ Zio F H a ds
 | .oll dss, p => ∃ a as, v = .ref a /\ p = a :: as /\ (a :: as).Nodup /\ F a = none /\ H a = some (.lst (as.map V.ref)) /\ Zbb F H as dss
 | .scr ns, p => p = [] /\ ∃ a, v = .ref a /\ Scr K F a ns
 | .own v0 Φ, p => v = v0 /\ Φ.ok K F H v p
 | .zow Ψ, p => p = [] /\ Ψ.ok K F v
theorem ZaF.at_eq {H H' : Hp} (s : ZaF H H') {a : Addr} (h : H a ≠ none) : H' a = H a := by
 cases e : H a with
 | none => exact absurd e h
 | some o => exact s _ _ e
theorem Zio.ext {F H F' H' : Hp} {a : Addr} {ds : List PyData} (h : Zio F H a ds) (x : Ext F H F' H') : Zio F' H' a ds := by
 obtain ⟨h1, xs, h2, h3⟩ := h
 exact ⟨x.free h1 (ZbP h2), xs, x.hh _ _ h2, h3.mono x.ff⟩
theorem Zbb.ext {F H F' H' : Hp} (x : Ext F H F' H') : ∀ {as : List Addr} {dss : List (List PyData)}, Zbb F H as dss -> Zbb F' H' as dss
 | [], [], _ => trivial
 | _ :: _, _ :: _, h => ⟨h.1.ext x, Zbb.ext x h.2⟩
 | [], _ :: _, h => False.elim h
 | _ :: _, [], h => False.elim h
theorem Zbb.mem {F H : Hp} : ∀ {as : List Addr} {dss : List (List PyData)}, Zbb F H as dss -> ∀ a ∈ as, F a = none /\ H a ≠ none
 | [], [], _, a, ha => by cases ha
 | b :: as, _ :: _, h, a, ha => by
   rcases List.mem_cons.mp ha with rfl | ha
   ·obtain ⟨h1, xs, h2, _⟩ := h.1
    exact ⟨h1, ZbP h2⟩
   ·exact Zbb.mem h.2 a ha
 | [], _ :: _, h, _, _ => False.elim h
 | _ :: _, [], h, _, _ => False.elim h
theorem ZaE.ext {K : W.Frag} {F H F' H' : Hp} {v : V} {t : OT} {p : List Addr} (h : ZaE K F H v t p) (x : Ext F H F' H') : ZaE K F' H' v t p := by
 cases t with
 | fz d => exact ⟨h.1, h.2.mono x.ff⟩
 | zow Ψ => exact ⟨h.1, Ψ.mono x.ff h.2⟩
 | ol ds => obtain ⟨a, h1, h2, h3⟩ := h; exact ⟨a, h1, h2, h3.ext x⟩
 | oll dss => obtain ⟨a, as, h1, h2, h3, h4, h5, h6⟩ := h; exact ⟨a, as, h1, h2, h3, x.free h4 (ZbP h5), x.hh _ _ h5, h6.ext x⟩
 | scr ns => obtain ⟨h1, a, h2, h3⟩ := h; exact ⟨h1, a, h2, h3.mono x.ff⟩
 | own v0 Φ => exact ⟨h.1, Φ.mono x.ff (fun a ha => x.free (Φ.there h.2 a ha).1 (Φ.there h.2 a ha).2) (fun a ha => x.hh.at_eq (Φ.there h.2 a ha).2) h.2⟩
theorem ZaE.there {K : W.Frag} {F H : Hp} {v : V} {t : OT} {p : List Addr} (h : ZaE K F H v t p) : ∀ a ∈ p, F a = none /\ H a ≠ none := by
 cases t with
 | fz d => obtain ⟨rfl, _⟩ := h; intro a ha; cases ha
 | zow Ψ => obtain ⟨rfl, _⟩ := h; intro a ha; cases ha
 | ol ds =>
   obtain ⟨a, h1, rfl, h3, xs, h4, _⟩ := h
   intro b hb
   have e : b = a := by simpa using hb
   subst e
   exact ⟨h3, ZbP h4⟩
 | oll dss =>
   obtain ⟨a, as, h1, rfl, h3, h4, h5, h6⟩ := h
   intro b hb
   rcases List.mem_cons.mp hb with rfl | hb
   ·exact ⟨h4, ZbP h5⟩
   ·exact h6.mem b hb
 | scr ns => obtain ⟨rfl, _⟩ := h; intro a ha; cases ha
 | own v0 Φ => exact Φ.there h.2
theorem Zio.other {F H : Hp} {a b : Addr} {o : HO} {ds : List PyData} (h : Zio F H a ds) (n : a ≠ b) : Zio F (upd H b o) a ds := by
 obtain ⟨h1, xs, h2, h3⟩ := h
 exact ⟨h1, xs, by rw [Zag n]; exact h2, h3⟩
theorem Zbb.other {F H : Hp} {b : Addr} {o : HO} : ∀ {as : List Addr} {dss : List (List PyData)}, Zbb F H as dss -> b ∉ as -> Zbb F (upd H b o) as dss
 | [], [], _, _ => trivial
 | a :: as, _ :: _, h, n => ⟨h.1.other (fun z => n (by rw [z]; exact List.mem_cons_self)), Zbb.other h.2 fun z => n (List.mem_cons_of_mem _ z)⟩
 | [], _ :: _, h, _ => False.elim h
 | _ :: _, [], h, _ => False.elim h
theorem ZaE.other {K : W.Frag} {F H : Hp} {v : V} {t : OT} {p : List Addr} {b : Addr} {o : HO} (h : ZaE K F H v t p) (n : b ∉ p) : ZaE K F (upd H b o) v t p := by
 cases t with
 | fz d => exact h
 | zow Ψ => exact h
 | ol ds => obtain ⟨a, h1, rfl, h3⟩ := h; exact ⟨a, h1, rfl, h3.other (fun z => n (by simp [z]))⟩
 | oll dss =>
   obtain ⟨a, as, h1, rfl, h3, h4, h5, h6⟩ := h
   exact ⟨a, as, h1, rfl, h3, h4, by rw [Zag (fun z => n (by simp [z]))]; exact h5, h6.other fun z => n (List.mem_cons_of_mem _ z)⟩
 | scr ns => exact h
 | own v0 Φ => exact ⟨h.1, Φ.mono (ZaF.refl _) (fun a ha => (Φ.there h.2 a ha).1) (fun a ha => Zag fun z => n (by rw [<- z]; exact ha)) h.2⟩
def KTs (K : W.Frag) (F : Hp) : Prop := ∃ gS gE, W.nsIn K mainGlobals "START" = some (some (.ref gS)) /\ W.nsIn K mainGlobals "END" = some (some (.ref gE)) /\ F gS = some (.tup [.str "start"]) /\ F gE = some (.tup [.str "end"])
theorem KTs.mono {K : W.Frag} {F F' : Hp} (h : KTs K F) (s : ZaF F F') : KTs K F' := by
 obtain ⟨gS, gE, h1, h2, h3, h4⟩ := h
 exact ⟨gS, gE, h1, h2, s _ _ h3, s _ _ h4⟩
structure Sta (K : W.Frag) (H0 F : Hp) (ρ : Zbe) (σ : St) (H : Hp) : Prop where
 kt : KTs K F
 sub : ZaF F H
 len : σ.length = ρ.length
 fp : ∃ fp : Nat -> List Addr, (∀ (i : Nat) (t : OT), ρ[i]? = some (some t) -> ∃ v, σ[i]? = some (some v) /\ ZaE K F H v t (fp i)) /\
  (∀ (i j : Nat) (a : Addr), a ∈ fp i -> a ∈ fp j -> i = j) /\ ∀ (i : Nat) (a : Addr), a ∈ fp i -> H0 a = none /\ H a ≠ none
theorem Sta.ext {K : W.Frag} {H0 F F' H H' : Hp} {ρ : Zbe} {σ : St} (s : Sta K H0 F ρ σ H) (x : Ext F H F' H') : Sta K H0 F' ρ σ H' := by
 obtain ⟨kt, h1, h2, fp, h3, h4, h5⟩ := s
 refine ⟨kt.mono x.ff, x.fh, h2, fp, fun i t e => ?_, h4, fun i a ha => ?_⟩
 ·obtain ⟨v, e1, e2⟩ := h3 i t e
  exact ⟨v, e1, e2.ext x⟩
 ·obtain ⟨e1, e2⟩ := h5 i a ha
  obtain ⟨o, e3⟩ := ZlN e2
  exact ⟨e1, ZbP (x.hh _ _ e3)⟩
def Fgt : Zbe -> Zbe -> Prop
 | [], [] => True
 | _ :: r, none :: r' => Fgt r r'
 | s :: r, some x :: r' => s = some x /\ Fgt r r'
 | _, _ => False
theorem Fgt.len : ∀ {ρ ρ' : Zbe}, Fgt ρ ρ' -> ρ.length = ρ'.length
 | [], [], _ => rfl
 | _ :: r, none :: r', h => by
   have h' : Fgt r r' := h
   simp [Fgt.len h']
 | s :: r, some x :: r', h => by
   have h' : s = some x /\ Fgt r r' := h
   simp [Fgt.len h'.2]
 | [], none :: _, h => False.elim h
 | [], some _ :: _, h => False.elim h
 | _ :: _, [], h => False.elim h
theorem Fgt.get : ∀ {ρ ρ' : Zbe}, Fgt ρ ρ' -> ∀ (i : Nat) (t : OT), ρ'[i]? = some (some t) -> ρ[i]? = some (some t)
 | [], [], _, i, t, e => by simp at e
 | _ :: r, none :: r', h, 0, t, e => by simp at e
 | _ :: r, none :: r', h, i + 1, t, e => by
   have h' : Fgt r r' := h
   have := Fgt.get h' i t (by simpa using e)
   simpa using this
 | s :: r, some x :: r', h, 0, t, e => by
   have h' : s = some x /\ Fgt r r' := h
   simp at e; subst e; simp [h'.1]
 | s :: r, some x :: r', h, i + 1, t, e => by
   have h' : s = some x /\ Fgt r r' := h
   have := Fgt.get h'.2 i t (by simpa using e)
   simpa using this
 | [], none :: _, h, _, _, _ => False.elim h
 | [], some _ :: _, h, _, _, _ => False.elim h
 | _ :: _, [], h, _, _, _ => False.elim h
theorem Sta.fgt {K : W.Frag} {H0 F H : Hp} {ρ ρ' : Zbe} {σ : St} (s : Sta K H0 F ρ σ H) (f : Fgt ρ ρ') : Sta K H0 F ρ' σ H := by
 obtain ⟨kt, h1, h2, fp, h3, h4, h5⟩ := s
 exact ⟨kt, h1, h2.trans f.len, fp, fun i t e => h3 i t (f.get i t e), h4, h5⟩
theorem Sta.set {K : W.Frag} {H0 F H : Hp} {ρ : Zbe} {σ : St} {i : Nat} {v : V} {t : OT} {p : List Addr} (s : Sta K H0 F ρ σ H) (ok : ZaE K F H v t p)
 (hp : ∀ (a : Addr), a ∈ p -> H0 a = none)
 (hn : ∀ (a : Addr), a ∈ p -> ∀ (j : Nat) (u : V) (t' : OT) (q : List Addr), ρ[j]? = some (some t') -> σ[j]? = some (some u) -> ZaE K F H u t' q -> a ∉ q) :
 Sta K H0 F (ρ.set i (some t)) (σ.set i (some v)) H := by
 obtain ⟨kt, h1, h2, fp, h3, h4, h5⟩ := s
 refine ⟨kt, h1, by simp [h2], fun j => if j = i then p else if (ρ[j]?).join.isSome then fp j else [], fun j t' e => ?_, fun j k a ha hb => ?_, fun j a ha => ?_⟩
 ·by_cases hj : j = i
  ·subst hj
   have hlt : j < ρ.length := by
    have := (List.getElem?_eq_some_iff.mp e).1
    simpa using this
   rw [List.getElem?_set_self hlt] at e
   cases e
   refine ⟨v, List.getElem?_set_self (by omega), ?_⟩
   dsimp only
   rw [if_pos rfl]
   exact ok
  ·rw [List.getElem?_set_ne (Ne.symm hj)] at e
   obtain ⟨u, e1, e2⟩ := h3 j t' e
   refine ⟨u, by rw [List.getElem?_set_ne (Ne.symm hj)]; exact e1, ?_⟩
   dsimp only
   rw [if_neg hj, e, if_pos (by rfl)]
   exact e2
 ·have key : ∀ (j : Nat), j ≠ i -> a ∈ (if j = i then p else if (ρ[j]?).join.isSome then fp j else []) -> ∃ t' u, ρ[j]? = some (some t') /\ σ[j]? = some (some u) /\ ZaE K F H u t' (fp j) /\ a ∈ fp j := fun j hj hm => by
   rw [if_neg hj] at hm
   cases e : (ρ[j]?).join with
   | none => rw [e] at hm; simp at hm
   | some t' =>
     rw [e] at hm
     have e' : ρ[j]? = some (some t') := by
      cases z : ρ[j]? with
      | none => rw [z] at e; simp at e
      | some w => rw [z] at e; simp at e; rw [e]
     obtain ⟨u, e1, e2⟩ := h3 j t' e'
     exact ⟨t', u, e', e1, e2, by simpa using hm⟩
  by_cases hj : j = i
  ·by_cases hk : k = i
   ·omega
   ·obtain ⟨t', u, e1, e2, e3, e4⟩ := key k hk hb
    have ha' : a ∈ p := by simpa [hj] using ha
    exact absurd e4 (hn a ha' k u t' _ e1 e2 e3)
  ·obtain ⟨t', u, e1, e2, e3, e4⟩ := key j hj ha
   by_cases hk : k = i
   ·have hb' : a ∈ p := by simpa [hk] using hb
    exact absurd e4 (hn a hb' j u t' _ e1 e2 e3)
   ·obtain ⟨t2, u2, f1, f2, f3, f4⟩ := key k hk hb
    exact h4 j k a e4 f4
 ·by_cases hj : j = i
  ·have ha' : a ∈ p := by simpa [hj] using ha
   exact ⟨hp a ha', (ok.there a ha').2⟩
  ·simp only [if_neg hj] at ha
   split at ha
   ·exact h5 j a ha
   ·cases ha
theorem Sta.setF {K : W.Frag} {H0 F H : Hp} {ρ : Zbe} {σ : St} {i : Nat} {v : V} {d : PyData} (s : Sta K H0 F ρ σ H) (r : Rep F v d) : Sta K H0 F (ρ.set i (some (.fz d))) (σ.set i (some v)) H :=
 s.set (p := []) ⟨rfl, r⟩ (fun a ha => nomatch ha) (hn := fun a ha => nomatch ha)
theorem Sta.write {K : W.Frag} {H0 F H : Hp} {ρ : Zbe} {σ : St} {i : Nat} {ds : List PyData} (s : Sta K H0 F ρ σ H) (e : ρ[i]? = some (some (.ol ds))) :
 ∃ a xs, σ[i]? = some (some (.ref a)) /\ H a = some (.lst xs) /\ Reps F xs ds /\ H0 a = none /\ F a = none /\ ∀ xs' ds', Reps F xs' ds' -> Sta K H0 F (ρ.set i (some (.ol ds'))) σ (upd H a (.lst xs')) := by
 obtain ⟨kt, h1, h2, fp, h3, h4, h5⟩ := s
 obtain ⟨v, e1, a, rfl, e2, e3, xs, e4, e5⟩ := h3 i _ e
 have ha : a ∈ fp i := by rw [e2]; exact List.mem_cons_self
 refine ⟨a, xs, e1, e4, e5, (h5 i a ha).1, e3, fun xs' ds' r => ?_⟩
 have hlt := (List.getElem?_eq_some_iff.mp e).1
 refine ⟨kt, h1.upd e3, by simp [h2], fp, fun j t' e' => ?_, h4, fun j b hb => ?_⟩
 ·by_cases hj : j = i
  ·subst hj
   rw [List.getElem?_set_self hlt] at e'
   cases e'
   exact ⟨_, e1, a, rfl, e2, e3, xs', Zak, r⟩
  ·rw [List.getElem?_set_ne (Ne.symm hj)] at e'
   obtain ⟨u, f1, f2⟩ := h3 j t' e'
   exact ⟨u, f1, f2.other fun z => hj (h4 j i a z ha)⟩
 ·obtain ⟨f1, f2⟩ := h5 j b hb
  refine ⟨f1, ?_⟩
  by_cases z : b = a
  ·subst z; rw [Zak]; exact fun q => nomatch q
  ·rw [Zag z]; exact f2
theorem Sta.freeze {K : W.Frag} {H0 F H : Hp} {ρ : Zbe} {σ : St} {i : Nat} {ds : List PyData} (s : Sta K H0 F ρ σ H) (e : ρ[i]? = some (some (.ol ds))) :
 ∃ a xs, F a = none /\ H a = some (.lst xs) /\ H0 a = none /\ σ[i]? = some (some (.ref a)) /\ Reps F xs ds /\ Sta K H0 (upd F a (.lst xs)) (ρ.set i (some (.fz (.list ds)))) σ H := by
 obtain ⟨kt, h1, h2, fp, h3, h4, h5⟩ := s
 obtain ⟨v, e1, a, rfl, e2, e3, xs, e4, e5⟩ := h3 i _ e
 have ha : a ∈ fp i := by rw [e2]; exact List.mem_cons_self
 have hlt := (List.getElem?_eq_some_iff.mp e).1
 have sm : ZaF F (upd F a (.lst xs)) := ZaF.new e3
 refine ⟨a, xs, e3, e4, (h5 i a ha).1, e1, e5, kt.mono sm, ?_, by simp [h2], fun j => if j = i then [] else fp j, fun j t' e' => ?_, fun j k b hb hc => ?_, fun j b hb => ?_⟩
 ·intro b u hb
  by_cases z : b = a
  ·subst z; rw [Zak] at hb; rw [e4]; exact hb
  ·rw [Zag z] at hb; exact h1 b u hb
 ·by_cases hj : j = i
  ·subst hj
   rw [List.getElem?_set_self hlt] at e'
   cases e'
   refine ⟨_, e1, ?_, .lst Zak (e5.mono sm)⟩
   dsimp only
   rw [if_pos rfl]
  ·rw [List.getElem?_set_ne (Ne.symm hj)] at e'
   obtain ⟨u, f1, f2⟩ := h3 j t' e'
   refine ⟨u, f1, ?_⟩
   dsimp only
   rw [if_neg hj]
   have na : a ∉ fp j := fun z => hj (h4 j i a z ha)
   have nb : ∀ b, F b = none -> b ≠ a -> upd F a (.lst xs) b = none := fun b hb hn => by rw [Zag hn]; exact hb
   have go : ∀ {b : Addr} {es : List PyData}, b ≠ a -> Zio F H b es -> Zio (upd F a (.lst xs)) H b es := fun {b es} hn ⟨z1, zs, z2, z3⟩ => ⟨nb _ z1 hn, zs, z2, z3.mono sm⟩
   cases t' with
   | fz d => exact ⟨f2.1, f2.2.mono sm⟩
   | zow Ψ => exact ⟨f2.1, Ψ.mono sm f2.2⟩
   | ol es =>
     obtain ⟨b, g1, g2, g3⟩ := f2
     exact ⟨b, g1, g2, go (fun z => na (by rw [g2, z]; exact List.mem_cons_self)) g3⟩
   | oll dss =>
     obtain ⟨b, bs, g1, g2, g3, g4, g5, g6⟩ := f2
     refine ⟨b, bs, g1, g2, g3, nb _ g4 (fun z => na (by rw [g2, z]; exact List.mem_cons_self)), g5, ?_⟩
     have nbs : a ∉ bs := fun z => na (by rw [g2]; exact List.mem_cons_of_mem _ z)
     clear g1 g2 g3 g5
     have all : ∀ (bs : List Addr) (dss : List (List PyData)), a ∉ bs -> Zbb F H bs dss -> Zbb (upd F a (.lst xs)) H bs dss := by
      intro bs
      induction bs with
      | nil =>
        intro dss _ h
        cases dss with
        | nil => exact trivial
        | cons _ _ => exact False.elim h
      | cons c cs ih =>
        intro dss hn h
        cases dss with
        | nil => exact False.elim h
        | cons es ess => exact ⟨go (fun z => hn (by rw [z]; exact List.mem_cons_self)) h.1, ih ess (fun z => hn (List.mem_cons_of_mem _ z)) h.2⟩
     exact all bs dss nbs g6
   | scr ns =>
     obtain ⟨g1, b, g2, g3⟩ := f2
     exact ⟨g1, b, g2, g3.mono sm⟩
   | own v0 Φ => exact ⟨f2.1, Φ.mono sm (fun b hb => nb b (Φ.there f2.2 b hb).1 fun z => na (by rw [<- z]; exact hb)) (fun _ _ => rfl) f2.2⟩
 ·by_cases hj : j = i
  ·simp [hj] at hb
  ·by_cases hk : k = i
   ·simp [hk] at hc
   ·simp only [if_neg hj] at hb
    simp only [if_neg hk] at hc
    exact h4 j k b hb hc
 ·by_cases hj : j = i
  ·simp [hj] at hb
  ·simp only [if_neg hj] at hb
   exact h5 j b hb
inductive Args (K : W.Frag) (F : Hp) : List V -> List OT -> Prop
 | nil : Args K F [] []
 | fz {v : V} {d : PyData} {vs : List V} {ts : List OT} : Rep F v d -> Args K F vs ts -> Args K F (v :: vs) (.fz d :: ts)
 | zow {v : V} {Ψ : ZP} {vs : List V} {ts : List OT} : Ψ.ok K F v -> Args K F vs ts -> Args K F (v :: vs) (.zow Ψ :: ts)
 | scr {a : Addr} {ns : List Int} {vs : List V} {ts : List OT} : Scr K F a ns -> Args K F vs ts -> Args K F (.ref a :: vs) (.scr ns :: ts)
theorem Args.length {K : W.Frag} {F : Hp} : ∀ {vs : List V} {ts : List OT}, Args K F vs ts -> vs.length = ts.length
 | _, _, .nil => rfl
 | _, _, .fz _ t => by simp [Args.length t]
 | _, _, .scr _ t => by simp [Args.length t]
 | _, _, .zow _ t => by simp [Args.length t]
theorem Args.get {K : W.Frag} {F H : Hp} : ∀ {vs : List V} {ts : List OT}, Args K F vs ts -> ∀ (i : Nat) (t : OT), ts[i]? = some t -> ∃ v, vs[i]? = some v /\ ZaE K F H v t []
 | _, _, .nil, i, t, e => by simp at e
 | _, _, .fz r _, 0, t, e => by simp at e; subst e; exact ⟨_, rfl, rfl, r⟩
 | _, _, .scr r _, 0, t, e => by simp at e; subst e; exact ⟨_, rfl, rfl, _, rfl, r⟩
 | _, _, .zow r _, 0, t, e => by simp at e; subst e; exact ⟨_, rfl, rfl, r⟩
 | _, _, .zow _ q, i + 1, t, e => by
   obtain ⟨v, h1, h2⟩ := Args.get (H := H) q i t (by simpa using e)
   exact ⟨v, by simpa using h1, h2⟩
 | _, _, .fz _ q, i + 1, t, e => by
   obtain ⟨v, h1, h2⟩ := Args.get (H := H) q i t (by simpa using e)
   exact ⟨v, by simpa using h1, h2⟩
 | _, _, .scr _ q, i + 1, t, e => by
   obtain ⟨v, h1, h2⟩ := Args.get (H := H) q i t (by simpa using e)
   exact ⟨v, by simpa using h1, h2⟩
section
variable (K : W.Frag)
def EvE (t : TE) (ρ : Zbe) (d : PyData) : Prop := ∀ (H0 F : Hp) (σ : St) (H : Hp) (Q : VK), Sta K H0 F ρ σ H -> (∀ F' H' v, Ext F H F' H' -> Rep F' v d -> Q v H') -> t σ H Q
def EvO (t : TE) (ρ : Zbe) (r : OT) : Prop := ∀ (H0 F : Hp) (σ : St) (H : Hp) (Q : VK), Sta K H0 F ρ σ H -> (∀ F' H' v p, Ext F H F' H' -> (∀ a ∈ p, H a = none) -> ZaE K F' H' v r p -> Q v H') -> t σ H Q
def EvT (t : TT) (ρ : Zbe) (b : Bool) : Prop := ∀ (H0 F : Hp) (σ : St) (H : Hp) (Q : Bool -> Hp -> Prop), Sta K H0 F ρ σ H -> (∀ F' H', Ext F H F' H' -> Q b H') -> t σ H Q
def EvA (t : TA) (ρ : Zbe) (ts : List OT) : Prop := ∀ (H0 F : Hp) (σ : St) (H : Hp) (Q : List V -> Hp -> Prop), Sta K H0 F ρ σ H -> (∀ F' H' vs, Ext F H F' H' -> Args K F' vs ts -> Q vs H') -> t σ H Q
def ZnL (F' : Hp) (J : It) (ds : List PyData) : Prop := ∀ (F'' H'' : Hp), ZaF F' F'' -> ZaF F'' H'' -> J.stop ds.length H'' /\
 ∀ (i : Nat) (d : PyData), ds[i]? = some d -> J.go i H'' /\ ∀ x H3, J.yld i H'' x H3 -> ∃ F3, Ext F'' H'' F3 H3 /\ Rep F3 x d
def EvI (wi : TI) (ρ : Zbe) (ds : List PyData) : Prop := ∀ (H0 F : Hp) (σ : St) (H : Hp) (R : It -> Hp -> Prop), Sta K H0 F ρ σ H -> (∀ F' H' J, Ext F H F' H' -> ZnL F' J ds -> R J H') -> wi σ H R
def GTo (g : TG) (d : PyData) (ρ ρ' : Zbe) : Prop := ∀ (H0 F : Hp) (σ : St) (H : Hp) (x : V) (Q : St -> Hp -> Prop), Sta K H0 F ρ σ H -> Rep F x d -> (∀ σ', Sta K H0 F ρ' σ' H -> Q σ' H) -> g x σ H Q
def Zrp (g : TGs) (ds : List PyData) (ρ ρ' : Zbe) : Prop := ∀ (H0 F : Hp) (σ : St) (H : Hp) (xs : List V) (Q : St -> Hp -> Prop), Sta K H0 F ρ σ H -> Reps F xs ds -> (∀ σ', Sta K H0 F ρ' σ' H -> Q σ' H) -> g xs σ H Q
structure PEnds where
 nx : Zbe -> Prop
 rt : OT -> Prop
 bk : Zbe -> Prop := fun _ => False
 ct : Zbe -> Prop := fun _ => False
structure Cnv (F0 H0 : Hp) (D : PEnds) (E : Ends) : Prop where
 nx : ∀ F σ H ρ, Ext F0 H0 F H -> Sta K H0 F ρ σ H -> D.nx ρ -> E.nx σ H
 rt : ∀ F H v r p, Ext F0 H0 F H -> (∀ a ∈ p, H0 a = none) -> ZaE K F H v r p -> D.rt r -> E.rt v H
 bk : ∀ F σ H ρ, Ext F0 H0 F H -> Sta K H0 F ρ σ H -> D.bk ρ -> E.bk σ H
 ct : ∀ F σ H ρ, Ext F0 H0 F H -> Sta K H0 F ρ σ H -> D.ct ρ -> E.ct σ H
def EvS (t : TS) (ρ : Zbe) (D : PEnds) : Prop := ∀ (F0 H0 F : Hp) (σ : St) (H : Hp) (E : Ends), Ext F0 H0 F H -> Sta K H0 F ρ σ H -> Cnv K F0 H0 D E -> t E σ H
end
section
variable {K : W.Frag} {ρ : Zbe} {ta tb tc : TE} {tA tB' : TT}
theorem EvE.o {t : TE} {d : PyData} (h : EvE K t ρ d) : EvO K t ρ (.fz d) := fun H0 F σ H Q S q => h H0 F σ H Q S fun F' H' v x r => q F' H' v [] x (fun _ z => nomatch z) ⟨rfl, r⟩
theorem EvO.e {t : TE} {d : PyData} (h : EvO K t ρ (.fz d)) : EvE K t ρ d := fun H0 F σ H Q S q => h H0 F σ H Q S fun F' H' v p x _ r => q F' H' v x r.2
theorem EvO.fz {t : TE} {ds : List PyData} (h : EvO K t ρ (.ol ds)) : EvE K t ρ (.list ds) := fun H0 F σ H Q S q => h H0 F σ H Q S fun F' H' v p x hp r => by
 obtain ⟨a, rfl, rfl, r1, xs, r2, r3⟩ := r
 refine q (upd F' a (.lst xs)) H' _ (x.freeze r1 r2 (hp a List.mem_cons_self)) (.lst Zak (r3.mono (ZaF.new r1)))
theorem Zac {i : Nat} {d : PyData} (e : ρ[i]? = some (some (.fz d))) : EvE K (ZcP i) ρ d := fun H0 F σ H Q S q => by
 obtain ⟨fp, h, _⟩ := S.fp
 obtain ⟨v, e1, e2⟩ := h i _ e
 exact ⟨v, e1, q F H v (Ext.refl S.sub) e2.2⟩
theorem Zba {i : Int} : EvE K (tC (.int i)) ρ (.int i) := fun H0 F σ H Q S q => q F H _ (Ext.refl S.sub) (.int i)
theorem Zr9 {b : Bool} : EvE K (tC (.bl b)) ρ (.bool b) := fun H0 F σ H Q S q => q F H _ (Ext.refl S.sub) (.bl b)
theorem Zl1 : EvE K (tC .non) ρ .none := fun H0 F σ H Q S q => q F H _ (Ext.refl S.sub) .non
theorem ZnK {x : Str} : EvE K (tC (.str x)) ρ (.str x) := fun H0 F σ H Q S q => q F H _ (Ext.refl S.sub) (.str x)
theorem ZdO {a b : PyData} {Q : VK} {r : R2} {H0 F H : Hp} {σ : St} (ha : EvE K ta ρ a) (hb : EvE K tb ρ b) (S : Sta K H0 F ρ σ H)
 (h : ∀ F' H' x y, Ext F H F' H' -> Rep F' x a -> Rep F' y b -> r x y H' Q) : tOp r ta tb σ H Q :=
 ha H0 F σ H _ S fun F1 H1 x x1 r1 => hb H0 F1 σ H1 _ (S.ext x1) fun F2 H2 y x2 r2 => h F2 H2 x y (x1.trans x2) (r1.mono x2.ff) r2
theorem Zjj {g : Int -> Int -> Int} {x y : Int} (ha : EvE K ta ρ (.int x)) (hb : EvE K tb ρ (.int y)) : EvE K (tOp (rI0 fun i j => .int (g i j)) ta tb) ρ (.int (g x y)) := fun H0 F σ H Q S q =>
 ZdO ha hb S fun F' H' u v e r1 r2 => by cases r1; cases r2; exact ⟨x, y, rfl, rfl, q F' H' _ e (.int _)⟩
theorem ZjH {g : Int -> Int -> Bool} {x y : Int} (ha : EvE K ta ρ (.int x)) (hb : EvE K tb ρ (.int y)) : EvE K (tOp (rI0 fun i j => .bl (g i j)) ta tb) ρ (.bool (g x y)) := fun H0 F σ H Q S q =>
 ZdO ha hb S fun F' H' u v e r1 r2 => by cases r1; cases r2; exact ⟨x, y, rfl, rfl, q F' H' _ e (.bl _)⟩
theorem ZcC {C : Int -> Int -> Prop} {g : Int -> Int -> Int} {x y : Int} (ha : EvE K ta ρ (.int x)) (hb : EvE K tb ρ (.int y)) (hc : C x y) : EvE K (tOp (rI C fun i j => .int (g i j)) ta tb) ρ (.int (g x y)) := fun H0 F σ H Q S q =>
 ZdO ha hb S fun F' H' u v e r1 r2 => by cases r1; cases r2; exact ⟨x, y, rfl, rfl, hc, q F' H' _ e (.int _)⟩
theorem Zs2 {g : Int -> Int} {x : Int} (ha : EvE K ta ρ (.int x)) : EvE K (tUn (rU fun i => .int (g i)) ta) ρ (.int (g x)) := fun H0 F σ H Q S q =>
 ha H0 F σ H _ S fun F1 H1 v x1 r1 => by cases r1; exact ⟨x, rfl, q F1 H1 _ x1 (.int _)⟩
def Zen : PyData -> Option V
 | .none => some .non
 | .bool b => some (.bl b)
 | .int i => some (.int i)
 | .str x => some (.str x)
 | _ => Option.none
theorem Rep.flat {H : Hp} {x v : V} {d : PyData} (r : Rep H x d) (e : Zen d = some v) : x = v := by
 cases r <;> simp [Zen] at e <;> exact e
theorem Zqy {a b : PyData} {v w : V} (ha : EvE K ta ρ a) (hb : EvE K tb ρ b) (e1 : Zen a = some v) (e2 : Zen b = some w) (hs : ∀ (H : Hp) (Q : VK), Q (.bl (decide (v = w))) H -> rEq v w H Q) :
 EvE K (tOp rEq ta tb) ρ (.bool (decide (v = w))) := fun H0 F σ H Q S q =>
 ZdO ha hb S fun F' H' x y e r1 r2 => by rw [r1.flat e1, r2.flat e2]; exact hs _ _ (q F' H' _ e (.bl _))
theorem Zq9 {a b : PyData} {v w : V} (ha : EvE K ta ρ a) (hb : EvE K tb ρ b) (e1 : Zen a = some v) (e2 : Zen b = some w) (hs : ∀ (H : Hp) (Q : VK), Q (.bl (!decide (v = w))) H -> rNe v w H Q) :
 EvE K (tOp rNe ta tb) ρ (.bool (!decide (v = w))) := fun H0 F σ H Q S q =>
 ZdO ha hb S fun F' H' x y e r1 r2 => by rw [r1.flat e1, r2.flat e2]; exact hs _ _ (q F' H' _ e (.bl _))
theorem ZjD {x y : Int} : decide (V.int x = V.int y) = decide (x = y) := by
 by_cases h : x = y
 ·subst h; simp
 ·rw [decide_eq_false h, decide_eq_false (fun z => h (by injection z))]
theorem Zsr {x y : Int} (ha : EvE K ta ρ (.int x)) (hb : EvE K tb ρ (.int y)) : EvE K (tOp rEq ta tb) ρ (.bool (decide (x = y))) := by
 rw [<- ZjD]
 exact Zqy ha hb rfl rfl fun H Q q => ⟨rfl, q⟩
theorem Zon {x y : Int} (ha : EvE K ta ρ (.int x)) (hb : EvE K tb ρ (.int y)) : EvE K (tOp rNe ta tb) ρ (.bool (!decide (x = y))) := by
 rw [<- ZjD]
 exact Zq9 ha hb rfl rfl fun H Q q => ⟨rfl, q⟩
def Zq7 : PyData -> Bool
 | .none => true
 | _ => false
theorem Rep.isNon {H : Hp} {x : V} {d : PyData} (r : Rep H x d) : decide (x = .non) = Zq7 d := by cases r <;> rfl
theorem Zo3 {a : PyData} (ha : EvE K ta ρ a) : EvE K (Zqg ta) ρ (.bool (!Zq7 a)) := fun H0 F σ H Q S q =>
 ha H0 F σ H _ S fun F1 H1 v x1 r1 => by rw [r1.isNon]; exact q F1 H1 _ x1 (.bl _)
theorem Zd7 {b : Bool} (h : EvE K ta ρ (.bool b)) : EvT K (ZoN ta) ρ b := fun H0 F σ H Q S q => h H0 F σ H _ S fun F1 H1 v x1 r1 => by cases r1; exact ⟨b, rfl, q F1 H1 x1⟩
theorem Zpw {b : Bool} (h : EvE K ta ρ (.bool b)) : EvT K (tB ta) ρ b := fun H0 F σ H Q S q => h H0 F σ H _ S fun F1 H1 v x1 r1 => by cases r1; exact ⟨b, rfl, q F1 H1 x1⟩
theorem Zrh : EvT K ZpZ ρ true := fun H0 F σ H Q S q => q F H (Ext.refl S.sub)
theorem Zoi {b c : Bool} (h1 : EvT K tA ρ b) (h2 : b = true -> EvT K tB' ρ c) : EvT K (ZrQ tA tB') ρ (b && c) := fun H0 F σ H Q S q => h1 H0 F σ H _ S fun F1 H1 x1 => by
 cases b with
 | true => rw [if_pos rfl]; exact h2 rfl H0 F1 σ H1 Q (S.ext x1) fun F2 H2 x2 => by simpa using q F2 H2 (x1.trans x2)
 | false => rw [if_neg Bool.false_ne_true]; simpa using q F1 H1 x1
theorem Zrs {b c : Bool} (h1 : EvT K tA ρ b) (h2 : b = false -> EvT K tB' ρ c) : EvT K (tOr tA tB') ρ (b || c) := fun H0 F σ H Q S q => h1 H0 F σ H _ S fun F1 H1 x1 => by
 cases b with
 | false => rw [if_neg Bool.false_ne_true]; exact h2 rfl H0 F1 σ H1 Q (S.ext x1) fun F2 H2 x2 => by simpa using q F2 H2 (x1.trans x2)
 | true => rw [if_pos rfl]; simpa using q F1 H1 x1
theorem Zq1 {b : Bool} (h1 : EvT K tA ρ b) : EvT K (ZrY tA) ρ (!b) := fun H0 F σ H Q S q => h1 H0 F σ H _ S fun F1 H1 x1 => q F1 H1 x1
theorem ZmI {g g' : Int -> Int -> Bool} {x y z : Int} (ha : EvE K ta ρ (.int x)) (hb : EvE K tb ρ (.int y)) (hc : EvE K tc ρ (.int z)) :
 EvE K (ZlJ (rI0 fun i j => .bl (g i j)) (rI0 fun i j => .bl (g' i j)) ta tb tc) ρ (.bool (g x y && g' y z)) := fun H0 F σ H Q S q =>
 ha H0 F σ H _ S fun F1 H1 v x1 r1 => hb H0 F1 σ H1 _ (S.ext x1) fun F2 H2 w x2 r2 => by
  cases r1; cases r2
  refine ⟨x, y, rfl, rfl, g x y, rfl, ?_⟩
  cases e : g x y with
  | true => rw [if_pos rfl]; exact hc H0 F2 σ H2 _ (S.ext (x1.trans x2)) fun F3 H3 u x3 r3 => by cases r3; exact ⟨y, z, rfl, rfl, by simpa [e] using q F3 H3 _ ((x1.trans x2).trans x3) (by rw [e]; exact .bl _)⟩
  | false => rw [if_neg Bool.false_ne_true]; simpa [e] using q F2 H2 _ (x1.trans x2) (by rw [e]; exact .bl _)
theorem Zas : EvA K ZdF ρ [] := fun H0 F σ H Q S q => q F H [] (Ext.refl S.sub) .nil
theorem Zaf {t : TA} {d : PyData} {ts : List OT} (h1 : EvE K ta ρ d) (h2 : EvA K t ρ ts) : EvA K (Zbd ta t) ρ (.fz d :: ts) := fun H0 F σ H Q S q =>
 h1 H0 F σ H _ S fun F1 H1 v x1 r1 => h2 H0 F1 σ H1 _ (S.ext x1) fun F2 H2 vs x2 r2 => q F2 H2 _ (x1.trans x2) (.fz (r1.mono x2.ff) r2)
theorem Zsi {t : TA} {i : Nat} {ns : List Int} {ts : List OT} (e : ρ[i]? = some (some (.scr ns))) (h2 : EvA K t ρ ts) : EvA K (Zbd (ZcP i) t) ρ (.scr ns :: ts) := fun H0 F σ H Q S q => by
 obtain ⟨fp, h, _⟩ := S.fp
 obtain ⟨v, e1, _, a, rfl, e3⟩ := h i _ e
 exact ⟨_, e1, h2 H0 F σ H _ S fun F2 H2 vs x2 r2 => q F2 H2 _ x2 (.scr (e3.mono x2.ff) r2)⟩
theorem ZqR {t : TA} {i : Nat} {Ψ : ZP} {ts : List OT} (e : ρ[i]? = some (some (.zow Ψ))) (h2 : EvA K t ρ ts) : EvA K (Zbd (ZcP i) t) ρ (.zow Ψ :: ts) := fun H0 F σ H Q S q => by
 obtain ⟨fp, h, _⟩ := S.fp
 obtain ⟨v, e1, _, e3⟩ := h i _ e
 exact ⟨_, e1, h2 H0 F σ H _ S fun F2 H2 vs x2 r2 => q F2 H2 _ x2 (.zow (Ψ.mono x2.ff e3) r2)⟩
def fzs (ds : List PyData) : List OT := ds.map OT.fz
theorem Args.reps {F : Hp} : ∀ {vs : List V} {ds : List PyData}, Args K F vs (fzs ds) -> Reps F vs ds
 | _, [], .nil => .nil
 | _, _ :: _, .fz r t => .cons r (Args.reps t)
theorem Zec {t : TA} {ds : List PyData} (h : EvA K t ρ (fzs ds)) (hl : ds.length <= 1000) : EvE K (ZrW t) ρ (.tuple ds) := fun H0 F σ H Q S q =>
 h H0 F σ H _ S fun F1 H1 vs x1 r1 => ⟨by rw [r1.reps.length]; exact Nat.le_of_lt (Zbh hl), fun p hp => by
  have s1 := x1.fh
  exact q _ _ _ (x1.trans (Ext.new s1 hp)) (.tup Zak (r1.reps.mono (ZaF.new (s1.free hp))))⟩
theorem ZfL {F0 H0 F H : Hp} {p : Addr} {xs : List V} {ds : List PyData} (x : Ext F0 H0 F H) (hp : H p = none) (r : Reps F xs ds) : Ext F0 H0 F (upd H p (.lst xs)) /\ (∀ a ∈ [p], H0 a = none) /\ ZaE K F (upd H p (.lst xs)) (.ref p) (.ol ds) [p] :=
 ⟨x.trans (Ext.own x.fh hp), fun a ha => by
  have e : a = p := by simpa using ha
  subst e; exact x.hh.free hp, p, rfl, rfl, x.fh.free hp, xs, Zak, r⟩
theorem ZdA {t : TA} {ds : List PyData} (h : EvA K t ρ (fzs ds)) (hl : ds.length <= 1000) : EvO K (Zro t) ρ (.ol ds) := fun H0 F σ H Q S q =>
 h H0 F σ H _ S fun F1 H1 vs x1 r1 => ⟨by rw [r1.reps.length]; exact Nat.le_of_lt (Zbh hl), fun p hp => by
  obtain ⟨a, b, c⟩ := ZfL (K := K) x1 hp r1.reps
  exact q _ _ _ _ a b c⟩
theorem Zcv {F H : Hp} {x : V} {ds : List PyData} (r : Rep F x (.list ds)) (s : ZaF F H) : ∃ a xs, x = .ref a /\ SqL K H a xs /\ Reps F xs ds /\ H a = some (.lst xs) := by
 cases r with
 | lst ha rr => exact ⟨_, _, rfl, SqL.of (s _ _ ha), rr, s _ _ ha⟩
theorem Zfg {F H : Hp} {x : V} {ds : List PyData} (r : Rep F x (.tuple ds)) (s : ZaF F H) : ∃ a xs, x = .ref a /\ SqT K H a xs /\ Reps F xs ds /\ H a = some (.tup xs) := by
 cases r with
 | tup ha rr => exact ⟨_, _, rfl, SqT.of (s _ _ ha), rr, s _ _ ha⟩
theorem Ze7 {F : Hp} {xs : List V} {ds : List PyData} {i : Int} {d : PyData} (r : Reps F xs ds) (e : atI ds i = some d) : ∃ z, atI xs i = some z /\ Rep F z d := by
 obtain ⟨j, e1, e2⟩ := Zoa e
 obtain ⟨z, z1, z2⟩ := r.get e1
 refine ⟨z, ?_, z2⟩
 unfold atI
 rw [r.length, e2]
 exact z1
theorem ZnV {ds : List PyData} {i : Int} {d : PyData} (ha : EvE K ta ρ (.list ds)) (hb : EvE K tb ρ (.int i)) (e : atI ds i = some d) : EvE K (tOp (rIx K) ta tb) ρ d := fun H0 F σ H Q S q =>
 ZdO ha hb S fun F' H' x y x1 r1 r2 => by
  obtain ⟨a, xs, rfl, h1, h2, _⟩ := Zcv (K := K) r1 x1.fh
  obtain ⟨z, z1, z2⟩ := Ze7 h2 e
  cases r2
  exact .inl ⟨a, xs, i, z, rfl, rfl, h1, z1, q F' H' z x1 z2⟩
theorem Zdd {ds : List PyData} {i : Int} {d : PyData} (ha : EvE K ta ρ (.tuple ds)) (hb : EvE K tb ρ (.int i)) (e : atI ds i = some d) : EvE K (tOp (rIx K) ta tb) ρ d := fun H0 F σ H Q S q =>
 ZdO ha hb S fun F' H' x y x1 r1 r2 => by
  obtain ⟨a, xs, rfl, h1, h2, _⟩ := Zfg (K := K) r1 x1.fh
  obtain ⟨z, z1, z2⟩ := Ze7 h2 e
  cases r2
  exact .inr (.inl ⟨a, xs, i, z, rfl, rfl, h1, z1, q F' H' z x1 z2⟩)
theorem Zss {i : Nat} {ds : List PyData} {k : Int} {d : PyData} (e0 : ρ[i]? = some (some (.ol ds))) (hb : EvE K tb ρ (.int k)) (e : atI ds k = some d) : EvE K (tOp (rIx K) (ZcP i) tb) ρ d := fun H0 F σ H Q S q => by
 obtain ⟨fp, h, _⟩ := S.fp
 obtain ⟨v, e1, a, rfl, _, o1⟩ := h i _ e0
 refine ⟨_, e1, hb H0 F σ H _ S fun F1 H1 y x1 r1 => ?_⟩
 obtain ⟨f1, xs, f2, f3⟩ := o1.ext x1
 obtain ⟨z, z1, z2⟩ := Ze7 f3 e
 cases r1
 exact .inl ⟨a, xs, k, z, rfl, rfl, SqL.of f2, z1, q F1 H1 z x1 z2⟩
theorem ZrZ {i : Nat} {ns : List Int} {k n : Int} (e0 : ρ[i]? = some (some (.scr ns))) (hb : EvE K tb ρ (.int k)) (e : atI ns k = some n) : EvE K (tOp (rIx K) (ZcP i) tb) ρ (.int n) := fun H0 F σ H Q S q => by
 obtain ⟨fp, h, _⟩ := S.fp
 obtain ⟨v, e1, _, a, rfl, sc⟩ := h i _ e0
 refine ⟨_, e1, hb H0 F σ H _ S fun F1 H1 y x1 r1 => ?_⟩
 cases r1
 obtain ⟨j, j1, j2⟩ := Zoa e
 have z1 : atI (ns.map V.int) k = some (.int n) := by
  unfold atI
  rw [List.length_map, j2]
  show (ns.map V.int)[j]? = _
  rw [List.getElem?_map, j1]
  rfl
 exact .inl ⟨a, _, k, _, rfl, rfl, (x1.ff.trans x1.fh).seq sc.sq, z1, q F1 H1 _ x1 (.int n)⟩
def spO (R : List OT -> OT -> Prop) : Sp := fun vs H Q _ => ∃ F ts r, KTs K F /\ ZaF F H /\ Args K F vs ts /\ R ts r /\ ∀ F' H' v p, Ext F H F' H' -> (∀ a ∈ p, H a = none) -> ZaE K F' H' v r p -> Q v H'
theorem ZiD {R : List OT -> OT -> Prop} {t : TA} {E : XK} {ts : List OT} {r : OT} (h : EvA K t ρ ts) (hR : R ts r) : EvO K (ZhP (spO (K := K) R) [] E t) ρ r := fun H0 F σ H Q S q =>
 h H0 F σ H _ S fun F1 H1 vs x1 r1 => by
  refine ⟨F1, ts, r, (S.ext x1).kt, x1.fh, by rw [List.append_nil]; exact r1, hR, fun F2 H2 v p x2 hp ok => q F2 H2 v p (x1.trans x2) (fun a ha => x1.hh.free (hp a ha)) ok⟩
theorem Za3 {R : List OT -> OT -> Prop} {t : TA} {E : XK} {ts : List OT} {d : PyData} (h : EvA K t ρ ts) (hR : R ts (.fz d)) : EvE K (ZhP (spO (K := K) R) [] E t) ρ d := (ZiD h hR).e
theorem Zez {R : List OT -> OT -> Prop} {t : TA} {E : XK} {ts : List OT} {ds : List PyData} (h : EvA K t ρ ts) (hR : R ts (.ol ds)) : EvE K (ZhP (spO (K := K) R) [] E t) ρ (.list ds) := (ZiD h hR).fz
end
theorem Df.ev {P : Program} {w : World} {K : W.Frag} {mg : Str -> Option Value} {base : Heap} {x : Str} {st : Stmt} {N ps : List Str} {k : Nat} {R : List OT -> OT -> Prop} (D : Df K mg x st ps) (S : FnScope N ps (Zab st)) (len : ∀ ts r, R ts r -> ts.length = ps.length)
 (hbody : ∀ (f : Addr) (cdv : Value) (A : Around) (outer : List Env) (s : Shared) (H : Hp) (E : XK) (ts : List OT) (r : OT), Room k (A.deeper (envOfC x (Zab st) s.heap.objs.size f cdv)) -> R ts r ->
  ∃ t, PSs (Zin CX0 P w K mg base N x (Zab st) f cdv A outer s H E).nox (Zal st) t /\ EvS K t (ts.map some ++ List.replicate (N.length - ts.length) none) { nx := fun _ => r = .fz .none, rt := fun r' => r' = r }) : Cal P w K mg base x ps (k + 1) (spO (K := K) R) := by
 refine D.cal S (fun vs H Q E ⟨F, ts, r, _, _, ha, hR, _⟩ => ha.length.trans (len ts r hR)) fun f cdv A outer s H vs Q E hr ⟨F, ts, r, kt, sm, ha, hR, q⟩ => ?_
 obtain ⟨t, h1, h2⟩ := hbody f cdv A outer s H E ts r hr hR
 refine ⟨t, h1, h2 F H F (start N vs) H _ (Ext.refl sm) ⟨kt, sm, ?_, fun _ => [], fun i t' e => ?_, fun i j a h => (nomatch h), fun i a h => (nomatch h)⟩ ⟨fun F' σ' H' ρ' x' _ e => ?_, fun F' H' v r' p x' hp ok e => ?_, fun _ _ _ _ _ _ z => False.elim z, fun _ _ _ _ _ _ z => False.elim z⟩⟩
 ·unfold start
  simp [ha.length]
 ·have hlt : i < ts.length := by
   by_cases z : i < ts.length
   ·exact z
   ·rw [List.getElem?_append_right (by simpa using z)] at e
    have := List.mem_of_getElem? e
    simp at this
  rw [List.getElem?_append_left (by simpa using hlt), List.getElem?_map] at e
  have e' : ts[i]? = some t' := by
   cases z : ts[i]? with
   | none => rw [z] at e; simp at e
   | some w => rw [z] at e; simp at e; rw [e]
  obtain ⟨v, e1, e2⟩ := ha.get (H := H) i t' e'
  refine ⟨v, ?_, e2⟩
  unfold start
  have hl2 : i < vs.length := by rw [ha.length]; exact hlt
  rw [List.getElem?_append_left (by simpa using hl2), List.getElem?_map, e1]
  rfl
 ·subst e
  exact q F' H' _ [] x' (fun _ z => nomatch z) ⟨rfl, .non⟩
 ·subst e
  exact q F' H' v p x' hp ok
end L2
end
section
namespace L2
open PySem PySem.Spec PyProof.Rows
theorem Zf5 : ∀ {as bs : List Addr}, as.map V.ref = bs.map V.ref -> as = bs
 | [], [], _ => rfl
 | [], _ :: _, h => by simp at h
 | _ :: _, [], h => by simp at h
 | a :: as, b :: bs, h => by
   simp only [List.map_cons, List.cons.injEq] at h
   obtain ⟨h1, h2⟩ := h
   injection h1 with h1
   rw [h1, Zf5 h2]
theorem Zn2 (x : Int) (ns : List Int) : inV (.int x) (ns.map V.int) = decide (x ∈ ns) := by
 induction ns with
 | nil => rfl
 | cons b l ih =>
   show (eqV (.int b) (.int x) || inV (.int x) (l.map V.int)) = _
   rw [ih]
   show ((b == x) || decide (x ∈ l)) = _
   by_cases hx : x = b
   ·subst hx; simp
   ·have : (b == x) = false := by rw [beq_eq_false_iff_ne]; exact fun z => hx z.symm
    rw [this]
    simp [hx]
section
variable {K : W.Frag} {ρ : Zbe} {ta tb tc te : TE} {tA : TT} {t u : TS} {D : PEnds}
theorem Zcd (h : D.nx ρ) : EvS K ZqT ρ D := fun F0 H0 F σ H E x S C => C.nx F σ H ρ x S h
theorem Zar (h : EvS K t ρ { D with nx := fun ρ' => EvS K u ρ' D }) : EvS K (ZrB t u) ρ D := fun F0 H0 F σ H E x S C =>
 h F0 H0 F σ H { E with nx := u E } x S ⟨fun F' σ' H' ρ' x' S' q => q F0 H0 F' σ' H' E x' S' C, C.rt, C.bk, C.ct⟩
theorem ZhC (M : Zbe -> Prop) (h : EvS K t ρ { D with nx := M }) (h2 : ∀ ρ', M ρ' -> EvS K u ρ' D) : EvS K (ZrB t u) ρ D := fun F0 H0 F σ H E x S C =>
 h F0 H0 F σ H { E with nx := u E } x S ⟨fun F' σ' H' ρ' x' S' q => h2 ρ' q F0 H0 F' σ' H' E x' S' C, C.rt, C.bk, C.ct⟩
theorem ZcW {ρ' : Zbe} (f : Fgt ρ ρ') (h : EvS K t ρ' D) : EvS K t ρ D := fun F0 H0 F σ H E x S C => h F0 H0 F σ H E x (S.fgt f) C
theorem ZeI (i : Nat) {ds : List PyData} (e : ρ[i]? = some (some (.ol ds))) (h : EvS K t (ρ.set i (some (.fz (.list ds)))) D) : EvS K t ρ D := fun F0 H0 F σ H E x S C => by
 obtain ⟨a, xs, e1, e2, e3, _, _, S'⟩ := S.freeze e
 exact h F0 H0 _ σ H E (x.freeze e1 e2 e3) S' C
theorem Zgp {r : OT} (h : EvO K te ρ r) (hr : D.rt r) : EvS K (ZpT te) ρ D := fun F0 H0 F σ H E x S C =>
 h H0 F σ H _ S fun F' H' v p x' hp ok => C.rt F' H' v r p (x.trans x') (fun a ha => x.hh.free (hp a ha)) ok hr
theorem Zcl {d : PyData} (h : EvE K te ρ d) (hr : D.rt (.fz d)) : EvS K (ZpT te) ρ D := Zgp h.o hr
theorem Zgx {i : Nat} {ds : List PyData} (e : ρ[i]? = some (some (.ol ds))) (hr : D.rt (.ol ds)) : EvS K (ZpT (ZcP i)) ρ D := fun F0 H0 F σ H E x S C => by
 obtain ⟨fp, h, _, h5⟩ := S.fp
 obtain ⟨v, e1, ok⟩ := h i _ e
 exact ⟨v, e1, C.rt F H v _ _ x (fun a ha => (h5 i a ha).1) ok hr⟩
theorem ZhD {b : Bool} (h : EvT K tA ρ b) (h1 : b = true -> EvS K t ρ D) (h2 : b = false -> EvS K u ρ D) : EvS K (Zst tA t u) ρ D := fun F0 H0 F σ H E x S C =>
 h H0 F σ H _ S fun F' H' x' => by
  cases b with
  | true => rw [if_pos rfl]; exact h1 rfl F0 H0 F' σ H' E (x.trans x') (S.ext x') C
  | false => rw [if_neg Bool.false_ne_true]; exact h2 rfl F0 H0 F' σ H' E (x.trans x') (S.ext x') C
theorem ZcF {i : Nat} {r : OT} (h : EvO K te ρ r) (hn : D.nx (ρ.set i (some r))) : EvS K (Znc te (ZgA i)) ρ D := fun F0 H0 F σ H E x S C =>
 h H0 F σ H _ S fun F' H' v p x' hp ok => by
  refine C.nx F' _ H' _ (x.trans x') ((S.ext x').set ok (fun a ha => x.hh.free (hp a ha)) (hn := fun a ha j w t' q e1 e2 ok' => ?_)) hn
  obtain ⟨fp, g1, g2, g3⟩ := S.fp
  obtain ⟨w', f1, f2⟩ := g1 j t' e1
  intro hq
  have f3 := f2.ext x'
  rw [e2] at f1
  cases f1
  have same : ∀ b ∈ q, b ∈ fp j := by
   cases t' with
   | fz d => rw [ok'.1]; intro b hb; cases hb
   | zow Ψ => rw [ok'.1]; intro b hb; cases hb
   | ol ds =>
     obtain ⟨b1, z1, z2, z3⟩ := ok'
     obtain ⟨b2, y1, y2, y3⟩ := f3
     rw [z1] at y1
     cases y1
     rw [z2, y2]
     exact fun _ z => z
   | oll dss =>
     obtain ⟨b1, bs1, z1, z2, z3, z4, z5, z6⟩ := ok'
     obtain ⟨b2, bs2, y1, y2, y3, y4, y5, y6⟩ := f3
     rw [z1] at y1
     cases y1
     rw [z5] at y5
     have e5 : bs1.map V.ref = bs2.map V.ref := by injection y5 with z; injection z
     have e6 : bs1 = bs2 := Zf5 e5
     rw [z2, y2, e6]
     exact fun _ z => z
   | scr ns => rw [ok'.1]; intro b hb; cases hb
   | own v0 Φ => exact fun b hb => Φ.uniq f3.2 ok'.2 b hb
  exact (g3 j a (same a hq)).2 (hp a ha)
theorem ZbO {i : Nat} {d : PyData} (h : EvE K te ρ d) (hn : D.nx (ρ.set i (some (.fz d)))) : EvS K (Znc te (ZgA i)) ρ D := ZcF h.o hn
theorem ZaN {i : Nat} {d : PyData} : GTo K (ZgA i) d ρ (ρ.set i (some (.fz d))) := fun H0 F σ H x Q S r q => q _ (S.setF r)
theorem Zgg : Zrp K ZrO [] ρ ρ := fun H0 F σ H xs Q S r q => by cases r; exact ⟨rfl, q _ S⟩
theorem ZcH {g : TG} {gs : TGs} {d : PyData} {ds : List PyData} {ρ1 ρ2 : Zbe} (h1 : GTo K g d ρ ρ1) (h2 : Zrp K gs ds ρ1 ρ2) : Zrp K (ZpK g gs) (d :: ds) ρ ρ2 := fun H0 F σ H xs Q S r q => by
 cases r with
 | cons r1 r2 => exact ⟨_, _, rfl, h1 H0 F σ H _ _ S r1 fun σ1 S1 => h2 H0 F σ1 H _ _ S1 r2 q⟩
theorem ZjR {n : Nat} {gs : TGs} {ds : List PyData} {ρ1 : Zbe} (h : Zrp K gs ds ρ ρ1) (hn : ds.length = n) : GTo K (Zrx K n gs) (.tuple ds) ρ ρ1 := fun H0 F σ H x Q S r q => by
 obtain ⟨a, xs, rfl, h1, h2, _⟩ := Zfg (K := K) r S.sub
 exact ⟨a, xs, rfl, h1, by rw [h2.length, hn], h H0 F σ H xs Q S h2 q⟩
theorem Zsd {g : TG} {d : PyData} {ρ' : Zbe} (h : EvE K te ρ d) (hg : GTo K g d ρ ρ') (hn : D.nx ρ') : EvS K (Znc te g) ρ D := fun F0 H0 F σ H E x S C =>
 h H0 F σ H _ S fun F' H' v x' r => hg H0 F' σ H' v _ (S.ext x') r fun σ' S' => C.nx F' σ' H' ρ' (x.trans x') S' hn
theorem Ext.wr {F0 H0 F H : Hp} {a : Addr} {o : HO} (x : Ext F0 H0 F H) (h0 : H0 a = none) (hf : F a = none) : Ext F0 H0 F (upd H a o) :=
 ⟨x.hh.upd h0, x.ff, x.fh.upd hf, x.fr⟩
theorem Zeu {i : Nat} {ds : List PyData} {d : PyData} (e : ρ[i]? = some (some (.ol ds))) (h : EvE K te ρ d) (hl : ds.length < 1000) (hn : D.nx (ρ.set i (some (.ol (ds ++ [d]))))) :
 EvS K (ZiO (tBM K "list" Ze9 (ZcP i) (Zbd te ZdF))) ρ D := fun F0 H0 F σ H E x S C => by
 obtain ⟨a, xs, e1, e2, e3, _⟩ := S.write e
 refine ⟨_, e1, .inl ⟨rfl, _, SqL.of e2⟩, h H0 F σ H _ S fun F1 H1 v x1 r1 => ?_⟩
 obtain ⟨a', xs', f1, f2, f3, f4, f5, f6⟩ := (S.ext x1).write e
 rw [e1] at f1
 cases f1
 refine ⟨a, xs', v, rfl, rfl, f2, by rw [f3.length]; exact Zbh (by omega), ?_⟩
 exact C.nx F1 σ _ _ ((x.trans x1).wr f4 f5) (f6 _ _ (f3.snoc r1)) hn
theorem Zna {i : Nat} {ds : List PyData} {d : PyData} {k : Int} {j : Nat} (e : ρ[i]? = some (some (.ol ds))) (h : EvE K te ρ d) (hi : EvE K tb ρ (.int k)) (hj : ixN ds.length k = some j) (hn : D.nx (ρ.set i (some (.ol (ds.set j d))))) :
 EvS K (Znc te (Zsk (ZcP i) tb Zn9)) ρ D := fun F0 H0 F σ H E x S C =>
 h H0 F σ H _ S fun F1 H1 v x1 r1 => by
  obtain ⟨a, xs, e1, e2, e3, _⟩ := (S.ext x1).write e
  refine ⟨_, e1, hi H0 F1 σ H1 _ (S.ext x1) fun F2 H2 y x2 r2 => ?_⟩
  obtain ⟨a', xs', f1, f2, f3, f4, f5, f6⟩ := (S.ext (x1.trans x2)).write e
  rw [e1] at f1
  cases f1
  cases r2
  refine ⟨a, xs', k, j, rfl, rfl, f2, by rw [f3.length]; exact hj, ?_⟩
  exact C.nx F2 σ _ _ ((x.trans (x1.trans x2)).wr f4 f5) (f6 _ _ (f3.set (r1.mono x2.ff) j)) hn
theorem Zlv {f : Int -> Int -> Int} {i : Nat} {ds : List PyData} {k m n : Int} (e : ρ[i]? = some (some (.ol ds))) (hi : EvE K tb ρ (.int k)) (h0 : 0 <= k) (hm : ds[k.toNat]? = some (.int m)) (h : EvE K te ρ (.int n))
 (hn : D.nx (ρ.set i (some (.ol (ds.set k.toNat (.int (f m n))))))) : EvS K (Zpr (ZcP i) tb te (Zoo K) (ipI f) Zn9) ρ D := fun F0 H0 F σ H E x S C => by
 obtain ⟨a, xs, e1, e2, e3, _⟩ := S.write e
 refine ⟨_, e1, hi H0 F σ H _ S fun F1 H1 y x1 r1 => ?_⟩
 cases r1
 obtain ⟨a1, xs1, f1, f2, f3, _⟩ := (S.ext x1).write e
 rw [e1] at f1
 cases f1
 obtain ⟨z, z1, z2⟩ := f3.get hm
 refine ⟨a, xs1, k, z, rfl, rfl, SqL.of f2, h0, z1, h H0 F1 σ H1 _ (S.ext x1) fun F2 H2 w x2 r2 => ?_⟩
 cases r2
 cases z2
 refine ⟨m, n, rfl, rfl, ?_⟩
 obtain ⟨a2, xs2, g1, g2, g3, g4, g5, g6⟩ := (S.ext (x1.trans x2)).write e
 rw [e1] at g1
 cases g1
 have hlt : k.toNat < ds.length := (List.getElem?_eq_some_iff.mp hm).1
 refine ⟨a, xs2, k, k.toNat, rfl, rfl, g2, ?_, ?_⟩
 ·rw [g3.length]
  unfold ixN; rw [if_pos h0, if_pos (by omega)]
 ·exact C.nx F2 σ _ _ ((x.trans (x1.trans x2)).wr g4 g5) (g6 _ _ (g3.set (.int _) _)) hn
theorem Ext.base {F0 H0 F H : Hp} (x : Ext F0 H0 F H) : Ext F H0 F H := ⟨x.hh, ZaF.refl _, x.fh, fun _ h => .inl h⟩
theorem Ext.rebase {F0 H0 F H F' H' : Hp} (x : Ext F0 H0 F H) (y : Ext F H0 F' H') : Ext F0 H0 F' H' :=
 ⟨y.hh, x.ff.trans y.ff, y.fh, fun a h => (y.fr a h).elim (fun z => x.fr a z) .inr⟩
theorem ZeU {wi : TI} {g : TG} {tbd : TS} {ds : List PyData} (P : Nat -> Zbe -> Prop) (hi : EvI K wi ρ ds) (h0 : P 0 ρ)
 (hs : ∀ (i : Nat) (d : PyData) (ρ' : Zbe), ds[i]? = some d -> P i ρ' -> ∃ ρ2, GTo K g d ρ' ρ2 /\ EvS K tbd ρ2 { nx := P (i + 1), ct := P (i + 1), bk := D.nx, rt := D.rt }) (hd : ∀ ρ', P ds.length ρ' -> D.nx ρ') : EvS K (Zr3 wi g tbd) ρ D := fun F0 H0 F σ H E x S C =>
 hi H0 F σ H _ S fun F1 H1 J x1 W => by
  refine ⟨fun i m σ H => m = ds.length - i /\ i <= ds.length /\ ∃ F ρ', Ext F0 H0 F H /\ ZaF F1 F /\ Sta K H0 F ρ' σ H /\ P i ρ', ⟨ds.length, by simp, Nat.zero_le _, F1, ρ, x.trans x1, ZaF.refl _, S.ext x1, h0⟩, ?_⟩
  rintro i m σ' H' ⟨rfl, hle, F', ρ', x', s', S', p⟩
  obtain ⟨w1, w2⟩ := W F' H' s' S'.sub
  by_cases hlt : i < ds.length
  ·have e : ds[i]? = some ds[i] := by simp [hlt]
   obtain ⟨go, yl⟩ := w2 i _ e
   refine .inr ⟨go, fun σ2 H2 => ∃ F2 ρ2, Ext F0 H0 F2 H2 /\ ZaF F1 F2 /\ Sta K H0 F2 ρ2 σ2 H2 /\ P (i + 1) ρ2, fun σ2 H2 q => ⟨ds.length - (i + 1), by omega, rfl, hlt, q⟩, fun v H3 y => ?_⟩
   obtain ⟨F3, x3, r3⟩ := yl v H3 y
   obtain ⟨ρ2, hg, hb⟩ := hs i _ ρ' e p
   refine hg H0 F3 σ' H3 v _ (S'.ext x3) r3 fun σ2 S2 => ?_
   have big : Ext F0 H0 F3 H3 := x'.trans x3
   have s13 := s'.trans x3.ff
   exact hb F3 H0 F3 σ2 H3 _ big.base S2 ⟨fun F4 σ4 H4 ρ4 x4 S4 q4 => ⟨F4, ρ4, big.rebase x4, s13.trans x4.ff, S4, q4⟩, fun F4 H4 v4 r4 p4 x4 => C.rt F4 H4 v4 r4 p4 (big.rebase x4),
    fun F4 σ4 H4 ρ4 x4 => C.nx F4 σ4 H4 ρ4 (big.rebase x4), fun F4 σ4 H4 ρ4 x4 S4 q4 => ⟨F4, ρ4, big.rebase x4, s13.trans x4.ff, S4, q4⟩⟩
  ·have e : i = ds.length := by omega
   subst e
   exact .inl ⟨w1, C.nx F' σ' H' ρ' x' S' (hd ρ' p)⟩
theorem ZbC {wi : TI} {g : TG} {tbd : TS} {ds : List PyData} (R : Nat -> Zbe) (hi : EvI K wi ρ ds) (h0 : Fgt ρ (R 0))
 (hs : ∀ (i : Nat) (d : PyData), ds[i]? = some d -> ∃ ρ2, GTo K g d (R i) ρ2 /\ EvS K tbd ρ2 { nx := fun ρ' => Fgt ρ' (R (i + 1)), ct := fun ρ' => Fgt ρ' (R (i + 1)), bk := D.nx, rt := D.rt }) (hd : ∀ ρ', Fgt ρ' (R ds.length) -> D.nx ρ') : EvS K (Zr3 wi g tbd) ρ D := by
 refine ZeU (fun i ρ' => Fgt ρ' (R i)) hi h0 (fun i d ρ' e f => ?_) hd
 obtain ⟨ρ2, h1, h2⟩ := hs i d e
 exact ⟨ρ2, fun H0 F σ H x Q S r q => h1 H0 F σ H x Q (S.fgt f) r q, h2⟩
theorem Zd3 {c : TT} {tbd : TS} (P : Nat -> Zbe -> Prop) (m0 : Nat) (h0 : P m0 ρ)
 (hs : ∀ (m : Nat) (ρ' : Zbe), P m ρ' -> ∃ b, EvT K c ρ' b /\ (b = true -> EvS K tbd ρ' { nx := fun ρ2 => ∃ m', m' < m /\ P m' ρ2, ct := fun ρ2 => ∃ m', m' < m /\ P m' ρ2, bk := D.nx, rt := D.rt }) /\ (b = false -> D.nx ρ')) : EvS K (ZnT c tbd) ρ D := fun F0 H0 F σ H E x S C => by
 refine ⟨fun m σ H => ∃ F ρ', Ext F0 H0 F H /\ Sta K H0 F ρ' σ H /\ P m ρ', ⟨m0, F, ρ, x, S, h0⟩, ?_⟩
 rintro m σ' H' ⟨F', ρ', x', S', p⟩
 obtain ⟨b, h1, h2, h3⟩ := hs m ρ' p
 refine h1 H0 F' σ' H' _ S' fun F1 H1 x1 => ?_
 have X1 := x'.trans x1
 have S1 := S'.ext x1
 cases b with
 | false => rw [if_neg Bool.false_ne_true]; exact C.nx F1 σ' H1 ρ' X1 S1 (h3 rfl)
 | true =>
   rw [if_pos rfl]
   refine ⟨fun σ2 H2 => ∃ m', m' < m /\ ∃ F2 ρ2, Ext F0 H0 F2 H2 /\ Sta K H0 F2 ρ2 σ2 H2 /\ P m' ρ2, fun σ2 H2 h => h, ?_⟩
   have go : ∀ F4 σ4 H4 ρ4, Ext F0 H0 F4 H4 -> Sta K H0 F4 ρ4 σ4 H4 -> (∃ m', m' < m /\ P m' ρ4) -> ∃ m', m' < m /\ ∃ F2 ρ2, Ext F0 H0 F2 H4 /\ Sta K H0 F2 ρ2 σ4 H4 /\ P m' ρ2 := fun F4 σ4 H4 ρ4 x4 S4 ⟨m', q1, q2⟩ => ⟨m', q1, F4, ρ4, x4, S4, q2⟩
   exact h2 rfl F0 H0 F1 σ' H1 _ X1 S1 ⟨go, C.rt, C.nx, go⟩
theorem Zb9 {ds : List PyData} (h : EvE K ta ρ (.list ds)) : EvI K (ZqD K ta) ρ ds := fun H0 F σ H R S q =>
 h H0 F σ H _ S fun F1 H1 v x1 r1 => by
  obtain ⟨a, xs, rfl, h1, h2, h3⟩ := Zcv (K := K) r1 x1.fh
  have hF : F1 a = some (.lst xs) := by
   cases r1 with
   | lst ha rr =>
     have := x1.fh _ _ ha
     rw [h3] at this
     cases this
     exact ha
  refine ⟨a, rfl, ⟨xs, h1⟩, q F1 H1 _ x1 fun F2 H2 s2 s3 => ?_⟩
  have hq : SqL K H2 a xs := SqL.of (s3 _ _ (s2 _ _ hF))
  refine ⟨⟨xs, hq, by rw [h2.length]; exact Nat.le_refl _⟩, fun i d e => ?_⟩
  obtain ⟨z, z1, z2⟩ := h2.get e
  refine ⟨⟨xs, z, hq, z1⟩, fun y H3 hy => ?_⟩
  obtain ⟨rfl, hy⟩ := hy
  have e2 := hy xs hq
  rw [z1] at e2
  cases e2
  exact ⟨F2, Ext.refl s3, z2.mono s2⟩
theorem Zso {ds : List PyData} (h : EvE K ta ρ (.tuple ds)) : EvI K (Zsp K ta) ρ ds := fun H0 F σ H R S q =>
 h H0 F σ H _ S fun F1 H1 v x1 r1 => by
  obtain ⟨a, xs, rfl, h1, h2, h3⟩ := Zfg (K := K) r1 x1.fh
  have hF : F1 a = some (.tup xs) := by
   cases r1 with
   | tup ha rr =>
     have := x1.fh _ _ ha
     rw [h3] at this
     cases this
     exact ha
  refine ⟨a, rfl, ⟨xs, h1⟩, q F1 H1 _ x1 fun F2 H2 s2 s3 => ?_⟩
  have hq : SqT K H2 a xs := SqT.of (s3 _ _ (s2 _ _ hF))
  refine ⟨⟨xs, hq, by rw [h2.length]; exact Nat.le_refl _⟩, fun i d e => ?_⟩
  obtain ⟨z, z1, z2⟩ := h2.get e
  refine ⟨⟨xs, z, hq, z1⟩, fun y H3 hy => ?_⟩
  obtain ⟨rfl, hy⟩ := hy
  have e2 := hy xs hq
  rw [z1] at e2
  cases e2
  exact ⟨F2, Ext.refl s3, z2.mono s2⟩
def ZfO (lo : Int) (n : Nat) : List PyData := (List.range n).map fun (i : Nat) => PyData.int (lo + (i : Int))
theorem Zc9 {lo : Int} {n i : Nat} {d : PyData} (e : (ZfO lo n)[i]? = some d) : i < n /\ d = .int (lo + (i : Int)) := by
 unfold ZfO at e
 rw [List.getElem?_map] at e
 by_cases h : i < n
 ·simp [h] at e; exact ⟨h, e.symm⟩
 ·simp [h] at e
theorem ZcB {lo : Int} {n : Nat} : (ZfO lo n).length = n := by simp [ZfO]
theorem Zh8 {F : Hp} {lo : Int} {n : Nat} : ZnL F (Itr lo n) (ZfO lo n) := fun F2 H2 s2 s3 => by
 refine ⟨by show n <= _; rw [ZcB]; exact Nat.le_refl _, fun i d e => ?_⟩
 obtain ⟨h1, rfl⟩ := Zc9 e
 refine ⟨h1, fun x H3 hy => ?_⟩
 obtain ⟨rfl, rfl⟩ := hy
 exact ⟨F2, Ext.refl s3, .int _⟩
theorem Zd1 {t : TA} {n : Int} (h : EvA K t ρ [.fz (.int n)]) (h1 : -(2 ^ 62) <= n) (h2 : n < 2 ^ 62) : EvI K (Zqz t) ρ (ZfO 0 n.toNat) := fun H0 F σ H R S q =>
 h H0 F σ H _ S fun F1 H1 vs x1 r1 => by
  cases r1 with
  | fz r r1 => cases r1; cases r; exact ⟨n, rfl, h1, h2, q F1 H1 _ x1 Zh8⟩
theorem Zl3 {t : TA} {m n : Int} (h : EvA K t ρ [.fz (.int m), .fz (.int n)]) (h1 : -(2 ^ 62) <= m /\ m < 2 ^ 62 /\ -(2 ^ 62) <= n /\ n < 2 ^ 62) : EvI K (ZqC t) ρ (ZfO m (n - m).toNat) := fun H0 F σ H R S q =>
 h H0 F σ H _ S fun F1 H1 vs x1 r1 => by
  cases r1 with
  | fz r r1 =>
    cases r1 with
    | fz r' r1 => cases r1; cases r; cases r'; exact ⟨m, n, rfl, h1, q F1 H1 _ x1 Zh8⟩
def ZmS (hi : Int) (n : Nat) : List PyData := (List.range n).map fun (i : Nat) => PyData.int (hi - (i : Int))
theorem Zg7 {hi : Int} {n i : Nat} {d : PyData} (e : (ZmS hi n)[i]? = some d) : i < n /\ d = .int (hi - (i : Int)) := by
 unfold ZmS at e
 rw [List.getElem?_map] at e
 by_cases h : i < n
 ·simp [h] at e; exact ⟨h, e.symm⟩
 ·simp [h] at e
theorem ZgN {hi : Int} {n : Nat} : (ZmS hi n).length = n := by simp [ZmS]
theorem Zri {t : TA} {m n : Int} (h : EvA K t ρ [.fz (.int m), .fz (.int n), .fz (.int (-1))]) (h1 : -(2 ^ 62) <= m /\ m < 2 ^ 62 /\ -(2 ^ 62) <= n /\ n < 2 ^ 62) : EvI K (ZqK t) ρ (ZmS m (m - n).toNat) := fun H0 F σ H R S q =>
 h H0 F σ H _ S fun F1 H1 vs x1 r1 => by
  cases r1 with
  | fz r r1 =>
    cases r1 with
    | fz r' r1 =>
      cases r1 with
      | fz r2 r1 =>
        cases r1; cases r; cases r'; cases r2
        refine ⟨m, n, rfl, h1, q F1 H1 _ x1 fun F2 H2 s2 s3 => ⟨by show _ <= _; rw [ZgN]; exact Nat.le_refl _, fun i d e => ?_⟩⟩
        obtain ⟨h1, rfl⟩ := Zg7 e
        refine ⟨h1, fun x H3 hy => ?_⟩
        obtain ⟨rfl, rfl⟩ := hy
        exact ⟨F2, Ext.refl s3, .int _⟩
def Zef : Option OT -> Option OT
 | some (.fz d) => some (.fz d)
 | some (.scr ns) => some (.scr ns)
 | some (.zow Ψ) => some (.zow Ψ)
 | _ => none
def Ziv (f : List (Option Nat)) (ρ : Zbe) : Zbe := f.map fun o => match o with | some i => Zef (ρ[i]?).join | none => none
theorem Sta.inner {H0 F H : Hp} {σ : St} (f : List (Option Nat)) (S : Sta K H0 F ρ σ H) : Sta K H0 F (Ziv f ρ) (Zj0 f σ) H := by
 obtain ⟨kt, h1, h2, fp, h3, h4, h5⟩ := S
 refine ⟨kt, h1, by simp [Ziv, Zj0], fun _ => [], fun i t e => ?_, fun i j a h => (nomatch h), fun i a h => (nomatch h)⟩
 unfold Ziv at e
 rw [List.getElem?_map] at e
 cases z : f[i]? with
 | none => rw [z] at e; simp at e
 | some o =>
   rw [z] at e
   simp only [Option.map_some, Option.some.injEq] at e
   cases o with
   | none => cases e
   | some k =>
     simp only at e
     have e' : ρ[k]? = some (some t) /\ ((∃ d, t = .fz d) \/ (∃ ns, t = .scr ns) \/ ∃ Ψ, t = .zow Ψ) := by
      cases y : ρ[k]? with
      | none => rw [y] at e; simp [Zef] at e
      | some w =>
        rw [y] at e
        simp only [Option.join_some] at e
        cases w with
        | none => simp [Zef] at e
        | some w =>
          cases w with
          | fz d => simp [Zef] at e; subst e; exact ⟨rfl, .inl ⟨_, rfl⟩⟩
          | scr ns => simp [Zef] at e; subst e; exact ⟨rfl, .inr (.inl ⟨_, rfl⟩)⟩
          | zow Ψ => simp [Zef] at e; subst e; exact ⟨rfl, .inr (.inr ⟨_, rfl⟩)⟩
          | ol ds => simp [Zef] at e
          | oll ds => simp [Zef] at e
          | own v0 Φ => simp [Zef] at e
     obtain ⟨v, e1, e2⟩ := h3 k t e'.1
     refine ⟨v, ?_, ?_⟩
     ·unfold Zj0
      rw [List.getElem?_map, z]
      simp [e1]
     ·rcases e'.2 with ⟨d, rfl⟩ | ⟨ns, rfl⟩ | ⟨Ψ, rfl⟩
      ·exact ⟨rfl, e2.2⟩
      ·exact ⟨rfl, e2.2⟩
      ·exact ⟨rfl, e2.2⟩
theorem Zjn {α : Type} {f : List (Option Nat)} {wi : TI} {g : CIn -> TG} {tcc : CIn -> TT} {tee : CIn -> TE} {xs : List α} {enc h : α -> PyData} {p : α -> Bool} (hi : EvI K wi ρ (xs.map enc)) (hl : xs.length <= 1000)
 (hs : ∀ x ∈ xs, ∀ c, ∃ ρ2, GTo K (g c) (enc x) (Ziv f ρ) ρ2 /\ EvT K (tcc c) ρ2 (p x) /\ (p x = true -> EvE K (tee c) ρ2 (h x))) : EvO K (tLC f wi g tcc tee) ρ (.ol ((xs.filter p).map h)) := fun H0 F σ H Q S q =>
 hi H0 F σ H _ S fun F1 H1 J x1 W c => by
  have hn : xs.length <= sizeLine := Nat.le_of_lt (Zbh hl)
  refine ⟨fun i m ys H => m = xs.length - i /\ i <= xs.length /\ ∃ F', Ext F1 H1 F' H /\ Reps F' ys (((xs.take i).filter p).map h), ⟨xs.length, by simp, Nat.zero_le _, F1, Ext.refl x1.fh, .nil⟩, ?_⟩
  rintro i m ys H' ⟨rfl, hle, F', x', r'⟩
  obtain ⟨w1, w2⟩ := W F' H' x'.ff x'.fh
  by_cases hlt : i < xs.length
  ·have e : (xs.map enc)[i]? = some (enc xs[i]) := by simp [hlt]
   obtain ⟨go, yl⟩ := w2 i _ e
   refine .inr ⟨go, fun v H3 y => ?_⟩
   obtain ⟨F3, x3, r3⟩ := yl v H3 y
   obtain ⟨ρ2, k1, k2, k3⟩ := hs xs[i] (List.getElem_mem hlt) c
   have S3 := (S.ext (x1.trans (x'.trans x3))).inner f
   have tk : xs.take (i + 1) = xs.take i ++ [xs[i]] := by rw [List.take_succ]; simp [hlt]
   have ly := r'.length
   have ly2 : ys.length <= i := by
    rw [ly, List.length_map]
    refine Nat.le_trans (List.length_filter_le _ _) ?_
    rw [List.length_take]; omega
   refine k1 H0 F3 _ H3 v _ S3 r3 fun σ2 S4 => k2 H0 F3 σ2 H3 _ S4 fun F4 H4 x4 => ?_
   cases ep : p xs[i] with
   | true =>
     rw [if_pos rfl]
     refine k3 ep H0 F4 σ2 H4 _ (S4.ext x4) fun F5 H5 z x5 r5 => ⟨by omega, xs.length - (i + 1), by omega, rfl, hlt, F5, x'.trans (x3.trans (x4.trans x5)), ?_⟩
     rw [tk, List.filter_append, List.map_append]
     simp only [List.filter_cons, ep, if_true, List.filter_nil, List.map_cons, List.map_nil]
     exact (r'.mono (x3.trans (x4.trans x5)).ff).snoc r5
   | false =>
     rw [if_neg Bool.false_ne_true]
     refine ⟨xs.length - (i + 1), by omega, rfl, hlt, F4, x'.trans (x3.trans x4), ?_⟩
     rw [tk, List.filter_append, List.map_append]
     simp only [List.filter_cons, ep, List.filter_nil, List.map_nil, List.append_nil, Bool.false_eq_true, if_false]
     exact r'.mono (x3.trans x4).ff
  ·have e : i = xs.length := by omega
   subst e
   refine .inl ⟨by simpa using w1, fun a ha => ?_⟩
   rw [List.take_length] at r'
   obtain ⟨z1, z2, z3⟩ := ZfL (K := K) (x1.trans x') ha r'
   exact q _ _ _ _ z1 z2 z3
theorem Zel {α : Type} {f : List (Option Nat)} {wi : TI} {g : CIn -> TG} {tee : CIn -> TE} {xs : List α} {enc h : α -> PyData} (hi : EvI K wi ρ (xs.map enc)) (hl : xs.length <= 1000)
 (hs : ∀ x ∈ xs, ∀ c, ∃ ρ2, GTo K (g c) (enc x) (Ziv f ρ) ρ2 /\ EvE K (tee c) ρ2 (h x)) : EvO K (tLC f wi g (fun _ => ZpZ) tee) ρ (.ol (xs.map h)) := by
 have := Zjn (K := K) (ρ := ρ) (f := f) (wi := wi) (g := g) (tcc := fun _ => ZpZ) (tee := tee) (xs := xs) (enc := enc) (h := h) (p := fun _ => true) hi hl fun x hx c => by
  obtain ⟨ρ2, h1, h2⟩ := hs x hx c
  exact ⟨ρ2, h1, Zrh, fun _ => h2⟩
 have e : xs.filter (fun _ => true) = xs := List.filter_eq_self.mpr fun _ _ => rfl
 rw [e] at this
 exact this
def Zr7 : List V -> Hp -> VK -> Prop := fun xs H Q => ∃ i, xs = [.int i] /\ Q (.int (if i < 0 then -i else i)) H
def Zpg : List V -> Hp -> VK -> Prop := fun xs H Q => ∃ i j, xs = [.int i, .int j] /\ Q (.int (if j > i then j else i)) H
def ZpE : List V -> Hp -> VK -> Prop := fun xs H Q => ∃ i j, xs = [.int i, .int j] /\ Q (.int (if j < i then j else i)) H
def ZoB (K : W.Frag) : List V -> Hp -> VK -> Prop := fun xs H Q => ∃ p ys, xs = [.ref p] /\ (SqL K H p ys \/ SqT K H p ys) /\ Q (.int ys.length) H
def ZiJ (K : W.Frag) : List V -> Hp -> VK -> Prop := fun xs H Q => ∃ p ys, xs = [.ref p] /\ (SqL K H p ys \/ SqT K H p ys) /\ ∀ l, H l = none -> Q (.ref l) (upd H l (.lst ys))
def Zl9 (K : W.Frag) : List V -> Hp -> VK -> Prop := fun xs H Q => ∃ p ys, xs = [.ref p] /\ ((SqL K H p ys /\ ∀ l, H l = none -> Q (.ref l) (upd H l (.tup ys))) \/ (SqT K H p ys /\ Q (.ref p) H))
def ZrV (X : Cx) : List V -> Hp -> VK -> Prop := fun xs H Q => X.calm = true /\ ∃ (x : V) (ns : List Int), xs = [x] /\ Rep H x (.list (ns.map PyData.int)) /\ Q (.int ns.sum) H
def Zqc : V -> List V -> Hp -> VK -> Prop := fun x xs H Q => ∃ i, x = .int i /\ xs = [] /\ Q (.int (Builtin.Int.intBits i)) H
theorem Zj8 {X : Cx} : ZdD X (.builtin "abs") Zr7 := Znm
theorem ZnE {X : Cx} (h : X.calm = true) : ZdD X (.builtin "max") Zpg := Zlq h
theorem Zj2 {X : Cx} (h : X.calm = true) : ZdD X (.builtin "min") ZpE := ZlK h
theorem Zdu {X : Cx} : ZdD X (.builtin "len") (ZoB X.K) := Zh1
theorem Zpa {X : Cx} : ZdD X (.type "list") (ZiJ X.K) := Zhd
theorem Zfj {X : Cx} : ZdD X (.type "tuple") (Zl9 X.K) := ZgS
theorem Zjt {X : Cx} : ZdD X (.builtin "sum") (ZrV X) := ZkK
theorem ZoQ {X : Cx} : MtR X "int.bit_length" Zqc := Zpy
theorem Zqp {x : Int} (h : EvE K ta ρ (.int x)) : EvE K (tCB Zr7 (Zbd ta ZdF)) ρ (.int (if x < 0 then -x else x)) := fun H0 F σ H Q S q =>
 h H0 F σ H _ S fun F1 H1 v x1 r1 => by cases r1; exact ⟨x, rfl, q F1 H1 _ x1 (.int _)⟩
theorem Zol {x y : Int} {r : List V -> Hp -> VK -> Prop} {H0 F H : Hp} {σ : St} {Q : VK} (ha : EvE K ta ρ (.int x)) (hb : EvE K tb ρ (.int y)) (S : Sta K H0 F ρ σ H) (h : ∀ F' H', Ext F H F' H' -> r [.int x, .int y] H' Q) : tCB r (Zbd ta (Zbd tb ZdF)) σ H Q :=
 ha H0 F σ H _ S fun F1 H1 v x1 r1 => hb H0 F1 σ H1 _ (S.ext x1) fun F2 H2 w x2 r2 => by cases r1; cases r2; exact h F2 H2 (x1.trans x2)
theorem ZqO {x y : Int} (ha : EvE K ta ρ (.int x)) (hb : EvE K tb ρ (.int y)) : EvE K (tCB Zpg (Zbd ta (Zbd tb ZdF))) ρ (.int (if y > x then y else x)) := fun H0 F σ H Q S q =>
 Zol ha hb S fun F' H' e => ⟨x, y, rfl, q F' H' _ e (.int _)⟩
theorem ZqS {x y : Int} (ha : EvE K ta ρ (.int x)) (hb : EvE K tb ρ (.int y)) : EvE K (tCB ZpE (Zbd ta (Zbd tb ZdF))) ρ (.int (if y < x then y else x)) := fun H0 F σ H Q S q =>
 Zol ha hb S fun F' H' e => ⟨x, y, rfl, q F' H' _ e (.int _)⟩
theorem ZgC {ds : List PyData} (h : EvE K ta ρ (.list ds)) : EvE K (tCB (ZoB K) (Zbd ta ZdF)) ρ (.int (ds.length : Int)) := fun H0 F σ H Q S q =>
 h H0 F σ H _ S fun F1 H1 v x1 r1 => by
  obtain ⟨a, xs, rfl, h1, h2, _⟩ := Zcv (K := K) r1 x1.fh
  exact ⟨a, xs, rfl, .inl h1, by rw [h2.length]; exact q F1 H1 _ x1 (.int _)⟩
theorem ZrK {ds : List PyData} (h : EvE K ta ρ (.tuple ds)) : EvE K (tCB (ZoB K) (Zbd ta ZdF)) ρ (.int (ds.length : Int)) := fun H0 F σ H Q S q =>
 h H0 F σ H _ S fun F1 H1 v x1 r1 => by
  obtain ⟨a, xs, rfl, h1, h2, _⟩ := Zfg (K := K) r1 x1.fh
  exact ⟨a, xs, rfl, .inr h1, by rw [h2.length]; exact q F1 H1 _ x1 (.int _)⟩
theorem Zr1 {i : Nat} {ns : List Int} (e0 : ρ[i]? = some (some (.scr ns))) : EvE K (tCB (ZoB K) (Zbd (ZcP i) ZdF)) ρ (.int (ns.length : Int)) := fun H0 F σ H Q S q => by
 obtain ⟨fp, h, _⟩ := S.fp
 obtain ⟨v, e1, _, a, rfl, sc⟩ := h i _ e0
 exact ⟨_, e1, a, ns.map V.int, rfl, .inl (S.sub.seq sc.sq), by rw [List.length_map]; exact q F H _ (Ext.refl S.sub) (.int _)⟩
theorem ZoY {i : Nat} {ds : List PyData} (e0 : ρ[i]? = some (some (.ol ds))) : EvE K (tCB (ZoB K) (Zbd (ZcP i) ZdF)) ρ (.int (ds.length : Int)) := fun H0 F σ H Q S q => by
 obtain ⟨fp, h, _⟩ := S.fp
 obtain ⟨v, e1, a, rfl, _, _, xs, o2, o3⟩ := h i _ e0
 exact ⟨_, e1, a, xs, rfl, .inl (SqL.of o2), by rw [o3.length]; exact q F H _ (Ext.refl S.sub) (.int _)⟩
theorem ZmB {ds : List PyData} (h : EvE K ta ρ (.list ds)) : EvO K (tCB (ZiJ K) (Zbd ta ZdF)) ρ (.ol ds) := fun H0 F σ H Q S q =>
 h H0 F σ H _ S fun F1 H1 v x1 r1 => by
  obtain ⟨a, xs, rfl, h1, h2, _⟩ := Zcv (K := K) r1 x1.fh
  refine ⟨a, xs, rfl, .inl h1, fun p hp => ?_⟩
  obtain ⟨z1, z2, z3⟩ := ZfL (K := K) x1 hp h2
  exact q _ _ _ _ z1 z2 z3
theorem ZlB {ds : List PyData} (h : EvE K ta ρ (.list ds)) : EvE K (tCB (Zl9 K) (Zbd ta ZdF)) ρ (.tuple ds) := fun H0 F σ H Q S q =>
 h H0 F σ H _ S fun F1 H1 v x1 r1 => by
  obtain ⟨a, xs, rfl, h1, h2, _⟩ := Zcv (K := K) r1 x1.fh
  refine ⟨a, xs, rfl, .inl ⟨h1, fun p hp => ?_⟩⟩
  have s1 := x1.fh
  exact q _ _ _ (x1.trans (Ext.new s1 hp)) (.tup Zak (h2.mono (ZaF.new (s1.free hp))))
theorem ZrG {i : Nat} {ds : List PyData} (e0 : ρ[i]? = some (some (.ol ds))) : EvE K (tCB (Zl9 K) (Zbd (ZcP i) ZdF)) ρ (.tuple ds) := fun H0 F σ H Q S q => by
 obtain ⟨fp, h, _⟩ := S.fp
 obtain ⟨v, e1, a, rfl, _, _, xs, o2, o3⟩ := h i _ e0
 refine ⟨_, e1, a, xs, rfl, .inl ⟨SqL.of o2, fun p hp => ?_⟩⟩
 exact q _ _ _ (Ext.new S.sub hp) (.tup Zak (o3.mono (ZaF.new (S.sub.free hp))))
theorem Zjh {X : Cx} {ns : List Int} (h : EvE K ta ρ (.list (ns.map PyData.int))) (hc : X.calm = true) : EvE K (tCB (ZrV X) (Zbd ta ZdF)) ρ (.int ns.sum) := fun H0 F σ H Q S q =>
 h H0 F σ H _ S fun F1 H1 v x1 r1 => ⟨hc, v, ns, rfl, r1.mono x1.fh, q F1 H1 _ x1 (.int _)⟩
theorem Zoq {x : Int} (h : EvE K ta ρ (.int x)) : EvE K (Zsq K "int" Zqc ta) ρ (.int (Builtin.Int.intBits x : Int)) := fun H0 F σ H Q S q =>
 h H0 F σ H _ S fun F1 H1 v x1 r1 => by cases r1; exact ⟨rfl, x, rfl, rfl, q F1 H1 _ x1 (.int _)⟩
theorem Zgm {as bs : List PyData} (ha : EvE K ta ρ (.list as)) (hb : EvE K tb ρ (.list bs)) (hl : as.length + bs.length <= 1000) : EvO K (tOp Zsa ta tb) ρ (.ol (as ++ bs)) := fun H0 F σ H Q S q =>
 ZdO ha hb S fun F' H' x y e r1 r2 => by
  obtain ⟨a, xs, rfl, h1, h2, h3⟩ := Zcv (K := K) r1 e.fh
  obtain ⟨b, ys, rfl, g1, g2, g3⟩ := Zcv (K := K) r2 e.fh
  refine ⟨a, b, xs, ys, rfl, rfl, h3, g3, by rw [h2.length, g2.length]; exact Nat.le_of_lt (Zbh hl), fun p hp => ?_⟩
  obtain ⟨z1, z2, z3⟩ := ZfL (K := K) e hp (h2.append g2)
  exact q _ _ _ _ z1 z2 z3
end
end L2
end
section
namespace L2
open PySem PySem.Spec PyProof.Rows
theorem ZaS {K : W.Frag} {ρ : Zbe} {ta : TE} {t : TA} {d : PyData} {ds : List PyData} (h1 : EvE K ta ρ d) (h2 : EvA K t ρ (fzs ds)) : EvA K (Zbd ta t) ρ (fzs (d :: ds)) := Zaf h1 h2
theorem EvI.cast {K : W.Frag} {wi : TI} {ρ : Zbe} {ds ds' : List PyData} (h : EvI K wi ρ ds) (e : ds = ds') : EvI K wi ρ ds' := e ▸ h
theorem ZdG {a b : Int} {m n : Nat} (h : a = b) (h2 : m = n) : ZfO a m = ZfO b n := by rw [h, h2]
theorem ZhR {a b : Int} {m n : Nat} (h : a = b) (h2 : m = n) : ZmS a m = ZmS b n := by rw [h, h2]
theorem Zry {K : W.Frag} {ρ : Zbe} {ta : TE} {x : Int} (h : EvE K ta ρ (.int x)) : EvE K (tCB Zr7 (Zbd ta ZdF)) ρ (.int (Mir.Zfz x)) := Zqp h
theorem Zr8 {K : W.Frag} {ρ : Zbe} {ta tb : TE} {x y : Int} (ha : EvE K ta ρ (.int x)) (hb : EvE K tb ρ (.int y)) : EvE K (tCB Zpg (Zbd ta (Zbd tb ZdF))) ρ (.int (max x y)) := by
 have e : max x y = if y > x then y else x := by split <;> omega
 rw [e]
 exact ZqO ha hb
theorem ZrI {K : W.Frag} {ρ : Zbe} {ta tb : TE} {x y : Int} (ha : EvE K ta ρ (.int x)) (hb : EvE K tb ρ (.int y)) : EvE K (tCB ZpE (Zbd ta (Zbd tb ZdF))) ρ (.int (min x y)) := by
 have e : min x y = if y < x then y else x := by split <;> omega
 rw [e]
 exact ZqS ha hb
theorem Zoe {K : W.Frag} {ρ : Zbe} {f : List (Option Nat)} {wi : TI} {g : CIn -> TG} {tee : CIn -> TE} {lo : Int} {n : Nat} {h : Nat -> PyData} (hi : EvI K wi ρ (ZfO lo n)) (hl : n <= 1000)
 (hs : ∀ (x : Nat), x < n -> ∀ c, ∃ ρ2, GTo K (g c) (.int (lo + (x : Int))) (Ziv f ρ) ρ2 /\ EvE K (tee c) ρ2 (h x)) : EvO K (tLC f wi g (fun _ => ZpZ) tee) ρ (.ol ((List.range n).map h)) :=
 Zel (xs := List.range n) (enc := fun (i : Nat) => PyData.int (lo + (i : Int))) hi (by simpa using hl) fun x hx c => hs x (List.mem_range.mp hx) c
theorem EvE.cast {K : W.Frag} {t : TE} {ρ : Zbe} {d d' : PyData} (h : EvE K t ρ d) (e : d = d') : EvE K t ρ d' := e ▸ h
theorem EvO.cast {K : W.Frag} {t : TE} {ρ : Zbe} {d d' : OT} (h : EvO K t ρ d) (e : d = d') : EvO K t ρ d' := e ▸ h
theorem EvT.cast {K : W.Frag} {t : TT} {ρ : Zbe} {d d' : Bool} (h : EvT K t ρ d) (e : d = d') : EvT K t ρ d' := e ▸ h
def Zj6 (K : W.Frag) : Sp := fun vs H Q _ => ∃ (a : Addr) (ns : List Int), vs = [.ref a] /\ KTs K H /\ Scr K H a ns /\ ∀ H', Q (.bl true) H'
theorem Fun.evLaw {P : Program} {w : World} {K : W.Frag} {mg : Str -> Option Value} {base : Heap} {x qual p : Str} {st : Stmt} {f : Addr} {fd : FuncData} {N : List Str} {k : Nat} (F : Fun K x qual st f fd) (S : FnScope N [p] (Zab st))
 (hbody : ∀ (cdv : Value) (A : Around) (outer : List Env) (s : Shared) (H : Hp) (E : XK) (ns : List Int), Room k (A.deeper (envOfC qual (Zab st) s.heap.objs.size f cdv)) -> ns.length <= 63 -> (∀ i ∈ ns, Builtin.Int.intBits i <= 2 ^ 20) ->
  ∃ t, PSs (Zin CX0 P w K mg base N qual (Zab st) f cdv A outer s H E).nox (Zal st) t /\ EvS K t (some (.scr ns) :: List.replicate (N.length - 1) none) { nx := fun _ => False, rt := fun r => r = .fz (.bool true) }) : FnOk P w K mg base CX0 (k + 1) f fd [p] (Zj6 K) := by
 refine F.ok S (fun vs H Q E ⟨a, ns, e, _⟩ => by rw [e]; rfl) fun cdv A outer s H vs Q E hr ⟨a, ns, e, kt, sc, q⟩ => ?_
 subst e
 obtain ⟨t, h1, h2⟩ := hbody cdv A outer s H E ns hr sc.len sc.bits
 refine ⟨t, h1, h2 H H H (start N [.ref a]) H _ (Ext.refl (ZaF.refl _)) ⟨kt, ZaF.refl _, ?_, fun _ => [], fun i t' e => ?_, fun i j a h => (nomatch h), fun i a h => (nomatch h)⟩ ⟨fun F' σ' H' ρ' x' _ e => False.elim e, fun F' H' v r' p x' hp ok e => ?_, fun _ _ _ _ _ _ z => False.elim z, fun _ _ _ _ _ _ z => False.elim z⟩⟩
 ·unfold start
  simp
 ·cases i with
  | zero =>
    simp at e
    subst e
    exact ⟨_, rfl, rfl, a, rfl, sc⟩
  | succ i =>
    rw [List.getElem?_cons_succ] at e
    have := List.mem_of_getElem? e
    simp at this
 ·subst e
  obtain ⟨_, r⟩ := ok
  cases r
  exact q H'
theorem Fgt.trans : ∀ {a b c : Zbe}, Fgt a b -> Fgt b c -> Fgt a c
 | [], [], [], _, _ => trivial
 | _ :: r, none :: r', none :: r2, h, h2 => by
   have h' : Fgt r r' := h
   have h2' : Fgt r' r2 := h2
   exact (show Fgt r r2 from Fgt.trans h' h2')
 | s :: r, some x :: r', none :: r2, h, h2 => by
   have h' : s = some x /\ Fgt r r' := h
   have h2' : Fgt r' r2 := h2
   exact (show Fgt r r2 from Fgt.trans h'.2 h2')
 | _ :: r, none :: r', some z :: r2, h, h2 => by
   have h2' : none = some z /\ Fgt r' r2 := h2
   exact absurd h2'.1 (by simp)
 | s :: r, some x :: r', some z :: r2, h, h2 => by
   have h' : s = some x /\ Fgt r r' := h
   have h2' : some x = some z /\ Fgt r' r2 := h2
   exact ⟨h'.1.trans h2'.1, Fgt.trans h'.2 h2'.2⟩
 | [], none :: _, _, h, _ => False.elim h
 | [], some _ :: _, _, h, _ => False.elim h
 | _ :: _, [], _, h, _ => False.elim h
 | [], [], none :: _, _, h => False.elim h
 | [], [], some _ :: _, _, h => False.elim h
 | _ :: _, none :: _, [], _, h => False.elim h
 | _ :: _, some _ :: _, [], _, h => False.elim h
theorem ZaO {K : W.Frag} {ρ : Zbe} : EvA K ZdF ρ (fzs []) := Zas
theorem Zsc {i j : Int} (h1 : -18446744073709551616 < j) (h2 : j < 18446744073709551616) : Zrn i j := .inr ⟨h1, h2⟩
theorem z62 : (2 : Int) ^ 62 = 4611686018427387904 := by decide
theorem Zsu : Zsl 10 30 := ⟨by decide, by decide, by decide⟩
theorem ZqM {CX : CXT} {P : Program} {w : World} {K : W.Frag} {mg : Str -> Option Value} {base : Heap} {N : List Str} {q : Str} {sc : Scope} {f : Addr} {cd : Value} {A : Around} {o : List Env} {s : Shared} {H : Hp} {E : XK} : (Zin CX P w K mg base N q sc f cd A o s H E).nox.K = K := rfl
theorem Zm6 {X : Cx} {N : List Str} {sc : Scope} {c : CIn} : (Zcg X N sc c).K = X.K := rfl
end L2
end
section
namespace L2
open PySem PySem.Spec PyProof.Rows
section
variable {K : W.Frag} {ρ : Zbe} {ta tb te : TE}
def cut {α : Type} (xs : List α) (lo hi : Option Int) : List α := (xs.drop (HT.sIx xs.length 0 lo)).take (HT.sIx xs.length xs.length hi - HT.sIx xs.length 0 lo)
theorem ZmC {a b : Int} {m n : Nat} (h0 : 0 <= a) (h1 : a < 2 ^ m) (h2 : 0 <= b) (h3 : b < 2 ^ n) (h4 : m + n <= 100000) : IntMulOk a b := by
 have bl : ∀ {x : Int} {m : Nat}, 0 <= x -> x < 2 ^ m -> Builtin.Int.intBits x <= m := fun {x m} h0 h => by
  unfold Builtin.Int.intBits
  by_cases e : x = 0
  ·subst e; simp
  ·have e1 : (x == 0) = false := by simpa using e
   rw [e1]
   have h1 : x.natAbs ≠ 0 := by omega
   have h2 : x.natAbs < 2 ^ m := by
    have : ((x.natAbs : Nat) : Int) < ((2 ^ m : Nat) : Int) := by
     have e2 : ((2 ^ m : Nat) : Int) = (2 : Int) ^ m := by rw [Int.natCast_pow]; rfl
     rw [e2]
     omega
    exact Int.ofNat_lt.mp this
   have := (Nat.log2_lt h1).mpr h2
   simp only [Bool.false_eq_true, if_false]
   omega
 have ba := bl h0 h1
 have bb := bl h2 h3
 unfold IntMulOk
 have : Builtin.Int.intTooBig (Builtin.Int.intBits a + Builtin.Int.intBits b) = false := by
  unfold Builtin.Int.intTooBig
  have hb : (100000 : Nat) <= bitsLine := by decide
  exact decide_eq_false (by omega)
 rw [this]
 simp
end
end L2
end
section
namespace L2
open PySem PySem.Spec PyProof.Rows
section
variable {K : W.Frag} {ρ : Zbe} {ta tb te : TE}
def Zm9 (as bs : List PyData) : List PyData := (as.zip bs).map fun p => PyData.tuple [p.1, p.2]
theorem Zjp (as bs : List PyData) : (Zm9 as bs).length = min as.length bs.length := by simp [Zm9]
theorem ZjF {as bs : List PyData} {i : Nat} {d : PyData} (e : (Zm9 as bs)[i]? = some d) : ∃ a b, as[i]? = some a /\ bs[i]? = some b /\ d = .tuple [a, b] := by
 unfold Zm9 at e
 rw [List.getElem?_map] at e
 cases z : (as.zip bs)[i]? with
 | none => rw [z] at e; cases e
 | some p =>
   rw [z] at e
   have e' := Option.some.inj e
   obtain ⟨h1, h2⟩ := List.getElem?_zip_eq_some.mp z
   exact ⟨p.1, p.2, h1, h2, e'.symm⟩
def Zkp (as : List PyData) : List PyData := as.zipIdx.map fun p => PyData.tuple [.int (p.2 : Int), p.1]
theorem Zij (as : List PyData) : (Zkp as).length = as.length := by simp [Zkp]
theorem Zhw {as : List PyData} {i : Nat} {d : PyData} (e : (Zkp as)[i]? = some d) : ∃ a, as[i]? = some a /\ d = .tuple [.int (i : Int), a] := by
 unfold Zkp at e
 rw [List.getElem?_map, List.getElem?_zipIdx] at e
 cases z : as[i]? with
 | none => rw [z] at e; cases e
 | some a => rw [z] at e; simp at e; exact ⟨a, rfl, e.symm⟩
theorem Zfv {F H : Hp} {x : V} {ds : List PyData} (r : Rep F x (.list ds)) : ∃ a xs, x = .ref a /\ F a = some (.lst xs) /\ Reps F xs ds := by
 cases r with
 | lst ha rr => exact ⟨_, _, rfl, ha, rr⟩
theorem Zog {t : TA} {as bs : List PyData} (h : EvA K t ρ [.fz (.list as), .fz (.list bs)]) : EvI K (Zsn K t) ρ (Zm9 as bs) := fun H0 F σ H R S q =>
 h H0 F σ H _ S fun F1 H1 vs x1 r1 => by
  cases r1 with
  | fz r r1 =>
    cases r1 with
    | fz r' r1 =>
      cases r1
      obtain ⟨a, xs, rfl, ha, ra⟩ := Zfv (H := H1) r
      obtain ⟨b, ys, rfl, hb, rb⟩ := Zfv (H := H1) r'
      refine ⟨a, b, rfl, ⟨xs, SqL.of (x1.fh _ _ ha)⟩, ⟨ys, SqL.of (x1.fh _ _ hb)⟩, q F1 H1 _ x1 fun F2 H2 s2 s3 => ?_⟩
      have qa : SqL K H2 a xs := SqL.of (s3 _ _ (s2 _ _ ha))
      have qb : SqL K H2 b ys := SqL.of (s3 _ _ (s2 _ _ hb))
      refine ⟨⟨xs, ys, qa, qb, by rw [Zjp, ra.length, rb.length]⟩, fun i d e => ?_⟩
      obtain ⟨d1, d2, e1, e2, rfl⟩ := ZjF e
      obtain ⟨z1, f1, g1⟩ := ra.get e1
      obtain ⟨z2, f2, g2⟩ := rb.get e2
      refine ⟨⟨xs, ys, z1, z2, qa, qb, f1, f2⟩, fun v H3 hy => ?_⟩
      obtain ⟨p, x, y, hp, rfl, rfl, k1, k2⟩ := hy
      have ex := k1 xs qa
      rw [f1] at ex; cases ex
      have ey := k2 ys qb
      rw [f2] at ey; cases ey
      have sn : ZaF F2 (upd F2 p (.tup [z1, z2])) := ZaF.new (s3.free hp)
      exact ⟨_, Ext.new s3 hp, .tup Zak (.cons ((g1.mono s2).mono sn) (.cons ((g2.mono s2).mono sn) .nil))⟩
theorem Zp0 {t : TA} {as : List PyData} (h : EvA K t ρ [.fz (.list as)]) : EvI K (Zrb K t) ρ (Zkp as) := fun H0 F σ H R S q =>
 h H0 F σ H _ S fun F1 H1 vs x1 r1 => by
  cases r1 with
  | fz r r1 =>
    cases r1
    obtain ⟨a, xs, rfl, ha, ra⟩ := Zfv (H := H1) r
    refine ⟨a, rfl, ⟨xs, SqL.of (x1.fh _ _ ha)⟩, q F1 H1 _ x1 fun F2 H2 s2 s3 => ?_⟩
    have qa : SqL K H2 a xs := SqL.of (s3 _ _ (s2 _ _ ha))
    refine ⟨⟨xs, qa, by rw [Zij, ra.length]⟩, fun i d e => ?_⟩
    obtain ⟨d1, e1, rfl⟩ := Zhw e
    obtain ⟨z1, f1, g1⟩ := ra.get e1
    refine ⟨⟨xs, z1, qa, f1⟩, fun v H3 hy => ?_⟩
    obtain ⟨p, x, hp, rfl, rfl, k1⟩ := hy
    have ex := k1 xs qa
    rw [f1] at ex; cases ex
    have sn : ZaF F2 (upd F2 p (.tup [.int (i : Int), z1])) := ZaF.new (s3.free hp)
    exact ⟨_, Ext.new s3 hp, .tup Zak (.cons (.int _) (.cons ((g1.mono s2).mono sn) .nil))⟩
theorem Zpu {X : Cx} {ns : List Int} (h : EvE K ta ρ (.list (ns.map PyData.int))) (hc : X.calm = true) (hn : ns ≠ []) : EvE K (tCB (ZqG X) (Zbd ta ZdF)) ρ (.int (Zka ns)) := fun H0 F σ H Q S q =>
 h H0 F σ H _ S fun F1 H1 v x1 r1 => ⟨hc, v, ns, rfl, r1.mono x1.fh, hn, q F1 H1 _ x1 (.int _)⟩
theorem ZpF {x : Int} {ns : List Int} (ha : EvE K ta ρ (.int x)) (hb : EvE K tb ρ (.list (ns.map PyData.int))) : EvE K (tOp (rIn K true) ta tb) ρ (.bool (!decide (x ∈ ns))) := fun H0 F σ H Q S q =>
 ZdO ha hb S fun F' H' u y e r1 r2 => by
  obtain ⟨a, xs, rfl, h1, h2, h3⟩ := Zcv (K := K) r2 e.fh
  cases r1
  have ex := ZcS h2
  subst ex
  refine ⟨a, _, rfl, .inl h1, rfl, ?_, ?_⟩
  ·rw [List.all_eq_true]
   intro v hv
   obtain ⟨j, _, rfl⟩ := List.mem_map.mp hv
   rfl
  ·rw [if_pos rfl, Zn2]
   exact q F' H' _ e (.bl _)
def Zr4 : OT -> Option PyData
 | .fz d => some d
 | .ol ds => some (.list ds)
 | .oll dss => some (.list (dss.map PyData.list))
 | .scr _ => none
 | .own _ _ => none
 | .zow _ => none
def frF (F H : Hp) (p : List Addr) : Hp := fun b => if b ∈ p then H b else F b
theorem Zgs {F H : Hp} {p : List Addr} {b : Addr} (h : b ∈ p) : frF F H p b = H b := by unfold frF; rw [if_pos h]
theorem Zdq {F H : Hp} {p : List Addr} {b : Addr} (h : b ∉ p) : frF F H p b = F b := by unfold frF; rw [if_neg h]
theorem Ze3 {F H : Hp} {p : List Addr} (h : ∀ a ∈ p, F a = none) : ZaF F (frF F H p) := fun b u e => by
 rw [Zdq fun z => by rw [h b z] at e; cases e]; exact e
theorem ZiV {F H : Hp} {p : List Addr} (s : ZaF F H) : ZaF (frF F H p) H := fun b u e => by
 by_cases z : b ∈ p
 ·rw [Zgs z] at e; exact e
 ·rw [Zdq z] at e; exact s b u e
theorem Zjk {F F' H : Hp} (sm : ZaF F F') : ∀ {as : List Addr} {dss : List (List PyData)}, Zbb F H as dss -> (∀ a ∈ as, F' a = H a) -> Reps F' (as.map V.ref) (dss.map PyData.list)
 | [], [], _, _ => .nil
 | a :: as, ds :: dss, h, he => by
   obtain ⟨⟨h1, xs, h2, h3⟩, h4⟩ := h
   exact .cons (.lst (by rw [he a List.mem_cons_self]; exact h2) (h3.mono sm)) (Zjk sm h4 fun b hb => he b (List.mem_cons_of_mem _ hb))
 | [], _ :: _, h, _ => False.elim h
 | _ :: _, [], h, _ => False.elim h
theorem ZaE.frz {F H : Hp} {v : V} {t : OT} {p : List Addr} {d : PyData} (ok : ZaE K F H v t p) (e : Zr4 t = some d) : Rep (frF F H p) v d := by
 have sm : ZaF F (frF F H p) := Ze3 fun a ha => (ok.there a ha).1
 cases t with
 | fz d' => cases e; exact ok.2.mono sm
 | ol ds =>
   cases e
   obtain ⟨a, rfl, rfl, h1, xs, h2, h3⟩ := ok
   exact .lst (by rw [Zgs List.mem_cons_self]; exact h2) (h3.mono sm)
 | oll dss =>
   cases e
   obtain ⟨a, as, rfl, rfl, hn, h1, h2, h3⟩ := ok
   exact .lst (by rw [Zgs List.mem_cons_self]; exact h2) (Zjk sm h3 fun b hb => Zgs (List.mem_cons_of_mem _ hb))
 | scr ns => cases e
 | own v0 Φ => cases e
 | zow Ψ => cases e
theorem Zbb.frOther {F H : Hp} {p : List Addr} (sm : ZaF F (frF F H p)) : ∀ {as : List Addr} {dss : List (List PyData)}, (∀ a ∈ as, a ∉ p) -> Zbb F H as dss -> Zbb (frF F H p) H as dss
 | [], [], _, _ => trivial
 | a :: as, ds :: dss, hn, h => by
   obtain ⟨⟨h1, xs, h2, h3⟩, h4⟩ := h
   exact ⟨⟨by rw [Zdq (hn a List.mem_cons_self)]; exact h1, xs, h2, h3.mono sm⟩, Zbb.frOther sm (fun b hb => hn b (List.mem_cons_of_mem _ hb)) h4⟩
 | [], _ :: _, _, h => False.elim h
 | _ :: _, [], _, h => False.elim h
theorem ZaE.frOther {F H : Hp} {v : V} {t : OT} {p q : List Addr} (sm : ZaF F (frF F H p)) (ok : ZaE K F H v t q) (hn : ∀ a ∈ q, a ∉ p) : ZaE K (frF F H p) H v t q := by
 cases t with
 | fz d => exact ⟨ok.1, ok.2.mono sm⟩
 | zow Ψ => exact ⟨ok.1, Ψ.mono sm ok.2⟩
 | ol ds =>
   obtain ⟨a, rfl, rfl, h1, xs, h2, h3⟩ := ok
   exact ⟨a, rfl, rfl, by rw [Zdq (hn a List.mem_cons_self)]; exact h1, xs, h2, h3.mono sm⟩
 | oll dss =>
   obtain ⟨a, as, rfl, rfl, hd, h1, h2, h3⟩ := ok
   exact ⟨a, as, rfl, rfl, hd, by rw [Zdq (hn a List.mem_cons_self)]; exact h1, h2, h3.frOther sm fun b hb => hn b (List.mem_cons_of_mem _ hb)⟩
 | scr ns => obtain ⟨h1, a, h2, h3⟩ := ok; exact ⟨h1, a, h2, h3.mono sm⟩
 | own v0 Φ => exact ⟨ok.1, Φ.mono sm (fun a ha => by rw [Zdq (hn a ha)]; exact (Φ.there ok.2 a ha).1) (fun _ _ => rfl) ok.2⟩
theorem Sta.freezeG {H0 F H : Hp} {σ : St} {i : Nat} {t : OT} {d : PyData} (s : Sta K H0 F ρ σ H) (e : ρ[i]? = some (some t)) (ed : Zr4 t = some d) :
 ∃ p, (∀ a ∈ p, F a = none /\ H a ≠ none /\ H0 a = none) /\ Sta K H0 (frF F H p) (ρ.set i (some (.fz d))) σ H := by
 obtain ⟨kt, h1, h2, fp, h3, h4, h5⟩ := s
 obtain ⟨v, e1, ok⟩ := h3 i _ e
 have hlt := (List.getElem?_eq_some_iff.mp e).1
 have sm : ZaF F (frF F H (fp i)) := Ze3 fun a ha => (ok.there a ha).1
 refine ⟨fp i, fun a ha => ⟨(ok.there a ha).1, (ok.there a ha).2, (h5 i a ha).1⟩, kt.mono sm, ZiV h1, by simp [h2], fun j => if j = i then [] else fp j, fun j t' e' => ?_, fun j k b hb hc => ?_, fun j b hb => ?_⟩
 ·by_cases hj : j = i
  ·subst hj
   rw [List.getElem?_set_self hlt] at e'
   cases e'
   refine ⟨_, e1, ?_, ok.frz ed⟩
   dsimp only
   rw [if_pos rfl]
  ·rw [List.getElem?_set_ne (Ne.symm hj)] at e'
   obtain ⟨u, f1, f2⟩ := h3 j t' e'
   refine ⟨u, f1, ?_⟩
   dsimp only
   rw [if_neg hj]
   exact f2.frOther sm fun a ha z => hj (h4 j i a ha z)
 ·by_cases hj : j = i
  ·simp [hj] at hb
  ·by_cases hk : k = i
   ·simp [hk] at hc
   ·simp only [if_neg hj] at hb
    simp only [if_neg hk] at hc
    exact h4 j k b hb hc
 ·by_cases hj : j = i
  ·simp [hj] at hb
  ·simp only [if_neg hj] at hb
   exact h5 j b hb
theorem ZjC {F H F' H' : Hp} {p : List Addr} (hp : ∀ a ∈ p, F a = none /\ H a ≠ none) (x : Ext (frF F H p) H F' H') : Ext F H (fun b => if b ∈ p then none else F' b) H' :=
 ⟨x.hh, fun b u hb => by
  have nb : b ∉ p := fun z => by rw [(hp b z).1] at hb; cases hb
  simp only [if_neg nb]
  exact x.ff b u (by rw [Zdq nb]; exact hb), fun b u hb => by
  by_cases z : b ∈ p
  ·simp [z] at hb
  ·simp only [if_neg z] at hb; exact x.fh b u hb, fun b hb => by
  by_cases z : b ∈ p
  ·simp [z] at hb
  ·simp only [if_neg z] at hb
   rcases x.fr b hb with y | y
   ·rw [Zdq z] at y; exact .inl y
   ·exact .inr y⟩
theorem ZmA {t : TT} (i : Nat) {r : OT} {d0 : PyData} {b : Bool} (e : ρ[i]? = some (some r)) (ed : Zr4 r = some d0) (h : EvT K t (ρ.set i (some (.fz d0))) b) : EvT K t ρ b := fun H0 F σ H Q S q => by
 obtain ⟨p, hp, S'⟩ := S.freezeG e ed
 exact h H0 _ σ H Q S' fun F' H' x => q _ H' (ZjC (fun a ha => ⟨(hp a ha).1, (hp a ha).2.1⟩) x)
def ZnQ (ds : List PyData) : Prop := ∀ d ∈ ds, ∃ w, Zen d = some w
theorem Reps.flats {F F' : Hp} : ∀ {xs : List V} {ds : List PyData}, ZnQ ds -> Reps F xs ds -> Reps F' xs ds
 | _, _, _, .nil => .nil
 | _ :: _, d :: _, h, .cons r t => by
   obtain ⟨w, e⟩ := h d List.mem_cons_self
   refine .cons ?_ (Reps.flats (fun c hc => h c (List.mem_cons_of_mem _ hc)) t)
   cases r <;> simp [Zen] at e
   ·exact .non
   ·exact .bl _
   ·exact .int _
   ·exact .str _
end
end L2
end
section
namespace L2
open PySem PySem.Spec PyProof.Rows
section
variable {K : W.Frag} {ρ : Zbe} {ta tb tc te ti tj : TE} {D : PEnds}
end
end L2
end
namespace L2
open PySem PySem.Spec PyProof.Rows
section
variable {κ : Type} [DecidableEq κ]
def ZdW (kvs : List (κ × V)) (k : κ) : Option V := (kvs.find? fun kv => decide (kv.1 = k)).map (·.2)
def ZjI (kvs : List (κ × V)) (k : κ) (v : V) : List (κ × V) :=
 if (kvs.any fun kv => decide (kv.1 = k)) = true then kvs.map (fun kv => if kv.1 = k then (kv.1, v) else kv) else kvs ++ [(k, v)]
theorem Zcn {p : κ × V} {r : List (κ × V)} {k : κ} (e : p.1 = k) : ZdW (p :: r) k = some p.2 := by simp [ZdW, List.find?_cons, e]
theorem Zcw {p : κ × V} {r : List (κ × V)} {k : κ} (e : ¬ p.1 = k) : ZdW (p :: r) k = ZdW r k := by simp [ZdW, List.find?_cons, e]
theorem ZjA (k : κ) : ∀ kvs : List (κ × V), (kvs.any fun kv => decide (kv.1 = k)) = (ZdW kvs k).isSome
 | [] => rfl
 | p :: r => by
   rw [List.any_cons]
   by_cases e : p.1 = k
   ·simp only [Zcn e, decide_eq_true e, Bool.true_or, Option.isSome_some]
   ·rw [Zcw e, decide_eq_false e, Bool.false_or]; exact ZjA k r
theorem ZhK (k j : κ) (y : V) : ∀ kvs : List (κ × V), ZdW kvs k = none -> ZdW (kvs ++ [(k, y)]) j = if j = k then some y else ZdW kvs j
 | [], _ => by
   by_cases e : k = j
   ·rw [if_pos e.symm]; exact Zcn (p := (k, y)) e
   ·rw [if_neg (fun z => e z.symm)]; exact Zcw (p := (k, y)) e
 | p :: r, hn => by
   rw [List.cons_append]
   have hk : ¬ p.1 = k := fun z => by rw [Zcn z] at hn; cases hn
   rw [Zcw hk] at hn
   have ih := ZhK k j y r hn
   by_cases e : p.1 = j
   ·rw [Zcn e, Zcn e, if_neg (fun z => hk (e.trans z))]
   ·rw [Zcw e, Zcw e, ih]
theorem Zf4 (kvs : List (κ × V)) (k : κ) (v : V) : (ZjI kvs k v).length <= kvs.length + 1 := by
 unfold ZjI
 split
 ·rw [List.length_map]; omega
 ·rw [List.length_append, List.length_cons, List.length_nil]; omega
theorem ZfN.isSome_eq {o : Option V} {u : Option Value} (r : ZfN o u) : o.isSome = u.isSome := by
 cases o with
 | none => cases u with
   | none => rfl
   | some _ => exact (show False from r).elim
 | some _ => cases u with
   | none => exact (show False from r).elim
   | some _ => rfl
theorem ZfN.getD {o : Option V} {u : Option Value} {d : V} {d' : Value} (r : ZfN o u) (rd : Zbg d d') : Zbg (o.getD d) (u.getD d') := by
 cases o with
 | none => cases u with
   | none => exact rd
   | some _ => exact (show False from r).elim
 | some _ => cases u with
   | none => exact (show False from r).elim
   | some _ => exact r
theorem KV.val {kvs : List (κ × V)} {vs : List (κ × Value)} (r : KV kvs vs) (k : κ) : ZfN (ZdW kvs k) (valueAt vs k) := by
 unfold KV at r
 induction r with
 | nil => exact True.intro
 | @cons p q ps qs h t ih =>
   obtain ⟨h1, h2⟩ := h
   by_cases e : p.1 = k
   ·have e' : q.1 = k := h1.symm.trans e
    have b : valueAt (q :: qs) k = some q.2 := by simp [valueAt, List.find?_cons, e']
    rw [Zcn e, b]; exact h2
   ·have e' : ¬ q.1 = k := fun z => e (h1.trans z)
    have b : valueAt (q :: qs) k = valueAt qs k := by simp [valueAt, List.find?_cons, e']
    rw [Zcw e, b]; exact ih
theorem KV.any {kvs : List (κ × V)} {vs : List (κ × Value)} (r : KV kvs vs) (k : κ) : (kvs.any fun kv => decide (kv.1 = k)) = vs.any fun kv => decide (kv.1 = k) := by
 unfold KV at r
 induction r with
 | nil => rfl
 | cons h t ih => rw [List.any_cons, List.any_cons, ih, h.1]
theorem KV.repl {kvs : List (κ × V)} {vs : List (κ × Value)} (r : KV kvs vs) (k : κ) {y : V} {u : Value} (ry : Zbg y u) :
 KV (kvs.map fun kv => if kv.1 = k then (kv.1, y) else kv) (vs.map fun kv => if kv.1 = k then (kv.1, u) else kv) := by
 unfold KV at r ⊢
 induction r with
 | nil => exact .nil
 | @cons p q ps qs h t ih =>
   rw [List.map_cons, List.map_cons]
   refine .cons ?_ ih
   obtain ⟨h1, h2⟩ := h
   by_cases e : p.1 = k
   ·rw [if_pos e, if_pos (h1.symm.trans e)]; exact ⟨h1, ry⟩
   ·rw [if_neg e, if_neg (fun z => e (h1.trans z))]; exact ⟨h1, h2⟩
theorem KV.put {kvs : List (κ × V)} {vs : List (κ × Value)} (r : KV kvs vs) (k : κ) {y : V} {u : Value} (ry : Zbg y u) : KV (ZjI kvs k y) (stored vs k u) := by
 unfold ZjI stored
 rw [r.any k]
 by_cases e : (vs.any fun kv => decide (kv.1 = k)) = true
 ·rw [if_pos e, if_pos e]; exact r.repl k ry
 ·rw [if_neg e, if_neg e]; exact Paired.snoc r ⟨rfl, ry⟩
theorem KV.length {kvs : List (κ × V)} {vs : List (κ × Value)} (r : KV kvs vs) : kvs.length = vs.length := Paired.length r
end
theorem Zko {P : Program} {w : World} {k : Key} {u : Value} (r : Zbg (kV k) u) : (ZaZ P w).is k u = true := by
 cases k with
 | inl i => obtain ⟨t, e⟩ := (show ∃ t, u = Value.int i t from r); subst e; exact Zi4 P w i t
 | inr x => obtain ⟨t, e⟩ := (show ∃ t, u = Value.str x t from r); subst e; exact ZiU P w x t
theorem Zhu {P : Program} {w : World} : ∀ {ks : List Key} {us : List Value}, Zcj (ks.map kV) us -> ItemsAre (ZaZ P w) ks us
 | [], _, r => by rw [List.map_nil] at r; cases r; exact .nil
 | k :: ks, _, r => by
   rw [List.map_cons] at r
   cases r with
   | cons h t => exact .cons (Zko h) (Zhu t)
abbrev KT (H : Hp) : List (List Key × V) -> List (List Key × Addr × Value) -> Prop := Paired fun p q => p.1 = q.1 /\ H q.2.1 = some (.tup (p.1.map kV)) /\ Zbg p.2 q.2.2
theorem KT.val {H : Hp} {kvs : List (List Key × V)} {xs : List (List Key × Addr × Value)} (r : KT H kvs xs) (k : List Key) : ZfN (ZdW kvs k) ((atKey xs k).map (·.2)) := by
 induction r with
 | nil => exact True.intro
 | @cons p q ps qs h t ih =>
   obtain ⟨h1, _, h2⟩ := h
   by_cases e : p.1 = k
   ·have e' : q.1 = k := h1.symm.trans e
    have b : atKey (q :: qs) k = some q.2 := by simp [atKey, List.find?_cons, e']
    rw [Zcn e, b]; exact h2
   ·have e' : ¬ q.1 = k := fun z => e (h1.trans z)
    have b : atKey (q :: qs) k = atKey qs k := by simp [atKey, List.find?_cons, e']
    rw [Zcw e, b]; exact ih
theorem KT.repl {H : Hp} {kvs : List (List Key × V)} {xs : List (List Key × Addr × Value)} (r : KT H kvs xs) (k : List Key) {y : V} {u : Value} (ry : Zbg y u) :
 KT H (kvs.map fun kv => if kv.1 = k then (kv.1, y) else kv) (xs.map (putAt k u)) := by
 induction r with
 | nil => exact .nil
 | @cons p q ps qs h t ih =>
   rw [List.map_cons, List.map_cons]
   refine .cons ?_ ih
   obtain ⟨h1, h2, h3⟩ := h
   unfold putAt
   by_cases e : p.1 = k
   ·rw [if_pos e, if_pos (h1.symm.trans e)]; exact ⟨h1, h2, ry⟩
   ·rw [if_neg e, if_neg (fun z => e (h1.trans z))]; exact ⟨h1, h2, h3⟩
theorem KT.put {H : Hp} {kvs : List (List Key × V)} {xs : List (List Key × Addr × Value)} (r : KT H kvs xs) (k : List Key) {b : Addr} {y : V} {u : Value} (hb : H b = some (.tup (k.map kV))) (ry : Zbg y u) :
 KT H (ZjI kvs k y) (storedH xs k b u) := by
 have e : (kvs.any fun kv => decide (kv.1 = k)) = (atKey xs k).isSome := by
  rw [ZjA, (r.val k).isSome_eq, Option.isSome_map]
 unfold ZjI storedH
 rw [e]
 by_cases q : (atKey xs k).isSome = true
 ·rw [if_pos q, if_pos q]; exact r.repl k ry
 ·rw [if_neg q, if_neg q]; exact Paired.snoc r ⟨rfl, hb, ry⟩
theorem KT.keeps {H H' : Hp} {kvs : List (List Key × V)} {xs : List (List Key × Addr × Value)} (r : KT H kvs xs) (ht : ∀ b ys, H b = some (.tup ys) -> H' b = some (.tup ys)) : KT H' kvs xs :=
 Paired.mapP r fun _ _ z => ⟨z.1, ht _ _ z.2.1, z.2.2⟩
section
variable {P : Program} {w : World} {H : Hp} {h : Heap} {a : Addr}
theorem ZqE {u : HO} (ok : HOk P w H h) (e : Rd H a u) : ZcE P w H h a u := e.ok ok
theorem Ziw {kvs : List (Key × V)} (ok : HOk P w H h) (e : Rd H a (.dK kvs)) : kvs.length <= sizeLine /\ (a == sysModules) = false /\ ∃ vs, KV kvs vs /\ h.DictOf (ZaZ P w) a vs :=
 show ZcE P w H h a (.dK kvs) from ZqE ok e
theorem Zr6 {kvs : List (Key × V)} (ok : HOk P w H h) (e : H a = some (.dK kvs)) : kvs.length <= sizeLine /\ (a == sysModules) = false /\ ∃ vs, KV kvs vs /\ h.DictOf (ZaZ P w) a vs := Ziw ok (.inl e)
theorem Zeg {ks : List Key} (ok : HOk P w H h) (e : H a = some (.tup (ks.map kV))) : (tupleKind (ZaZ P w)).is h ks a := by
 obtain ⟨_, its, r, o, h1, h2, n, h3⟩ := (show ZcE P w H h a (.tup (ks.map kV)) from ok a _ e)
 exact ⟨o, its.toArray, n, h1, h2, h3, by simpa using Zhu r⟩
theorem ZiQ {kvs : List (List Key × V)} (ok : HOk P w H h) (e : Rd H a (.dT kvs)) : kvs.length <= sizeLine /\ (a == sysModules) = false /\
 ∃ xs, KT H kvs xs /\ h.DictOfH (tupleKind (ZaZ P w)) a xs := by
 obtain ⟨z, y, xs, r, o, es, ep, h1, h2, h3, h4, h5⟩ := (show ZcE P w H h a (.dT kvs) from ZqE ok e)
 refine ⟨z, y, xs, r, o, es, ep, h1, h2, h3, h4, fun x hx => ?_, h5⟩
 have all : ∀ {l : List (List Key × V)} {m : List (List Key × Addr × Value)}, KT H l m -> ∀ x ∈ m, (tupleKind (ZaZ P w)).is h x.1 x.2.1 := by
  intro l m q
  induction q with
  | nil => intro x hx; exact nomatch hx
  | @cons p q ps qs hq t ih =>
    intro x hx
    rcases List.mem_cons.mp hx with e | hx
    ·subst e
     exact Zeg ok (by rw [<- hq.1]; exact hq.2.1)
    ·exact ih x hx
 exact all r x hx
theorem ZoD {kvs : List (List Key × V)} (ok : HOk P w H h) (e : H a = some (.dT kvs)) : kvs.length <= sizeLine /\ (a == sysModules) = false /\
 ∃ xs, KT H kvs xs /\ h.DictOfH (tupleKind (ZaZ P w)) a xs := ZiQ ok (.inl e)
end
def Zhb (H : Hp) (a : Addr) (y : V) (r : Option V) : Prop :=
 (∃ kvs k, Rd H a (.dK kvs) /\ y = kV k /\ r = ZdW kvs k) \/ ∃ kvs k b, Rd H a (.dT kvs) /\ y = .ref b /\ H b = some (.tup (k.map kV)) /\ r = ZdW kvs k
def ZoS (H : Hp) (a : Addr) (y v : V) (H' : Hp) : Prop :=
 (∃ kvs k, H a = some (.dK kvs) /\ y = kV k /\ kvs.length < sizeLine /\ H' = upd H a (.dK (ZjI kvs k v))) \/
 ∃ kvs k b, H a = some (.dT kvs) /\ y = .ref b /\ H b = some (.tup (k.map kV)) /\ kvs.length < sizeLine /\ H' = upd H a (.dT (ZjI kvs k v))
theorem Zhb.k {H : Hp} {a : Addr} {kvs : List (Key × V)} {k : Key} (e : H a = some (.dK kvs)) : Zhb H a (kV k) (ZdW kvs k) := .inl ⟨kvs, k, .inl e, rfl, rfl⟩
theorem Zhb.t {H : Hp} {a b : Addr} {kvs : List (List Key × V)} {k : List Key} (e : H a = some (.dT kvs)) (eb : H b = some (.tup (k.map kV))) : Zhb H a (.ref b) (ZdW kvs k) := .inr ⟨kvs, k, b, .inl e, rfl, eb, rfl⟩
theorem ZoS.k {H : Hp} {a : Addr} {kvs : List (Key × V)} {k : Key} {v : V} (e : H a = some (.dK kvs)) (hl : kvs.length < sizeLine) : ZoS H a (kV k) v (upd H a (.dK (ZjI kvs k v))) := .inl ⟨kvs, k, e, rfl, hl, rfl⟩
theorem ZoS.t {H : Hp} {a b : Addr} {kvs : List (List Key × V)} {k : List Key} {v : V} (e : H a = some (.dT kvs)) (eb : H b = some (.tup (k.map kV))) (hl : kvs.length < sizeLine) :
 ZoS H a (.ref b) v (upd H a (.dT (ZjI kvs k v))) := .inr ⟨kvs, k, b, e, rfl, eb, hl, rfl⟩
section
variable {X : Cx} {pins : List (Addr × Obj)} {σ : St} {H : Hp} {s : Shared} {a : Addr} {y v : V} {u r : Value} {o : Option V} {A : Around} {E : Value -> Shared -> Prop}
theorem Inv.big (I : Inv X pins σ H s) : sysModules < s.heap.objs.size := by
 have h : mainGlobals < s.heap.objs.size := (I.mod.glob.keeps I.bk).lt
 exact Nat.lt_trans (by decide) h
theorem Zly {Q : Value -> Shared -> Prop} (hu : A.units + 1 < cLine) (I : Inv X pins σ H s) (g : Zhb H a y (some v)) (ry : Zbg y u) (h : ∀ w' s', Inv X pins σ H s' -> Zbg v w' -> Q w' s') :
 wpAny (model X.prog X.w) A (getItem (.ref a) u) Q E s := by
 rcases g with ⟨kvs, k, e, ey, l⟩ | ⟨kvs, k, b, e, ey, eb, l⟩
 ·subst ey
  obtain ⟨z, hd, vs, rel, dd⟩ := Ziw I.hok e
  obtain ⟨w', hw, rw'⟩ := ZfN.some_of (v := v) (o := valueAt vs k) (by rw [l]; exact rel.val k)
  exact wpAny_getItem_of (Zko ry) dd.mapOf hw (h w' _ (I.tok _) rw')
 ·subst ey
  cases (show u = Value.ref b from ry)
  obtain ⟨z, hd, xs, rel, dd⟩ := ZiQ I.hok e
  obtain ⟨w', hw, rw'⟩ := ZfN.some_of (v := v) (o := (atKey xs k).map (·.2)) (by rw [l]; exact rel.val k)
  obtain ⟨p, hp, hp2⟩ := Option.map_eq_some_iff.mp hw
  refine wpAny_getItem_heap (tupleKind_room_in1 hu) (Zeg I.hok eb) dd hp ?_
  rw [hp2]
  exact h w' _ (I.tok _) rw'
theorem Zs4 {Q : Value -> Shared -> Prop} (hu : A.units + 1 < cLine) (I : Inv X pins σ H s) (g : Zhb H a y o) (ry : Zbg y u) (h : ∀ s', Inv X pins σ H s' -> Q (.bool o.isSome) s') :
 wpAny (model X.prog X.w) A (compareOp .In u (.ref a)) Q E s := by
 rcases g with ⟨kvs, k, e, ey, l⟩ | ⟨kvs, k, b, e, ey, eb, l⟩
 ·subst ey
  obtain ⟨z, hd, vs, rel, dd⟩ := Ziw I.hok e
  refine wpAny_in_of (Zko ry) hd dd.mapOf ?_
  rw [<- (rel.val k).isSome_eq, <- l]
  exact h _ (I.tok _)
 ·subst ey
  cases (show u = Value.ref b from ry)
  obtain ⟨z, hd, xs, rel, dd⟩ := ZiQ I.hok e
  refine wpAny_in_heap (tupleKind_room_in1 hu) (Zeg I.hok eb) hd dd ?_
  have q := (rel.val k).isSome_eq
  rw [Option.isSome_map] at q
  rw [<- q, <- l]
  exact h _ (I.tok _)
theorem Zpz {Q : Value -> Shared -> Prop} (hu : A.units + 1 < cLine) (I : Inv X pins σ H s) (g : Zhb H a y o) (ry : Zbg y u) (h : ∀ s', Inv X pins σ H s' -> Q (.bool (!o.isSome)) s') :
 wpAny (model X.prog X.w) A (compareOp .NotIn u (.ref a)) Q E s := by
 rcases g with ⟨kvs, k, e, ey, l⟩ | ⟨kvs, k, b, e, ey, eb, l⟩
 ·subst ey
  obtain ⟨z, hd, vs, rel, dd⟩ := Ziw I.hok e
  refine wpAny_notIn_of (Zko ry) hd dd.mapOf ?_
  rw [<- (rel.val k).isSome_eq, <- l]
  exact h _ (I.tok _)
 ·subst ey
  cases (show u = Value.ref b from ry)
  obtain ⟨z, hd, xs, rel, dd⟩ := ZiQ I.hok e
  refine wpAny_notIn_heap (tupleKind_room_in1 hu) (Zeg I.hok eb) hd dd ?_
  have q := (rel.val k).isSome_eq
  rw [Option.isSome_map] at q
  rw [<- q, <- l]
  exact h _ (I.tok _)
theorem ZfJ {h' : Heap} {t' : Nat} {ob : HO} (I : Inv X pins σ H s) (mu : Mut (H a)) (hs : Heap.SameBut a s.heap h') (he : ∃ q, h'.get? a = some q) (new : ZcE X.prog X.w (upd H a ob) h' a ob) :
 Inv X pins σ (upd H a ob) { s with heap := h', toks := t' } :=
 I.write (x := a) (e := a) mu (.inl rfl) (fun b q hb z => (hs.2 b hb).trans z) he new
theorem Zqr {P : Program} {w : World} {H' : Hp} {h' : Heap} {kvs : List (Key × V)} {vs : List (Key × Value)} (z : kvs.length <= sizeLine) (hd : (a == sysModules) = false) (rel : KV kvs vs) (dd : h'.DictOf (ZaZ P w) a vs) :
 ZcE P w H' h' a (.dK kvs) := ⟨z, hd, vs, rel, dd⟩
theorem ZlS {H' : Hp} {Q : Unit -> Shared -> Prop} (hu : A.units + 1 < cLine) (I : Inv X pins σ H s) (g : ZoS H a y v H') (ry : Zbg y u) (rv : Zbg v r) (h : ∀ s', Inv X pins σ H' s' -> Q () s') :
 wpAny (model X.prog X.w) A (setItem (.ref a) u r) Q E s := by
 rcases g with ⟨kvs, k, e, ey, l, eH⟩ | ⟨kvs, k, b, e, ey, eb, l, eH⟩
 ·subst ey eH
  obtain ⟨z, hd, vs, rel, dd⟩ := Zr6 I.hok e
  have hz : vs.length <= sizeLine := by rw [<- rel.length]; exact z
  have hl : (ZjI kvs k v).length <= sizeLine := by have := Zf4 kvs k v; omega
  refine wpAny_setItem_pairs (hsz := hz) (Zko ry) dd fun h' dd' hs => h _ ?_
  have he : ∃ q, h'.get? a = some q := let ⟨q, _, _, hq, _⟩ := dd'; ⟨q, hq⟩
  exact ZfJ I (by rw [e]; exact True.intro) hs he (Zqr hl hd (rel.put k rv) dd')
 ·subst ey eH
  cases (show u = Value.ref b from ry)
  obtain ⟨z, hd, xs, rel, dd⟩ := ZoD I.hok e
  have hz : xs.length <= sizeLine := by rw [<- Paired.length rel]; exact z
  have hl : (ZjI kvs k v).length <= sizeLine := by have := Zf4 kvs k v; omega
  refine wpAny_setItem_heap (hsz := hz) (tupleKind_room_in1 hu) (Zeg I.hok eb) dd fun h' dd' hs => h _ ?_
  obtain ⟨q, es, ep, hq, h2, h3, h4, _, h5⟩ := dd'
  refine ZfJ I (by rw [e]; exact True.intro) hs ⟨q, hq⟩ ⟨hl, hd, _, (rel.put k eb rv).keeps fun c ys ec => ?_, q, es, ep, hq, h2, h3, h4, h5⟩
  rw [Zag (Zqe ec e (fun z => nomatch z))]
  exact ec
end
section
variable {X : Cx} {pins : List (Addr × Obj)} {σ : St} {H : Hp} {s : Shared} {a : Addr} {kvs : List (Key × V)} {k : Key} {u : Value} {A : Around} {E : Value -> Shared -> Prop}
end
def Zsh (i : Expr) : Prop := ∀ ov iv, subscripted i false ov iv = operate [ov, iv] (getItem ov iv)
theorem Zot {prog : Program} {w : World} {A : Around} {E : Value -> Shared -> Prop} {s : Shared} {env : Env} {value slice : Expr} {pos : Pos} {T id : String} {Q : Value -> Shared -> Prop}
 (hl : typeLookup (.type T) "__getitem__" = pure (some (.builtin id))) (hs : Zsh slice)
 (h : wpAny (model prog w) A (eval value env) (fun o s₁ => wpAny (model prog w) A (eval slice env) (fun i s₂ => s₂.TypeIs o T /\ wpAny (model prog w) A (getItem o i) Q E s₂) E s₁) E s) :
 wpAny (model prog w) A (eval (.Subscript value slice pos) env) Q E s := by
 refine Subscript_ (wpAny_mono h (fun o s₁ h₁ => wpAny_mono h₁ (fun i s₂ h₂ => ?_) fun _ _ x => x) fun _ _ x => x)
 obtain ⟨hT, h₂⟩ := h₂
 unfold subscriptTail
 refine wpAny_bind ?_
 rw [getitemInPython_of_ne hT.not_modules]
 refine wpAny_bind (wpAny_specialOf hT hl ?_)
 have fin : wpAny (model prog w) A (subscripted slice false o i) (fun r s₃ => wpAny (model prog w) A (letTemporaryGo value o r >>= fun _ => pure r) Q E s₃) E s₂ := by
  rw [hs o i]
  exact wpAny_operating (wpAny_mono h₂ (fun r s₃ h₃ => wpAny_bind (wpAny_letTemporaryGo (wpAny_pure h₃))) fun _ _ x => x)
 first
  | exact wpAny_pure (wpAny_bind fin)
  | exact wpAny_bind (wpAny_pure (wpAny_bind fin))
  | exact wpAny_bind fin
theorem ZiM {X : Cx} {pins : List (Addr × Obj)} {σ : St} {H : Hp} {s : Shared} {a : Addr} {y : V} {o : Option V} (I : Inv X pins σ H s) (g : Zhb H a y o) : s.TypeIs (.ref a) "dict" := by
 rcases g with ⟨kvs, k, e, _, _⟩ | ⟨kvs, k, b, e, _, _, _⟩
 ·obtain ⟨_, _, vs, _, dd⟩ := Ziw I.hok e
  exact dd.typeIs
 ·obtain ⟨_, _, xs, _, dd⟩ := ZiQ I.hok e
  exact dd.typeIs
def Zqh (td ty : TE) : TE := fun σ H Q => td σ H fun x H1 => ty σ H1 fun y H2 => ∃ a v, x = .ref a /\ Zhb H2 a y (some v) /\ Q v H2
def ZrA (ty td : TE) : TE := fun σ H Q => ty σ H fun y H1 => td σ H1 fun x H2 => ∃ a o, x = .ref a /\ Zhb H2 a y o /\ Q (.bl o.isSome) H2
def Zmf (ty td : TE) : TE := fun σ H Q => ty σ H fun y H1 => td σ H1 fun x H2 => ∃ a o, x = .ref a /\ Zhb H2 a y o /\ Q (.bl (!o.isSome)) H2
def Zra (td ty tv : TE) : TS := fun D σ H => tv σ H fun v H1 => td σ H1 fun x H2 => ty σ H2 fun y H3 => ∃ a H4, x = .ref a /\ ZoS H3 a y v H4 /\ D.nx σ H4
section
variable {X : Cx} {o i e value : Expr} {pos pos' tpos : Pos} {td ty tv : TE}
theorem Zmn (hu : X.A.units + 1 < cLine) (ho : PE X o td) (hi : PE X i ty) (hs : Zsh i) : PE X (.Subscript o i pos) (Zqh td ty) := by
 intro pins s σ H Q I h
 refine Zot PySem.F.slot_dict_getitem.lookup hs (thn (ho pins s σ H _ I h) fun u s1 ⟨x, H1, I1, rx, q1⟩ => thn (hi pins s1 σ H1 _ I1 q1) fun iv s2 ⟨y, H2, I2, ry, a, v, ex, g, q2⟩ => ?_)
 subst ex
 obtain rfl : u = Value.ref a := rx
 exact ⟨ZiM I2 g, Zly hu I2 g ry fun w' s3 I3 rw' => ⟨v, H2, I3, rw', q2⟩⟩
theorem Zoh (hu : X.A.units + 1 < cLine) (hi : PE X i ty) (ho : PE X o td) : PC X .In i o (ZrA ty td) := by
 intro pins s σ H Q I h
 refine thn (hi pins s σ H _ I h) fun iv s1 ⟨y, H1, I1, ry, q1⟩ => thn (ho pins s1 σ H1 _ I1 q1) fun u s2 ⟨x, H2, I2, rx, a, ov, ex, g, q2⟩ => ?_
 subst ex
 obtain rfl : u = Value.ref a := rx
 exact Zs4 hu I2 g ry fun s3 I3 => ⟨.bl ov.isSome, H2, I3, rfl, q2⟩
theorem ZlE (hu : X.A.units + 1 < cLine) (hi : PE X i ty) (ho : PE X o td) : PC X .NotIn i o (Zmf ty td) := by
 intro pins s σ H Q I h
 refine thn (hi pins s σ H _ I h) fun iv s1 ⟨y, H1, I1, ry, q1⟩ => thn (ho pins s1 σ H1 _ I1 q1) fun u s2 ⟨x, H2, I2, rx, a, ov, ex, g, q2⟩ => ?_
 subst ex
 obtain rfl : u = Value.ref a := rx
 exact Zpz hu I2 g ry fun s3 I3 => ⟨.bl (!ov.isSome), H2, I3, rfl, q2⟩
theorem Zow (hu : X.A.units + 1 < cLine) (ho : PE X o td) (hi : PE X i ty) (hv : PE X value tv) (hs : swapsWith value (some (.Subscript o i pos')) pos.line X.env = pure false) :
 PS X (.Assign [.Subscript o i pos'] value pos) (Zra td ty tv) := by
 intro pins s σ H D I h
 refine wpAny_Assign_Subscript (thn (hv pins s σ H _ I h) fun r s1 ⟨v, H1, I1, rv, q1⟩ => thn (ho pins s1 σ H1 _ I1 q1) fun u s2 ⟨x, H2, I2, rx, q2⟩ => thn (hi pins s2 σ H2 _ I2 q2) fun iv s3 ⟨y, H3, I3, ry, a, H4, ex, g, q3⟩ => ?_) hs
 subst ex
 obtain rfl : u = Value.ref a := rx
 exact ZlS hu I3 g ry rv fun s4 I4 => ⟨σ, H4, I4, q3⟩
end
theorem ZjB {P : Program} {w : World} {H : Hp} (h : Heap) (hb : sysModules < h.objs.size) : ZcE P w H (h.push { cls := .type "dict", data := .dict #[] }) h.objs.size (.dT []) :=
 ⟨Nat.zero_le _, beq_eq_false_iff_ne.mpr (Ne.symm (Nat.ne_of_lt hb)), [], .nil, _, #[], 0, Heap.get?_push_size _ rfl, ⟨rfl, rfl, rfl⟩, rfl, rfl, List.nodup_nil⟩
def Zrm : TE := fun _ H Q => ∀ p, H p = none -> Q (.ref p) (upd H p (.dT []))
section
variable {X : Cx} {pos : Pos}
theorem Znl : PE X (.Dict [] [] pos) Zrm := fun pins s σ H Q I h =>
 wpAny_Dict_empty ⟨.ref s.heap.objs.size, _, I.laid (a := s.heap.objs.size) (o := .dT []) (t' := s.toks) (fun _ _ q => Heap.get?_push_of_some _ q) (Nat.le_refl _) (ZjB s.heap I.big), rfl, h _ (I.hok.fresh (Nat.le_refl _))⟩
end
structure M2 (X : Cx) (o : Expr) (m : Str) (apos : Pos) (e f : Expr) (cpos : Pos) : Prop where
 base : attributeBase o m X.env (eval o X.env) = eval o X.env
 few : ((backTo cpos (starEach [e, f] X.env)).all (fun x => !x.1) && (backToKw cpos (keywordEach [] X.env)).all (fun x => x.1.isSome)
  && decide (([e, f] : List Expr).length + ([] : List Keyword).length + (if ([] : List Keyword).isEmpty then 0 else 1) < 30)) = true
 line : (apos.endLine == cpos.line) = true
 trees : backTo cpos (starEach [e, f] X.env) = [(false, eval e X.env), (false, eval f X.env)]
def IsD (H : Hp) (a : Addr) : Prop := (∃ kvs, Rd H a (.dK kvs)) \/ ∃ kvs, Rd H a (.dT kvs)
theorem ZnW {X : Cx} {pins : List (Addr × Obj)} {σ : St} {H : Hp} {s : Shared} {a : Addr} (I : Inv X pins σ H s) (d : IsD H a) :
 s.TypeIs (.ref a) "dict" /\ (∀ b, Value.ref a = .ref b -> ∃ ob, s.heap.get? b = some ob /\ ob.dict = none) /\ (a == sysModules) = false := by
 rcases d with ⟨kvs, e⟩ | ⟨kvs, e⟩
 ·obtain ⟨_, hd, vs, _, dd⟩ := Ziw I.hok e
  refine ⟨dd.typeIs, fun b q => ?_, hd⟩
  cases q
  obtain ⟨ob, _, _, h1, h2, _⟩ := dd
  exact ⟨ob, h1, h2.2.1⟩
 ·obtain ⟨_, hd, xs, _, dd⟩ := ZiQ I.hok e
  refine ⟨dd.typeIs, fun b q => ?_, hd⟩
  cases q
  obtain ⟨ob, _, _, h1, h2, _⟩ := dd
  exact ⟨ob, h1, h2.2.1⟩
section
variable {X : Cx} {pins : List (Addr × Obj)} {σ : St} {H : Hp} {s : Shared} {a : Addr} {y d : V} {u r : Value} {o : Option V} {A : Around} {E : Value -> Shared -> Prop}
theorem Zqa {Q : Value -> Shared -> Prop} (hu : A.units + 1 < cLine) (I : Inv X pins σ H s) (g : Zhb H a y o) (ry : Zbg y u) (rd : Zbg d r) (h : ∀ w' s', Inv X pins σ H s' -> Zbg (o.getD d) w' -> Q w' s') :
 wpAny (model X.prog X.w) A (call (.builtin "dict.get") [.ref a, u, r]) Q E s := by
 rcases g with ⟨kvs, k, e, ey, l⟩ | ⟨kvs, k, b, e, ey, eb, l⟩
 ·subst ey
  obtain ⟨z, hd, vs, rel, dd⟩ := Ziw I.hok e
  refine call_meetsIn PySem.F.slot_dict_get dd.typeIs PySem.F.entry_dict_get (PySem.F.args_dict_get_3 _ _ _) (meets_dict_get_default (ZaZ X.prog X.w) a (Zko ry) hd r) ⟨_, dd.mapOf, h _ _ (I.tok _) ?_⟩
  rw [l]
  exact (rel.val k).getD rd
 ·subst ey
  cases (show u = Value.ref b from ry)
  obtain ⟨z, hd, xs, rel, dd⟩ := ZiQ I.hok e
  refine call_meetsIn PySem.F.slot_dict_get dd.typeIs PySem.F.entry_dict_get (PySem.F.args_dict_get_3 _ _ _) (meetsH_dict_get_default (tupleKind (ZaZ X.prog X.w)) a b hd r) ⟨tupleKind_room_in1 hu, k, xs, Zeg I.hok eb, dd, h _ _ (I.tok _) ?_⟩
  rw [l]
  exact (rel.val k).getD rd
end
def Zof (td ty tx : TE) : TE := fun σ H Q => td σ H fun x H1 => ∃ a, x = .ref a /\ IsD H1 a /\ ty σ H1 fun y H2 => tx σ H2 fun z H3 => ∃ o, Zhb H3 a y o /\ Q (o.getD z) H3
section
variable {X : Cx} {o e f : Expr} {apos cpos : Pos} {td ty tx : TE}
theorem ZmD (hu : X.A.units + 1 < cLine) (ho : PE X o td) (he : PE X e ty) (hf : PE X f tx) (m : M2 X o "get" apos e f cpos) : PE X (.Call (.Attribute o "get" apos) [e, f] [] cpos) (Zof td ty tx) := by
 intro pins s σ H Q I h
 refine wpAny_Call_method m.base m.few m.line PySem.F.plainAttrs_dict PySem.F.slot_dict_get PySem.F.type_dict_get (thn (ho pins s σ H _ I h) fun u s1 ⟨x, H1, I1, rx, a, ex, d, q1⟩ => ?_)
 subst ex
 obtain rfl : u = Value.ref a := rx
 obtain ⟨t1, t2, _⟩ := ZnW I1 d
 refine ⟨t1, t2, ?_⟩
 rw [m.trees]
 refine Calls.callWith_builtin rfl (Calls.evalArgs_plain (Calls.spliced_cons (thn (he pins s1 σ H1 _ I1 q1) fun iv s2 ⟨y, H2, I2, ry, q2⟩ =>
  Calls.spliced_cons (thn (hf pins s2 σ H2 _ I2 q2) fun fv s3 ⟨z, H3, I3, rz, ov, g, q3⟩ => Calls.spliced_nil ?_))))
 exact Zqa hu I3 g ry rz fun w' s4 I4 rw' => ⟨_, H3, I4, rw', q3⟩
end
section
variable {X : Cx} {pins : List (Addr × Obj)} {σ : St} {H : Hp} {s : Shared} {a : Addr} {kvs : List (Key × V)} {A : Around} {E : Value -> Shared -> Prop}
end
section
variable {X : Cx} {pins : List (Addr × Obj)} {σ : St} {H : Hp} {s : Shared} {a : Addr} {y : V} {u : Value} {A : Around} {E : Value -> Shared -> Prop}
end
end L2
namespace Mir
theorem Zhx {g : Nat -> Int} {l : Nat} (h : ∀ c, c <= l -> g c = 0) : ∀ m, Za1 g (l + 1 + m) = Za1 (fun j => g (l + 1 + j)) m
 | 0 => by
   show Za1 g (l + 1) = 0
   rw [Zaj (g := fun _ => 0) fun k hk => h k (by omega), ZaB]
 | m + 1 => by
   show Za1 g (l + 1 + m) + g (l + 1 + m) = _
   rw [Zhx h m]
   rfl
theorem ZeV (y : Yd) (b own : Nat -> Int) (l : Nat) : ∀ m, ZbN y b own l m = Za1 (fun j => if Zcx y (l + 1 + j) = some l then ZaJ y b own (l + 1 + j) else 0) m
 | 0 => rfl
 | m + 1 => by simp only [ZbN, Za1]; rw [ZeV y b own l m]
theorem ZkE {y : Yd} (ok : y.Ok) {c l : Nat} (hc : c < y.ls.length) (e : Zcx y c = some l) : l < c := by
 by_cases h0 : c = 0
 ·subst h0; rw [ok.up0] at e; cases e
 ·obtain ⟨a, ea, la⟩ := ok.ups c (by omega) hc
  rw [ea] at e
  cases e
  exact la
theorem ZhE {y : Yd} (ok : y.Ok) (b own : Nat -> Int) {l : Nat} (hl : l < y.ls.length) : Zd2 y b own l = own l + Za1 (fun c => if Zcx y c = some l then ZaJ y b own c else 0) y.ls.length := by
 rw [ZmK ok, ZeV]
 have e : y.ls.length = l + 1 + (y.ls.length - 1 - l) := by omega
 have h := Zhx (g := fun c => if Zcx y c = some l then ZaJ y b own c else 0) (l := l) (fun c hc => if_neg fun z => by
  have := ZkE ok (by omega) z
  omega) (y.ls.length - 1 - l)
 rw [<- e] at h
 rw [h]
section
variable (y : Yd) (b own : Nat -> Int)
end
section
variable {y : Yd} {b own : Nat -> Int}
theorem Zj9 (ok : y.Ok) : upL y 0 = [0] := by
 have := ok.l1
 rw [ZnM ok (by omega), if_pos rfl]
end
end Mir
namespace Mir
def ind (p : Prop) [Decidable p] : Int := if p then 1 else 0
theorem Zju {y : Yd} (ok : y.Ok) (l : Nat) (hl : l < y.ls.length) : ∀ n j, j < n -> j < y.ls.length ->
 ind (l ∈ upL y j) = ind (j = l) + Za1 (fun c => if Zcx y c = some l then ind (c ∈ upL y j) else 0) y.ls.length
 | 0, j, h, _ => by omega
 | n + 1, j, h, hj => by
   by_cases e : j = l
   ·subst e
    have z : Za1 (fun c => if Zcx y c = some j then ind (c ∈ upL y j) else 0) y.ls.length = 0 := by
     rw [Zaj (g := fun _ => 0) fun c hc => ?_, ZaB]
     by_cases u : Zcx y c = some j
     ·have := ZkE ok hc u
      have w : ¬ c ∈ upL y j := fun z => by have := Zoj y j c z; omega
      simp [u, ind, w]
     ·simp [u]
    rw [z]
    simp [ind, Zgu]
   ·by_cases j0 : j = 0
    ·subst j0
     have w : ¬ l ∈ upL y 0 := fun z => by rw [Zj9 ok] at z; simp at z; exact e z.symm
     have z : Za1 (fun c => if Zcx y c = some l then ind (c ∈ upL y 0) else 0) y.ls.length = 0 := by
      rw [Zaj (g := fun _ => 0) fun c hc => ?_, ZaB]
      by_cases u : Zcx y c = some l
      ·have c0 : ¬ c ∈ upL y 0 := fun z => by
        rw [Zj9 ok] at z
        simp at z
        subst z
        rw [ok.up0] at u
        cases u
       simp [u, ind, c0]
      ·simp [u]
     rw [z]
     simp [ind, w, e]
    ·obtain ⟨a, ea, la⟩ := ok.ups j (by omega) hj
     have ih := Zju ok l hl n a (by omega) (by omega)
     have m1 : (l ∈ upL y j) ↔ (l ∈ upL y a) := ZlX ok (by omega) hj ea l (fun z => e z.symm)
     have e1 : ind (l ∈ upL y j) = ind (l ∈ upL y a) := by unfold ind; simp only [m1]
     have e2 : ∀ c, c < y.ls.length -> (if Zcx y c = some l then ind (c ∈ upL y j) else 0) = (if Zcx y c = some l then ind (c ∈ upL y a) else 0) + (if c = j then ind (a = l) else 0) := by
      intro c hc
      by_cases z : c = j
      ·subst z
       have w : ¬ c ∈ upL y a := fun q => by have := Zoj y a c q; omega
       rw [ea]
       by_cases q : a = l
       ·subst q; simp [ind, Zgu, w]
       ·have : ¬ some a = some l := fun z => q (by injection z)
        simp [ind, q]
      ·have m2 : (c ∈ upL y j) ↔ (c ∈ upL y a) := ZlX ok (by omega) hj ea c z
       have : ind (c ∈ upL y j) = ind (c ∈ upL y a) := by unfold ind; simp only [m2]
       rw [this, if_neg z, Int.add_zero]
     rw [e1, ih, Zaj e2, Zcm, Zes, if_pos hj]
     have : ind (j = l) = 0 := by unfold ind; rw [if_neg e]
     omega
def ZfV (y : Yd) (m : Nat) (ln : Nat -> Nat) (f : Nat -> Int) (l : Nat) : Int := Za1 (fun k => f k * ind (l ∈ upL y (ln k))) m
theorem ZdH {y : Yd} (ok : y.Ok) {m : Nat} {ln : Nat -> Nat} (hln : ∀ k, k < m -> ln k < y.ls.length) (f : Nat -> Int) {l : Nat} (hl : l < y.ls.length) :
 ZfV y m ln f l = Za1 (fun k => f k * ind (ln k = l)) m + Za1 (fun c => if Zcx y c = some l then ZfV y m ln f c else 0) y.ls.length := by
 unfold ZfV
 have h1 : ∀ k, k < m -> f k * ind (l ∈ upL y (ln k)) = f k * ind (ln k = l) + Za1 (fun c => if Zcx y c = some l then f k * ind (c ∈ upL y (ln k)) else 0) y.ls.length := by
  intro k hk
  rw [Zju ok l hl _ (ln k) (Nat.lt_succ_self _) (hln k hk), Int.mul_add, <- ZdV]
  congr 1
  refine Zaj fun c _ => ?_
  by_cases u : Zcx y c = some l
  ·rw [if_pos u, if_pos u]
  ·rw [if_neg u, if_neg u, Int.mul_zero]
 rw [Zaj h1, Zcm, Ze0]
 congr 1
 refine Zaj fun c _ => ?_
 by_cases u : Zcx y c = some l
 ·simp only [if_pos u]
 ·simp only [if_neg u]
  rw [ZaB]
theorem no_more {y : Yd} (ok : y.Ok) {m : Nat} {ln : Nat -> Nat} (hln : ∀ k, k < m -> ln k < y.ls.length) {f : Nat -> Int} {b own : Nat -> Int} (ho : ∀ l, l < y.ls.length -> Za1 (fun k => f k * ind (ln k = l)) m <= own l) (hb : ∀ l, l < y.ls.length -> ZfV y m ln f l <= b l) :
 ∀ n l, y.ls.length <= l + n -> l < y.ls.length -> ZfV y m ln f l <= ZaJ y b own l
 | 0, l, h, hl => by omega
 | n + 1, l, h, hl => by
   have h1 : ZfV y m ln f l <= Zd2 y b own l := by
    rw [ZdH ok hln f hl, ZhE ok b own hl]
    refine Int.add_le_add (ho l hl) (Zbx fun c hc => ?_)
    by_cases u : Zcx y c = some l
    ·rw [if_pos u, if_pos u]
     have := ZkE ok hc u
     exact no_more ok hln ho hb n c (by omega) hc
    ·rw [if_neg u, if_neg u]
     exact Int.le_refl _
   have h2 := hb l hl
   unfold ZaJ
   omega
end Mir
namespace Mir
section
variable (y : Yd) (lf : (Nat -> Nat -> Int) -> Nat -> Nat -> Int) (gs : Nat -> Gs)
end
section
variable {y : Yd} {lf : (Nat -> Nat -> Int) -> Nat -> Nat -> Int} {gs : Nat -> Gs} {m : Nat}
end
end Mir
namespace Mir
structure Fr where
 t : Nat
 b : Nat
 deriving DecidableEq
def Fr.Ok (f : Fr) : Prop := 0 < f.b /\ Nat.gcd f.t f.b = 1
def phi (B : Nat) (f : Fr) : Nat := f.t * (B / f.b)
theorem ZkU {B : Nat} {f : Fr} (h : f.b ∣ B) : phi B f * f.b = f.t * B := by
 unfold phi
 rw [Nat.mul_assoc, Nat.div_mul_cancel h]
theorem Zik {B : Nat} (hB : 0 < B) {f g : Fr} (hf : f.b ∣ B) (hg : g.b ∣ B) (f0 : 0 < f.b) (g0 : 0 < g.b) : g.t * f.b < f.t * g.b ↔ phi B g < phi B f := by
 have e1 := ZkU hf
 have e2 := ZkU hg
 have p : 0 < f.b * g.b := Nat.mul_pos f0 g0
 have k1 : phi B g * (f.b * g.b) = (g.t * f.b) * B := by
  rw [Nat.mul_comm f.b g.b, <- Nat.mul_assoc, e2, Nat.mul_assoc, Nat.mul_comm B, <- Nat.mul_assoc]
 have k2 : phi B f * (f.b * g.b) = (f.t * g.b) * B := by
  rw [<- Nat.mul_assoc, e1, Nat.mul_assoc, Nat.mul_comm B, <- Nat.mul_assoc]
 constructor
 ·intro h
  have : (g.t * f.b) * B < (f.t * g.b) * B := Nat.mul_lt_mul_of_pos_right h hB
  rw [<- k1, <- k2] at this
  exact Nat.lt_of_mul_lt_mul_right this
 ·intro h
  have : phi B g * (f.b * g.b) < phi B f * (f.b * g.b) := Nat.mul_lt_mul_of_pos_right h p
  rw [k1, k2] at this
  exact Nat.lt_of_mul_lt_mul_right this
theorem ZrF {f g : Fr} (hf : f.Ok) (hg : g.Ok) (h : f.t * g.b = g.t * f.b) : f = g := by
 have d1 : f.b ∣ g.b := by
  have : f.b ∣ f.t * g.b := by rw [h]; exact Nat.dvd_mul_left ..
  exact (Nat.Coprime.dvd_of_dvd_mul_left (show Nat.Coprime f.b f.t by rw [Nat.Coprime, Nat.gcd_comm]; exact hf.2) this)
 have d2 : g.b ∣ f.b := by
  have : g.b ∣ g.t * f.b := by rw [<- h]; exact Nat.dvd_mul_left ..
  exact (Nat.Coprime.dvd_of_dvd_mul_left (show Nat.Coprime g.b g.t by rw [Nat.Coprime, Nat.gcd_comm]; exact hg.2) this)
 have e : f.b = g.b := Nat.dvd_antisymm d1 d2
 have e2 : f.t = g.t := by
  rw [e] at h
  exact Nat.eq_of_mul_eq_mul_right hg.1 h
 cases f
 cases g
 simp at e e2
 rw [e, e2]
theorem ZpC {B : Nat} (hB : 0 < B) {f g : Fr} (hf : f.Ok) (hg : g.Ok) (df : f.b ∣ B) (dg : g.b ∣ B) (h : phi B f = phi B g) : f = g := by
 have a := Zik hB df dg hf.1 hg.1
 have b := Zik hB dg df hg.1 hf.1
 refine ZrF hf hg ?_
 have n1 : ¬ g.t * f.b < f.t * g.b := fun z => by have := a.mp z; omega
 have n2 : ¬ f.t * g.b < g.t * f.b := fun z => by have := b.mp z; omega
 omega
def Zms (f g : Fr) : Bool := decide (g.t * f.b < f.t * g.b)
def ZkH (f : Fr) (rows : List Fr) : Nat := (rows.takeWhile (Zms f)).length
def Zn0 (f : Fr) (rows : List Fr) : List Fr := rows.take (ZkH f rows) ++ f :: rows.drop (ZkH f rows)
def ZkI (xs : List Fr) : List Fr := xs.foldl (fun rows f => Zn0 f rows) []
theorem ZhH (f : Fr) (rows : List Fr) : (Zn0 f rows).Perm (f :: rows) := by
 unfold Zn0
 have h := List.perm_middle (a := f) (l₁ := rows.take (ZkH f rows)) (l₂ := rows.drop (ZkH f rows))
 rwa [List.take_append_drop] at h
theorem Zgn : ∀ (xs acc : List Fr), (xs.foldl (fun rows f => Zn0 f rows) acc).Perm (acc ++ xs)
 | [], acc => by simp
 | f :: xs, acc => by
   have h := Zgn xs (Zn0 f acc)
   refine h.trans ?_
   refine ((ZhH f acc).append_right xs).trans ?_
   exact (List.perm_middle (a := f) (l₁ := acc) (l₂ := xs)).symm
theorem ZdP (xs : List Fr) : (ZkI xs).Perm xs := by
 have := Zgn xs []
 simpa [ZkI] using this
theorem Zjz (f : Fr) : ∀ rows : List Fr, ∀ g ∈ rows.take (ZkH f rows), Zms f g = true
 | [], g, h => by simp at h
 | r :: rows, g, h => by
   unfold ZkH at h
   by_cases c : Zms f r = true
   ·rw [List.takeWhile_cons, if_pos c, List.length_cons, List.take_succ_cons] at h
    rcases List.mem_cons.mp h with rfl | h
    ·exact c
    ·exact Zjz f rows g h
   ·rw [List.takeWhile_cons, if_neg c] at h
    simp at h
theorem ZjK (f : Fr) : ∀ rows : List Fr, ∀ g r, rows.drop (ZkH f rows) = g :: r -> Zms f g = false
 | [], g, r, h => by simp at h
 | x :: rows, g, r, h => by
   unfold ZkH at h
   by_cases c : Zms f x = true
   ·rw [List.takeWhile_cons, if_pos c, List.length_cons, List.drop_succ_cons] at h
    exact ZjK f rows g r h
   ·rw [List.takeWhile_cons, if_neg c] at h
    simp at h
    rw [<- h.1]
    simpa using c
section
variable {B : Nat} (hB : 0 < B)
theorem Zk5 (hB : 0 < B) {f : Fr} {rows : List Fr} (hf : f.b ∣ B) (f0 : 0 < f.b) (hr : ∀ g ∈ rows, g.b ∣ B /\ 0 < g.b) (h : rows.Pairwise (fun a b => phi B a <= phi B b)) : (Zn0 f rows).Pairwise (fun a b => phi B a <= phi B b) := by
 have lt : ∀ g ∈ rows.take (ZkH f rows), phi B g < phi B f := fun g hg => by
  obtain ⟨d, p⟩ := hr g (List.mem_of_mem_take hg)
  exact (Zik hB hf d f0 p).mp (of_decide_eq_true (Zjz f rows g hg))
 have hp := h
 rw [<- List.take_append_drop (ZkH f rows) rows, List.pairwise_append] at hp
 obtain ⟨p1, p2, p3⟩ := hp
 have ge : ∀ g ∈ rows.drop (ZkH f rows), phi B f <= phi B g := by
  cases e : rows.drop (ZkH f rows) with
  | nil => intro g hg; cases hg
  | cons x r =>
    have hx := of_decide_eq_false (ZjK f rows x r e)
    obtain ⟨d, p⟩ := hr x (List.mem_of_mem_drop (by rw [e]; exact List.mem_cons_self))
    have h1 : phi B f <= phi B x := by
     have : ¬ phi B x < phi B f := fun z => hx ((Zik hB hf d f0 p).mpr z)
     omega
    rw [e] at p2
    obtain ⟨q1, q2⟩ := List.pairwise_cons.mp p2
    intro g hg
    rcases List.mem_cons.mp hg with rfl | hg
    ·exact h1
    ·exact Nat.le_trans h1 (q1 g hg)
 unfold Zn0
 rw [List.pairwise_append]
 refine ⟨p1, List.pairwise_cons.mpr ⟨ge, p2⟩, fun a ha b hb => ?_⟩
 rcases List.mem_cons.mp hb with rfl | hb
 ·exact Nat.le_of_lt (lt a ha)
 ·exact Nat.le_trans (Nat.le_of_lt (lt a ha)) (ge b hb)
theorem Zf7 (hB : 0 < B) : ∀ (xs acc : List Fr), (∀ g ∈ xs, g.b ∣ B /\ 0 < g.b) -> (∀ g ∈ acc, g.b ∣ B /\ 0 < g.b) -> acc.Pairwise (fun a b => phi B a <= phi B b) -> (xs.foldl (fun rows f => Zn0 f rows) acc).Pairwise (fun a b => phi B a <= phi B b)
 | [], acc, _, _, h => h
 | f :: xs, acc, hx, ha, h => by
   obtain ⟨d, p⟩ := hx f List.mem_cons_self
   refine Zf7 hB xs (Zn0 f acc) (fun g hg => hx g (List.mem_cons_of_mem _ hg)) (fun g hg => ?_) (Zk5 hB d p ha h)
   rcases List.mem_cons.mp ((ZhH f acc).mem_iff.mp hg) with rfl | hg
   ·exact ⟨d, p⟩
   ·exact ha g hg
theorem Zkk (hB : 0 < B) {xs : List Fr} (hx : ∀ g ∈ xs, g.b ∣ B /\ 0 < g.b) : (ZkI xs).Pairwise (fun a b => phi B a <= phi B b) := Zf7 hB xs [] hx (fun g hg => (nomatch hg)) List.Pairwise.nil
end
def Zqo : List Fr -> List Fr -> Bool
 | f :: fs, g :: gs => if f = g then Zqo fs gs else decide (g.t * f.b < f.t * g.b)
 | _, _ => false
theorem ZmP {B : Nat} (hB : 0 < B) {f g : Fr} (hf : f.Ok) (hg : g.Ok) (df : f.b ∣ B) (dg : g.b ∣ B) : ((phi B f : Int) = (phi B g : Int) ↔ f = g) /\ ((phi B g : Int) < (phi B f : Int) ↔ g.t * f.b < f.t * g.b) := by
 refine ⟨⟨fun h => ZpC hB hf hg df dg (by omega), fun h => by rw [h]⟩, ?_⟩
 rw [Zik hB df dg hf.1 hg.1]
 omega
end Mir
namespace Mir
theorem Zlw {y : Yd} {m : Nat} {ln : Nat -> Nat} {f g : Nat -> Int} (h : ∀ k, k < m -> f k <= g k) (l : Nat) : ZfV y m ln f l <= ZfV y m ln g l :=
 Zbx fun k hk => by
  unfold ind
  split
  ·have := h k hk; omega
  ·omega
theorem Zpc {y : Yd} {m : Nat} {ln : Nat -> Nat} {f : Nat -> Int} (h : ∀ k, k < m -> 0 <= f k) (l : Nat) : 0 <= ZfV y m ln f l :=
 ZiR fun k hk => by
  unfold ind
  split
  ·have := h k hk; omega
  ·omega
structure Shut (y : Yd) (m : Nat) (ln : Nat -> Nat) (f mo : Nat -> Int) (b : Nat -> Int) (S R : Nat -> Bool) : Prop where
 nn : ∀ k, k < m -> 0 <= f k
 full : ∀ k, k < m -> S k = true -> R (ln k) = false -> f k = mo k
 none : ∀ k, k < m -> S k = false -> R (ln k) = true -> f k = 0
 top : R 0 = true -> ZfV y m ln f 0 = b 0
 out : ∀ c a, c < y.ls.length -> Zcx y c = some a -> R c = true -> R a = false -> ZfV y m ln f c = b c
 inn : ∀ c a, c < y.ls.length -> Zcx y c = some a -> R c = false -> R a = true -> ZfV y m ln f c = 0
def Za5 (S : Nat -> Bool) (f : Nat -> Int) : Nat -> Int := fun k => if S k = true then f k else 0
theorem Zg5 {S : Nat -> Bool} {f : Nat -> Int} {k : Nat} (h : 0 <= f k) : Za5 S f k <= f k := by
 unfold Za5
 split <;> omega
theorem ZjM {S : Nat -> Bool} {f : Nat -> Int} {k : Nat} (h : 0 <= f k) : 0 <= Za5 S f k := by
 unfold Za5
 split <;> omega
theorem Shut.alike {y : Yd} (ok : y.Ok) {m : Nat} {ln : Nat -> Nat} (hln : ∀ k, k < m -> ln k < y.ls.length) {f mo b : Nat -> Int} {S R : Nat -> Bool} (h : Shut y m ln f mo b S R) :
 ∀ n l, y.ls.length <= l + n -> l < y.ls.length -> R l = true -> ZfV y m ln f l = ZfV y m ln (Za5 S f) l
 | 0, l, h0, hl, _ => by omega
 | n + 1, l, h0, hl, hR => by
   rw [ZdH ok hln f hl, ZdH ok hln (Za5 S f) hl]
   congr 1
   ·refine Zaj fun k hk => ?_
    by_cases e : ln k = l
    ·have : f k = Za5 S f k := by
      unfold Za5
      cases s : S k with
      | true => simp
      | false => simp; exact h.none k hk s (by rw [e]; exact hR)
     rw [this]
    ·simp [ind, e]
   ·refine Zaj fun c hc => ?_
    by_cases u : Zcx y c = some l
    ·rw [if_pos u, if_pos u]
     have := ZkE ok hc u
     cases r : R c with
     | true => exact Shut.alike ok hln h n c (by omega) hc r
     | false =>
       have e := h.inn c l hc u r hR
       have q1 := Zlw (y := y) (ln := ln) (f := Za5 S f) (g := f) (fun k hk => Zg5 (S := S) (h.nn k hk)) c
       have q2 := Zpc (y := y) (ln := ln) (f := Za5 S f) (fun k hk => ZjM (S := S) (h.nn k hk)) c
       omega
    ·rw [if_neg u, if_neg u]
theorem Shut.all {y : Yd} (ok : y.Ok) {m : Nat} {ln : Nat -> Nat} (hln : ∀ k, k < m -> ln k < y.ls.length) {f mo b own : Nat -> Int} {S R : Nat -> Bool} (h : Shut y m ln f mo b S R)
 (ho : ∀ l, l < y.ls.length -> own l = Za1 (fun k => Za5 S mo k * ind (ln k = l)) m) :
 ∀ n l, y.ls.length <= l + n -> l < y.ls.length -> (R l = true -> l = 0 \/ ∃ a, Zcx y l = some a /\ R a = false) -> ZaJ y b own l <= ZfV y m ln (Za5 S f) l
 | 0, l, h0, hl, _ => by omega
 | n + 1, l, h0, hl, hU => by
   cases r : R l with
   | true =>
     have e : ZfV y m ln f l = b l := by
      rcases hU r with z | ⟨a, u, ra⟩
      ·subst z; exact h.top r
      ·exact h.out l a hl u r ra
     rw [<- h.alike ok hln (n + 1) l h0 hl r, e]
     unfold ZaJ
     omega
   | false =>
     have h1 : Zd2 y b own l <= ZfV y m ln (Za5 S f) l := by
      rw [ZdH ok hln _ hl, ZhE ok b own hl]
      refine Int.add_le_add ?_ (Zbx fun c hc => ?_)
      ·rw [ho l hl]
       refine Zbx fun k hk => ?_
       by_cases e : ln k = l
       ·have : Za5 S mo k = Za5 S f k := by
         unfold Za5
         cases s : S k with
         | true => simp; exact (h.full k hk s (by rw [e]; exact r)).symm
         | false => simp
        rw [this]
        exact Int.le_refl _
       ·simp [ind, e]
      ·by_cases u : Zcx y c = some l
       ·rw [if_pos u, if_pos u]
        have := ZkE ok hc u
        exact Shut.all ok hln h ho n c (by omega) hc (fun _ => .inr ⟨l, u, r⟩)
       ·rw [if_neg u, if_neg u]
        exact Int.le_refl _
     unfold ZaJ
     omega
end Mir
namespace Mir
section
variable {ν : Type} [DecidableEq ν]
abbrev Lay (ν : Type) := List (ν × ν × Int)
abbrev Phi (ν : Type) := ν -> ν -> Int
def ZfS (L : Lay ν) : List ν := L.flatMap fun x => [x.2.1, x.1]
def Zcq (L : Lay ν) (φ : Phi ν) : List Int := L.flatMap fun x => [x.2.2 - φ x.1 x.2.1, φ x.1 x.2.1]
def Dis (L : Lay ν) : Prop := (L.map fun x => (x.1, x.2.1)).Nodup
def Zhl (φ : Phi ν) (s e : ν) (a : Int) : Phi ν := fun p q => if p = s /\ q = e then φ p q + a else φ p q
theorem Zmu {α β : Type} (f g : α -> β) : ∀ (L : List α) (e : Nat), (L.flatMap fun x => [f x, g x])[e]? = L[e / 2]?.map (if e % 2 = 0 then f else g)
 | [], e => by simp
 | x :: L, 0 => by simp
 | x :: L, 1 => by simp
 | x :: L, e + 2 => by
   have h := Zmu f g L e
   have e1 : (e + 2) / 2 = e / 2 + 1 := by omega
   have e2 : (e + 2) % 2 = e % 2 := by omega
   rw [e1, e2, List.flatMap_cons, List.getElem?_cons_succ]
   simpa using h
def hdE (L : Lay ν) (e : Nat) : Option ν := L[e / 2]?.map fun x => if e % 2 = 0 then x.2.1 else x.1
def tlE (L : Lay ν) (e : Nat) : Option ν := L[e / 2]?.map fun x => if e % 2 = 0 then x.1 else x.2.1
def rmE (L : Lay ν) (φ : Phi ν) (e : Nat) : Option Int := L[e / 2]?.map fun x => if e % 2 = 0 then x.2.2 - φ x.1 x.2.1 else φ x.1 x.2.1
theorem Ziy (L : Lay ν) (e : Nat) : (ZfS L)[e]? = hdE L e := by
 unfold ZfS hdE
 rw [Zmu]
 congr 1
 split <;> rfl
theorem Ze4 (L : Lay ν) (φ : Phi ν) (e : Nat) : (Zcq L φ)[e]? = rmE L φ e := by
 unfold Zcq rmE
 rw [Zmu]
 congr 1
 split <;> rfl
def ZeD (e : Nat) : Nat := if e % 2 = 0 then e + 1 else e - 1
theorem ZlV (L : Lay ν) (e : Nat) : (ZfS L)[ZeD e]? = tlE L e := by
 rw [Ziy]
 unfold hdE tlE ZeD
 by_cases h : e % 2 = 0
 ·have h1 : (e + 1) / 2 = e / 2 := by omega
  have h2 : ¬ (e + 1) % 2 = 0 := by omega
  simp only [h, if_true, h1, h2, if_false]
 ·have h1 : (e - 1) / 2 = e / 2 := by omega
  have h2 : (e - 1) % 2 = 0 := by omega
  simp only [h, if_false, h1, h2, if_true]
def Zf6 (L : Lay ν) (F : ν -> ν -> Int) : Int := (L.map fun x => F x.1 x.2.1).sum
def ZgV (L : Lay ν) (φ : Phi ν) (n : ν) : Int := Zf6 L fun s e => φ s e * (ind (s = n) - ind (e = n))
theorem Zky {φ : Phi ν} {s e : ν} {a : Int} {L : Lay ν} (h : (s, e) ∉ L.map fun x => (x.1, x.2.1)) (G : Int -> ν -> ν -> Int) :
 Zf6 L (fun p q => G (Zhl φ s e a p q) p q) = Zf6 L fun p q => G (φ p q) p q := by
 unfold Zf6
 congr 1
 refine List.map_congr_left fun x hx => ?_
 have : ¬ (x.1 = s /\ x.2.1 = e) := fun ⟨z1, z2⟩ => h (List.mem_map.mpr ⟨x, hx, by rw [z1, z2]⟩)
 unfold Zhl
 dsimp only
 rw [if_neg this]
theorem Zii {φ : Phi ν} {a : Int} (G : Int -> ν -> ν -> Int) : ∀ {L : Lay ν}, Dis L -> ∀ {x : ν × ν × Int}, x ∈ L ->
 Zf6 L (fun p q => G (Zhl φ x.1 x.2.1 a p q) p q) = Zf6 L (fun p q => G (φ p q) p q) - G (φ x.1 x.2.1) x.1 x.2.1 + G (φ x.1 x.2.1 + a) x.1 x.2.1
 | [], _, _, h => by cases h
 | y :: L, hd, x, h => by
   unfold Dis at hd
   rw [List.map_cons, List.nodup_cons] at hd
   rcases List.mem_cons.mp h with rfl | h
   ·have := Zky (φ := φ) (a := a) hd.1 G
    have e : Zhl φ x.1 x.2.1 a x.1 x.2.1 = φ x.1 x.2.1 + a := by unfold Zhl; rw [if_pos ⟨rfl, rfl⟩]
    unfold Zf6 at this ⊢
    rw [List.map_cons, List.sum_cons, List.map_cons, List.sum_cons, this]
    dsimp only
    rw [e]
    omega
   ·have ih := Zii (φ := φ) (a := a) G (L := L) hd.2 h
    have ne : ¬ (y.1 = x.1 /\ y.2.1 = x.2.1) := fun ⟨z1, z2⟩ => hd.1 (List.mem_map.mpr ⟨x, h, by rw [z1, z2]⟩)
    have e : Zhl φ x.1 x.2.1 a y.1 y.2.1 = φ y.1 y.2.1 := by unfold Zhl; rw [if_neg ne]
    unfold Zf6 at ih ⊢
    rw [List.map_cons, List.sum_cons, List.map_cons, List.sum_cons, ih]
    dsimp only
    rw [e]
    omega
def Zeb (L : Lay ν) (a : Int) (φ : Phi ν) (e : Nat) : Phi ν :=
 match L[e / 2]? with
 | some x => Zhl φ x.1 x.2.1 (if e % 2 = 0 then a else -a)
 | none => φ
theorem Zl2 {L : Lay ν} (hd : Dis L) {φ : Phi ν} {a : Int} {e : Nat} {s t : ν} (ht : hdE L e = some t) (hs : tlE L e = some s) (n : ν) :
 ZgV L (Zeb L a φ e) n = ZgV L φ n + a * (ind (s = n) - ind (t = n)) := by
 unfold hdE at ht
 unfold tlE at hs
 cases ex : L[e / 2]? with
 | none => rw [ex] at ht; cases ht
 | some x =>
   rw [ex] at ht hs
   have hx : x ∈ L := List.mem_of_getElem? ex
   have hp : Zeb L a φ e = Zhl φ x.1 x.2.1 (if e % 2 = 0 then a else -a) := by unfold Zeb; rw [ex]
   rw [hp]
   unfold ZgV
   rw [Zii (fun v p q => v * (ind (p = n) - ind (q = n))) hd hx]
   simp only [Option.map_some, Option.some.injEq] at ht hs
   by_cases z : e % 2 = 0
   ·rw [if_pos z] at ht hs ⊢
    subst ht hs
    rw [Int.add_mul]
    omega
   ·rw [if_neg z] at ht hs ⊢
    subst ht hs
    rw [Int.add_mul, Int.neg_mul, Int.mul_sub a, Int.mul_sub a]
    omega
inductive Chain (L : Lay ν) (s : ν) : ν -> List Nat -> Prop
 | nil : Chain L s s []
 | cons {n m : ν} {e : Nat} {w : List Nat} (h : hdE L e = some n) (t : tlE L e = some m) (c : Chain L s m w) : Chain L s n (e :: w)
def ZfA (L : Lay ν) (a : Int) (φ : Phi ν) (w : List Nat) : Phi ν := w.foldl (Zeb L a) φ
theorem ZgO {L : Lay ν} (hd : Dis L) {s : ν} {a : Int} (p : ν) : ∀ {w : List Nat} {n : ν} {φ : Phi ν}, Chain L s n w -> ZgV L (ZfA L a φ w) p = ZgV L φ p + a * (ind (s = p) - ind (n = p))
 | _, _, φ, .nil => by
   show ZgV L φ p = _
   rw [Int.sub_self, Int.mul_zero, Int.add_zero]
 | e :: w, n, φ, .cons (m := m) h t c => by
   show ZgV L (ZfA L a (Zeb L a φ e) w) p = _
   rw [ZgO hd p c, Zl2 hd h t, Int.mul_sub, Int.mul_sub, Int.mul_sub]
   omega
def Within (L : Lay ν) (φ : Phi ν) : Prop := ∀ x ∈ L, 0 <= φ x.1 x.2.1 /\ φ x.1 x.2.1 <= x.2.2
theorem ZiX : ∀ {L : Lay ν}, Dis L -> ∀ {i j : Nat} {x y : ν × ν × Int}, L[i]? = some x -> L[j]? = some y -> x.1 = y.1 -> x.2.1 = y.2.1 -> i = j := fun {L} hd {i j x y} hi hj e1 e2 => by
 have a : (L.map fun x => (x.1, x.2.1))[i]? = some (x.1, x.2.1) := by rw [List.getElem?_map, hi]; rfl
 have b : (L.map fun x => (x.1, x.2.1))[j]? = some (x.1, x.2.1) := by rw [List.getElem?_map, hj, e1, e2]; rfl
 have li : i < (L.map fun x => (x.1, x.2.1)).length := (List.getElem?_eq_some_iff.mp a).1
 exact (List.getElem?_inj li hd).mp (a.trans b.symm)
theorem ZiA {L : Lay ν} (hd : Dis L) {φ : Phi ν} (h : Within L φ) {a : Int} (ha : 0 <= a) {e : Nat} {r : Int} (he : rmE L φ e = some r) (hr : a <= r) : Within L (Zeb L a φ e) := by
 unfold rmE at he
 cases ex : L[e / 2]? with
 | none => rw [ex] at he; cases he
 | some x =>
   rw [ex] at he
   simp only [Option.map_some, Option.some.injEq] at he
   have hx := h x (List.mem_of_getElem? ex)
   intro y hy
   have hyv := h y hy
   have hp : Zeb L a φ e = Zhl φ x.1 x.2.1 (if e % 2 = 0 then a else -a) := by unfold Zeb; rw [ex]
   rw [hp]
   unfold Zhl
   by_cases z : y.1 = x.1 /\ y.2.1 = x.2.1
   ·rw [if_pos z]
    obtain ⟨j, hj⟩ := List.mem_iff_getElem?.mp hy
    have ij := ZiX hd hj ex z.1 z.2
    subst ij
    rw [ex] at hj
    cases hj
    by_cases q : e % 2 = 0
    ·rw [if_pos q] at he ⊢; omega
    ·rw [if_neg q] at he ⊢; omega
   ·rw [if_neg z]; exact hyv
theorem Zm1 {L : Lay ν} (hd : Dis L) {φ : Phi ν} {a : Int} (ha : 0 <= a) {e e' : Nat} (ne : e' ≠ e) {r : Int} (he : rmE L φ e' = some r) : ∃ r', rmE L (Zeb L a φ e) e' = some r' /\ r <= r' := by
 unfold rmE at he ⊢
 cases ey : L[e' / 2]? with
 | none => rw [ey] at he; cases he
 | some y =>
   rw [ey] at he
   simp only [Option.map_some, Option.some.injEq] at he ⊢
   refine ⟨_, rfl, ?_⟩
   unfold Zeb
   cases ex : L[e / 2]? with
   | none => simp only []; omega
   | some x =>
     simp only []
     unfold Zhl
     by_cases z : y.1 = x.1 /\ y.2.1 = x.2.1
     ·rw [if_pos z]
      have ij := ZiX hd ey ex z.1 z.2
      by_cases q : e % 2 = 0
      ·have q' : ¬ e' % 2 = 0 := by omega
       rw [if_neg q'] at he ⊢
       rw [if_pos q]; omega
      ·have q' : e' % 2 = 0 := by omega
       rw [if_pos q'] at he ⊢
       rw [if_neg q]; omega
     ·rw [if_neg z]; omega
theorem ZfY {L : Lay ν} (hd : Dis L) {a : Int} (ha : 0 <= a) : ∀ {w : List Nat} {φ : Phi ν}, Within L φ -> w.Nodup -> (∀ e ∈ w, ∃ r, rmE L φ e = some r /\ a <= r) -> Within L (ZfA L a φ w)
 | [], _, h, _, _ => h
 | e :: w, φ, h, hn, hw => by
   obtain ⟨h1, h2⟩ := List.nodup_cons.mp hn
   obtain ⟨r, er, lr⟩ := hw e List.mem_cons_self
   show Within L (ZfA L a (Zeb L a φ e) w)
   refine ZfY hd ha (ZiA hd h ha er lr) h2 fun e' he' => ?_
   obtain ⟨r', er', lr'⟩ := hw e' (List.mem_cons_of_mem _ he')
   obtain ⟨q, eq, lq⟩ := Zm1 hd ha (e := e) (fun z => h1 (z ▸ he')) er'
   exact ⟨q, eq, by omega⟩
abbrev Got (ν : Type) := List (ν × Option Nat)
def Za4 (es : Got ν) : List ν := es.map (·.1)
inductive Tree (L : Lay ν) (φ : Phi ν) (s : ν) : Got ν -> Prop
 | root : Tree L φ s [(s, none)]
 | add {es : Got ν} {e : Nat} {n m : ν} {r : Int} (t : Tree L φ s es) (hn : n ∉ Za4 es) (hh : hdE L e = some n) (ht : tlE L e = some m) (hm : m ∈ Za4 es) (hr : rmE L φ e = some r) (h0 : 0 < r) : Tree L φ s (es ++ [(n, some e)])
def ZhZ (es : Got ν) (n : ν) : Option (Option Nat) := es.lookup n
theorem Zi6 {es : Got ν} {n : ν} : n ∉ Za4 es -> es.lookup n = none := by
 induction es with
 | nil => intro _; rfl
 | cons p es ih =>
   intro h
   have h1 : n ≠ p.1 := fun z => h (by rw [z]; exact List.mem_cons_self)
   have h2 : n ∉ Za4 es := fun z => h (List.mem_cons_of_mem _ z)
   obtain ⟨k, v⟩ := p
   rw [List.lookup_cons]
   have : (n == k) = false := by rw [beq_eq_false_iff_ne]; exact h1
   rw [this]
   exact ih h2
theorem ZeC {es fs : Got ν} {n : ν} : (es ++ fs).lookup n = (es.lookup n).or (fs.lookup n) := by
 induction es with
 | nil => rfl
 | cons p es ih =>
   obtain ⟨k, v⟩ := p
   rw [List.cons_append, List.lookup_cons, List.lookup_cons]
   cases (n == k)
   ·exact ih
   ·rfl
inductive Back (L : Lay ν) (es : Got ν) : ν -> List Nat -> Prop
 | nil {n : ν} (h : ZhZ es n = some none) : Back L es n []
 | cons {n m : ν} {e : Nat} {w : List Nat} (h : ZhZ es n = some (some e)) (t : tlE L e = some m) (b : Back L es m w) : Back L es n (e :: w)
theorem Back.app {L : Lay ν} {es fs : Got ν} : ∀ {w : List Nat} {n : ν}, Back L es n w -> Back L (es ++ fs) n w
 | _, _, .nil h => .nil (by unfold ZhZ at h ⊢; rw [ZeC, h]; rfl)
 | _, _, .cons h t b => .cons (by unfold ZhZ at h ⊢; rw [ZeC, h]; rfl) t b.app
structure WayOk (L : Lay ν) (φ : Phi ν) (s : ν) (es : Got ν) (n : ν) (w : List Nat) : Prop where
 back : Back L es n w
 chain : Chain L s n w
 nodup : w.Nodup
 room : ∀ e ∈ w, ∃ r, rmE L φ e = some r /\ 0 < r
 heads : ∀ e ∈ w, ∃ m, hdE L e = some m /\ m ∈ Za4 es
theorem Tree.way {L : Lay ν} {φ : Phi ν} {s : ν} : ∀ {es : Got ν}, Tree L φ s es -> ∀ n ∈ Za4 es, ∃ w, WayOk L φ s es n w
 | _, .root, n, hn => by
   have e : n = s := by simpa [Za4] using hn
   subst e
   exact ⟨[], .nil (by simp [ZhZ]), .nil, List.nodup_nil, (fun e h => nomatch h), (fun e h => nomatch h)⟩
 | _, .add (es := es) (e := e) (n := k) (m := m) t hk hh ht hm hr h0, n, hn => by
   have hn' : n ∈ Za4 es \/ n = k := by simpa [Za4] using hn
   have sub : ∀ p, p ∈ Za4 es -> p ∈ Za4 (es ++ [(k, some e)]) := fun p hp => by
    unfold Za4 at hp ⊢
    rw [List.map_append]
    exact List.mem_append_left _ hp
   rcases hn' with hn' | rfl
   ·obtain ⟨w, q⟩ := t.way n hn'
    exact ⟨w, q.back.app, q.chain, q.nodup, q.room, fun e' he' => let ⟨m', a, b⟩ := q.heads e' he'; ⟨m', a, sub _ b⟩⟩
   ·obtain ⟨w, q⟩ := t.way m hm
    refine ⟨e :: w, .cons ?_ ht q.back.app, .cons hh ht q.chain, List.nodup_cons.mpr ⟨fun z => ?_, q.nodup⟩, fun e' he' => ?_, fun e' he' => ?_⟩
    ·unfold ZhZ
     rw [ZeC, Zi6 hk]
     simp
    ·obtain ⟨m', a, b⟩ := q.heads e z
     rw [hh] at a
     cases a
     exact hk b
    ·rcases List.mem_cons.mp he' with rfl | he'
     ·exact ⟨_, hr, h0⟩
     ·exact q.room e' he'
    ·rcases List.mem_cons.mp he' with rfl | he'
     ·exact ⟨n, hh, by simp [Za4]⟩
     ·obtain ⟨m', a, b⟩ := q.heads e' he'
      exact ⟨m', a, sub _ b⟩
theorem Tree.nodup {L : Lay ν} {φ : Phi ν} {s : ν} : ∀ {es : Got ν}, Tree L φ s es -> (Za4 es).Nodup
 | _, .root => by simp [Za4]
 | _, .add (n := k) t hk _ _ _ _ _ => by
   have := t.nodup
   unfold Za4 at this hk ⊢
   rw [List.map_append, List.nodup_append]
   refine ⟨this, by simp, fun a ha b hb => ?_⟩
   have e : b = k := by simpa using hb
   exact fun z => hk (e ▸ z ▸ ha)
theorem Tree.start {L : Lay ν} {φ : Phi ν} {s : ν} : ∀ {es : Got ν}, Tree L φ s es -> s ∈ Za4 es
 | _, .root => by simp [Za4]
 | _, .add t _ _ _ _ _ _ => by
   have := t.start
   unfold Za4 at this ⊢
   rw [List.map_append]
   exact List.mem_append_left _ this
theorem Tree.sub {L : Lay ν} {φ : Phi ν} {s : ν} : ∀ {es : Got ν}, Tree L φ s es -> ∀ n ∈ Za4 es, n ∈ s :: ZfS L
 | _, .root, n, hn => by
   have e : n = s := by simpa [Za4] using hn
   rw [e]
   exact List.mem_cons_self
 | _, .add (es := es) (n := k) t hk hh _ _ _ _, n, hn => by
   have hn' : n ∈ Za4 es \/ n = k := by simpa [Za4] using hn
   rcases hn' with hn' | rfl
   ·exact t.sub n hn'
   ·exact List.mem_cons_of_mem _ (List.mem_of_getElem? ((Ziy L _).trans hh))
theorem Zfr {α : Type} [DecidableEq α] : ∀ {xs ys : List α}, xs.Nodup -> (∀ x ∈ xs, x ∈ ys) -> xs.length <= ys.length
 | [], _, _, _ => Nat.zero_le _
 | x :: xs, ys, hd, h => by
   obtain ⟨h1, h2⟩ := List.nodup_cons.mp hd
   have hx := h x List.mem_cons_self
   have := Zfr (xs := xs) (ys := ys.erase x) h2 fun z hz => by
    have ne : z ≠ x := fun q => h1 (q ▸ hz)
    exact (List.mem_erase_of_ne ne).mpr (h z (List.mem_cons_of_mem _ hz))
   rw [List.length_erase_of_mem hx] at this
   have : 0 < ys.length := List.length_pos_of_mem hx
   rw [List.length_cons]
   omega
theorem Tree.len {L : Lay ν} {φ : Phi ν} {s : ν} {es : Got ν} (t : Tree L φ s es) : es.length <= (ZfS L).length + 1 := by
 have := Zfr t.nodup t.sub
 simpa [Za4] using this
def ZcM (L : Lay ν) (φ : Phi ν) (es : Got ν) : Prop := ∀ e m n r, tlE L e = some m -> hdE L e = some n -> rmE L φ e = some r -> 0 < r -> m ∈ Za4 es -> n ∈ Za4 es
end
end Mir
namespace Mir
inductive Nd where
 | start | fin
 | guest (k : Nat)
 | line (l t : Nat)
deriving DecidableEq
structure Gv where
 m : Nat
 ln : Nat -> Nat
 wa : Nat -> Int
 mo : Nat -> Int
 th : Nat -> Nat -> Bool
def upN (y : Yd) (l : Nat) : Nat := (Zcx y l).getD 0
def Zfy (y : Yd) (G : Gv) (k : Nat) : Lay Nd := (.start, .guest k, G.wa k) :: (List.range y.T).flatMap fun t => if G.th k t = true then [(.guest k, .line (G.ln k) t, G.mo k)] else []
def Zhc (y : Yd) (t : Nat) : Lay Nd := (.line 0 t, .fin, Zbc y 0 t) :: (List.range (y.ls.length - 1)).flatMap fun i => [(.line (i + 1) t, .line (upN y (i + 1)) t, Zbc y (i + 1) t)]
def ZcK (y : Yd) (G : Gv) : Lay Nd := (List.range G.m).flatMap (Zfy y G) ++ (List.range y.T).flatMap (Zhc y)
theorem Zjy (A B : Lay Nd) (F : Nd -> Nd -> Int) : Zf6 (A ++ B) F = Zf6 A F + Zf6 B F := by
 unfold Zf6
 rw [List.map_append, List.sum_append]
theorem Zdv (f : Nat -> Lay Nd) (F : Nd -> Nd -> Int) : ∀ n, Zf6 ((List.range n).flatMap f) F = Za1 (fun k => Zf6 (f k) F) n
 | 0 => rfl
 | n + 1 => by
   rw [List.range_succ, List.flatMap_append, Zjy, Zdv f F n]
   simp [Za1]
theorem ZjE (x : Nd × Nd × Int) (F : Nd -> Nd -> Int) : Zf6 [x] F = F x.1 x.2.1 := by simp [Zf6]
theorem Zho (x : Nd × Nd × Int) (L : Lay Nd) (F : Nd -> Nd -> Int) : Zf6 (x :: L) F = F x.1 x.2.1 + Zf6 L F := by simp [Zf6]
theorem Zl4 (y : Yd) (G : Gv) (F : Nd -> Nd -> Int) (k : Nat) : Zf6 (Zfy y G k) F = F .start (.guest k) + Za1 (fun t => if G.th k t = true then F (.guest k) (.line (G.ln k) t) else 0) y.T := by
 unfold Zfy
 rw [Zho, Zdv]
 congr 1
 refine Zaj fun t _ => ?_
 split
 ·rw [ZjE]
 ·rfl
theorem Zmk (y : Yd) (F : Nd -> Nd -> Int) (t : Nat) : Zf6 (Zhc y t) F = F (.line 0 t) .fin + Za1 (fun i => F (.line (i + 1) t) (.line (upN y (i + 1)) t)) (y.ls.length - 1) := by
 unfold Zhc
 rw [Zho, Zdv]
 congr 1
 refine Zaj fun t _ => ?_
 rw [ZjE]
theorem Zfw (y : Yd) (G : Gv) (F : Nd -> Nd -> Int) : Zf6 (ZcK y G) F =
 Za1 (fun k => F .start (.guest k) + Za1 (fun t => if G.th k t = true then F (.guest k) (.line (G.ln k) t) else 0) y.T) G.m +
 Za1 (fun t => F (.line 0 t) .fin + Za1 (fun i => F (.line (i + 1) t) (.line (upN y (i + 1)) t)) (y.ls.length - 1)) y.T := by
 unfold ZcK
 rw [Zjy, Zdv, Zdv]
 congr 1
 ·exact Zaj fun k _ => Zl4 y G F k
 ·exact Zaj fun t _ => Zmk y F t
theorem ZcA {y : Yd} {G : Gv} {x : Nd × Nd × Int} {k : Nat} : x ∈ Zfy y G k ↔ x = (.start, .guest k, G.wa k) \/ ∃ t, t < y.T /\ G.th k t = true /\ x = (.guest k, .line (G.ln k) t, G.mo k) := by
 unfold Zfy
 rw [List.mem_cons, List.mem_flatMap]
 refine or_congr Iff.rfl ⟨fun ⟨t, ht, hx⟩ => ?_, fun ⟨t, ht, hc, hx⟩ => ⟨t, List.mem_range.mpr ht, by rw [if_pos hc]; exact List.mem_singleton.mpr hx⟩⟩
 by_cases c : G.th k t = true
 ·rw [if_pos c] at hx
  exact ⟨t, List.mem_range.mp ht, c, List.mem_singleton.mp hx⟩
 ·rw [if_neg c] at hx; cases hx
theorem Zdg {y : Yd} {x : Nd × Nd × Int} {t : Nat} : x ∈ Zhc y t ↔ x = (.line 0 t, .fin, Zbc y 0 t) \/ ∃ i, i < y.ls.length - 1 /\ x = (.line (i + 1) t, .line (upN y (i + 1)) t, Zbc y (i + 1) t) := by
 unfold Zhc
 rw [List.mem_cons, List.mem_flatMap]
 exact or_congr Iff.rfl ⟨fun ⟨i, hi, hx⟩ => ⟨i, List.mem_range.mp hi, List.mem_singleton.mp hx⟩, fun ⟨i, hi, hx⟩ => ⟨i, List.mem_range.mpr hi, List.mem_singleton.mpr hx⟩⟩
theorem Zew {y : Yd} {G : Gv} {x : Nd × Nd × Int} : x ∈ ZcK y G ↔ (∃ k, k < G.m /\ x ∈ Zfy y G k) \/ ∃ t, t < y.T /\ x ∈ Zhc y t := by
 unfold ZcK
 rw [List.mem_append, List.mem_flatMap, List.mem_flatMap]
 simp only [List.mem_range]
theorem Zfb (n : Nat) : (List.range n).Pairwise (· ≠ ·) := List.nodup_range
theorem Zfl (y : Yd) (G : Gv) : Dis (ZcK y G) := by
 unfold Dis List.Nodup
 rw [List.pairwise_map]
 unfold ZcK
 rw [List.pairwise_append]
 refine ⟨?_, ?_, ?_⟩
 ·rw [List.pairwise_flatMap]
  refine ⟨fun k _ => ?_, (Zfb _).imp fun {k j} hkj x hx z hz => ?_⟩
  ·unfold Zfy
   rw [List.pairwise_cons]
   refine ⟨fun x hx => ?_, ?_⟩
   ·obtain ⟨t, _, hx⟩ := List.mem_flatMap.mp hx
    split at hx
    ·rw [List.mem_singleton.mp hx]; intro q; cases q
    ·cases hx
   ·rw [List.pairwise_flatMap]
    refine ⟨fun t _ => ?_, (Zfb _).imp fun {t u} htu x hx z hz => ?_⟩
    ·split
     ·exact List.pairwise_singleton _ _
     ·exact List.Pairwise.nil
    ·split at hx
     ·split at hz
      ·rw [List.mem_singleton.mp hx, List.mem_singleton.mp hz]
       intro q
       simp at q
       exact htu q
      ·cases hz
     ·cases hx
  ·rcases ZcA.mp hx with rfl | ⟨t, _, _, rfl⟩ <;> rcases ZcA.mp hz with rfl | ⟨u, _, _, rfl⟩ <;> intro q <;> simp at q
   ·exact hkj q
   ·exact hkj q.1
 ·rw [List.pairwise_flatMap]
  refine ⟨fun t _ => ?_, (Zfb _).imp fun {t u} htu x hx z hz => ?_⟩
  ·unfold Zhc
   rw [List.pairwise_cons]
   refine ⟨fun x hx => ?_, ?_⟩
   ·obtain ⟨i, _, hx⟩ := List.mem_flatMap.mp hx
    rw [List.mem_singleton.mp hx]; intro q; cases q
   ·rw [List.pairwise_flatMap]
    refine ⟨fun t _ => List.pairwise_singleton _ _, (Zfb _).imp fun {i j} hij x hx z hz => ?_⟩
    rw [List.mem_singleton.mp hx, List.mem_singleton.mp hz]
    intro q
    simp at q
    exact hij q.1
  ·rcases Zdg.mp hx with rfl | ⟨i, _, rfl⟩ <;> rcases Zdg.mp hz with rfl | ⟨j, _, rfl⟩ <;> intro q <;> simp at q
   ·exact htu q
   ·exact htu q.1.2
 ·intro x hx z hz
  obtain ⟨k, _, hx⟩ := List.mem_flatMap.mp hx
  obtain ⟨t, _, hz⟩ := List.mem_flatMap.mp hz
  rcases ZcA.mp hx with rfl | ⟨t', _, _, rfl⟩ <;> rcases Zdg.mp hz with rfl | ⟨j, _, rfl⟩ <;> intro q <;> simp at q
end Mir
namespace Mir
def ZdC (G : Gv) (φ : Phi Nd) (t k : Nat) : Int := if G.th k t = true then φ (.guest k) (.line (G.ln k) t) else 0
def upF (y : Yd) (φ : Phi Nd) (t l : Nat) : Int := if l = 0 then φ (.line 0 t) .fin else φ (.line l t) (.line (upN y l) t)
theorem ZfK (f : Nat -> Int) : ∀ n, Za1 f (n + 1) = f 0 + Za1 (fun i => f (i + 1)) n
 | 0 => by simp [Za1]
 | n + 1 => by
   show Za1 f (n + 1) + f (n + 1) = _
   rw [ZfK f n]
   simp [Za1]
   omega
theorem Zb7 {p : Prop} [Decidable p] (h : ¬ p) : ind p = 0 := if_neg h
theorem ZgB {p q : Prop} [Decidable p] [Decidable q] (h : p ↔ q) : ind p = ind q := by unfold ind; simp only [h]
theorem ZjN (y : Yd) (G : Gv) (φ : Phi Nd) {k0 : Nat} (hk : k0 < G.m) : ZgV (ZcK y G) φ (.guest k0) = Za1 (fun t => ZdC G φ t k0) y.T - φ .start (.guest k0) := by
 unfold ZgV
 rw [Zfw]
 have h2 : Za1 (fun t => φ (.line 0 t) .fin * (ind (Nd.line 0 t = .guest k0) - ind (Nd.fin = .guest k0)) + Za1 (fun i => φ (.line (i + 1) t) (.line (upN y (i + 1)) t) * (ind (Nd.line (i + 1) t = .guest k0) - ind (Nd.line (upN y (i + 1)) t = .guest k0))) (y.ls.length - 1)) y.T = 0 := by
  rw [Zaj (g := fun _ => 0) fun t _ => ?_, ZaB]
  rw [Zb7 (fun z => nomatch z), Zb7 (fun z => nomatch z), Zaj (g := fun _ => 0) fun i _ => ?_, ZaB]
  ·simp
  ·rw [Zb7 (fun z => nomatch z), Zb7 (fun z => nomatch z)]; simp
 rw [h2, Int.add_zero]
 rw [Zaj (g := fun k => if k = k0 then Za1 (fun t => ZdC G φ t k0) y.T - φ .start (.guest k0) else 0) fun k _ => ?_, Zes, if_pos hk]
 rw [Zb7 (p := Nd.start = .guest k0) (fun z => nomatch z)]
 by_cases e : k = k0
 ·subst e
  rw [if_pos rfl]
  have : Za1 (fun t => if G.th k t = true then φ (.guest k) (.line (G.ln k) t) * (ind (Nd.guest k = .guest k) - ind (Nd.line (G.ln k) t = .guest k)) else 0) y.T = Za1 (fun t => ZdC G φ t k) y.T := by
   refine Zaj fun t _ => ?_
   unfold ZdC
   split
   ·rw [Zb7 (p := Nd.line (G.ln k) t = .guest k) (fun z => nomatch z)]
    simp [ind]
   ·rfl
  rw [this]
  simp [ind]
  omega
 ·have ne : ¬ Nd.guest k = .guest k0 := fun z => e (by injection z)
  rw [if_neg e, Zb7 ne, Zaj (g := fun _ => 0) fun t _ => ?_, ZaB]
  ·simp
  ·rw [Zb7 (p := Nd.line (G.ln k) t = .guest k0) (fun z => nomatch z)]
   simp
theorem ZgQ {y : Yd} (ok : y.Ok) {c l : Nat} (h0 : 0 < c) (hc : c < y.ls.length) : upN y c = l ↔ Zcx y c = some l := by
 obtain ⟨a, ea, _⟩ := ok.ups c h0 hc
 unfold upN
 rw [ea]
 simp
theorem Zmd {y : Yd} (ok : y.Ok) (G : Gv) (φ : Phi Nd) {l t0 : Nat} (hl : l < y.ls.length) (ht : t0 < y.T) : ZgV (ZcK y G) φ (.line l t0) =
 upF y φ t0 l - Za1 (fun k => ZdC G φ t0 k * ind (G.ln k = l)) G.m - Za1 (fun c => if Zcx y c = some l then upF y φ t0 c else 0) y.ls.length := by
 unfold ZgV
 rw [Zfw]
 have h1 : Za1 (fun k => φ .start (.guest k) * (ind (Nd.start = .line l t0) - ind (Nd.guest k = .line l t0)) + Za1 (fun t => if G.th k t = true then φ (.guest k) (.line (G.ln k) t) * (ind (Nd.guest k = .line l t0) - ind (Nd.line (G.ln k) t = .line l t0)) else 0) y.T) G.m = - Za1 (fun k => ZdC G φ t0 k * ind (G.ln k = l)) G.m := by
  rw [show - Za1 (fun k => ZdC G φ t0 k * ind (G.ln k = l)) G.m = (-1) * Za1 (fun k => ZdC G φ t0 k * ind (G.ln k = l)) G.m by omega, <- ZdV]
  refine Zaj fun k _ => ?_
  rw [Zb7 (p := Nd.start = .line l t0) (fun z => nomatch z), Zb7 (p := Nd.guest k = .line l t0) (fun z => nomatch z)]
  rw [Zaj (g := fun t => if t = t0 then - (ZdC G φ t0 k * ind (G.ln k = l)) else 0) fun t _ => ?_, Zes, if_pos ht]
  ·simp
  ·by_cases e : t = t0
   ·subst e
    rw [if_pos rfl, ZgB (p := Nd.line (G.ln k) t = .line l t) (q := G.ln k = l) (by simp)]
    unfold ZdC
    split
    ·rw [Int.zero_sub, Int.mul_neg]
    ·simp
   ·rw [if_neg e, Zb7 (p := Nd.line (G.ln k) t = .line l t0) (fun z => e (by injection z))]
    simp
 rw [h1]
 have h2 : Za1 (fun t => φ (.line 0 t) .fin * (ind (Nd.line 0 t = .line l t0) - ind (Nd.fin = .line l t0)) + Za1 (fun i => φ (.line (i + 1) t) (.line (upN y (i + 1)) t) * (ind (Nd.line (i + 1) t = .line l t0) - ind (Nd.line (upN y (i + 1)) t = .line l t0))) (y.ls.length - 1)) y.T
  = upF y φ t0 l - Za1 (fun c => if Zcx y c = some l then upF y φ t0 c else 0) y.ls.length := by
  rw [Zaj (g := fun t => if t = t0 then upF y φ t0 l - Za1 (fun c => if Zcx y c = some l then upF y φ t0 c else 0) y.ls.length else 0) fun t _ => ?_, Zes, if_pos ht]
  rw [Zb7 (p := Nd.fin = .line l t0) (fun z => nomatch z)]
  by_cases e : t = t0
  ·subst e
   rw [if_pos rfl, ZgB (p := Nd.line 0 t = .line l t) (q := 0 = l) (by simp)]
   have hn : y.ls.length = (y.ls.length - 1) + 1 := by omega
   have e1 : upF y φ t l = Za1 (fun c => if c = l then upF y φ t l else 0) y.ls.length := by rw [Zes, if_pos hl]
   have e2 : ∀ c, c < y.ls.length -> (if c = l then upF y φ t l else 0) = upF y φ t c * ind (c = l) := fun c _ => by
    by_cases q : c = l
    ·subst q; simp [ind]
    ·simp [ind, q]
   rw [e1, Zaj e2, hn, ZfK, ZfK]
   have u0 : ¬ Zcx y 0 = some l := fun z => by rw [ok.up0] at z; cases z
   have f0 : upF y φ t 0 = φ (.line 0 t) .fin := by unfold upF; rw [if_pos rfl]
   rw [if_neg u0, f0, <- hn]
   have e3 : Za1 (fun i => φ (.line (i + 1) t) (.line (upN y (i + 1)) t) * (ind (Nd.line (i + 1) t = .line l t) - ind (Nd.line (upN y (i + 1)) t = .line l t))) (y.ls.length - 1)
    = Za1 (fun i => upF y φ t (i + 1) * ind (i + 1 = l)) (y.ls.length - 1) + Za1 (fun i => -1 * (if Zcx y (i + 1) = some l then upF y φ t (i + 1) else 0)) (y.ls.length - 1) := by
    rw [<- Zcm]
    refine Zaj fun i hi => ?_
    rw [ZgB (p := Nd.line (i + 1) t = .line l t) (q := i + 1 = l) (by simp), ZgB (p := Nd.line (upN y (i + 1)) t = .line l t) (q := Zcx y (i + 1) = some l) (by rw [<- ZgQ ok (by omega) (by omega)]; simp)]
    have : upF y φ t (i + 1) = φ (.line (i + 1) t) (.line (upN y (i + 1)) t) := by unfold upF; rw [if_neg (by omega)]
    rw [this, Int.mul_sub]
    by_cases q : Zcx y (i + 1) = some l
    ·rw [if_pos q]; simp [ind, q]; omega
    ·rw [if_neg q]; simp [ind, q]
   rw [e3, ZdV]
   simp only [Int.sub_zero]
   omega
  ·rw [if_neg e, Zb7 (p := Nd.line 0 t = .line l t0) (fun z => e (by injection z)), Zaj (g := fun _ => 0) fun i _ => ?_, ZaB]
   ·simp
   ·rw [Zb7 (p := Nd.line (i + 1) t = .line l t0) (fun z => e (by injection z)), Zb7 (p := Nd.line (upN y (i + 1)) t = .line l t0) (fun z => e (by injection z))]
    simp
 rw [h2]
 omega
end Mir
namespace Mir
section
variable {ν : Type} [DecidableEq ν]
theorem ZcM.fwd {L : Lay ν} {φ : Phi ν} (hw : Within L φ) {es : Got ν} (hc : ZcM L φ es) {x : ν × ν × Int} (hx : x ∈ L) (h1 : x.1 ∈ Za4 es) (h2 : x.2.1 ∉ Za4 es) : φ x.1 x.2.1 = x.2.2 := by
 obtain ⟨i, hi⟩ := List.mem_iff_getElem?.mp hx
 have e : (2 * i) / 2 = i := by omega
 have e2 : (2 * i) % 2 = 0 := by omega
 by_cases z : φ x.1 x.2.1 = x.2.2
 ·exact z
 ·have := hw x hx
  exact absurd (hc (2 * i) x.1 x.2.1 (x.2.2 - φ x.1 x.2.1) (by unfold tlE; rw [e, hi, e2]; rfl) (by unfold hdE; rw [e, hi, e2]; rfl) (by unfold rmE; rw [e, hi, e2]; rfl) (by omega) h1) h2
theorem ZcM.bwd {L : Lay ν} {φ : Phi ν} (hw : Within L φ) {es : Got ν} (hc : ZcM L φ es) {x : ν × ν × Int} (hx : x ∈ L) (h1 : x.1 ∉ Za4 es) (h2 : x.2.1 ∈ Za4 es) : φ x.1 x.2.1 = 0 := by
 obtain ⟨i, hi⟩ := List.mem_iff_getElem?.mp hx
 have e : (2 * i + 1) / 2 = i := by omega
 have e2 : ¬ (2 * i + 1) % 2 = 0 := by omega
 by_cases z : φ x.1 x.2.1 = 0
 ·exact z
 ·have := hw x hx
  exact absurd (hc (2 * i + 1) x.2.1 x.1 (φ x.1 x.2.1) (by unfold tlE; rw [e, hi]; simp [e2]) (by unfold hdE; rw [e, hi]; simp [e2]) (by unfold rmE; rw [e, hi]; simp [e2]) (by omega) h2) h1
end
structure Flow (y : Yd) (G : Gv) (φ : Phi Nd) : Prop where
 wi : Within (ZcK y G) φ
 kp : ∀ n, n ≠ .start -> n ≠ .fin -> ZgV (ZcK y G) φ n = 0
theorem Zl8 {y : Yd} {G : Gv} {k : Nat} (hk : k < G.m) : ((.start, .guest k, G.wa k) : Nd × Nd × Int) ∈ ZcK y G := Zew.mpr (.inl ⟨k, hk, ZcA.mpr (.inl rfl)⟩)
theorem Zi2 {y : Yd} {G : Gv} {k t : Nat} (hk : k < G.m) (ht : t < y.T) (h : G.th k t = true) : ((.guest k, .line (G.ln k) t, G.mo k) : Nd × Nd × Int) ∈ ZcK y G := Zew.mpr (.inl ⟨k, hk, ZcA.mpr (.inr ⟨t, ht, h, rfl⟩)⟩)
theorem ZnZ {y : Yd} {G : Gv} {t : Nat} (ht : t < y.T) : ((.line 0 t, .fin, Zbc y 0 t) : Nd × Nd × Int) ∈ ZcK y G := Zew.mpr (.inr ⟨t, ht, Zdg.mpr (.inl rfl)⟩)
theorem Zor {y : Yd} {G : Gv} {t l : Nat} (ht : t < y.T) (h0 : 0 < l) (hl : l < y.ls.length) : ((.line l t, .line (upN y l) t, Zbc y l t) : Nd × Nd × Int) ∈ ZcK y G :=
 Zew.mpr (.inr ⟨t, ht, Zdg.mpr (.inr ⟨l - 1, by omega, by rw [show l - 1 + 1 = l by omega]⟩)⟩)
def moT (G : Gv) (t k : Nat) : Int := if G.th k t = true then G.mo k else 0
section
variable {y : Yd} {G : Gv} {φ : Phi Nd} (F : Flow y G φ)
include F
theorem Flow.tak {k t : Nat} (hk : k < G.m) (ht : t < y.T) : 0 <= ZdC G φ t k /\ ZdC G φ t k <= moT G t k := by
 unfold ZdC moT
 by_cases c : G.th k t = true
 ·rw [if_pos c, if_pos c]
  exact F.wi _ (Zi2 hk ht c)
 ·rw [if_neg c, if_neg c]
  omega
theorem Flow.total {k : Nat} (hk : k < G.m) : Za1 (fun t => ZdC G φ t k) y.T = φ .start (.guest k) := by
 have := F.kp (.guest k) (fun z => nomatch z) (fun z => nomatch z)
 rw [ZjN y G φ hk] at this
 omega
theorem Flow.want {k : Nat} (hk : k < G.m) : 0 <= φ .start (.guest k) /\ φ .start (.guest k) <= G.wa k := F.wi _ (Zl8 hk)
theorem Flow.up (ok : y.Ok) (hln : ∀ k, k < G.m -> G.ln k < y.ls.length) {t : Nat} (ht : t < y.T) : ∀ n l, y.ls.length <= l + n -> l < y.ls.length -> upF y φ t l = ZfV y G.m G.ln (ZdC G φ t) l
 | 0, l, h, hl => by omega
 | n + 1, l, h, hl => by
   have z := F.kp (.line l t) (fun z => nomatch z) (fun z => nomatch z)
   rw [Zmd ok G φ hl ht] at z
   have e : Za1 (fun c => if Zcx y c = some l then upF y φ t c else 0) y.ls.length = Za1 (fun c => if Zcx y c = some l then ZfV y G.m G.ln (ZdC G φ t) c else 0) y.ls.length := by
    refine Zaj fun c hc => ?_
    by_cases u : Zcx y c = some l
    ·rw [if_pos u, if_pos u]
     have := ZkE ok hc u
     exact Flow.up ok hln ht n c (by omega) hc
    ·rw [if_neg u, if_neg u]
   rw [ZdH ok hln _ hl, <- e]
   omega
theorem Flow.up_ok (ok : y.Ok) {t l : Nat} (ht : t < y.T) (hl : l < y.ls.length) : 0 <= upF y φ t l /\ upF y φ t l <= Zbc y l t := by
 unfold upF
 by_cases z : l = 0
 ·subst z
  rw [if_pos rfl]
  exact F.wi _ (ZnZ ht)
 ·rw [if_neg z]
  exact F.wi _ (Zor ht (by omega) hl)
theorem Flow.load (ok : y.Ok) (hln : ∀ k, k < G.m -> G.ln k < y.ls.length) {t l : Nat} (ht : t < y.T) (hl : l < y.ls.length) : ZfV y G.m G.ln (ZdC G φ t) l <= Zbc y l t := by
 rw [<- F.up ok hln ht y.ls.length l (by omega) hl]
 exact (F.up_ok ok ht hl).2
def Zej (es : Got Nd) (k : Nat) : Bool := decide (Nd.guest k ∈ Za4 es)
def Zs0 (es : Got Nd) (t l : Nat) : Bool := decide (Nd.line l t ∈ Za4 es)
omit F in
theorem Zhr {p : Prop} [Decidable p] (h : decide p = false) : ¬ p := of_decide_eq_false h
theorem Flow.shut (ok : y.Ok) (hln : ∀ k, k < G.m -> G.ln k < y.ls.length) {es : Got Nd} (hc : ZcM (ZcK y G) φ es) (hf : Nd.fin ∉ Za4 es) {t : Nat} (ht : t < y.T) :
 Shut y G.m G.ln (ZdC G φ t) (moT G t) (fun l => Zbc y l t) (Zej es) (Zs0 es t) where
 nn k hk := (F.tak hk ht).1
 full k hk hS hR := by
  unfold ZdC moT
  by_cases c : G.th k t = true
  ·rw [if_pos c, if_pos c]
   exact hc.fwd F.wi (Zi2 hk ht c) (of_decide_eq_true hS) (Zhr hR)
  ·rw [if_neg c, if_neg c]
 none k hk hS hR := by
  unfold ZdC
  by_cases c : G.th k t = true
  ·rw [if_pos c]
   exact hc.bwd F.wi (Zi2 hk ht c) (Zhr hS) (of_decide_eq_true hR)
  ·rw [if_neg c]
 top hR := by
  have h0 := ok.l1
  rw [<- F.up ok hln ht y.ls.length 0 (by omega) (by omega)]
  unfold upF
  rw [if_pos rfl]
  exact hc.fwd F.wi (ZnZ ht) (of_decide_eq_true hR) hf
 out c a hcl u h1 h2 := by
  have c0 : c ≠ 0 := fun z => by subst z; rw [ok.up0] at u; cases u
  have ea : upN y c = a := (ZgQ ok (by omega) hcl).mpr u
  rw [<- F.up ok hln ht y.ls.length c (by omega) hcl]
  unfold upF
  rw [if_neg c0]
  exact hc.fwd F.wi (Zor ht (by omega) hcl) (of_decide_eq_true h1) (by rw [ea]; exact Zhr h2)
 inn c a hcl u h1 h2 := by
  have c0 : c ≠ 0 := fun z => by subst z; rw [ok.up0] at u; cases u
  have ea : upN y c = a := (ZgQ ok (by omega) hcl).mpr u
  rw [<- F.up ok hln ht y.ls.length c (by omega) hcl]
  unfold upF
  rw [if_neg c0]
  exact hc.bwd F.wi (Zor ht (by omega) hcl) (Zhr h1) (by rw [ea]; exact of_decide_eq_true h2)
theorem Flow.filled {es : Got Nd} (hc : ZcM (ZcK y G) φ es) (hs : Nd.start ∈ Za4 es) {k : Nat} (hk : k < G.m) (hS : Zej es k = false) : Za1 (fun t => ZdC G φ t k) y.T = G.wa k := by
 rw [F.total hk]
 exact hc.fwd F.wi (Zl8 hk) hs (Zhr hS)
def Zm5 (G : Gv) (S : Nat -> Bool) (t l : Nat) : Int := Za1 (fun k => Za5 S (moT G t) k * ind (G.ln k = l)) G.m
omit F in
theorem Zma {y : Yd} (ok : y.Ok) : ∀ n j, j < n -> j < y.ls.length -> 0 ∈ upL y j
 | 0, j, h, _ => by omega
 | n + 1, j, h, hj => by
   by_cases z : j = 0
   ·subst z; exact Zgu y 0
   ·obtain ⟨a, ea, la⟩ := ok.ups j (by omega) hj
    exact (ZlX ok (by omega) hj ea 0 (fun q => z q.symm)).mpr (Zma ok n a (by omega) (by omega))
omit F in
theorem Zjw {y : Yd} (ok : y.Ok) {m : Nat} {ln : Nat -> Nat} (hln : ∀ k, k < m -> ln k < y.ls.length) (f : Nat -> Int) : ZfV y m ln f 0 = Za1 f m :=
 Zaj fun k hk => by
  unfold ind
  rw [if_pos (Zma ok _ _ (Nat.lt_succ_self _) (hln k hk)), Int.mul_one]
theorem Flow.no_more (ok : y.Ok) (hln : ∀ k, k < G.m -> G.ln k < y.ls.length) (S : Nat -> Bool) {t : Nat} (ht : t < y.T) : Za1 (Za5 S (ZdC G φ t)) G.m <= ZaJ y (fun l => Zbc y l t) (Zm5 G S t) 0 := by
 have l1 := ok.l1
 rw [<- Zjw ok hln]
 refine Mir.no_more ok hln (fun l hl => ?_) (fun l hl => ?_) y.ls.length 0 (by omega) (by omega)
 ·refine Zbx fun k hk => ?_
  have q := F.tak hk ht
  by_cases e : G.ln k = l
  ·unfold Za5 ind
   rw [if_pos e]
   split <;> omega
  ·rw [Zb7 e]; omega
 ·have q := F.load ok hln ht hl
  have q2 := Zlw (y := y) (ln := G.ln) (f := Za5 S (ZdC G φ t)) (g := ZdC G φ t) (fun k hk => Zg5 (F.tak hk ht).1) l
  omega
theorem Flow.meet (ok : y.Ok) (hln : ∀ k, k < G.m -> G.ln k < y.ls.length) {es : Got Nd} (hc : ZcM (ZcK y G) φ es) (hf : Nd.fin ∉ Za4 es) {t : Nat} (ht : t < y.T) :
 ZaJ y (fun l => Zbc y l t) (Zm5 G (Zej es) t) 0 = Za1 (Za5 (Zej es) (ZdC G φ t)) G.m := by
 have l1 := ok.l1
 have a := F.no_more ok hln (Zej es) ht
 have b := (F.shut ok hln hc hf ht).all ok hln (own := Zm5 G (Zej es) t) (fun l hl => rfl) y.ls.length 0 (by omega) (by omega) (fun _ => .inl rfl)
 rw [Zjw ok hln] at b
 omega
omit F in
theorem ZgI (f g : Nat -> Int) : ∀ n, Za1 (fun k => f k - g k) n = Za1 f n - Za1 g n
 | 0 => rfl
 | n + 1 => by
   simp only [Za1]
   rw [ZgI f g n]
   omega
theorem Flow.lack (ok : y.Ok) (hln : ∀ k, k < G.m -> G.ln k < y.ls.length) {es : Got Nd} (hc : ZcM (ZcK y G) φ es) (hs : Nd.start ∈ Za4 es) (hf : Nd.fin ∉ Za4 es) :
 Za1 (fun k => G.wa k - Za1 (fun t => ZdC G φ t k) y.T) G.m = Za1 (Za5 (Zej es) G.wa) G.m - Za1 (fun t => ZaJ y (fun l => Zbc y l t) (Zm5 G (Zej es) t) 0) y.T := by
 rw [Zaj (n := y.T) fun t ht => F.meet ok hln hc hf ht, Ze0, <- ZgI]
 refine Zaj fun k hk => ?_
 cases s : Zej es k with
 | true =>
   have : Za1 (fun t => Za5 (Zej es) (ZdC G φ t) k) y.T = Za1 (fun t => ZdC G φ t k) y.T := Zaj fun t _ => by unfold Za5; rw [if_pos s]
   rw [this]
   unfold Za5
   rw [if_pos s]
 | false =>
   have : Za1 (fun t => Za5 (Zej es) (ZdC G φ t) k) y.T = 0 := by
    rw [Zaj (g := fun _ => 0) fun t _ => ?_, ZaB]
    unfold Za5
    rw [if_neg (by rw [s]; decide)]
   rw [this, F.filled hc hs hk s]
   unfold Za5
   rw [if_neg (by rw [s]; decide)]
   omega
omit F in
theorem Zkx (y : Yd) (G : Gv) (φ : Phi Nd) : ZgV (ZcK y G) φ .start = Za1 (fun k => φ .start (.guest k)) G.m := by
 unfold ZgV
 rw [Zfw]
 have h2 : Za1 (fun t => φ (.line 0 t) .fin * (ind (Nd.line 0 t = .start) - ind (Nd.fin = .start)) + Za1 (fun i => φ (.line (i + 1) t) (.line (upN y (i + 1)) t) * (ind (Nd.line (i + 1) t = .start) - ind (Nd.line (upN y (i + 1)) t = .start))) (y.ls.length - 1)) y.T = 0 := by
  rw [Zaj (g := fun _ => 0) fun t _ => ?_, ZaB]
  rw [Zb7 (fun z => nomatch z), Zb7 (fun z => nomatch z), Zaj (g := fun _ => 0) fun i _ => ?_, ZaB]
  ·simp
  ·rw [Zb7 (fun z => nomatch z), Zb7 (fun z => nomatch z)]; simp
 rw [h2, Int.add_zero]
 refine Zaj fun k _ => ?_
 rw [Zb7 (p := Nd.guest k = .start) (fun z => nomatch z), Zaj (g := fun _ => 0) fun t _ => ?_, ZaB]
 ·simp [ind]
 ·rw [Zb7 (p := Nd.line (G.ln k) t = .start) (fun z => nomatch z)]; simp
theorem Flow.push {a : Int} (ha : 0 <= a) {w : List Nat} (hw : Chain (ZcK y G) .start .fin w) (hn : w.Nodup) (hr : ∀ e ∈ w, ∃ r, rmE (ZcK y G) φ e = some r /\ a <= r) :
 Flow y G (ZfA (ZcK y G) a φ w) /\ ZgV (ZcK y G) (ZfA (ZcK y G) a φ w) .start = ZgV (ZcK y G) φ .start + a := by
 refine ⟨⟨ZfY (Zfl y G) ha F.wi hn hr, fun n h1 h2 => ?_⟩, ?_⟩
 ·rw [ZgO (Zfl y G) n hw, F.kp n h1 h2, Zb7 (fun z => h1 z.symm), Zb7 (fun z => h2 z.symm)]
  simp
 ·rw [ZgO (Zfl y G) .start hw, Zb7 (p := Nd.fin = .start) (fun z => nomatch z)]
  simp [ind]
theorem Flow.most : ZgV (ZcK y G) φ .start <= Za1 G.wa G.m := by
 rw [Zkx]
 exact Zbx fun k hk => (F.want hk).2
end
theorem ZrN {y : Yd} {G : Gv} (h : ∀ x ∈ ZcK y G, 0 <= x.2.2) : Flow y G (fun _ _ => 0) := by
 refine ⟨fun x hx => ⟨Int.le_refl _, h x hx⟩, fun n _ _ => ?_⟩
 unfold ZgV Zf6
 have : ∀ L : Lay Nd, (L.map fun x => (0 : Int) * (ind (x.1 = n) - ind (x.2.1 = n))).sum = 0 := fun L => by
  induction L with
  | nil => rfl
  | cons x L ih => rw [List.map_cons, List.sum_cons, ih]; simp
 exact this _
end Mir
namespace Mir
structure Giv (m : Nat) (w : Nat -> Int) (g : (Nat -> Bool) -> Int) : Prop where
 w1 : ∀ k, k < m -> 1 <= w k
 g0 : ∀ S, (∀ k, k < m -> S k = false) -> g S = 0
 nn : ∀ S, 0 <= g S
 ext : ∀ S U, (∀ k, k < m -> S k = U k) -> g S = g U
 sub : ∀ S U, g (fun k => S k || U k) + g (fun k => S k && U k) <= g S + g U
def wS (m : Nat) (w : Nat -> Int) (S : Nat -> Bool) : Int := Za1 (Za5 S w) m
section
variable {m : Nat} {w : Nat -> Int} {g : (Nat -> Bool) -> Int}
theorem ZkL {S U : Nat -> Bool} (h : ∀ k, k < m -> S k = U k) : wS m w S = wS m w U := Zaj fun k hk => by unfold Za5; rw [h k hk]
theorem Zft {S U R : Nat -> Bool} (h : ∀ k, k < m -> (R k = true ↔ S k = true \/ U k = true) /\ ¬ (S k = true /\ U k = true)) : wS m w R = wS m w S + wS m w U := by
 unfold wS
 rw [<- Zcm]
 refine Zaj fun k hk => ?_
 obtain ⟨h1, h2⟩ := h k hk
 unfold Za5
 cases e1 : S k <;> cases e2 : U k <;> cases e3 : R k <;> simp [e1, e2, e3] at h1 h2 ⊢
theorem Giv.w0 (G : Giv m w g) (S : Nat -> Bool) : 0 <= wS m w S := ZiR fun k hk => ZjM (by have := G.w1 k hk; omega)
theorem Giv.wp (G : Giv m w g) {S : Nat -> Bool} {j : Nat} (hj : j < m) (h : S j = true) : 1 <= wS m w S := by
 have e : wS m w S = wS m w (fun k => decide (k = j)) + wS m w (fun k => S k && !decide (k = j)) := Zft fun k hk => by
  by_cases c : k = j
  ·subst c; simp [h]
  ·simp [c]
 have h1 := G.w0 (fun k => S k && !decide (k = j))
 have h2 : wS m w (fun k => decide (k = j)) = w j := by
  unfold wS
  have : Za1 (Za5 (fun k => decide (k = j)) w) m = Za1 (fun l => if l = j then w j else 0) m := Zaj fun k _ => by
   unfold Za5
   by_cases c : k = j
   ·subst c; simp
   ·simp [c]
  rw [this, Zes, if_pos hj]
 have := G.w1 j hj
 omega
theorem Zp9 {S : Nat -> Bool} (h : ∀ k, k < m -> S k = false) : wS m w S = 0 := by
 unfold wS
 rw [Zaj (g := fun _ => 0) fun k hk => by unfold Za5; rw [h k hk]; rfl]
 exact ZaB m
variable (m w g) in
def Low (A : Nat -> Bool) (p q : Int) : Prop := ∀ S : Nat -> Bool, (∀ k, k < m -> S k = true -> A k = true) -> q * (g A - g S) <= p * wS m w (fun k => A k && !S k)
variable (m w g) in
def Up (A : Nat -> Bool) (p q : Int) : Prop := ∀ S : Nat -> Bool, (∀ k, k < m -> S k = true -> A k = false) -> p * wS m w S <= q * (g (fun k => A k || S k) - g A)
theorem Zrz {p q t b X Y : Int} (h : q * X <= p * Y) (hq : 0 < q) (hb : 0 < b) (hy : 0 <= Y) (hs : p * b <= t * q) : b * X <= t * Y := by
 have h1 : b * (q * X) <= b * (p * Y) := Int.mul_le_mul_of_nonneg_left h (by omega)
 have h2 : p * b * Y <= t * q * Y := Int.mul_le_mul_of_nonneg_right hs hy
 have e1 : b * (p * Y) = p * b * Y := by rw [<- Int.mul_assoc, Int.mul_comm b p]
 have e2 : t * q * Y = q * (t * Y) := by rw [Int.mul_comm t q, Int.mul_assoc]
 have e3 : b * (q * X) = q * (b * X) := by rw [<- Int.mul_assoc, Int.mul_comm b q, Int.mul_assoc]
 have h3 : q * (b * X) <= q * (t * Y) := by omega
 exact Int.le_of_mul_le_mul_left h3 hq
theorem Low.more (G : Giv m w g) {A : Nat -> Bool} {p q t b : Int} (h : Low m w g A p q) (hq : 0 < q) (hb : 0 < b) (hs : p * b <= t * q) : Low m w g A t b := fun S hS => Zrz (h S hS) hq hb (G.w0 _) hs
theorem Up.nn {A : Nat -> Bool} (G : Giv m w g) (hA : ∀ k, k < m -> A k = false) : Up m w g A 0 1 := fun S _ => by
 have e : g A = 0 := G.g0 A hA
 have := G.nn (fun k => A k || S k)
 omega
theorem Low.nil {A : Nat -> Bool} (G : Giv m w g) (hA : ∀ k, k < m -> A k = false) : Low m w g A 0 1 := fun S hS => by
 have e : g A = 0 := G.g0 A hA
 have e2 : g S = 0 := G.g0 S fun k hk => by
  cases c : S k with
  | false => rfl
  | true => exact absurd ((hA k hk).symm.trans (hS k hk c)) (by decide)
 rw [e, e2]
 omega
theorem Low.step (G : Giv m w g) {A T : Nat -> Bool} {p q t b : Int} (h : Low m w g A p q) (hu : Up m w g A t b) (hT : ∀ k, k < m -> T k = true -> A k = false) (ht : t * wS m w T = b * (g (fun k => A k || T k) - g A)) (hq : 0 < q) (hb : 0 < b) (hs : p * b <= t * q) : Low m w g (fun k => A k || T k) t b := fun S hS => by
 have h1 := hu (fun k => S k && !A k) (fun k _ e => by cases c : A k with | false => rfl | true => simp [c] at e)
 have e1 : g (fun k => A k || (S k && !A k)) = g (fun k => A k || S k) := G.ext _ _ fun k _ => by cases A k <;> cases S k <;> rfl
 rw [e1] at h1
 have h2 := G.sub A S
 have h3 := (h.more G hq hb hs) (fun k => A k && S k) (fun k _ e => by cases c : A k with | true => rfl | false => simp [c] at e)
 have e2 : wS m w (fun k => A k && !(A k && S k)) = wS m w (fun k => A k && !S k) := ZkL fun k _ => by cases A k <;> cases S k <;> rfl
 rw [e2] at h3
 have e3 : wS m w (fun k => (A k || T k) && !S k) = wS m w (fun k => A k && !S k) + wS m w (fun k => T k && !S k) := Zft fun k hk => by
  have := hT k hk
  cases c1 : A k <;> cases c2 : T k <;> cases c3 : S k <;> simp [c1, c2] at this ⊢
 have e4 : wS m w T = wS m w (fun k => S k && !A k) + wS m w (fun k => T k && !S k) := Zft fun k hk => by
  have := hT k hk
  have := hS k hk
  cases c1 : A k <;> cases c2 : T k <;> cases c3 : S k <;> simp_all
 rw [e3]
 rw [e4] at ht
 have h2' : b * (g (fun k => A k || S k) + g (fun k => A k && S k)) <= b * (g A + g S) := Int.mul_le_mul_of_nonneg_left h2 (by omega)
 simp only [Int.mul_sub, Int.mul_add] at *
 omega
theorem Up.step (G : Giv m w g) {A T : Nat -> Bool} {t b : Int} (hu : Up m w g A t b) (hT : ∀ k, k < m -> T k = true -> A k = false) (ht : t * wS m w T = b * (g (fun k => A k || T k) - g A)) : Up m w g (fun k => A k || T k) t b := fun S hS => by
 have h1 := hu (fun k => T k || S k) (fun k hk e => by
  have h1 := hT k hk
  have h2 := hS k hk
  cases c1 : A k <;> cases c2 : T k <;> cases c3 : S k <;> simp_all)
 have e1 : wS m w (fun k => T k || S k) = wS m w T + wS m w S := Zft fun k hk => by
  have h2 := hS k hk
  cases c1 : A k <;> cases c2 : T k <;> cases c3 : S k <;> simp_all
 have e2 : g (fun k => A k || (T k || S k)) = g (fun k => (A k || T k) || S k) := G.ext _ _ fun k _ => by cases A k <;> cases T k <;> cases S k <;> rfl
 rw [e1, e2] at h1
 show t * wS m w S <= b * (g (fun k => (A k || T k) || S k) - g (fun k => A k || T k))
 simp only [Int.mul_sub, Int.mul_add] at *
 omega
theorem ZkP (G : Giv m w g) {A S : Nat -> Bool} {p q : Int} (hl : Low m w g A p q) (hq : 0 < q) (hm : ∀ U : Nat -> Bool, p * wS m w U - q * g U <= p * wS m w S - q * g S) (U : Nat -> Bool) (hU : ∀ k, k < m -> U k = true -> A k = false) :
 p * wS m w U - q * (g (fun k => A k || U k) - g A) <= p * wS m w (fun k => S k && !A k) - q * (g (fun k => A k || (S k && !A k)) - g A) := by
 have h1 := hm (fun k => A k || U k)
 have e1 : wS m w (fun k => A k || U k) = wS m w A + wS m w U := Zft fun k hk => by
  have := hU k hk
  cases c1 : A k <;> cases c2 : U k <;> simp_all
 have h2 := G.sub A S
 have h3 := hl (fun k => A k && S k) (fun k _ e => by cases c : A k with | true => rfl | false => simp [c] at e)
 have e2 : wS m w (fun k => A k && !(A k && S k)) = wS m w (fun k => A k && !S k) := ZkL fun k _ => by cases A k <;> cases S k <;> rfl
 rw [e2] at h3
 have e3 : g (fun k => A k || (S k && !A k)) = g (fun k => A k || S k) := G.ext _ _ fun k _ => by cases A k <;> cases S k <;> rfl
 rw [e3]
 have e4 : wS m w S = wS m w (fun k => A k && S k) + wS m w (fun k => S k && !A k) := Zft fun k _ => by cases c1 : A k <;> cases c2 : S k <;> simp
 have e5 : wS m w A = wS m w (fun k => A k && S k) + wS m w (fun k => A k && !S k) := Zft fun k _ => by cases c1 : A k <;> cases c2 : S k <;> simp
 have h2' : q * (g (fun k => A k || S k) + g (fun k => A k && S k)) <= q * (g A + g S) := Int.mul_le_mul_of_nonneg_left h2 (by omega)
 rw [e1, e4, e5] at h1
 simp only [Int.mul_sub, Int.mul_add] at *
 omega
theorem ZjW {A T : Nat -> Bool} {p q : Int} (hm : ∀ U : Nat -> Bool, (∀ k, k < m -> U k = true -> A k = false) -> p * wS m w U - q * (g (fun k => A k || U k) - g A) <= p * wS m w T - q * (g (fun k => A k || T k) - g A)) (h0 : p * wS m w T <= q * (g (fun k => A k || T k) - g A)) : Up m w g A p q := fun U hU => by
 have := hm U hU
 omega
theorem ZlL {p q p' q' W W' x x' : Int} (hq : 0 < q) (hq' : 0 < q') (hl : p' * q < p * q') (ht : p' * W = q' * x) (h1 : p * W' - q * x' <= p * W - q * x) (h2 : q' * x' < p' * W') : W' < W := by
 refine Int.lt_of_not_ge fun c => ?_
 have a1 : q' * (p * W' - q * x') <= q' * (p * W - q * x) := Int.mul_le_mul_of_nonneg_left h1 (by omega)
 have a2 : q * (q' * x') < q * (p' * W') := Int.mul_lt_mul_of_pos_left h2 hq
 have a3 : q * (p' * W) = q * (q' * x) := by rw [ht]
 have a4 : 0 <= (p * q' - p' * q) * (W' - W) := Int.mul_nonneg (by omega) (by omega)
 have b1 : q' * (q * x') = q * (q' * x') := by rw [<- Int.mul_assoc, Int.mul_comm q' q, Int.mul_assoc]
 have b2 : q' * (q * x) = q * (q' * x) := by rw [<- Int.mul_assoc, Int.mul_comm q' q, Int.mul_assoc]
 have b3 : q' * (p * W') = p * q' * W' := by rw [<- Int.mul_assoc, Int.mul_comm q' p]
 have b4 : q' * (p * W) = p * q' * W := by rw [<- Int.mul_assoc, Int.mul_comm q' p]
 have b5 : q * (p' * W') = p' * q * W' := by rw [<- Int.mul_assoc, Int.mul_comm q p']
 have b6 : q * (p' * W) = p' * q * W := by rw [<- Int.mul_assoc, Int.mul_comm q p']
 simp only [Int.mul_sub, Int.sub_mul] at a1 a4
 rw [b1, b2, b3, b4] at a1
 rw [b5] at a2
 rw [b6] at a3
 omega
end
end Mir
section
namespace L2
open PySem PySem.Spec PyProof.Rows
theorem Zcj.at {xs : List V} {us : List Value} (r : Zcj xs us) : ∀ i : Nat, (xs[i]? = none /\ us[i]? = none) \/ ∃ x u, xs[i]? = some x /\ us[i]? = some u /\ Zbg x u := by
 induction r with
 | nil => intro i; exact .inl ⟨rfl, rfl⟩
 | cons a b ih =>
   intro i
   cases i with
   | zero => exact .inr ⟨_, _, rfl, rfl, a⟩
   | succ i => exact ih i
section
variable {X : Cx} {e : Expr} {te : TE} {lo hi : Option Expr} {se : Expr} {tl th ts : TO} {pos p2 : Pos}
end
section
variable {K : W.Frag} {ρ : Zbe} {te : TE}
end
end L2
end
section
namespace L2
open PySem PySem.Spec PyProof.Rows
section
variable {K : W.Frag} {ρ : Zbe} {D : PEnds}
end
end L2
end
section
namespace L2
open PySem PySem.Spec PyProof.Rows
section
variable {es : List Expr} {env : Env}
end
section
variable {X : Cx} {e : Expr} {es : List Expr} {te : TE} {t : TA} {pos : Pos}
end
section
variable {X : Cx} {a : Expr} {ta : TE}
end
section
variable {K : W.Frag} {ρ : Zbe} {ta tb tc td : TE}
end
theorem ZqU {K : W.Frag} {ρ : Zbe} {D : PEnds} {ta : TA} {i j : Nat} {d1 d2 : PyData} (h : EvA K ta ρ [.fz d1, .fz d2]) (hn : D.nx ((ρ.set i (some (.fz d1))).set j (some (.fz d2)))) : EvS K (ZrT i j ta) ρ D := fun F0 H0 F σ H E x S C =>
 h H0 F σ H _ S fun F1 H1 vs x1 r1 => by
  cases r1 with
  | fz r1 r2 =>
    cases r2 with
    | fz r2 r3 =>
      cases r3
      exact ⟨_, _, rfl, C.nx F1 _ H1 _ (x.trans x1) (((S.ext x1).setF r1).setF r2) hn⟩
section
variable {X : Cx} {a b c d : Expr} {ta tb tc td : TE} {pos : Pos}
end
section
variable {K : W.Frag} {ρ : Zbe} {ta tb tc td : TE}
end
end L2
end
section
namespace L2
open PySem PySem.Spec PyProof.Rows
theorem ZeS : ∀ {us : List Value} {ns : List Int}, IntsAre us ns -> Zcj (ns.map V.int) us
 | _, _, .nil => .nil
 | _, _, .cons n t h => .cons ⟨t, rfl⟩ (ZeS h)
section
variable {X : Cx}
def ZlG : List V -> Hp -> VK -> Prop := fun xs H Q => ∃ (x : V) (ns : List Int), xs = [x] /\ Rep H x (.list (ns.map PyData.int)) /\ ns.length < 64 /\ ∀ (p : Addr) (ms : List Int), H p = none -> ms.Perm ns -> ms.Pairwise (· <= ·) -> Q (.ref p) (upd H p (.lst (ms.map V.int)))
theorem Zib : ZdD X (.builtin "sorted") ZlG := by
 intro pins s σ H xs us Q I r h
 obtain ⟨x, ns, rfl, rx, h64, q⟩ := h
 obtain ⟨u, rfl, ru⟩ := Zic r
 cases rx with
 | @lst a ys _ ha ra =>
   cases ru
   obtain ⟨z, its, n, rv, e⟩ := I.hok _ _ ha
   have ey : ys = ns.map V.int := ZcS ra
   have hI : IntsAre its ns := Zdt (by rw [<- ey]; exact rv)
   have hl : its.length = ns.length := by rw [<- rv.length, ey]; simp
   refine sorted_ints ⟨_, e, rfl, n, rfl⟩ hI (by omega) fun out ms a1 a2 a3 => ?_
   obtain ⟨k, hk⟩ := sortedAll_at s.heap its out
   have ln : ms.length = ns.length := a2.length_eq
   refine ⟨.ref (s.heap.objs.size + 1), _, I.laid (t' := s.toks) (a := s.heap.objs.size + 1) (o := .lst (ms.map V.int)) (fun b ob q => sortedAll_old q) (Nat.le_succ _) ?_, rfl, q _ ms (I.hok.fresh (Nat.le_succ _)) a2 a3⟩
   refine ⟨by rw [List.length_map, ln]; exact Nat.le_of_lt (Nat.lt_of_lt_of_le h64 (by decide)), out.toList, k, ZeS a1, ?_⟩
   rw [hk]
end
def ZfB : List Int -> List Int -> Bool
 | a :: as, b :: bs => if a = b then ZfB as bs else decide (b < a)
 | _, _ => false
theorem ZiE : ∀ {us : List Value} {ns : List Int}, IntsAre us ns -> ∀ {i : Nat} {n : Int}, ns[i]? = some n -> ∃ t, us[i]? = some (.int n t)
 | _, _, .nil, i, n, e => by simp at e
 | _, _, .cons m t h, 0, n, e => by
   simp at e
   exact ⟨t, by simp [e]⟩
 | _, _, .cons m t h, i + 1, n, e => by
   obtain ⟨t', h'⟩ := ZiE h (i := i) (n := n) (by simpa using e)
   exact ⟨t', by simpa using h'⟩
section
theorem Zo7 (l b : Addr) (xs ys : Array Value) (n n2 : Nat) (dd dd2 : Option Addr) (sl sl2 : Array (Option Value)) (ns ms : List Int) (hsz : ns.length = ms.length) (hx : IntsAre xs.toList ns) (hy : IntsAre ys.toList ms) (k : Nat) :
 ∀ i : Nat, ns.length - i = k -> Meets (Builtin.«list.__eq__.loop» ⟨[.ref l, .ref b, rawInt i, rawInt 4], []⟩)
  (fun A R s => s.heap.get? l = some { cls := .type "list", dict := dd, data := .seq xs n, slots := sl } /\ s.heap.get? b = some { cls := .type "list", dict := dd2, data := .seq ys n2, slots := sl2 } /\
   R (.ok (.ret (.bool (ZfB (ns.drop i) (ms.drop i))))) s) := by
 have lx : xs.size = ns.length := by have := IntsAre.length hx; simpa using this
 have ly : ys.size = ms.length := by have := IntsAre.length hy; simpa using this
 induction k with
 | zero =>
   intro i hk prog w A R s h
   obtain ⟨hp, g, d, tk, os⟩ := s
   obtain ⟨ja, jb, q⟩ := h
   wp_walk using AutoSeq1.wpAny_loadPart' ja, AutoSeq1.wpAny_loadPart' jb
   have e1 : xs[((i : Nat) : Int).toNat]? = none := by simp; omega
   have e2 : ys[((i : Nat) : Int).toNat]? = none := by simp; omega
   have e3 : ns.drop i = [] := by simp; omega
   rw [e3] at q
   rw [e1, e2]
   wp_walk using AutoSeq1.wpAny_loadPart' ja, AutoSeq1.wpAny_loadPart' jb
   show R (.ok (.ret (.bool (decide (xs.size > ys.size))))) _
   rw [decide_eq_false (show ¬ xs.size > ys.size by omega)]
   exact q
 | succ k ih =>
   intro i hk prog w A R s h
   obtain ⟨hp, g, d, tk, os⟩ := s
   obtain ⟨ja, jb, q⟩ := h
   wp_walk using AutoSeq1.wpAny_loadPart' ja, AutoSeq1.wpAny_loadPart' jb
   have l1 : i < ns.length := by omega
   have l2 : i < ms.length := by omega
   obtain ⟨ta, e1⟩ : ∃ t, xs[((i : Nat) : Int).toNat]? = some (.int ns[i] t) := by
    have := ZiE hx (i := i) (n := ns[i]) (by simp [l1])
    simpa using this
   obtain ⟨tb, e2⟩ : ∃ t, ys[((i : Nat) : Int).toNat]? = some (.int ms[i] t) := by
    have := ZiE hy (i := i) (n := ms[i]) (by simp [l2])
    simpa using this
   have d1 : ns.drop i = ns[i] :: ns.drop (i + 1) := List.drop_eq_getElem_cons l1
   have d2 : ms.drop i = ms[i] :: ms.drop (i + 1) := List.drop_eq_getElem_cons l2
   rw [d1, d2] at q
   rw [e1, e2]
   refine wpAny_bind (SeqAt.EqAt.int_int ns[i] ta ms[i] tb prog w _ _ ?_)
   have hc : ((i : Int) + 1) = ((i + 1 : Nat) : Int) := by omega
   by_cases hab : ns[i] = ms[i]
   ·have hb : (ns[i] == ms[i]) = true := by simp [hab]
    rw [hb]
    wp_walk
    rw [hc]
    exact ⟨plainId_quiet MeetsSeq3.plain_eq_loop _, codeAny_builtin MeetsSeq3.entry_eq_loop (by
     rw [Around.under_plainId MeetsSeq3.plain_eq_loop _]
     exact ih (i + 1) (by omega) prog w A R _ ⟨ja, jb, by simpa [ZfB, hab] using q⟩)⟩
   ·have hb : (ns[i] == ms[i]) = false := by simp [hab]
    rw [hb]
    wp_walk using AutoSeq1.wpAny_loadPart' ja, AutoSeq1.wpAny_loadPart' jb
    rw [e1, e2]
    show wpAny _ _ (richCompare .Gt (.int ns[i] ta) (.int ms[i] tb) >>= fun v => ret v) _ _ _
    refine wpAny_bind (gt_int (wpAny_pure ?_))
    show R (.ok (.ret (.bool (decide (ms[i] < ns[i]))))) _
    have e9 : ZfB (ns[i] :: ns.drop (i + 1)) (ms[i] :: ms.drop (i + 1)) = decide (ms[i] < ns[i]) := by
     show (if ns[i] = ms[i] then _ else decide (ms[i] < ns[i])) = _
     rw [if_neg hab]
    rw [e9] at q
    exact q
theorem Zpd (l b : Addr) (xs ys : Array Value) (n n2 : Nat) (dd dd2 : Option Addr) (sl sl2 : Array (Option Value)) (ns ms : List Int) (hsz : ns.length = ms.length) (hx : IntsAre xs.toList ns) (hy : IntsAre ys.toList ms) :
 Meets (Builtin.«list.__gt__» ⟨[.ref l, .ref b], []⟩)
  (fun A R s => s.heap.get? l = some { cls := .type "list", dict := dd, data := .seq xs n, slots := sl } /\ s.heap.get? b = some { cls := .type "list", dict := dd2, data := .seq ys n2, slots := sl2 } /\
   R (.ok (.ret (.bool (ZfB ns ms)))) s) := by
 intro prog w A R s h
 obtain ⟨hp, g, d, tk, os⟩ := s
 obtain ⟨ja, jb, q⟩ := h
 have f3 := AutoSeq1.sub_list_list
 wp_walk using AutoSeq1.wpAny_loadPart' ja, AutoSeq1.wpAny_loadPart' jb
 exact ⟨plainId_quiet MeetsSeq3.plain_eq_loop _, codeAny_builtin MeetsSeq3.entry_eq_loop (by
  rw [Around.under_plainId MeetsSeq3.plain_eq_loop _]
  exact Zo7 l b xs ys n n2 dd dd2 sl sl2 ns ms hsz hx hy _ 0 rfl prog w A R _ ⟨ja, jb, by simpa using q⟩)⟩
variable {X : Cx}
def Zsj (K : W.Frag) : R2 := fun x y H Q => ∃ ns ms, Rep H x (.list (ns.map PyData.int)) /\ Rep H y (.list (ms.map PyData.int)) /\ ns.length = ms.length /\ Q (.bl (ZfB ns ms)) H
theorem Zqm (hu : X.A.units + 64 < cLine) : OpR X (compareOp .Gt) (Zsj X.K) := by
 intro pins s σ H x y v u Q I rx ry h
 obtain ⟨ns, ms, r1, r2, hl, q⟩ := h
 cases r1 with
 | @lst a xs _ ha ra =>
   cases r2 with
   | @lst b ys _ hb rb =>
     cases rx
     cases ry
     obtain ⟨z, its, n, rv, e⟩ := I.hok _ _ ha
     obtain ⟨z', its', n', rv', e'⟩ := I.hok _ _ hb
     have ex : xs = ns.map V.int := ZcS ra
     have ey : ys = ms.map V.int := ZcS rb
     have i1 : IntsAre its.toArray.toList ns := Zdt (by rw [<- ex]; exact rv)
     have i2 : IntsAre its'.toArray.toList ms := Zdt (by rw [<- ey]; exact rv')
     exact richCompare_meets_room (op := .Gt) ⟨_, e, rfl⟩ ⟨_, e', rfl⟩ PySem.F.slot_list_gt PySem.F.entry_list_gt (PySem.F.args_list_gt_2 _ _) (Zpd a b _ _ n n' none none #[] #[] ns ms hl i1 i2)
      ⟨e, e', show Value.bool (ZfB ns ms) ≠ Value.notImplemented /\ _ from ⟨(fun x => nomatch x), ⟨.bl (ZfB ns ms), H, I, rfl, q⟩⟩⟩ (by omega)
end
section
variable {K : W.Frag} {ρ : Zbe} {ta tb : TE} {D : PEnds}
theorem Zrf {ns ms : List Int} (ha : EvE K ta ρ (.list (ns.map PyData.int))) (hb : EvE K tb ρ (.list (ms.map PyData.int))) (hl : ns.length = ms.length) : EvE K (tOp (Zsj K) ta tb) ρ (.bool (ZfB ns ms)) := fun H0 F σ H Q S q =>
 ZdO ha hb S fun F' H' x y e r1 r2 => ⟨ns, ms, r1.mono e.fh, r2.mono e.fh, hl, q F' H' _ e (.bl _)⟩
theorem ZmZ : ∀ {l m : List Int}, l.Perm m -> l.Pairwise (· <= ·) -> m.Pairwise (· <= ·) -> l = m := fun p h1 h2 => by
 exact p.eq_of_pairwise (le := (· <= ·)) (fun a b _ _ h h' => Int.le_antisymm h h') h1 h2
theorem Zhh {ns ms : List Int} (h : EvE K ta ρ (.list (ns.map PyData.int))) (hp : ms.Perm ns) (hs : ms.Pairwise (· <= ·)) (hn : ns.length < 64) : EvO K (tCB ZlG (Zbd ta ZdF)) ρ (.ol (ms.map PyData.int)) := fun H0 F σ H Q S q =>
 h H0 F σ H _ S fun F1 H1 v x1 r1 => ⟨v, ns, rfl, r1.mono x1.fh, hn, fun p ks hp' k1 k2 => by
  have e : ks = ms := ZmZ (k1.trans hp.symm) k2 hs
  subst e
  obtain ⟨a, b, c⟩ := ZfL (K := K) x1 hp' (Zh7 (H := F1) ks)
  exact q _ _ _ _ a b c⟩
end
end L2
end
section
namespace L2
open PySem PySem.Spec PyProof.Rows
theorem Zh3 : bootBuiltins "sorted" = some (.builtin "sorted") := by decide +kernel
section
variable {X : Cx}
def ipM : TIp := fun x y H Q => ∃ i j, x = .int i /\ y = .int j /\ IntMulOk i j /\ Q (.int (i * j)) H
theorem Zpv : PIp X .Mult ipM := by
 intro pins s σ H x y v u Q I r1 r2 h
 obtain ⟨i, j, rfl, rfl, hc, q⟩ := h
 obtain ⟨t, rfl⟩ := r1
 obtain ⟨t', rfl⟩ := r2
 exact imul_int ⟨.int (i * j), H, I.tok _, ⟨_, rfl⟩, q⟩ hc
end
section
variable {K : W.Frag} {ρ : Zbe} {te ti : TE} {D : PEnds}
theorem ZoR {i : Nat} {m n : Int} (e : ρ[i]? = some (some (.fz (.int m)))) (h : EvE K te ρ (.int n)) (hc : IntMulOk m n) (hn : D.nx (ρ.set i (some (.fz (.int (m * n)))))) : EvS K (Zsm i te ipM) ρ D := fun F0 H0 F σ H E x S C => by
 obtain ⟨fp, g, _⟩ := S.fp
 obtain ⟨v, e1, _, r⟩ := g i _ e
 cases r
 refine ⟨_, e1, h H0 F σ H _ S fun F1 H1 y x1 r1 => ?_⟩
 cases r1
 exact ⟨m, n, rfl, rfl, hc, C.nx F1 _ H1 _ (x.trans x1) ((S.ext x1).setF (.int _)) hn⟩
end
end L2
end
namespace PySem
section
variable {prog : Program} {w : World} {K : Type} [DecidableEq K] (knd : KeyKind prog w K)
def ZaH (h : Heap) (xy : List K × List K) (a : Addr) : Prop := ∃ o n p q, h.get? a = some o /\ o.cls = .type "tuple" /\ o.data = .seq #[.ref p, .ref q] n /\ IsTupleKey knd h xy.1 p /\ IsTupleKey knd h xy.2 q
variable {knd}
theorem ZaH.typeIs {s : Shared} {ks : List K × List K} {a : Addr} (x : ZaH knd s.heap ks a) : s.TypeIs (.ref a) "tuple" := let ⟨o, _, _, _, ho, hc, _⟩ := x; ⟨o, ho, hc⟩
theorem ZaH.inj {h : Heap} {a : Addr} {x y : List K × List K} (hx : ZaH knd h x a) (hy : ZaH knd h y a) : x = y := by
 obtain ⟨o, n, p, q, ho, _, hd, h1, h2⟩ := hx
 obtain ⟨o', n', p', q', ho', _, hd', h1', h2'⟩ := hy
 cases Option.some.inj (ho.symm.trans ho')
 rw [hd] at hd'
 injection hd' with z _
 have z1 := congrArg Array.toList z
 simp at z1
 obtain ⟨rfl, rfl⟩ := z1
 exact Prod.ext (h1.inj h1') (h2.inj h2')
theorem ZaH.keeps {h h' : Heap} {ks : List K × List K} {a d : Addr} {o : Obj} {es ep} (x : ZaH knd h ks a) (ho : h.get? d = some o) (hd : o.data = .dict es ep) (hs : Heap.SameBut d h h') : ZaH knd h' ks a := by
 obtain ⟨o', n, p, q, ho', hc, hd', h1, h2⟩ := x
 have hne : a ≠ d := fun z => by
  subst z
  cases Option.some.inj (ho'.symm.trans ho)
  rw [hd] at hd'
  exact nomatch hd'
 exact ⟨o', n, p, q, (hs.2 a hne).trans ho', hc, hd', h1.keeps ho hd hs, h2.keeps ho hd hs⟩
def ZgM (knd : KeyKind prog w K) (ks : List K × List K) : Int := reduceHash (Builtin.Tuple.tupleHashOf [tupleKeyHash knd ks.1, tupleKeyHash knd ks.2])
variable {A : Around} {E : Value -> Shared -> Prop} {s : Shared}
theorem ZeB {ks : List K × List K} {a : Addr} {Q : Int -> Shared -> Prop} (hu : A.units + 5 < cLine) (hk : ZaH knd s.heap ks a) (h : Q (ZgM knd ks) { s with toks := s.toks + (ks.1.length + ks.2.length + 3) }) :
 wpAny (model prog w) A (pyHash (.ref a)) Q E s := by
 have hT := hk.typeIs
 obtain ⟨o, n, p, q, ho, _, hd, h1, h2⟩ := hk
 unfold pyHash pyHashByItsType
 refine wpAny_bind (wpAny_cRoomFor_or (.inr (by omega)) ?_)
 refine wpAny_bind (wpAny_specialOf hT F.slot_tuple_hash.lookup ?_)
 show wpAny _ _ (if (some (Value.builtin "tuple.__hash__") == some Value.none) = true then _ else _) Q E s
 rw [if_neg (by rw [beq_builtin_none]; exact Bool.false_ne_true)]
 refine wpAny_bind (wpAny_specialOf hT F.slot_tuple_hash.lookup ?_)
 show wpAny _ _ (callSpecialIfBoundUnlessNone? (.ref a) "__hash__" _ >>= _) Q E s
 refine wpAny_bind (wpAny_callSpecialIfBoundUnlessNone?_slot hT F.slot_tuple_hash (wpAny_call_entry F.slot_tuple_hash hT F.entry_tuple_hash ?_ (F.args_tuple_hash_1 _)))
 show wpAny _ _ (Builtin.Tuple.tupleItemsOf (.ref a) >>= _) _ _ s
 refine wpAny_bind (wpAny_tupleItemsOf ho hd ?_)
 refine wpAny_bind ?_
 rw [<- Array.forIn_toList]
 refine wpAny_forIn_list _
  (fun rest (b : Array Int) s' => (rest = [.ref p, .ref q] /\ b.toList = [] /\ s' = s) \/ (rest = [.ref q] /\ b.toList = [tupleKeyHash knd ks.1] /\ s' = { s with toks := s.toks + (ks.1.length + 1) }) \/
   (rest = [] /\ b.toList = [tupleKeyHash knd ks.1, tupleKeyHash knd ks.2] /\ s' = { s with toks := s.toks + (ks.1.length + 1) + (ks.2.length + 1) }))
  _ ?_ ?_ _ _ (.inl ⟨rfl, rfl, rfl⟩)
 ·rintro x rest b s' (⟨hr, hb, rfl⟩ | ⟨hr, hb, rfl⟩ | ⟨hr, _⟩)
  ·injection hr with e1 e2
   subst e1 e2
   refine wpAny_bind (wpAny_pyHash_tuple ?hu1 h1 ?_)
   case hu1 => show A.units + 1 < cLine; omega
   exact wpAny_pure (.inr (.inl ⟨rfl, by simp [hb], rfl⟩))
  ·injection hr with e1 e2
   subst e1 e2
   refine wpAny_bind (wpAny_pyHash_tuple ?hu2 h2 ?_)
   case hu2 => show A.units + 1 < cLine; omega
   exact wpAny_pure (.inr (.inr ⟨rfl, by simp [hb], rfl⟩))
  ·cases hr
 ·rintro b s' (⟨hr, _⟩ | ⟨hr, _⟩ | ⟨_, hb, rfl⟩)
  ·cases hr
  ·cases hr
  show wpAny _ _ (retInt (Builtin.Tuple.tupleHashOf b.toList)) _ _ _
  rw [hb]
  refine wpAny_ret_mkInt ?_
  show wpAny _ _ (if (decide (-(2 : Int) ^ 63 <= Builtin.Tuple.tupleHashOf [tupleKeyHash knd ks.1, tupleKeyHash knd ks.2]) && decide (Builtin.Tuple.tupleHashOf [tupleKeyHash knd ks.1, tupleKeyHash knd ks.2] < 2 ^ 63)) = true then _ else _) Q E _
  unfold ZgM reduceHash at h
  have et : s.toks + (ks.1.length + ks.2.length + 3) = s.toks + (ks.1.length + 1) + (ks.2.length + 1) + 1 := by omega
  rw [et] at h
  split
  ·rename_i hr
   rw [if_pos hr] at h
   exact wpAny_pure h
  ·rename_i hr
   rw [if_neg hr] at h
   exact wpAny_bind (wpAny_rule (wpAny_pure h))
theorem Zhv {x y : List K × List K} {a b : Addr} {P : Fin -> Shared -> Prop} (hu : A.units + 1 < cLine) (hx : ZaH knd s.heap x a) (hy : ZaH knd s.heap y b) (h : P (.done (.ret (.bool (decide (x = y))))) s) :
 wpAny (model prog w) A (Builtin.«tuple.__eq__» ⟨[.ref a, .ref b], []⟩) P E s := by
 have hTb := hy.typeIs
 obtain ⟨oa, na, p, q, hoa, _, hda, ha1, ha2⟩ := hx
 obtain ⟨ob, nb, p', q', hob, _, hdb, hb1, hb2⟩ := hy
 show wpAny _ _ (isInstance (.ref b) (.type "tuple") >>= _) _ _ s
 refine wpAny_bind (wpAny_isInstance hTb isSubtype_tuple_tuple ?_)
 simp only [Bool.not_true, Bool.false_eq_true, if_false]
 refine wpAny_bind (wpAny_tupleItemsOf hoa hda ?_)
 refine wpAny_bind (wpAny_tupleItemsOf hob hdb ?_)
 refine wpAny_bind ?_
 have e2 : decide (x = y) = (decide (x.1 = y.1) && decide (x.2 = y.2)) := by
  obtain ⟨x1, x2⟩ := x
  obtain ⟨y1, y2⟩ := y
  simp
 refine wpAny_forIn_list _
  (fun rest r s' => r.1 = none /\ s' = s /\ ((rest = [(.ref p, .ref p'), (.ref q, .ref q')]) \/ (rest = [(.ref q, .ref q')] /\ x.1 = y.1) \/ (rest = [] /\ x = y)))
  _ ?_ ?_ _ _ ⟨rfl, rfl, .inl rfl⟩
 ·rintro ⟨u, v⟩ rest r s' ⟨hr, rfl, (hz | ⟨hz, e1⟩ | ⟨hz, _⟩)⟩
  ·injection hz with z1 z2
   injection z1 with z3 z4
   subst z2 z3 z4
   refine wpAny_bind (wpAny_eqBool_tuple (by omega) ha1 hb1 ?_)
   by_cases hk : x.1 = y.1
   ·rw [decide_eq_true hk]
    simp only [Bool.not_true, Bool.false_eq_true, if_false]
    exact wpAny_pure ⟨rfl, rfl, .inr (.inl ⟨trivial, hk⟩)⟩
   ·rw [decide_eq_false hk]
    simp only [Bool.not_false, if_true]
    rw [e2, decide_eq_false hk, Bool.false_and] at h
    exact wpAny_bind (wpAny_pure (wpAny_pure (wpAny_pure h)))
  ·injection hz with z1 z2
   injection z1 with z3 z4
   subst z2 z3 z4
   refine wpAny_bind (wpAny_eqBool_tuple (by omega) ha2 hb2 ?_)
   by_cases hk : x.2 = y.2
   ·rw [decide_eq_true hk]
    simp only [Bool.not_true, Bool.false_eq_true, if_false]
    exact wpAny_pure ⟨rfl, rfl, .inr (.inr ⟨trivial, Prod.ext e1 hk⟩)⟩
   ·rw [decide_eq_false hk]
    simp only [Bool.not_false, if_true]
    rw [e2, decide_eq_false hk, Bool.and_false] at h
    exact wpAny_bind (wpAny_pure (wpAny_pure (wpAny_pure h)))
  ·cases hz
 ·rintro ⟨r1, r2⟩ s' ⟨hr, rfl, (hz | ⟨hz, _⟩ | ⟨_, e⟩)⟩
  ·cases hz
  ·cases hz
  simp only at hr
  subst hr
  refine wpAny_pure ?_
  rw [decide_eq_true e] at h
  exact h
theorem ZeG {x y : List K × List K} {a b : Addr} {Q : Bool -> Shared -> Prop} (hu : A.units + 5 < cLine) (hx : ZaH knd s.heap x a) (hy : ZaH knd s.heap y b) (h : Q (decide (x = y)) s) :
 wpAny (model prog w) A (eqBool (.ref a) (.ref b)) Q E s := by
 unfold eqBool
 try with_reducible refine wpAny_holding ?_
 show wpAny _ _ (if (Value.ref a == Value.ref b) = true then _ else _) Q E s
 by_cases hab : (Value.ref a == Value.ref b) = true
 ·rw [if_pos hab]
  have e : a = b := by have := eq_of_beq hab; injection this
  subst e
  cases hx.inj hy
  exact wpAny_bind (wpAny_rule (wpAny_pure (by simpa using h)))
 ·rw [if_neg hab]
  exact wpAny_bind (wpAny_richCompare_same_room (op := .Eq) hx.typeIs hy.typeIs F.slot_tuple_eq
   (wpAny_call_entry F.slot_tuple_eq hx.typeIs F.entry_tuple_eq (Zhv (by show _ + 1 < cLine; simp; omega) hx hy ⟨_, rfl, (fun e => nomatch e), wpAny_truthy_bool h⟩) (F.args_tuple_eq_2 _ _)) (by omega))
theorem ZiS (n : Nat) {ks : List K} {a : Addr} {Q : Bool -> Shared -> Prop} (hk : IsTupleKey knd s.heap ks a) (h : Q true s) : wpAny (model prog w) A (eqIsQuiet (n + 1) (.ref a)) Q E s := by
 have hT := hk.typeIs
 obtain ⟨o, items, m, ho, _, hd, hi⟩ := hk
 unfold eqIsQuiet
 refine wpAny_bind (wpAny_specialOf hT F.slot_tuple_eq.lookup ?_)
 show wpAny _ _ (isInstance (.ref a) (.type "tuple") >>= _) _ _ s
 refine wpAny_bind (wpAny_isInstance hT isSubtype_tuple_tuple ?_)
 simp only [Bool.not_true, Bool.false_eq_true, if_false]
 refine wpAny_bind (wpAny_seqItems ho hd ?_)
 refine wpAny_bind ?_
 show wpAny _ _ (forIn items _ _) _ _ s
 rw [<- Array.forIn_toList]
 refine wpAny_forIn_list _ (fun rest r s' => r.1 = none /\ s' = s /\ ∀ v ∈ rest, carriedByValue v = true) _ ?_ ?_ _ _ ⟨rfl, rfl, hi.byValue⟩
 ·rintro v rest r s' ⟨hr, rfl, hall⟩
  rw [eqIsQuiet_byValue _ (hall v List.mem_cons_self)]
  refine wpAny_bind (wpAny_pure ?_)
  simp only [Bool.not_true, Bool.false_eq_true, if_false]
  exact wpAny_pure ⟨rfl, rfl, fun u hu' => hall u (List.mem_cons_of_mem _ hu')⟩
 ·rintro ⟨r1, r2⟩ s' ⟨hr, rfl, _⟩
  simp only at hr
  subst hr
  exact wpAny_pure h
theorem ZdZ {ks : List K × List K} {a : Addr} {Q : Bool -> Shared -> Prop} (hk : ZaH knd s.heap ks a) (h : Q true s) : wpAny (model prog w) A (eqIsQuiet 8 (.ref a)) Q E s := by
 have hT := hk.typeIs
 obtain ⟨o, n, p, q, ho, _, hd, h1, h2⟩ := hk
 unfold eqIsQuiet
 refine wpAny_bind (wpAny_specialOf hT F.slot_tuple_eq.lookup ?_)
 show wpAny _ _ (isInstance (.ref a) (.type "tuple") >>= _) _ _ s
 refine wpAny_bind (wpAny_isInstance hT isSubtype_tuple_tuple ?_)
 simp only [Bool.not_true, Bool.false_eq_true, if_false]
 refine wpAny_bind (wpAny_seqItems ho hd ?_)
 refine wpAny_bind ?_
 show wpAny _ _ (forIn #[Value.ref p, Value.ref q] _ _) _ _ s
 rw [<- Array.forIn_toList]
 refine wpAny_forIn_list _ (fun rest r s' => r.1 = none /\ s' = s /\ ∀ v ∈ rest, ∃ z zs, v = .ref z /\ IsTupleKey knd s.heap zs z) _ ?_ ?_ _ _ ⟨rfl, rfl, fun v hv => ?_⟩
 ·rintro v rest r s' ⟨hr, rfl, hall⟩
  obtain ⟨z, zs, rfl, hz⟩ := hall v List.mem_cons_self
  refine wpAny_bind (ZiS 6 hz ?_)
  simp only [Bool.not_true, Bool.false_eq_true, if_false]
  exact wpAny_pure ⟨rfl, rfl, fun u hu' => hall u (List.mem_cons_of_mem _ hu')⟩
 ·rintro ⟨r1, r2⟩ s' ⟨hr, rfl, _⟩
  simp only at hr
  subst hr
  exact wpAny_pure h
 ·rcases List.mem_cons.mp hv with rfl | hv
  ·exact ⟨p, _, rfl, h1⟩
  ·rcases List.mem_cons.mp hv with rfl | hv
   ·exact ⟨q, _, rfl, h2⟩
   ·cases hv
end
def ZgY {prog : Program} {w : World} {K : Type} [DecidableEq K] (knd : KeyKind prog w K) : HeapKind prog w (List K × List K) where
 is := ZaH knd
 hash := ZgM knd
 draws := fun ks => ks.1.length + ks.2.length + 3
 room := fun A => A.units + 5 < cLine
 inj := fun hx hy => hx.inj hy
 keeps := fun x ho hd hs => x.keeps ho hd hs
 pyHash := fun hu hk h => ZeB hu hk h
 eqBool := fun hu hx hy h => ZeG hu hx hy h
 quiet := fun hk h => ZdZ hk h
section
variable {prog : Program} {w : World} {K : Type} [DecidableEq K] {knd : HeapKind prog w K} {A : Around} {E : Value -> Shared -> Prop} {s : Shared}
theorem Zds {d a : Addr} {xs : List (K × Addr × Value)} {k : K} {dflt : Value} {Q : Value -> Shared -> Prop} (hu : knd.room A) (hkey : knd.is s.heap k a) (hm : s.heap.DictOfH knd d xs)
 (hthere : ∀ p, atKey xs k = some p -> Q p.2 { s with toks := s.toks + knd.draws k })
 (hnew : atKey xs k = none -> ∀ h', h'.DictOfH knd d (xs ++ [(k, a, dflt)]) -> Heap.SameBut d s.heap h' -> Q dflt { s with heap := h', toks := s.toks + knd.draws k })
 (hsz : xs.length <= sizeLine) :
 wpAny (model prog w) A (dictSetDefault d (.ref a) dflt) Q E s := by
 obtain ⟨o, es, ep, ho, hc, hd, he, his, hn⟩ := hm
 unfold dictSetDefault
 try with_reducible refine wpAny_holding ?_
 refine wpAny_bind (knd.pyHash hu hkey ?_)
 refine wpAny_bind (wpAny_dictFind_heap (s := { s with toks := s.toks + knd.draws k }) hu hkey ho hd he his hn ?_ ?_)
 ·intro hno
  have hnot : k ∉ xs.map (·.1) := not_mem_keys_of_get hno
  refine wpAny_bind (wpAny_rule (wpAny_bind (wpAny_updateDictKeys (hz := by have e := size_of_entries he; omega) (s := { s with toks := s.toks + knd.draws k }) ho hd (wpAny_pure (hnew (atKey_none_of_get hno) _ ⟨_, _, ep + 1, Heap.get?_update_self _ ho (Obj.isFreed_of_dict (Obj.data_mapDictKeys hd _)),
   hc.mapDictKeys _, Obj.data_mapDictKeys hd _, ?_, ?_, ?_⟩ (Heap.SameBut.update ..))))))
  ·simp [he, entryOfKey]
  ·intro x hx
   rcases List.mem_append.mp hx with hx | hx
   ·exact knd.keeps (his x hx) ho hd (Heap.SameBut.update ..)
   ·simp only [List.mem_singleton] at hx
    subst hx
    exact knd.keeps hkey ho hd (Heap.SameBut.update ..)
  ·rw [List.map_append, List.nodup_append]
   refine ⟨hn, by simp, ?_⟩
   intro x hx y hy
   simp only [List.map_cons, List.map_nil, List.mem_singleton] at hy
   subst hy
   exact fun e => hnot (e ▸ hx)
 ·intro j p hj
  refine wpAny_bind (wpAny_dictEntries (s := { s with toks := s.toks + knd.draws k }) ho hd ?_)
  rw [entry_at he j, hj]
  exact wpAny_bind (wpAny_rule (wpAny_pure (hthere _ (atKey_of_get hn hj))))
theorem ZdE (knd : HeapKind prog w K) (d a : Addr) (hd : (d == sysModules) = false) (dflt : Value) :
 MeetsIn prog w (Builtin.«dict.setdefault» ⟨[.ref d, .ref a, dflt], []⟩) (fun A R s => knd.room A.in1 /\ ∃ k xs, knd.is s.heap k a /\ s.heap.DictOfH knd d xs /\ xs.length <= sizeLine /\
  (∀ p, atKey xs k = some p -> R (.ok (.ret p.2)) { s with toks := s.toks + knd.draws k }) /\
  (atKey xs k = none -> ∀ h', h'.DictOfH knd d (xs ++ [(k, a, dflt)]) -> Heap.SameBut d s.heap h' -> R (.ok (.ret dflt)) { s with heap := h', toks := s.toks + knd.draws k })) :=
 .of_wp fun A R s ⟨hu, k, xs, hkey, hm, hz, h1, h2⟩ => by
  unfold Builtin.«dict.setdefault»
  refine wpAny_bind ?_
  unfold Builtin.Dict.keyAndDefault
  refine wpAny_bind (wpAny_notOrdered_dict hm.typeIs ?_)
  show wpAny _ _ (pure (d, Value.ref a, some dflt)) _ _ s
  refine wpAny_pure ?_
  show wpAny _ _ (if (d == sysModules) = true then _ else (dictSetDefault d (.ref a) dflt >>= _)) _ _ s
  rw [if_neg (by rw [hd]; exact Bool.false_ne_true)]
  exact wpAny_bind (Zds hu hkey hm (fun p hp => wpAny_pure ⟨p.2, rfl, h1 p hp⟩) (fun hn h' hm' hs' => wpAny_pure ⟨dflt, rfl, h2 hn h' hm' hs'⟩) hz)
end
end PySem
theorem ZpR : 1 <= 1000 := by decide
theorem ZpN : 2 <= 1000 := by decide
namespace My
end My
namespace L2
open PySem
theorem Zbb.keep {F H H' : Hp} : ∀ {as : List Addr} {dss : List (List PyData)}, (∀ b ∈ as, H' b = H b) -> Zbb F H as dss -> Zbb F H' as dss
 | [], [], _, _ => trivial
 | a :: as, _ :: _, h, o => by
   obtain ⟨⟨h1, xs, h2, h3⟩, o2⟩ := o
   exact ⟨⟨h1, xs, by rw [h a List.mem_cons_self]; exact h2, h3⟩, Zbb.keep (fun b hb => h b (List.mem_cons_of_mem _ hb)) o2⟩
 | [], _ :: _, _, h => False.elim h
 | _ :: _, [], _, h => False.elim h
theorem ZaE.keep {K : W.Frag} {F H H' : Hp} {v : V} {t : OT} {p : List Addr} (k : ∀ b ∈ p, H' b = H b) (h : ZaE K F H v t p) : ZaE K F H' v t p := by
 cases t with
 | fz d => exact h
 | zow Ψ => exact h
 | ol ds =>
   obtain ⟨a, rfl, rfl, h1, xs, h2, h3⟩ := h
   exact ⟨a, rfl, rfl, h1, xs, by rw [k a List.mem_cons_self]; exact h2, h3⟩
 | oll dss =>
   obtain ⟨a, as, rfl, rfl, h1, h2, h3, h4⟩ := h
   exact ⟨a, as, rfl, rfl, h1, h2, by rw [k a List.mem_cons_self]; exact h3, h4.keep fun b hb => k b (List.mem_cons_of_mem _ hb)⟩
 | scr ns => exact h
 | own v0 Φ =>
   obtain ⟨h1, h2⟩ := h
   exact ⟨h1, Φ.mono (ZaF.refl _) (fun a ha => (Φ.there h2 a ha).1) k h2⟩
theorem Sta.writeOwn {K : W.Frag} {H0 F H : Hp} {ρ : Zbe} {σ : St} {i : Nat} {v : V} {Φ : OwnP} (s : Sta K H0 F ρ σ H) (e : ρ[i]? = some (some (.own v Φ))) :
 σ[i]? = some (some v) /\ ∃ p, Φ.ok K F H v p /\ (∀ a ∈ p, H0 a = none /\ F a = none /\ H a ≠ none) /\
  ∀ (H' : Hp) (Φ' : OwnP) (p' : List Addr), ZaF F H' -> (∀ b, b ∉ p -> H b ≠ none -> H' b = H b) -> (∀ b, H b ≠ none -> H' b ≠ none) -> Φ'.ok K F H' v p' -> (∀ a ∈ p', a ∈ p \/ (H a = none /\ H0 a = none)) ->
   Sta K H0 F (ρ.set i (some (.own v Φ'))) σ H' := by
 obtain ⟨kt, h1, h2, fp, h3, h4, h5⟩ := s
 obtain ⟨u, e1, rfl, e2⟩ := h3 i _ e
 refine ⟨e1, fp i, e2, fun a ha => ⟨(h5 i a ha).1, (Φ.there e2 a ha).1, (h5 i a ha).2⟩, fun H' Φ' p' sm kp st ok sub => ?_⟩
 have hlt := (List.getElem?_eq_some_iff.mp e).1
 refine ⟨kt, sm, by simp [h2], fun j => if j = i then p' else fp j, fun j t' e' => ?_, fun j k a ha hb => ?_, fun j a ha => ?_⟩
 ·by_cases hj : j = i
  ·subst hj
   rw [List.getElem?_set_self hlt] at e'
   cases e'
   refine ⟨_, e1, rfl, ?_⟩
   simp only [if_true]
   exact ok
  ·rw [List.getElem?_set_ne (Ne.symm hj)] at e'
   obtain ⟨u', f1, f2⟩ := h3 j t' e'
   refine ⟨u', f1, ?_⟩
   simp only [if_neg hj]
   exact f2.keep fun b hb => kp b (fun z => hj (h4 j i b hb z)) (h5 j b hb).2
 ·by_cases hj : j = i
  ·by_cases hk : k = i
   ·omega
   ·simp only [if_pos hj] at ha
    simp only [if_neg hk] at hb
    rcases sub a ha with z | z
    ·exact absurd (h4 k i a hb z) hk
    ·exact absurd z.1 (h5 k a hb).2
  ·simp only [if_neg hj] at ha
   by_cases hk : k = i
   ·simp only [if_pos hk] at hb
    rcases sub a hb with z | z
    ·exact absurd (h4 j i a ha z) hj
    ·exact absurd z.1 (h5 j a ha).2
   ·simp only [if_neg hk] at hb
    exact h4 j k a ha hb
 ·by_cases hj : j = i
  ·simp only [if_pos hj] at ha
   rcases sub a ha with z | z
   ·exact ⟨(h5 i a z).1, st a (h5 i a z).2⟩
   ·exact ⟨z.2, (Φ'.there ok a ha).2⟩
  ·simp only [if_neg hj] at ha
   exact ⟨(h5 j a ha).1, st a (h5 j a ha).2⟩
end L2
namespace L2
open PySem
def ZrM : Key -> PyData
 | .inl i => .int i
 | .inr x => .str x
def Zck (k : List Key) : PyData := .tuple (k.map ZrM)
theorem ZnA {F : Hp} {y : V} {k : Key} (r : Rep F y (ZrM k)) : y = kV k := by
 cases k with
 | inl i => cases r; rfl
 | inr x => cases r; rfl
theorem Zhq {F : Hp} : ∀ {ys : List V} {k : List Key}, Reps F ys (k.map ZrM) -> ys = k.map kV
 | _, [], .nil => rfl
 | _, k :: ks, .cons r rs => by rw [ZnA r, Zhq rs]; rfl
theorem Zdp {F : Hp} {y : V} {k : List Key} (r : Rep F y (Zck k)) : ∃ b, y = .ref b /\ F b = some (.tup (k.map kV)) := by
 unfold Zck at r
 cases r with
 | tup h rs => exact ⟨_, rfl, by rw [h, Zhq rs]⟩
abbrev Zfe := List (List Key × PyData)
def Zim (kvs : Zfe) (k : List Key) : Option PyData := (kvs.find? fun kv => decide (kv.1 = k)).map (·.2)
def ZpS (kvs : Zfe) (k : List Key) (d : PyData) : Zfe := if (kvs.any fun kv => decide (kv.1 = k)) = true then kvs.map (fun kv => if kv.1 = k then (kv.1, d) else kv) else kvs ++ [(k, d)]
inductive PairD (F : Hp) : List (List Key × V) -> Zfe -> Prop
 | nil : PairD F [] []
 | cons {k : List Key} {x : V} {d : PyData} {xs : List (List Key × V)} {kvs : Zfe} : Rep F x d -> PairD F xs kvs -> PairD F ((k, x) :: xs) ((k, d) :: kvs)
theorem PairD.mono {F F' : Hp} (s : ZaF F F') : ∀ {xs : List (List Key × V)} {kvs : Zfe}, PairD F xs kvs -> PairD F' xs kvs
 | _, _, .nil => .nil
 | _, _, .cons r t => .cons (r.mono s) (t.mono s)
theorem PairD.length {F : Hp} : ∀ {xs : List (List Key × V)} {kvs : Zfe}, PairD F xs kvs -> xs.length = kvs.length
 | _, _, .nil => rfl
 | _, _, .cons _ t => by simp [t.length]
theorem PairD.val {F : Hp} (k : List Key) : ∀ {xs : List (List Key × V)} {kvs : Zfe}, PairD F xs kvs -> (ZdW xs k = none /\ Zim kvs k = none) \/ ∃ x d, ZdW xs k = some x /\ Zim kvs k = some d /\ Rep F x d
 | _, _, .nil => .inl ⟨rfl, rfl⟩
 | _, _, .cons (k := k') (x := x) (d := d) (xs := xs) (kvs := kvs) r t => by
   by_cases e : k' = k
   ·exact .inr ⟨x, d, Zcn e, by simp [Zim, List.find?_cons, e], r⟩
   ·have q : Zim ((k', d) :: kvs) k = Zim kvs k := by simp [Zim, List.find?_cons, e]
    rw [Zcw (p := (k', x)) e, q]
    exact t.val k
theorem PairD.any {F : Hp} (k : List Key) : ∀ {xs : List (List Key × V)} {kvs : Zfe}, PairD F xs kvs -> (xs.any fun kv => decide (kv.1 = k)) = (kvs.any fun kv => decide (kv.1 = k))
 | _, _, .nil => rfl
 | _, _, .cons _ t => by simp [t.any k]
theorem PairD.mapP {F : Hp} (k : List Key) {y : V} {d : PyData} (r : Rep F y d) : ∀ {xs : List (List Key × V)} {kvs : Zfe}, PairD F xs kvs -> PairD F (xs.map fun kv => if kv.1 = k then (kv.1, y) else kv) (kvs.map fun kv => if kv.1 = k then (kv.1, d) else kv)
 | _, _, .nil => .nil
 | _, _, .cons (k := k') r' t => by
   rw [List.map_cons, List.map_cons]
   by_cases e : k' = k
   ·simp only [e, if_true]
    exact .cons r (t.mapP k r)
   ·simp only [e, if_false]
    exact .cons r' (t.mapP k r)
theorem PairD.snoc {F : Hp} (k : List Key) {y : V} {d : PyData} (r : Rep F y d) : ∀ {xs : List (List Key × V)} {kvs : Zfe}, PairD F xs kvs -> PairD F (xs ++ [(k, y)]) (kvs ++ [(k, d)])
 | _, _, .nil => .cons r .nil
 | _, _, .cons r' t => .cons r' (t.snoc k r)
theorem PairD.put {F : Hp} (k : List Key) {y : V} {d : PyData} (r : Rep F y d) {xs : List (List Key × V)} {kvs : Zfe} (t : PairD F xs kvs) : PairD F (ZjI xs k y) (ZpS kvs k d) := by
 unfold ZjI ZpS
 rw [t.any k]
 split
 ·exact t.mapP k r
 ·exact t.snoc k r
def ZgU (kvs : Zfe) : OwnP where
 ok K F H v p := ∃ a xs, v = .ref a /\ p = [a] /\ F a = none /\ H a = some (.dT xs) /\ PairD F xs kvs
 there := by
  rintro K F H v p ⟨a, xs, rfl, rfl, h1, h2, h3⟩ b hb
  cases List.mem_singleton.mp hb
  exact ⟨h1, ZbP h2⟩
 mono := by
  rintro K F F' H H' v p s hF hH ⟨a, xs, rfl, rfl, h1, h2, h3⟩
  exact ⟨a, xs, rfl, rfl, hF a List.mem_cons_self, by rw [hH a List.mem_cons_self]; exact h2, h3.mono s⟩
 uniq := by
  rintro K F H v p q ⟨a, xs, rfl, rfl, _⟩ ⟨b, ys, e, rfl, _⟩ c hc
  cases e
  exact hc
section
variable {K : W.Frag} {ρ : Zbe} {te ty tv : TE} {D : PEnds} {i : Nat} {v : V} {kvs : Zfe} {k : List Key} {d : PyData}
theorem Sta.dct {H0 F H : Hp} {σ : St} (S : Sta K H0 F ρ σ H) (e : ρ[i]? = some (some (.own v (ZgU kvs)))) :
 ∃ a xs, v = .ref a /\ σ[i]? = some (some (.ref a)) /\ F a = none /\ H0 a = none /\ H a = some (.dT xs) /\ PairD F xs kvs := by
 obtain ⟨e1, p, ⟨a, xs, rfl, rfl, h1, h2, h3⟩, hp, _⟩ := S.writeOwn e
 exact ⟨a, xs, rfl, e1, h1, (hp a List.mem_cons_self).1, h2, h3⟩
theorem ZeQ {F : Hp} {xs : List (List Key × V)} (t : PairD F xs kvs) : (ZdW xs k).isSome = (Zim kvs k).isSome := by
 rcases t.val k with ⟨z1, z2⟩ | ⟨x, d', z1, z2, _⟩ <;> rw [z1, z2] <;> rfl
theorem ZoO (hy : EvE K ty ρ (Zck k)) (e : ρ[i]? = some (some (.own v (ZgU kvs)))) : EvE K (ZrA ty (ZcP i)) ρ (.bool (Zim kvs k).isSome) := fun H0 F σ H Q S q =>
 hy H0 F σ H _ S fun F1 H1 y x1 r1 => by
  obtain ⟨a, xs, rfl, e1, _, _, f2, f3⟩ := (S.ext x1).dct e
  obtain ⟨b, rfl, hb⟩ := Zdp r1
  exact ⟨_, e1, a, _, rfl, Zhb.t f2 (x1.fh _ _ hb), q F1 H1 _ x1 (by rw [ZeQ f3]; exact .bl _)⟩
theorem Zk6 (hy : EvE K ty ρ (Zck k)) (e : ρ[i]? = some (some (.own v (ZgU kvs)))) : EvE K (Zmf ty (ZcP i)) ρ (.bool (!(Zim kvs k).isSome)) := fun H0 F σ H Q S q =>
 hy H0 F σ H _ S fun F1 H1 y x1 r1 => by
  obtain ⟨a, xs, rfl, e1, _, _, f2, f3⟩ := (S.ext x1).dct e
  obtain ⟨b, rfl, hb⟩ := Zdp r1
  exact ⟨_, e1, a, _, rfl, Zhb.t f2 (x1.fh _ _ hb), q F1 H1 _ x1 (by rw [ZeQ f3]; exact .bl _)⟩
theorem ZmE (e : ρ[i]? = some (some (.own v (ZgU kvs)))) (hv : EvE K tv ρ d) (hy : EvE K ty ρ (Zck k)) (hz : kvs.length < sizeLine) (hn : D.nx (ρ.set i (some (.own v (ZgU (ZpS kvs k d)))))) : EvS K (Zra (ZcP i) ty tv) ρ D := fun F0 H0 F σ H E x S C =>
 hv H0 F σ H _ S fun F1 H1 u x1 r1 => by
  obtain ⟨a, xs, rfl, e1, _⟩ := (S.ext x1).dct e
  refine ⟨_, e1, hy H0 F1 σ H1 _ (S.ext x1) fun F2 H2 y x2 r2 => ?_⟩
  have S2 := S.ext (x1.trans x2)
  obtain ⟨a', xs', ea, _, g1, g0, g2, g3⟩ := S2.dct e
  cases ea
  obtain ⟨b, rfl, hb⟩ := Zdp r2
  refine ⟨a, _, rfl, ZoS.t g2 (x2.fh _ _ hb) (by rw [g3.length]; exact hz), ?_⟩
  obtain ⟨_, p, ok, hp, w⟩ := S2.writeOwn e
  obtain ⟨a'', xs'', ea, rfl, _, g4, _⟩ := ok
  cases ea
  refine C.nx F2 σ _ _ ((x.trans (x1.trans x2)).wr g0 g1) (w _ (ZgU (ZpS kvs k d)) [a] (S2.sub.upd g1) (fun c hc _ => Zag fun z => hc (by rw [z]; exact List.mem_cons_self)) (fun c hc => ?_) ⟨a, _, rfl, rfl, g1, Zak, g3.put k (r1.mono x2.ff)⟩ (fun c hc => .inl hc)) hn
  by_cases z : c = a
  ·subst z; rw [Zak]; exact fun q => nomatch q
  ·rw [Zag z]; exact hc
def EvX (K : W.Frag) (t : TE) (ρ : Zbe) (Φ : OwnP) : Prop := ∀ (H0 F : Hp) (σ : St) (H : Hp) (Q : VK), Sta K H0 F ρ σ H -> (∀ F' H' v p, Ext F H F' H' -> (∀ a ∈ p, H a = none) -> Φ.ok K F' H' v p -> Q v H') -> t σ H Q
theorem Zjq : ∀ {as bs : List Addr}, as.map V.ref = bs.map V.ref -> as = bs
 | [], [], _ => rfl
 | a :: as, b :: bs, h => by
   rw [List.map_cons, List.map_cons] at h
   injection h with h1 h2
   cases h1
   rw [Zjq h2]
 | [], _ :: _, h => by cases h
 | _ :: _, [], h => by cases h
theorem Zh9 {F H : Hp} {w : V} {t : OT} {p q : List Addr} (h : ZaE K F H w t p) (h' : ZaE K F H w t q) : ∀ b ∈ q, b ∈ p := by
 cases t with
 | fz d => rw [h'.1]; intro b hb; cases hb
 | zow Ψ => rw [h'.1]; intro b hb; cases hb
 | ol ds =>
   obtain ⟨b1, z1, z2, z3⟩ := h'
   obtain ⟨b2, y1, y2, y3⟩ := h
   rw [z1] at y1
   cases y1
   rw [z2, y2]
   exact fun _ z => z
 | oll dss =>
   obtain ⟨a, as, z1, z2, _, _, z3, _⟩ := h'
   obtain ⟨b, bs, y1, y2, _, _, y3, _⟩ := h
   rw [z1] at y1
   cases y1
   rw [z3] at y3
   injection y3 with y4
   injection y4 with y5
   rw [z2, y2, Zjq y5]
   exact fun _ z => z
 | scr ns => rw [h'.1]; intro b hb; cases hb
 | own v0 Φ => exact Φ.uniq h.2 h'.2
theorem ZkT {Φ : OwnP} (h : EvX K te ρ Φ) (hn : ∀ v, D.nx (ρ.set i (some (.own v Φ)))) : EvS K (Znc te (ZgA i)) ρ D := fun F0 H0 F σ H E x S C =>
 h H0 F σ H _ S fun F' H' v p x' hp ok => by
  refine C.nx F' _ H' _ (x.trans x') ((S.ext x').set (t := .own v Φ) ⟨rfl, ok⟩ (fun a ha => x.hh.free (hp a ha)) (hn := fun a ha j w t' q e1 e2 ok' => ?_)) (hn v)
  obtain ⟨fp, g1, g2, g3⟩ := S.fp
  obtain ⟨w', f1, f2⟩ := g1 j t' e1
  intro hq
  have f3 := f2.ext x'
  rw [e2] at f1
  cases f1
  exact (g3 j a (Zh9 (K := K) f3 ok' a hq)).2 (hp a ha)
end
end L2
namespace Mir
open PySem
theorem Zk7 (e : Nat) : Builtin.bitAnd (e : Int) 1 = ((e % 2 : Nat) : Int) := by
 unfold Builtin.bitAnd
 have h1 : decide ((0 : Int) <= (e : Int)) = true := decide_eq_true (by omega)
 have h2 : decide ((0 : Int) <= 1) = true := rfl
 rw [h1, h2]
 show ((((e : Int).toNat &&& (1 : Int).toNat : Nat)) : Int) = _
 rw [Int.toNat_natCast, show (1 : Int).toNat = 1 from rfl, Nat.and_one_is_mod]
theorem Zrg (e : Nat) : e ||| 1 = e + 1 - e % 2 := by
 apply Nat.eq_of_testBit_eq
 intro i
 rw [Nat.testBit_or]
 have h2 : e % 2 = 0 \/ e % 2 = 1 := by omega
 cases i with
 | zero =>
   rw [Nat.testBit_zero, Nat.testBit_zero, Nat.testBit_zero]
   have : (e + 1 - e % 2) % 2 = 1 := by omega
   rw [this]
   rcases h2 with h | h <;> rw [h] <;> rfl
 | succ i =>
   rw [Nat.testBit_succ, Nat.testBit_succ, Nat.testBit_succ]
   have : (e + 1 - e % 2) / 2 = e / 2 := by omega
   rw [this]
   simp
theorem Zla (e : Nat) : Builtin.bitOr (e : Int) 1 = ((e + 1 - e % 2 : Nat) : Int) := by
 unfold Builtin.bitOr
 have a : Builtin.bitNot (e : Int) = -(e : Int) - 1 := rfl
 have b : Builtin.bitNot 1 = -2 := rfl
 have c : Builtin.bitAnd (Builtin.bitNot (e : Int)) (Builtin.bitNot 1) = Builtin.bitNot (((e ||| 1 : Nat)) : Int) := by
  rw [a, b]
  unfold Builtin.bitAnd
  have h1 : decide ((0 : Int) <= -(e : Int) - 1) = false := decide_eq_false (by omega)
  have h2 : decide ((0 : Int) <= -2) = false := rfl
  rw [h1, h2]
  show Builtin.bitNot ((((Builtin.bitNot (-(e : Int) - 1)).toNat ||| (Builtin.bitNot (-2)).toNat : Nat)) : Int) = _
  have e1 : (Builtin.bitNot (-(e : Int) - 1)).toNat = e := by show (-(-(e : Int) - 1) - 1).toNat = e; omega
  have e2 : (Builtin.bitNot (-2)).toNat = 1 := rfl
  rw [e1, e2]
 rw [c, Zrg]
 show -(-(((e + 1 - e % 2 : Nat)) : Int) - 1) - 1 = _
 omega
theorem ZfD (e : Nat) : Builtin.bitXor (e : Int) 1 = (ZeD e : Int) := by
 unfold Builtin.bitXor
 rw [Zk7, Zla]
 unfold ZeD
 split <;> omega
end Mir
namespace L2
open PySem PySem.Spec PyProof.Rows
abbrev KK := List Key × List Key
def Zod (P : Program) (w : World) (a : Addr) (xs : List (KK × Addr × V)) (h : Heap) : Prop := xs.length <= sizeLine /\ (a == sysModules) = false /\ ∃ vs : List (KK × Addr × Value),
 Paired (fun (x : KK × Addr × V) (y : KK × Addr × Value) => x.1 = y.1 /\ x.2.1 = y.2.1 /\ Zbg x.2.2 y.2.2) xs vs /\
 ∃ o es ep, h.get? a = some o /\ o.ExactDict /\ o.data = .dict es ep /\ es.toList = vs.map (entryOfKey (ZgY (ZaZ P w))) /\ (vs.map (·.1)).Nodup
def pdO (P : Program) (w : World) (a : Addr) (xs : List (KK × Addr × V)) : HO := .ext (Zod P w a xs)
theorem Zod.move {P : Program} {w : World} {a : Addr} {xs : List (KK × Addr × V)} {h1 h2 : Heap} (x : Zod P w a xs h1) (k : ∀ o, h1.get? a = some o -> h2.get? a = some o) : Zod P w a xs h2 := by
 obtain ⟨z, y, vs, r, o, es, ep, e1, e2, e3, e4, e5⟩ := x
 exact ⟨z, y, vs, r, o, es, ep, k _ e1, e2, e3, e4, e5⟩
theorem Zod.ok {P : Program} {w : World} {a : Addr} {xs : List (KK × Addr × V)} {H : Hp} {h : Heap} (x : Zod P w a xs h) : ZcE P w H h a (pdO P w a xs) := by
 refine ⟨x, ?_, fun h1 h2 y k => y.move k⟩
 obtain ⟨z, y, vs, r, o, es, ep, e1, _⟩ := x
 exact ⟨o, e1⟩
def Zdj (H : Hp) (k : KK) (b : Addr) : Prop := ∃ p q, H b = some (.tup [.ref p, .ref q]) /\ H p = some (.tup (k.1.map kV)) /\ H q = some (.tup (k.2.map kV))
theorem Zdj.mono {H H' : Hp} (s : ∀ b ys, H b = some (.tup ys) -> H' b = some (.tup ys)) {k : KK} {b : Addr} (x : Zdj H k b) : Zdj H' k b := by
 obtain ⟨p, q, h1, h2, h3⟩ := x
 exact ⟨p, q, s _ _ h1, s _ _ h2, s _ _ h3⟩
section
variable {P : Program} {w : World} {H : Hp} {h : Heap} {a b : Addr}
theorem ZjL {k : KK} (ok : HOk P w H h) (x : Zdj H k b) : (ZgY (ZaZ P w)).is h k b := by
 obtain ⟨p, q, h1, h2, h3⟩ := x
 obtain ⟨_, its, r, o, e1, e2, n, e3⟩ := (show ZcE P w H h b (.tup [.ref p, .ref q]) from ok b _ h1)
 cases r with
 | cons r1 r =>
   cases r with
   | cons r2 r =>
     cases r
     cases (show _ = Value.ref p from r1)
     cases (show _ = Value.ref q from r2)
     exact ⟨o, n, p, q, e1, e2, e3, Zeg ok h2, Zeg ok h3⟩
theorem Zrt {xs : List (KK × Addr × V)} (ok : HOk P w H h) (e : H a = some (pdO P w a xs)) (hk : ∀ x ∈ xs, Zdj H x.1 x.2.1) : xs.length <= sizeLine /\ (a == sysModules) = false /\ ∃ vs,
 Paired (fun (x : KK × Addr × V) (y : KK × Addr × Value) => x.1 = y.1 /\ x.2.1 = y.2.1 /\ Zbg x.2.2 y.2.2) xs vs /\ h.DictOfH (ZgY (ZaZ P w)) a vs := by
 obtain ⟨⟨z, y, vs, r, o, es, ep, e1, e2, e3, e4, e5⟩, hst⟩ := (show ZcE P w H h a (pdO P w a xs) from ok a _ e)
 refine ⟨z, y, vs, r, o, es, ep, e1, e2, e3, e4, ?_, e5⟩
 clear e5 e4 z e hst
 induction r with
 | nil => intro x hx; exact nomatch hx
 | @cons p q ps qs hq t ih =>
   intro x hx
   rcases List.mem_cons.mp hx with rfl | hx
   ·have := ZjL ok (hk p List.mem_cons_self)
    rw [hq.1, hq.2.1] at this
    exact this
   ·exact ih (fun z hz => hk z (List.mem_cons_of_mem _ hz)) x hx
end
def Zm2 (xs : List (KK × Addr × V)) (k : KK) : Option V := (xs.find? fun x => decide (x.1 = k)).map (·.2.2)
abbrev RPD := Paired (fun (x : KK × Addr × V) (y : KK × Addr × Value) => x.1 = y.1 /\ x.2.1 = y.2.1 /\ Zbg x.2.2 y.2.2)
theorem RPD.val (k : KK) {xs : List (KK × Addr × V)} {vs : List (KK × Addr × Value)} (r : RPD xs vs) : ZfN (Zm2 xs k) ((atKey vs k).map (·.2)) := by
 induction r with
 | nil => exact True.intro
 | @cons p q ps qs hq t ih =>
   by_cases e : p.1 = k
   ·have e1 : Zm2 (p :: ps) k = some p.2.2 := by simp [Zm2, List.find?_cons, e]
    have e2 : (atKey (q :: qs) k).map (·.2) = some q.2.2 := by simp [atKey, List.find?_cons, <- hq.1, e]
    rw [e1, e2]
    exact hq.2.2
   ·have e1 : Zm2 (p :: ps) k = Zm2 ps k := by simp [Zm2, List.find?_cons, e]
    have e2 : (atKey (q :: qs) k).map (·.2) = (atKey qs k).map (·.2) := by simp [atKey, List.find?_cons, <- hq.1, e]
    rw [e1, e2]
    exact ih
def ZnP (xs : List (KK × Addr × V)) (k : KK) (b : Addr) (v : V) : List (KK × Addr × V) := if (Zm2 xs k).isSome = true then xs.map (fun x => if x.1 = k then (x.1, x.2.1, v) else x) else xs ++ [(k, b, v)]
theorem RPD.repl (k : KK) {v : V} {u : Value} (rv : Zbg v u) {xs : List (KK × Addr × V)} {vs : List (KK × Addr × Value)} (r : RPD xs vs) : RPD (xs.map fun x => if x.1 = k then (x.1, x.2.1, v) else x) (vs.map (putAt k u)) := by
 induction r with
 | nil => exact .nil
 | @cons p q ps qs hq t ih =>
   rw [List.map_cons, List.map_cons]
   refine .cons ?_ ih
   unfold putAt
   by_cases e : p.1 = k
   ·rw [if_pos e, if_pos (hq.1 ▸ e)]
    exact ⟨hq.1, hq.2.1, rv⟩
   ·rw [if_neg e, if_neg (hq.1 ▸ e)]
    exact hq
theorem ZfN.some_eq : ∀ {x : Option V} {y : Option Value}, ZfN x y -> x.isSome = y.isSome
 | none, none, _ => rfl
 | some _, some _, _ => rfl
 | none, some _, h => by cases h
 | some _, none, h => by cases h
theorem RPD.put (k : KK) (b : Addr) {v : V} {u : Value} (rv : Zbg v u) {xs : List (KK × Addr × V)} {vs : List (KK × Addr × Value)} (r : RPD xs vs) : RPD (ZnP xs k b v) (storedH vs k b u) := by
 have e := ZfN.some_eq (r.val k)
 rw [Option.isSome_map] at e
 unfold ZnP storedH
 rw [e]
 split
 ·exact r.repl k rv
 ·exact Paired.snoc r ⟨rfl, rfl, rv⟩
theorem ZiF (xs : List (KK × Addr × V)) (k : KK) (b : Addr) (v : V) : (ZnP xs k b v).length <= xs.length + 1 := by
 unfold ZnP
 split <;> simp
section
variable {X : Cx} {pins : List (Addr × Obj)} {σ : St} {H : Hp} {s : Shared} {a b : Addr} {v : V} {r : Value} {A : Around} {E : Value -> Shared -> Prop} {xs : List (KK × Addr × V)} {k : KK}
theorem ZkV {Q : Unit -> Shared -> Prop} (hu : A.units + 6 < cLine) (I : Inv X pins σ H s) (e : H a = some (pdO X.prog X.w a xs)) (hk : ∀ x ∈ xs, Zdj H x.1 x.2.1) (hb : Zdj H k b) (l : xs.length < sizeLine) (rv : Zbg v r)
 (h : ∀ s', Inv X pins σ (upd H a (pdO X.prog X.w a (ZnP xs k b v))) s' -> Q () s') : wpAny (model X.prog X.w) A (setItem (.ref a) (.ref b) r) Q E s := by
 obtain ⟨z, hd, vs, rel, dd⟩ := Zrt I.hok e hk
 have hz : vs.length <= sizeLine := by rw [<- Paired.length rel]; exact z
 refine wpAny_setItem_heap (hsz := hz) (show A.units + 1 + 5 < cLine by omega) (ZjL I.hok hb) dd fun h' dd' hs => h _ ?_
 obtain ⟨q, es, ep, hq, h2, h3, h4, _, h5⟩ := dd'
 exact ZfJ I (by rw [e]; exact True.intro) hs ⟨q, hq⟩ (Zod.ok ⟨by have := ZiF xs k b v; omega, hd, _, RPD.put k b rv rel, q, es, ep, hq, h2, h3, h4, h5⟩)
end
end L2
namespace L2
open PySem PySem.Spec PyProof.Rows
section
variable {X : Cx} {pins : List (Addr × Obj)} {σ : St} {H : Hp} {s : Shared} {a b : Addr} {d : V} {r : Value} {A : Around} {E : Value -> Shared -> Prop} {kvs : List (List Key × V)} {k : List Key}
theorem ZmG {Q : Value -> Shared -> Prop} (hu : A.units + 1 < cLine) (I : Inv X pins σ H s) (e : H a = some (.dT kvs)) (eb : H b = some (.tup (k.map kV))) (l : kvs.length < sizeLine) (rd : Zbg d r)
 (h1 : ∀ v u s', ZdW kvs k = some v -> Inv X pins σ H s' -> Zbg v u -> Q u s') (h2 : ZdW kvs k = none -> ∀ s', Inv X pins σ (upd H a (.dT (kvs ++ [(k, d)]))) s' -> Q r s') :
 wpAny (model X.prog X.w) A (call (.builtin "dict.setdefault") [.ref a, .ref b, r]) Q E s := by
 obtain ⟨z, hd, xs, rel, dd⟩ := ZoD I.hok e
 have hz : xs.length <= sizeLine := by rw [<- Paired.length rel]; exact z
 have rr := rel.val k
 refine call_meetsIn PySem.F.slot_dict_setdefault dd.typeIs PySem.F.entry_dict_setdefault (PySem.F.args_dict_setdefault_3 _ _ _) (ZdE (tupleKind (ZaZ X.prog X.w)) a b hd r)
  ⟨tupleKind_room_in1 hu, k, xs, Zeg I.hok eb, dd, hz, fun p hp => ?_, fun hn h' dd' hs => ?_⟩
 ·rw [hp] at rr
  cases ev : ZdW kvs k with
  | none => rw [ev] at rr; cases rr
  | some v => rw [ev] at rr; exact h1 v _ _ ev (I.tok _) rr
 ·have ev : ZdW kvs k = none := by
   rw [hn] at rr
   cases ev : ZdW kvs k with
   | none => rfl
   | some v => rw [ev] at rr; cases rr
  refine h2 ev _ ?_
  obtain ⟨q, es, ep, hq, g2, g3, g4, _, g5⟩ := dd'
  refine ZfJ I (by rw [e]; exact True.intro) hs ⟨q, hq⟩ ⟨by simp; omega, hd, _, (show KT H (kvs ++ [(k, d)]) (xs ++ [(k, b, r)]) from Paired.snoc rel ⟨rfl, eb, rd⟩).keeps fun c ys ec => ?_, q, es, ep, hq, g2, g3, g4, g5⟩
  rw [Zag (fun z => by subst z; rw [e] at ec; cases ec)]
  exact ec
end
def Zoc (td ty tx : TE) : TE := fun σ H Q => td σ H fun x H1 => ∃ a, x = .ref a /\ IsD H1 a /\ ty σ H1 fun y H2 => tx σ H2 fun z H3 => ∃ kvs k b, y = .ref b /\ H3 a = some (.dT kvs) /\ H3 b = some (.tup (k.map kV)) /\ kvs.length < sizeLine /\
 (∀ v, ZdW kvs k = some v -> Q v H3) /\ (ZdW kvs k = none -> Q z (upd H3 a (.dT (kvs ++ [(k, z)]))))
section
variable {X : Cx} {o e f value : Expr} {apos cpos pos pos' : Pos} {td ty tx tv : TE}
theorem ZmX (hu : X.A.units + 1 < cLine) (ho : PE X o td) (he : PE X e ty) (hf : PE X f tx) (m : M2 X o "setdefault" apos e f cpos) : PE X (.Call (.Attribute o "setdefault" apos) [e, f] [] cpos) (Zoc td ty tx) := by
 intro pins s σ H Q I h
 refine wpAny_Call_method m.base m.few m.line PySem.F.plainAttrs_dict PySem.F.slot_dict_setdefault PySem.F.type_dict_setdefault (thn (ho pins s σ H _ I h) fun u s1 ⟨x, H1, I1, rx, a, ex, d, q1⟩ => ?_)
 subst ex
 obtain rfl : u = Value.ref a := rx
 obtain ⟨t1, t2, _⟩ := ZnW I1 d
 refine ⟨t1, t2, ?_⟩
 rw [m.trees]
 refine Calls.callWith_builtin rfl (Calls.evalArgs_plain (Calls.spliced_cons (thn (he pins s1 σ H1 _ I1 q1) fun iv s2 ⟨y, H2, I2, ry, q2⟩ =>
  Calls.spliced_cons (thn (hf pins s2 σ H2 _ I2 q2) fun fv s3 ⟨z, H3, I3, rz, kvs, k, b, ey, e1, e2, l, q3, q4⟩ => Calls.spliced_nil ?_))))
 subst ey
 cases (show iv = Value.ref b from ry)
 exact ZmG hu I3 e1 e2 l rz (fun v u s' ev I4 rv => ⟨v, H3, I4, rv, q3 v ev⟩) (fun ev s' I4 => ⟨z, _, I4, rz, q4 ev⟩)
def Zqf (P : Program) (w : World) (td ty tv : TE) : TS := fun D σ H => tv σ H fun v H1 => td σ H1 fun x H2 => ty σ H2 fun y H3 => ∃ a b xs k, x = .ref a /\ y = .ref b /\ H3 a = some (pdO P w a xs) /\ (∀ x ∈ xs, Zdj H3 x.1 x.2.1) /\ Zdj H3 k b /\ xs.length < sizeLine /\
 D.nx σ (upd H3 a (pdO P w a (ZnP xs k b v)))
theorem ZpI (hu : X.A.units + 6 < cLine) (ho : PE X o td) (hi : PE X e ty) (hv : PE X value tv) (hs : swapsWith value (some (.Subscript o e pos')) pos.line X.env = pure false) :
 PS X (.Assign [.Subscript o e pos'] value pos) (Zqf X.prog X.w td ty tv) := by
 intro pins s σ H D I h
 refine wpAny_Assign_Subscript (thn (hv pins s σ H _ I h) fun r s1 ⟨v, H1, I1, rv, q1⟩ => thn (ho pins s1 σ H1 _ I1 q1) fun u s2 ⟨x, H2, I2, rx, q2⟩ => thn (hi pins s2 σ H2 _ I2 q2) fun iv s3 ⟨y, H3, I3, ry, a, b, xs, k, ex, ey, e1, e2, e3, l, q3⟩ => ?_) hs
 subst ex ey
 obtain rfl : u = Value.ref a := rx
 obtain rfl : iv = Value.ref b := ry
 exact ZkV hu I3 e1 e2 e3 l rv fun s4 I4 => ⟨σ, _, I4, q3⟩
end
end L2
namespace L2
open PySem PySem.Spec PyProof.Rows
def ZqL (P : Program) (w : World) : TE := fun _ H Q => ∀ p, H p = none -> Q (.ref p) (upd H p (pdO P w p []))
theorem Znp {X : Cx} {pos : Pos} : PE X (.Dict [] [] pos) (ZqL X.prog X.w) := fun pins s σ H Q I h =>
 wpAny_Dict_empty ⟨.ref s.heap.objs.size, _, I.laid (a := s.heap.objs.size) (o := pdO X.prog X.w s.heap.objs.size []) (t' := s.toks) (fun _ _ q => Heap.get?_push_of_some _ q) (Nat.le_refl _)
  (Zod.ok ⟨Nat.zero_le _, beq_eq_false_iff_ne.mpr (Ne.symm (Nat.ne_of_lt I.big)), [], .nil, _, #[], 0, Heap.get?_push_size _ rfl, ⟨rfl, rfl, rfl⟩, rfl, rfl, List.nodup_nil⟩), rfl, h _ (I.hok.fresh (Nat.le_refl _))⟩
structure NetS where
 ends : List (List Key)
 rooms : List Int
 leav : List (List Key × List Int)
 laid : List (KK × Int)
inductive LaidD (F : Hp) : List (KK × Addr × V) -> List (KK × Int) -> Prop
 | nil : LaidD F [] []
 | cons {k : KK} {b : Addr} {n : Int} {xs : List (KK × Addr × V)} {ls : List (KK × Int)} : Zdj F k b -> LaidD F xs ls -> LaidD F ((k, b, .int n) :: xs) ((k, n) :: ls)
theorem LaidD.mono {F F' : Hp} (s : ZaF F F') : ∀ {xs : List (KK × Addr × V)} {ls : List (KK × Int)}, LaidD F xs ls -> LaidD F' xs ls
 | _, _, .nil => .nil
 | _, _, .cons h t => .cons (h.mono fun b ys e => s _ _ e) (t.mono s)
theorem LaidD.at {F H : Hp} (s : ZaF F H) : ∀ {xs : List (KK × Addr × V)} {ls : List (KK × Int)}, LaidD F xs ls -> ∀ x ∈ xs, Zdj H x.1 x.2.1
 | _, _, .nil, x, hx => nomatch hx
 | _, _, .cons h t, x, hx => by
   rcases List.mem_cons.mp hx with rfl | hx
   ·exact h.mono fun b ys e => s _ _ e
   ·exact t.at s x hx
inductive LeavD (F H : Hp) : List (List Key × V) -> List (List Key × List Int) -> List Addr -> Prop
 | nil : LeavD F H [] [] []
 | cons {k : List Key} {a : Addr} {ns : List Int} {xs : List (List Key × V)} {ls : List (List Key × List Int)} {as : List Addr} : Zio F H a (ns.map PyData.int) -> LeavD F H xs ls as -> LeavD F H ((k, .ref a) :: xs) ((k, ns) :: ls) (a :: as)
theorem LeavD.mem {F H : Hp} : ∀ {xs : List (List Key × V)} {ls : List (List Key × List Int)} {as : List Addr}, LeavD F H xs ls as -> ∀ a ∈ as, F a = none /\ H a ≠ none
 | _, _, _, .nil, a, ha => nomatch ha
 | _, _, _, .cons h t, a, ha => by
   rcases List.mem_cons.mp ha with rfl | ha
   ·obtain ⟨h1, xs, h2, _⟩ := h
    exact ⟨h1, ZbP h2⟩
   ·exact t.mem a ha
theorem LeavD.mono {F F' H H' : Hp} (s : ZaF F F') : ∀ {xs : List (List Key × V)} {ls : List (List Key × List Int)} {as : List Addr}, (∀ a ∈ as, F' a = none) -> (∀ a ∈ as, H' a = H a) -> LeavD F H xs ls as -> LeavD F' H' xs ls as
 | _, _, _, _, _, .nil => .nil
 | _, _, _, hF, hH, .cons h t => by
   obtain ⟨h1, xs, h2, h3⟩ := h
   exact .cons ⟨hF _ List.mem_cons_self, xs, by rw [hH _ List.mem_cons_self]; exact h2, h3.mono s⟩ (t.mono s (fun a ha => hF a (List.mem_cons_of_mem _ ha)) (fun a ha => hH a (List.mem_cons_of_mem _ ha)))
theorem LeavD.addrs {F F' H H' : Hp} : ∀ {xs : List (List Key × V)} {ls ls' : List (List Key × List Int)} {as bs : List Addr}, LeavD F H xs ls as -> LeavD F' H' xs ls' bs -> as = bs
 | _, _, _, _, _, .nil, .nil => rfl
 | _, _, _, _, _, .cons _ t, .cons _ t' => by rw [t.addrs t']
structure NetOk (P : Program) (w : World) (C : Addr) (N : NetS) (F H : Hp) (a dx e r l d : Addr) (xs : List (List Key × V)) (ys : List (KK × Addr × V)) (as : List Addr) : Prop where
 nd : (a :: dx :: e :: r :: l :: d :: as).Nodup
 ins : F a = none /\ H a = some (.ins C dx [("ends", .ref e), ("rooms", .ref r), ("leaving", .ref l), ("laid", .ref d)])
 own : F dx = none /\ H dx = some (.own a)
 ends : Zio F H e (N.ends.map Zck)
 rooms : Zio F H r (N.rooms.map PyData.int)
 leav : F l = none /\ H l = some (.dT xs) /\ LeavD F H xs N.leav as
 laid : F d = none /\ H d = some (pdO P w d ys) /\ LaidD F ys N.laid
def ZcG (P : Program) (w : World) (C : Addr) (N : NetS) : OwnP where
 ok K F H v p := ∃ a dx e r l d xs ys as, v = .ref a /\ p = a :: dx :: e :: r :: l :: d :: as /\ NetOk P w C N F H a dx e r l d xs ys as
 there := by
  rintro K F H v p ⟨a, dx, e, r, l, d, xs, ys, as, rfl, rfl, o⟩ b hb
  obtain ⟨_, ⟨i1, i2⟩, ⟨o1, o2⟩, ⟨e1, ex, e2, _⟩, ⟨r1, rx, r2, _⟩, ⟨l1, l2, l3⟩, ⟨d1, d2, _⟩⟩ := o
  simp only [List.mem_cons] at hb
  rcases hb with rfl | rfl | rfl | rfl | rfl | rfl | hb
  ·exact ⟨i1, ZbP i2⟩
  ·exact ⟨o1, ZbP o2⟩
  ·exact ⟨e1, ZbP e2⟩
  ·exact ⟨r1, ZbP r2⟩
  ·exact ⟨l1, ZbP l2⟩
  ·exact ⟨d1, ZbP d2⟩
  ·exact l3.mem b hb
 mono := by
  rintro K F F' H H' v p s hF hH ⟨a, dx, e, r, l, d, xs, ys, as, rfl, rfl, o⟩
  obtain ⟨nd, ⟨i1, i2⟩, ⟨o1, o2⟩, ⟨e1, ex, e2, e3⟩, ⟨r1, rx, r2, r3⟩, ⟨l1, l2, l3⟩, ⟨d1, d2, d3⟩⟩ := o
  refine ⟨a, dx, e, r, l, d, xs, ys, as, rfl, rfl, nd, ⟨hF _ (by simp), by rw [hH _ (by simp)]; exact i2⟩, ⟨hF _ (by simp), by rw [hH _ (by simp)]; exact o2⟩, ⟨hF _ (by simp), ex, by rw [hH _ (by simp)]; exact e2, e3.mono s⟩,
   ⟨hF _ (by simp), rx, by rw [hH _ (by simp)]; exact r2, r3.mono s⟩, ⟨hF _ (by simp), by rw [hH _ (by simp)]; exact l2, l3.mono s (fun b hb => hF b (by simp [hb])) (fun b hb => hH b (by simp [hb]))⟩, ⟨hF _ (by simp), by rw [hH _ (by simp)]; exact d2, d3.mono s⟩⟩
 uniq := by
  rintro K F H v p q ⟨a, dx, e, r, l, d, xs, ys, as, rfl, rfl, o⟩ ⟨a', dx', e', r', l', d', xs', ys', as', ev, rfl, o'⟩ c hc
  cases ev
  have i := o.ins.2.symm.trans o'.ins.2
  injection i with i
  injection i with _ i1 i2
  subst i1
  simp only [List.cons.injEq, Prod.mk.injEq, true_and, and_true, V.ref.injEq] at i2
  obtain ⟨rfl, rfl, rfl, rfl⟩ := i2
  have j := o.leav.2.1.symm.trans o'.leav.2.1
  injection j with j
  injection j with j
  subst j
  rw [o.leav.2.2.addrs o'.leav.2.2]
  exact hc
end L2
namespace L2
open PySem PySem.Spec PyProof.Rows
structure NetC (K : W.Frag) (C : Addr) : Prop where
 cl : Cls K C
 ends : Zed K C "ends"
 rooms : Zed K C "rooms"
 leav : Zed K C "leaving"
 laid : Zed K C "laid"
section
variable {K : W.Frag} {ρ : Zbe} {tb te ty tx : TE} {D : PEnds} {i : Nat} {v : V} {P : Program} {w : World} {C : Addr} {N : NetS}
theorem Sta.net {H0 F H : Hp} {σ : St} (S : Sta K H0 F ρ σ H) (e : ρ[i]? = some (some (.own v (ZcG P w C N)))) :
 ∃ a dx el r l d xs ys as, v = .ref a /\ σ[i]? = some (some (.ref a)) /\ NetOk P w C N F H a dx el r l d xs ys as /\ (∀ b ∈ a :: dx :: el :: r :: l :: d :: as, H0 b = none /\ F b = none /\ H b ≠ none) /\
  ∀ (H' : Hp) (N' : NetS) (xs' : List (List Key × V)) (ys' : List (KK × Addr × V)) (as' : List Addr), ZaF F H' -> (∀ b, b ∉ a :: dx :: el :: r :: l :: d :: as -> H b ≠ none -> H' b = H b) -> (∀ b, H b ≠ none -> H' b ≠ none) ->
   NetOk P w C N' F H' a dx el r l d xs' ys' as' -> (∀ b ∈ as', b ∈ as \/ (H b = none /\ H0 b = none)) -> Sta K H0 F (ρ.set i (some (.own v (ZcG P w C N')))) σ H' := by
 obtain ⟨e1, p, ⟨a, dx, el, r, l, d, xs, ys, as, rfl, rfl, ok⟩, hp, w'⟩ := S.writeOwn e
 refine ⟨a, dx, el, r, l, d, xs, ys, as, rfl, e1, ok, hp, fun H' N' xs' ys' as' h1 h2 h3 h4 h5 => w' H' _ _ h1 h2 h3 ⟨a, dx, el, r, l, d, xs', ys', as', rfl, rfl, h4⟩ fun b hb => ?_⟩
 simp only [List.mem_cons] at hb ⊢
 rcases hb with h | h | h | h | h | h | hb
 ·exact .inl (.inl h)
 ·exact .inl (.inr (.inl h))
 ·exact .inl (.inr (.inr (.inl h)))
 ·exact .inl (.inr (.inr (.inr (.inl h))))
 ·exact .inl (.inr (.inr (.inr (.inr (.inl h)))))
 ·exact .inl (.inr (.inr (.inr (.inr (.inr (.inl h))))))
 ·rcases h5 b hb with z | z
  ·exact .inl (.inr (.inr (.inr (.inr (.inr (.inr z))))))
  ·exact .inr z
theorem LeavD.other {F H : Hp} {b : Addr} {o : HO} {xs : List (List Key × V)} {ls : List (List Key × List Int)} {as : List Addr} (h : LeavD F H xs ls as) (n : b ∉ as) : LeavD F (upd H b o) xs ls as :=
 h.mono (ZaF.refl _) (fun a ha => (h.mem a ha).1) (fun a ha => Zag fun z => n (z ▸ ha))
theorem NetOk.setRooms {F H : Hp} {a dx el r l d : Addr} {xs : List (List Key × V)} {ys : List (KK × Addr × V)} {as : List Addr} (ok : NetOk P w C N F H a dx el r l d xs ys as) {ns : List Int} {zs : List V} (hr : Reps F zs (ns.map PyData.int)) :
 NetOk P w C { N with rooms := ns } F (upd H r (.lst zs)) a dx el r l d xs ys as := by
 obtain ⟨nd, ⟨i1, i2⟩, ⟨o1, o2⟩, ⟨e1, ex, e2, e3⟩, ⟨r1, rx, r2, r3⟩, ⟨l1, l2, l3⟩, ⟨d1, d2, d3⟩⟩ := ok
 have nd' := nd
 simp only [List.nodup_cons, List.mem_cons, not_or] at nd'
 obtain ⟨⟨a1, a2, a3, _⟩, ⟨b1, b2, _⟩, ⟨c1, _⟩, ⟨g1, g2, g3⟩, _⟩ := nd'
 exact ⟨nd, ⟨i1, by rw [Zag a3]; exact i2⟩, ⟨o1, by rw [Zag b2]; exact o2⟩, ⟨e1, ex, by rw [Zag c1]; exact e2, e3⟩, ⟨r1, zs, Zak, hr⟩, ⟨l1, by rw [Zag (Ne.symm g1)]; exact l2, l3.other g3⟩, ⟨d1, by rw [Zag (Ne.symm g2)]; exact d2, d3⟩⟩
theorem ZcD {H : Hp} {a : Addr} {o : HO} : ∀ b, H b ≠ none -> upd H a o b ≠ none := fun b hb => by
 by_cases z : b = a
 ·subst z; rw [Zak]; exact fun q => nomatch q
 ·rw [Zag z]; exact hb
theorem Zid {f : Int -> Int -> Int} (c : NetC K C) (e : ρ[i]? = some (some (.own v (ZcG P w C N)))) {k m n : Int} (hi : EvE K tb ρ (.int k)) (h0 : 0 <= k) (hm : N.rooms[k.toNat]? = some m) (h : EvE K te ρ (.int n))
 (hn : D.nx (ρ.set i (some (.own v (ZcG P w C { N with rooms := N.rooms.set k.toNat (f m n) }))))) : EvS K (Zpr (Zlj K (ZcP i) "rooms") tb te (Zoo K) (ipI f) Zn9) ρ D := fun F0 H0 F σ H E x S C' => by
 obtain ⟨a, dx, el, r, l, d, xs, ys, as, rfl, e1, ok, _⟩ := S.net e
 refine ⟨_, e1, a, C, dx, _, .ref r, rfl, ok.ins.2, c.cl, c.rooms, rfl, hi H0 F σ H _ S fun F1 H1 y x1 r1 => ?_⟩
 cases r1
 obtain ⟨_, rx, r2, r3⟩ := ok.rooms
 have hm' : (N.rooms.map PyData.int)[k.toNat]? = some (.int m) := by rw [List.getElem?_map, hm]; rfl
 obtain ⟨z, z1, z2⟩ := (r3.mono x1.ff).get hm'
 refine ⟨r, rx, k, z, rfl, rfl, SqL.of (x1.hh _ _ r2), h0, z1, h H0 F1 σ H1 _ (S.ext x1) fun F2 H2 u x2 r2' => ?_⟩
 cases r2'
 cases z2
 refine ⟨m, n, rfl, rfl, ?_⟩
 obtain ⟨a', dx', el', r', l', d', xs', ys', as', ea, g1, ok', hp, wr⟩ := (S.ext (x1.trans x2)).net e
 cases ea
 have hi2 := ok'.ins.2.symm.trans ((x1.trans x2).hh _ _ ok.ins.2)
 injection hi2 with hi2
 injection hi2 with _ _ hi3
 simp only [List.cons.injEq, Prod.mk.injEq, true_and, and_true, V.ref.injEq] at hi3
 obtain ⟨rfl, rfl, rfl, rfl⟩ := hi3
 obtain ⟨q1, qx, q2, q3⟩ := ok'.rooms
 have hlt : k.toNat < N.rooms.length := (List.getElem?_eq_some_iff.mp hm).1
 have hr : Reps F2 (qx.set k.toNat (.int (f m n))) ((N.rooms.set k.toNat (f m n)).map PyData.int) := by
  rw [List.map_set]
  exact q3.set (.int _) _
 refine ⟨r', qx, k, k.toNat, rfl, rfl, q2, ?_, ?_⟩
 ·rw [q3.length, List.length_map]
  unfold ixN; rw [if_pos h0, if_pos (by omega)]
 ·have hr0 := hp r' (by simp)
  exact C'.nx F2 σ _ _ ((x.trans (x1.trans x2)).wr hr0.1 hr0.2.1) (wr _ { N with rooms := N.rooms.set k.toNat (f m n) } xs' ys' as' ((S.ext (x1.trans x2)).sub.upd hr0.2.1) (fun b hb _ => Zag fun z => hb (by rw [z]; simp)) ZcD (ok'.setRooms hr) (fun b hb => .inl hb)) hn
end
end L2
namespace L2
open PySem PySem.Spec PyProof.Rows
section
variable {K : W.Frag} {ρ : Zbe} {tb te ty tx : TE} {D : PEnds} {i : Nat} {v : V} {P : Program} {w : World} {C : Addr} {N : NetS}
theorem NetOk.same {N' : NetS} {F H F' H' : Hp} {a dx el r l d dx' el' r' l' d' : Addr} {xs xs' : List (List Key × V)} {ys ys' : List (KK × Addr × V)} {as as' : List Addr}
 (ok : NetOk P w C N F H a dx el r l d xs ys as) (ok' : NetOk P w C N' F' H' a dx' el' r' l' d' xs' ys' as') (s : H' a = H a) : dx' = dx /\ el' = el /\ r' = r /\ l' = l /\ d' = d := by
 have h := ok'.ins.2
 rw [s, ok.ins.2] at h
 injection h with h
 injection h with _ h1 h2
 simp only [List.cons.injEq, Prod.mk.injEq, true_and, and_true, V.ref.injEq] at h2
 obtain ⟨z1, z2, z3, z4⟩ := h2
 exact ⟨h1.symm, z1.symm, z2.symm, z3.symm, z4.symm⟩
theorem NetOk.setEnds {F H : Hp} {a dx el r l d : Addr} {xs : List (List Key × V)} {ys : List (KK × Addr × V)} {as : List Addr} (ok : NetOk P w C N F H a dx el r l d xs ys as) {ns : List (List Key)} {zs : List V} (hr : Reps F zs (ns.map Zck)) :
 NetOk P w C { N with ends := ns } F (upd H el (.lst zs)) a dx el r l d xs ys as := by
 obtain ⟨nd, ⟨i1, i2⟩, ⟨o1, o2⟩, ⟨e1, ex, e2, e3⟩, ⟨r1, rx, r2, r3⟩, ⟨l1, l2, l3⟩, ⟨d1, d2, d3⟩⟩ := ok
 have nd' := nd
 simp only [List.nodup_cons, List.mem_cons, not_or] at nd'
 obtain ⟨⟨a1, a2, a3, _⟩, ⟨b1, b2, _⟩, ⟨c1, c2, c3, c4⟩, _⟩ := nd'
 exact ⟨nd, ⟨i1, by rw [Zag a2]; exact i2⟩, ⟨o1, by rw [Zag b1]; exact o2⟩, ⟨e1, zs, Zak, hr⟩, ⟨r1, rx, by rw [Zag (Ne.symm c1)]; exact r2, r3⟩, ⟨l1, by rw [Zag (Ne.symm c2)]; exact l2, l3.other c4⟩, ⟨d1, by rw [Zag (Ne.symm c3)]; exact d2, d3⟩⟩
theorem Zkf (c : NetC K C) (e : ρ[i]? = some (some (.own v (ZcG P w C N)))) {n : Int} (h : EvE K te ρ (.int n)) (hl : N.rooms.length < 1000)
 (hn : D.nx (ρ.set i (some (.own v (ZcG P w C { N with rooms := N.rooms ++ [n] }))))) : EvS K (ZiO (tBM K "list" Ze9 (Zlj K (ZcP i) "rooms") (Zbd te ZdF))) ρ D := fun F0 H0 F σ H E x S C' => by
 obtain ⟨a, dx, el, r, l, d, xs, ys, as, rfl, e1, ok, _⟩ := S.net e
 refine ⟨_, e1, a, C, dx, _, .ref r, rfl, ok.ins.2, c.cl, c.rooms, rfl, .inl ⟨rfl, _, SqL.of ok.rooms.2.choose_spec.1⟩, h H0 F σ H _ S fun F1 H1 u x1 r1 => ?_⟩
 cases r1
 obtain ⟨a', dx', el', r', l', d', xs', ys', as', ea, g1, ok', hp, wr⟩ := (S.ext x1).net e
 cases ea
 obtain ⟨rfl, rfl, rfl, rfl, rfl⟩ := ok.same ok' ((x1.hh _ _ ok.ins.2).trans ok.ins.2.symm)
 obtain ⟨q1, qx, q2, q3⟩ := ok'.rooms
 have hr0 := hp r' (by simp)
 refine ⟨r', qx, .int n, rfl, rfl, q2, by rw [q3.length, List.length_map]; exact Zbh (by omega), ?_⟩
 exact C'.nx F1 σ _ _ ((x.trans x1).wr hr0.1 hr0.2.1) (wr _ { N with rooms := N.rooms ++ [n] } xs' ys' as' ((S.ext x1).sub.upd hr0.2.1) (fun b hb _ => Zag fun z => hb (by rw [z]; simp)) ZcD (ok'.setRooms (by rw [List.map_append]; exact q3.snoc (.int n))) (fun b hb => .inl hb)) hn
theorem ZjS (c : NetC K C) (e : ρ[i]? = some (some (.own v (ZcG P w C N)))) {n : List Key} (h : EvE K te ρ (Zck n)) (hl : N.ends.length < 1000)
 (hn : D.nx (ρ.set i (some (.own v (ZcG P w C { N with ends := N.ends ++ [n] }))))) : EvS K (ZiO (tBM K "list" Ze9 (Zlj K (ZcP i) "ends") (Zbd te ZdF))) ρ D := fun F0 H0 F σ H E x S C' => by
 obtain ⟨a, dx, el, r, l, d, xs, ys, as, rfl, e1, ok, _⟩ := S.net e
 refine ⟨_, e1, a, C, dx, _, .ref el, rfl, ok.ins.2, c.cl, c.ends, rfl, .inl ⟨rfl, _, SqL.of ok.ends.2.choose_spec.1⟩, h H0 F σ H _ S fun F1 H1 u x1 r1 => ?_⟩
 obtain ⟨a', dx', el', r', l', d', xs', ys', as', ea, g1, ok', hp, wr⟩ := (S.ext x1).net e
 cases ea
 obtain ⟨rfl, rfl, rfl, rfl, rfl⟩ := ok.same ok' ((x1.hh _ _ ok.ins.2).trans ok.ins.2.symm)
 obtain ⟨q1, qx, q2, q3⟩ := ok'.ends
 have hr0 := hp el' (by simp)
 refine ⟨el', qx, u, rfl, rfl, q2, by rw [q3.length, List.length_map]; exact Zbh (by omega), ?_⟩
 exact C'.nx F1 σ _ _ ((x.trans x1).wr hr0.1 hr0.2.1) (wr _ { N with ends := N.ends ++ [n] } xs' ys' as' ((S.ext x1).sub.upd hr0.2.1) (fun b hb _ => Zag fun z => hb (by rw [z]; simp)) ZcD (ok'.setEnds (by rw [List.map_append]; exact q3.snoc r1)) (fun b hb => .inl hb)) hn
theorem Zhi (c : NetC K C) (e : ρ[i]? = some (some (.own v (ZcG P w C N)))) : EvE K (tCB (ZoB K) (Zbd (Zlj K (ZcP i) "ends") ZdF)) ρ (.int (N.ends.length : Int)) := fun H0 F σ H Q S q => by
 obtain ⟨a, dx, el, r, l, d, xs, ys, as, rfl, e1, ok, _⟩ := S.net e
 obtain ⟨_, ex, e2, e3⟩ := ok.ends
 refine ⟨_, e1, a, C, dx, _, .ref el, rfl, ok.ins.2, c.cl, c.ends, rfl, el, ex, rfl, .inl (SqL.of e2), ?_⟩
 have : ex.length = N.ends.length := by rw [e3.length, List.length_map]
 rw [this]
 exact q F H _ (Ext.refl S.sub) (.int _)
end
end L2
namespace L2
open PySem PySem.Spec PyProof.Rows
def ZfT (ls : List (KK × Int)) (k : KK) : Option Int := (ls.find? fun x => decide (x.1 = k)).map (·.2)
def ZjU (ls : List (KK × Int)) (k : KK) (n : Int) : List (KK × Int) := if (ZfT ls k).isSome = true then ls.map (fun x => if x.1 = k then (x.1, n) else x) else ls ++ [(k, n)]
theorem LaidD.val {F : Hp} (k : KK) : ∀ {xs : List (KK × Addr × V)} {ls : List (KK × Int)}, LaidD F xs ls -> Zm2 xs k = (ZfT ls k).map V.int
 | _, _, .nil => rfl
 | _, _, .cons (k := k') h t => by
   by_cases e : k' = k
   ·simp [Zm2, ZfT, List.find?_cons, e]
   ·have := t.val k
    simpa [Zm2, ZfT, List.find?_cons, e] using this
theorem LaidD.length {F : Hp} : ∀ {xs : List (KK × Addr × V)} {ls : List (KK × Int)}, LaidD F xs ls -> xs.length = ls.length
 | _, _, .nil => rfl
 | _, _, .cons h t => by simp [t.length]
theorem LaidD.repl {F : Hp} (k : KK) (n : Int) : ∀ {xs : List (KK × Addr × V)} {ls : List (KK × Int)}, LaidD F xs ls -> LaidD F (xs.map fun x => if x.1 = k then (x.1, x.2.1, .int n) else x) (ls.map fun x => if x.1 = k then (x.1, n) else x)
 | _, _, .nil => .nil
 | _, _, .cons (k := k') h t => by
   rw [List.map_cons, List.map_cons]
   by_cases e : k' = k
   ·simp only [e, if_true]
    exact .cons (e ▸ h) (t.repl k n)
   ·simp only [e, if_false]
    exact .cons h (t.repl k n)
theorem LaidD.snoc {F : Hp} {k : KK} {b : Addr} (n : Int) (hb : Zdj F k b) : ∀ {xs : List (KK × Addr × V)} {ls : List (KK × Int)}, LaidD F xs ls -> LaidD F (xs ++ [(k, b, .int n)]) (ls ++ [(k, n)])
 | _, _, .nil => .cons hb .nil
 | _, _, .cons h t => .cons h (t.snoc n hb)
theorem LaidD.put {F : Hp} {k : KK} {b : Addr} (n : Int) (hb : Zdj F k b) {xs : List (KK × Addr × V)} {ls : List (KK × Int)} (t : LaidD F xs ls) : LaidD F (ZnP xs k b (.int n)) (ZjU ls k n) := by
 unfold ZnP ZjU
 rw [t.val k, Option.isSome_map]
 split
 ·exact t.repl k n
 ·exact t.snoc n hb
theorem Znd {F : Hp} {y : V} {k1 k2 : List Key} (r : Rep F y (.tuple [Zck k1, Zck k2])) : ∃ b, y = .ref b /\ Zdj F (k1, k2) b := by
 cases r with
 | tup h rs =>
   cases rs with
   | cons r1 rs =>
     cases rs with
     | cons r2 rs =>
       cases rs
       obtain ⟨p, rfl, hp⟩ := Zdp r1
       obtain ⟨q, rfl, hq⟩ := Zdp r2
       exact ⟨_, rfl, p, q, h, hp, hq⟩
section
variable {K : W.Frag} {ρ : Zbe} {tb te ty tx tv : TE} {D : PEnds} {i : Nat} {v : V} {P : Program} {w : World} {C : Addr} {N : NetS} {k1 k2 : List Key}
theorem NetOk.setLaid {F H : Hp} {a dx el r l d : Addr} {xs : List (List Key × V)} {ys ys' : List (KK × Addr × V)} {as : List Addr} (ok : NetOk P w C N F H a dx el r l d xs ys as) {ls : List (KK × Int)} (hr : LaidD F ys' ls) :
 NetOk P w C { N with laid := ls } F (upd H d (pdO P w d ys')) a dx el r l d xs ys' as := by
 obtain ⟨nd, ⟨i1, i2⟩, ⟨o1, o2⟩, ⟨e1, ex, e2, e3⟩, ⟨r1, rx, r2, r3⟩, ⟨l1, l2, l3⟩, ⟨d1, d2, d3⟩⟩ := ok
 have nd' := nd
 simp only [List.nodup_cons, List.mem_cons, not_or] at nd'
 obtain ⟨⟨a1, a2, a3, a4, a5, _⟩, ⟨b1, b2, b3, b4, _⟩, ⟨c1, c2, c3, c4⟩, ⟨g1, g2, g3⟩, ⟨h1, h2⟩, f1, _⟩ := nd'
 exact ⟨nd, ⟨i1, by rw [Zag a5]; exact i2⟩, ⟨o1, by rw [Zag b4]; exact o2⟩, ⟨e1, ex, by rw [Zag c3]; exact e2, e3⟩, ⟨r1, rx, by rw [Zag g2]; exact r2, r3⟩, ⟨l1, by rw [Zag h1]; exact l2, l3.other f1⟩, ⟨d1, Zak, hr⟩⟩
theorem ZlD (c : NetC K C) (e : ρ[i]? = some (some (.own v (ZcG P w C N)))) {n : Int} (hv : EvE K tv ρ (.int n)) (hy : EvE K ty ρ (.tuple [Zck k1, Zck k2])) (hl : N.laid.length < 1000)
 (hn : D.nx (ρ.set i (some (.own v (ZcG P w C { N with laid := ZjU N.laid (k1, k2) n }))))) : EvS K (Zqf P w (Zlj K (ZcP i) "laid") ty tv) ρ D := fun F0 H0 F σ H E x S C' =>
 hv H0 F σ H _ S fun F1 H1 u x1 r1 => by
  cases r1
  obtain ⟨a, dx, el, r, l, d, xs, ys, as, rfl, e1, ok, _⟩ := (S.ext x1).net e
  refine ⟨_, e1, a, C, dx, _, .ref d, rfl, ok.ins.2, c.cl, c.laid, rfl, hy H0 F1 σ H1 _ (S.ext x1) fun F2 H2 y x2 r2 => ?_⟩
  have S2 := S.ext (x1.trans x2)
  obtain ⟨a', dx', el', r', l', d', xs', ys', as', ea, g1, ok', hp, wr⟩ := S2.net e
  cases ea
  obtain ⟨rfl, rfl, rfl, rfl, rfl⟩ := ok.same ok' ((x2.hh _ _ ok.ins.2).trans ok.ins.2.symm)
  obtain ⟨b, rfl, hb⟩ := Znd r2
  obtain ⟨d1, d2, d3⟩ := ok'.laid
  refine ⟨d', b, ys', (k1, k2), rfl, rfl, d2, d3.at S2.sub, hb.mono fun c' z ez => S2.sub _ _ ez, by rw [d3.length]; exact Zbh (by omega), ?_⟩
  have hr0 := hp d' (by simp)
  exact C'.nx F2 σ _ _ ((x.trans (x1.trans x2)).wr hr0.1 hr0.2.1) (wr _ { N with laid := ZjU N.laid (k1, k2) n } xs' _ as' (S2.sub.upd hr0.2.1) (fun b' hb' _ => Zag fun z => hb' (by rw [z]; simp)) ZcD (ok'.setLaid (d3.put n hb)) (fun b' hb' => .inl hb')) hn
end
end L2
namespace L2
open PySem PySem.Spec PyProof.Rows
def Zb6 (ls : List (List Key × List Int)) (k : List Key) : Option (List Int) := (ls.find? fun x => decide (x.1 = k)).map (·.2)
def ZhI : List (List Key × List Int) -> List Key -> Int -> List (List Key × List Int)
 | [], _, _ => []
 | (k', ns) :: r, k, n => if k' = k then (k', ns ++ [n]) :: r else (k', ns) :: ZhI r k n
theorem LeavD.val {F H : Hp} (k : List Key) : ∀ {xs : List (List Key × V)} {ls : List (List Key × List Int)} {as : List Addr}, LeavD F H xs ls as -> (ZdW xs k = none /\ Zb6 ls k = none) \/
 ∃ a ns, ZdW xs k = some (.ref a) /\ Zb6 ls k = some ns /\ a ∈ as /\ Zio F H a (ns.map PyData.int)
 | _, _, _, .nil => .inl ⟨rfl, rfl⟩
 | _, _, _, .cons (k := k') (a := a) (ns := ns) (xs := xs) (ls := ls) h t => by
   by_cases e : k' = k
   ·exact .inr ⟨a, ns, Zcn e, by simp [Zb6, List.find?_cons, e], List.mem_cons_self, h⟩
   ·have q : Zb6 ((k', ns) :: ls) k = Zb6 ls k := by simp [Zb6, List.find?_cons, e]
    rw [Zcw (p := (k', V.ref a)) e, q]
    rcases t.val k with z | ⟨a', ns', z1, z2, z3, z4⟩
    ·exact .inl z
    ·exact .inr ⟨a', ns', z1, z2, List.mem_cons_of_mem _ z3, z4⟩
theorem LeavD.app {F H : Hp} (k : List Key) {a : Addr} {n : Int} {zs : List V} : ∀ {xs : List (List Key × V)} {ls : List (List Key × List Int)} {as : List Addr} {ns : List Int}, LeavD F H xs ls as -> as.Nodup -> ZdW xs k = some (.ref a) -> Zb6 ls k = some ns ->
 Reps F zs ((ns ++ [n]).map PyData.int) -> LeavD F (upd H a (.lst zs)) xs (ZhI ls k n) as
 | _, _, _, _, .nil, _, h, _, _ => by cases h
 | _, _, _, ns, .cons (k := k') (a := a') (ns := ns') (xs := xs) (ls := ls) (as := as) h t, nd, hv, he, hr => by
   obtain ⟨n1, n2⟩ := List.nodup_cons.mp nd
   unfold ZhI
   by_cases e : k' = k
   ·rw [Zcn (p := (k', V.ref a')) e] at hv
    have q : Zb6 ((k', ns') :: ls) k = some ns' := by simp [Zb6, List.find?_cons, e]
    rw [q] at he
    cases hv
    cases he
    rw [if_pos e]
    exact .cons ⟨h.1, zs, Zak, hr⟩ (t.other n1)
   ·rw [Zcw (p := (k', V.ref a')) e] at hv
    have q : Zb6 ((k', ns') :: ls) k = Zb6 ls k := by simp [Zb6, List.find?_cons, e]
    rw [q] at he
    rw [if_neg e]
    have ha : a ∈ as := by
     rcases t.val k with z | ⟨a2, ns2, z1, z2, z3, z4⟩
     ·rw [hv] at z; cases z.1
     ·rw [hv] at z1; cases z1; exact z3
    refine .cons ?_ (t.app k n2 hv he hr)
    obtain ⟨h1, xs', h2, h3⟩ := h
    have ne : a' ≠ a := fun z => n1 (by rw [z]; exact ha)
    exact ⟨h1, xs', by rw [Zag ne]; exact h2, h3⟩
theorem LeavD.snoc {F H : Hp} (k : List Key) {a : Addr} (o : Zio F H a []) : ∀ {xs : List (List Key × V)} {ls : List (List Key × List Int)} {as : List Addr}, LeavD F H xs ls as -> LeavD F H (xs ++ [(k, .ref a)]) (ls ++ [(k, [])]) (as ++ [a])
 | _, _, _, .nil => .cons o .nil
 | _, _, _, .cons h t => .cons h (t.snoc k o)
theorem LeavD.length {F H : Hp} : ∀ {xs : List (List Key × V)} {ls : List (List Key × List Int)} {as : List Addr}, LeavD F H xs ls as -> xs.length = ls.length
 | _, _, _, .nil => rfl
 | _, _, _, .cons h t => by simp [t.length]
def ZhX (ls : List (List Key × List Int)) (k : List Key) : List (List Key × List Int) := if (Zb6 ls k).isSome = true then ls else ls ++ [(k, [])]
section
variable {K : W.Frag} {ρ : Zbe} {tb te ty tx tv : TE} {D : PEnds} {i : Nat} {v : V} {P : Program} {w : World} {C : Addr} {N : NetS} {k : List Key}
theorem NetOk.appLeav {F H : Hp} {a dx el r l d : Addr} {xs : List (List Key × V)} {ys : List (KK × Addr × V)} {as : List Addr} (ok : NetOk P w C N F H a dx el r l d xs ys as) {b : Addr} {ns : List Int} {n : Int} {zs : List V}
 (hv : ZdW xs k = some (.ref b)) (he : Zb6 N.leav k = some ns) (hb : b ∈ as) (hr : Reps F zs ((ns ++ [n]).map PyData.int)) : NetOk P w C { N with leav := ZhI N.leav k n } F (upd H b (.lst zs)) a dx el r l d xs ys as := by
 obtain ⟨nd, ⟨i1, i2⟩, ⟨o1, o2⟩, ⟨e1, ex, e2, e3⟩, ⟨r1, rx, r2, r3⟩, ⟨l1, l2, l3⟩, ⟨d1, d2, d3⟩⟩ := ok
 have nd' := nd
 simp only [List.nodup_cons, List.mem_cons, not_or] at nd'
 obtain ⟨⟨a1, a2, a3, a4, a5, a6⟩, ⟨b1, b2, b3, b4, b5⟩, ⟨c1, c2, c3, c4⟩, ⟨g1, g2, g3⟩, ⟨h1, h2⟩, f1, f2⟩ := nd'
 have ne : ∀ {x : Addr}, x ∉ as -> x ≠ b := fun h z => h (by rw [z]; exact hb)
 exact ⟨nd, ⟨i1, by rw [Zag (ne a6)]; exact i2⟩, ⟨o1, by rw [Zag (ne b5)]; exact o2⟩, ⟨e1, ex, by rw [Zag (ne c4)]; exact e2, e3⟩, ⟨r1, rx, by rw [Zag (ne g3)]; exact r2, r3⟩, ⟨l1, by rw [Zag (ne h2)]; exact l2, l3.app k f2 hv he hr⟩, ⟨d1, by rw [Zag (ne f1)]; exact d2, d3⟩⟩
end
end L2
namespace L2
open PySem PySem.Spec PyProof.Rows
section
variable {K : W.Frag} {ρ : Zbe} {tb te ty tx tv : TE} {D : PEnds} {i : Nat} {v : V} {P : Program} {w : World} {C : Addr} {N : NetS} {k : List Key}
theorem Zmo (c : NetC K C) (e : ρ[i]? = some (some (.own v (ZcG P w C N)))) {n : Int} (h : EvE K te ρ (.int n)) {ns : List Int} (he : Zb6 N.leav k = some ns) (hz : ns.length < 1000)
 (hn : D.nx (ρ.set i (some (.own v (ZcG P w C { N with leav := ZhI N.leav k n }))))) {F0 H0 F H : Hp} {σ : St} {E : Ends} (x : Ext F0 H0 F H) (S : Sta K H0 F ρ σ H) (C' : Cnv K F0 H0 D E)
 {a dx el r l d : Addr} {xs : List (List Key × V)} {ys : List (KK × Addr × V)} {as : List Addr} {al : Addr} (ok : NetOk P w C N F H a dx el r l d xs ys as) (ev : v = .ref a) (hv : ZdW xs k = some (.ref al)) :
 tyV K "list" (.ref al) H /\ Zbd te ZdF σ H fun vs H2 => Ze9 (.ref al) vs H2 fun _ H3 => E.nx σ H3 := by
 have find : ∀ {F H : Hp} {a dx el r l d : Addr} {xs : List (List Key × V)} {ys : List (KK × Addr × V)} {as : List Addr}, NetOk P w C N F H a dx el r l d xs ys as -> ZdW xs k = some (.ref al) -> al ∈ as /\ Zio F H al (ns.map PyData.int) := fun ok hv => by
  rcases ok.leav.2.2.val k with z | ⟨a2, ns2, z1, z2, z3, z4⟩
  ·rw [hv] at z; cases z.1
  ·rw [hv] at z1
   rw [he] at z2
   cases z1
   cases z2
   exact ⟨z3, z4⟩
 obtain ⟨_, _, zs, hz1, _⟩ := find ok hv
 refine ⟨.inl ⟨rfl, _, SqL.of hz1⟩, h H0 F σ H _ S fun F1 H1 u x1 r1 => ?_⟩
 cases r1
 obtain ⟨a', dx', el', r', l', d', xs', ys', as', ea, g1, ok', hp, wr⟩ := (S.ext x1).net e
 rw [ev] at ea
 cases ea
 obtain ⟨rfl, rfl, rfl, rfl, rfl⟩ := ok.same ok' ((x1.hh _ _ ok.ins.2).trans ok.ins.2.symm)
 have el2 := ok'.leav.2.1.symm.trans (x1.hh _ _ ok.leav.2.1)
 injection el2 with el2
 injection el2 with el2
 subst el2
 obtain ⟨m1, m2, zs2, m3, m4⟩ := find ok' hv
 have hr0 := hp al (by simp [m1])
 refine ⟨al, zs2, .int n, rfl, rfl, m3, by rw [m4.length, List.length_map]; exact Zbh (by omega), ?_⟩
 exact C'.nx F1 σ _ _ ((x.trans x1).wr hr0.1 hr0.2.1) (wr _ { N with leav := ZhI N.leav k n } _ ys' as' ((S.ext x1).sub.upd hr0.2.1) (fun b hb _ => Zag fun z => hb (by rw [z]; simp [m1])) ZcD
  (ok'.appLeav hv he m1 (by rw [List.map_append]; exact m4.snoc (.int n))) (fun b hb => .inl hb)) hn
theorem ZhB (ls : List (List Key × List Int)) (h : Zb6 ls k = none) : Zb6 (ls ++ [(k, [])]) k = some [] := by
 induction ls with
 | nil => simp [Zb6]
 | cons x ls ih =>
   obtain ⟨k', ns⟩ := x
   by_cases e : k' = k
   ·simp [Zb6, List.find?_cons, e] at h
   ·have q : Zb6 ((k', ns) :: ls) k = Zb6 ls k := by simp [Zb6, List.find?_cons, e]
    rw [q] at h
    have q2 : Zb6 ((k', ns) :: ls ++ [(k, [])]) k = Zb6 (ls ++ [(k, [])]) k := by simp [Zb6, List.find?_cons, e]
    rw [q2]
    exact ih h
theorem Zk3 (c : NetC K C) (e : ρ[i]? = some (some (.own v (ZcG P w C N)))) {n : Int} (hy : EvE K ty ρ (Zck k)) (hl : N.leav.length < 1000) (hz : ∀ ns, Zb6 (ZhX N.leav k) k = some ns -> ns.length < 1000)
 (h : EvE K te (ρ.set i (some (.own v (ZcG P w C { N with leav := ZhX N.leav k })))) (.int n)) (hn : D.nx (ρ.set i (some (.own v (ZcG P w C { N with leav := ZhI (ZhX N.leav k) k n }))))) :
 EvS K (ZiO (tBM K "list" Ze9 (Zoc (Zlj K (ZcP i) "leaving") ty (Zro ZdF)) (Zbd te ZdF))) ρ D := fun F0 H0 F σ H E x S C' => by
 obtain ⟨a, dx, el, r, l, d, xs, ys, as, rfl, e1, ok, hp0, _⟩ := S.net e
 refine ⟨_, e1, a, C, dx, _, .ref l, rfl, ok.ins.2, c.cl, c.leav, rfl, l, rfl, .inr ⟨xs, Rd.of ok.leav.2.1⟩, hy H0 F σ H _ S fun F1 H1 y x1 r1 => ⟨Nat.zero_le _, fun p hp => ?_⟩⟩
 have S1 := S.ext x1
 have x2 : Ext F1 H1 F1 (upd H1 p (.lst [])) := Ext.own S1.sub hp
 obtain ⟨a', dx', el', r', l', d', xs', ys', as', ea, g1, ok', hp', wr⟩ := S1.net e
 cases ea
 obtain ⟨rfl, rfl, rfl, rfl, rfl⟩ := ok.same ok' ((x1.hh _ _ ok.ins.2).trans ok.ins.2.symm)
 have hlt : i < ρ.length := (List.getElem?_eq_some_iff.mp e).1
 obtain ⟨b, rfl, hb⟩ := Zdp r1
 obtain ⟨l1, l2, l3⟩ := ok'.leav
 have np : ∀ q ∈ a :: dx' :: el' :: r' :: l' :: d' :: as', q ≠ p := fun q hq z => by rw [z] at hq; exact (hp' p hq).2.2 hp
 have lp : l' ≠ p := np l' (by simp)
 have bp : b ≠ p := fun z => by rw [z] at hb; rw [S1.sub _ _ hb] at hp; cases hp
 have h0p : H0 p = none := (x.trans x1).hh.free hp
 refine ⟨xs', k, b, rfl, by rw [Zag lp]; exact l2, by rw [Zag bp]; exact S1.sub _ _ hb, by rw [l3.length]; exact Zbh (by omega), fun v0 hv0 => ?_, fun hv0 => ?_⟩
 ·rcases l3.val k with z | ⟨al, ns, z1, z2, z3, z4⟩
  ·rw [hv0] at z; cases z.1
  ·rw [hv0] at z1
   cases z1
   have ens : ZhX N.leav k = N.leav := by unfold ZhX; rw [z2]; rfl
   rw [ens] at h hn hz
   have S3 := S1.ext x2
   have ok3 : NetOk P w C N F1 (upd H1 p (.lst [])) a dx' el' r' l' d' xs' ys' as' := by
    obtain ⟨q0, q1, q2, q3, q4, q5, q6⟩ := ok'
    obtain ⟨e1', ex, e2, e3⟩ := q3
    obtain ⟨r1', rx, r2, r3⟩ := q4
    exact ⟨q0, ⟨q1.1, by rw [Zag (np a (by simp))]; exact q1.2⟩, ⟨q2.1, by rw [Zag (np dx' (by simp))]; exact q2.2⟩, ⟨e1', ex, by rw [Zag (np el' (by simp))]; exact e2, e3⟩, ⟨r1', rx, by rw [Zag (np r' (by simp))]; exact r2, r3⟩,
     ⟨q5.1, by rw [Zag lp]; exact q5.2.1, q5.2.2.other fun z => np p (by simp [z]) rfl⟩, ⟨q6.1, by rw [Zag (np d' (by simp))]; exact q6.2.1, q6.2.2⟩⟩
   have S4 : Sta K H0 F1 (ρ.set i (some (.own (.ref a) (ZcG P w C N)))) σ (upd H1 p (.lst [])) := wr _ N xs' ys' as' S3.sub (fun b' _ hb' => Zag fun z => hb' (by rw [z]; exact hp)) ZcD ok3 (fun b' hb' => .inl hb')
   exact Zmo (N := N) c (List.getElem?_set_self hlt) h z2 (hz ns z2) (by rw [List.set_set]; exact hn) (x.trans (x1.trans x2)) S4 C' ok3 rfl hv0
 ·have z2 : Zb6 N.leav k = none := by
   rcases l3.val k with z | ⟨al, ns, z1, z2, z3, z4⟩
   ·exact z.2
   ·rw [hv0] at z1; cases z1
  have ens : ZhX N.leav k = N.leav ++ [(k, [])] := by unfold ZhX; rw [z2]; rfl
  rw [ens] at h hn hz
  have fp : F1 p = none := S1.sub.free hp
  have ok3 : NetOk P w C { N with leav := N.leav ++ [(k, [])] } F1 (upd (upd H1 p (.lst [])) l' (.dT (xs' ++ [(k, .ref p)]))) a dx' el' r' l' d' (xs' ++ [(k, .ref p)]) ys' (as' ++ [p]) := by
   have ok2 := ok'
   obtain ⟨q0, q1, q2, q3, q4, q5, q6⟩ := ok'
   obtain ⟨e1', ex, e2, e3⟩ := q3
   obtain ⟨r1', rx, r2, r3⟩ := q4
   have nd' := q0
   simp only [List.nodup_cons, List.mem_cons, not_or] at nd'
   obtain ⟨⟨a1, a2, a3, a4, a5, a6⟩, ⟨b1, b2, b3, b4, b5⟩, ⟨c1, c2, c3, c4⟩, ⟨g1', g2, g3⟩, ⟨h1, h2⟩, f1, f2⟩ := nd'
   have up : ∀ {q : Addr}, q ∈ a :: dx' :: el' :: r' :: l' :: d' :: as' -> q ≠ l' -> upd (upd H1 p (.lst [])) l' (.dT (xs' ++ [(k, .ref p)])) q = H1 q := fun hq ne => by rw [Zag ne, Zag (np _ hq)]
   refine ⟨?_, ⟨q1.1, by rw [up (by simp) a4]; exact q1.2⟩, ⟨q2.1, by rw [up (by simp) b3]; exact q2.2⟩, ⟨e1', ex, by rw [up (by simp) c2]; exact e2, e3⟩, ⟨r1', rx, by rw [up (by simp) g1']; exact r2, r3⟩, ⟨l1, Zak, ?_⟩, ⟨q6.1, by rw [up (by simp) (Ne.symm h1)]; exact q6.2.1, q6.2.2⟩⟩
   ·have : (a :: dx' :: el' :: r' :: l' :: d' :: (as' ++ [p])) = (a :: dx' :: el' :: r' :: l' :: d' :: as') ++ [p] := by simp
    rw [this, List.nodup_append]
    refine ⟨q0, by simp, fun u hu t ht => ?_⟩
    cases List.mem_singleton.mp ht
    exact np u hu
   ·refine LeavD.snoc k ⟨fp, [], by rw [Zag (Ne.symm lp), Zak], .nil⟩ ?_
    exact (l3.other fun z => np p (by simp [z]) rfl).other h2
  have S4 : Sta K H0 F1 (ρ.set i (some (.own (.ref a) (ZcG P w C { N with leav := N.leav ++ [(k, [])] })))) σ (upd (upd H1 p (.lst [])) l' (.dT (xs' ++ [(k, .ref p)]))) :=
   wr _ _ _ ys' (as' ++ [p]) ((S1.sub.upd fp).upd l1) (fun b' hb1 hb2 => by rw [Zag (fun z => hb1 (by rw [z]; simp)), Zag (fun z => hb2 (by rw [z]; exact hp))]) (fun b' hb' => ZcD b' (ZcD b' hb')) ok3 (fun b' hb' => by
    rcases List.mem_append.mp hb' with z | z
    ·exact .inl z
    ·cases List.mem_singleton.mp z; exact .inr ⟨hp, h0p⟩)
  have hl0 := hp' l' (by simp)
  exact Zmo (N := { N with leav := N.leav ++ [(k, [])] }) c (List.getElem?_set_self hlt) h (ZhB _ z2) (hz [] (ZhB _ z2)) (by rw [List.set_set]; exact hn) ((x.trans (x1.trans x2)).wr hl0.1 hl0.2.1) S4 C' ok3 rfl (by
   rw [ZhK k k (.ref p) xs' hv0, if_pos rfl])
end
end L2
section
namespace L2
open PySem PySem.Spec PyProof.Rows
structure KTup (K : W.Frag) (g : Addr) (x : Str) : Prop where
 ex : ∃ (d : Option Addr) (t : Nat) (n : Nat) (sl : Array (Option Value)), K.lookup g = some ⟨.type "tuple", d, .seq #[.str x t] n, sl⟩
theorem ZlO {P : Program} {w : World} {K : W.Frag} {mg mb : Str -> Option Value} {k : Nat} {fa a gS gE : Addr} {fd : FuncData} {x : Str} {sp : Sp} {s₁ : Shared} {vs : List Value} {ns : List Int}
 (KX : K.In s₁.heap) (hns : s₁.heap.Ns mainGlobals mg) (hb : s₁.heap.Ns builtinsNs mb) (hbb : ∀ x : Str, x ≠ "__name__" -> mb x = bootBuiltins x) (hlim : s₁.heap.NoLimit) (hg : s₁.gens = #[])
 (ha : s₁.heap.get? a = some { cls := .type "list", data := .seq vs.toArray }) (hi : IntsAre vs ns) (hl : ns.length <= sizeLine) (hr : Room k callerA) (tS : KTup K gS "start") (tE : KTup K gE "end")
 (F : ∀ base : Heap, K.In base -> base.Ns mainGlobals mg -> FnOk P w K mg base CX0 k fa fd [x] sp) (hbind : ∀ (s : Shared) (u : Value), BindsTo s fd ⟨[u], []⟩ [(x, u)])
 (hsp : ∀ H : Hp, SqL K H a (ns.map V.int) -> H gS = some (.tup [.str "start"]) -> H gE = some (.tup [.str "end"]) -> sp [.ref a] H (fun v _ => v = .bl true) fun _ _ _ => False) :
 codeAny (model P w) callerA (.call (.ref fa) ⟨[.ref a], []⟩) (fun r s' => r = .ok (.ret (.bool true)) /\ OldK s₁.heap s'.heap /\ s'.os = s₁.os /\ AllBare s'.gens) s₁ := by
 have rv := Zig hi
 have lenV := hi.length
 obtain ⟨dS, kS, cS, slS, lS⟩ := tS.ex
 obtain ⟨dE, kE, cE, slE, lE⟩ := tE.ex
 have hS0 := KX gS _ lS
 have hE0 := KX gE _ lE
 have naS : gS ≠ a := fun z => by
  rw [z, ha] at hS0
  injection hS0 with z1
  injection z1 with z2
  injection z2 with z3
  exact absurd z3 (by decide)
 have naE : gE ≠ a := fun z => by
  rw [z, ha] at hE0
  injection hE0 with z1
  injection z1 with z2
  injection z2 with z3
  exact absurd z3 (by decide)
 have nSE : gE ≠ gS := fun z => by
  rw [z, lS] at lE
  injection lE with z1
  injection z1 with _ _ z2 _
  injection z2 with z3 _
  have z4 := congrArg Array.toList z3
  simp only [List.cons.injEq, Value.str.injEq, and_true] at z4
  exact absurd z4.1 (by decide)
 have core : ∀ Hs : Hp, Zsx Hs -> SqL K Hs a (ns.map V.int) -> HOk P w Hs s₁.heap -> (∀ b, Hs b ≠ none -> b = a) -> (Hs a ≠ none -> K.lookup a = none) ->
  codeAny (model P w) callerA (.call (.ref fa) ⟨[.ref a], []⟩) (fun r s' => r = .ok (.ret (.bool true)) /\ OldK s₁.heap s'.heap /\ s'.os = s₁.os /\ AllBare s'.gens) s₁ := by
  intro Hs hO hSq hok hA hK
  have fS : Hs gS = none := by
   cases q : Hs gS with
   | none => rfl
   | some u => exact absurd (hA gS (by rw [q]; simp)) naS
  have fE : Hs gE = none := by
   cases q : Hs gE with
   | none => rfl
   | some u => exact absurd (hA gE (by rw [q]; simp)) naE
  have base_of : ∀ {b : Addr} {o : Obj}, s₁.heap.get? b = some o -> Hs b = none -> (ZmV s₁.heap Hs).get? b = some o := fun e n => ZmR e n
  have noA : ∀ {b : Addr} {o : Obj} {es : Array DictEntry} {ep : Nat}, s₁.heap.get? b = some o -> o.data = .dict es ep -> Hs b = none := fun {b o es ep} e d => by
   cases q : Hs b with
   | none => rfl
   | some u =>
     have e' : b = a := hA b (by rw [q]; simp)
     subst e'
     rw [ha] at e; cases e
     have d' : Data.seq vs.toArray _ = Data.dict es ep := d
     cases d'
  have nsK : ∀ {b : Addr} {m : Str -> Option Value}, s₁.heap.Ns b m -> (ZmV s₁.heap Hs).Ns b m := fun {b m} ⟨o, es, ep, e, d, r⟩ => ⟨o, es, ep, base_of e (noA e d), d, r⟩
  have hKb : K.In (ZmV s₁.heap Hs) := fun b o e => base_of (KX b o e) (by
   cases q : Hs b with
   | none => rfl
   | some u =>
     have e' : b = a := hA b (by rw [q]; simp)
     subst e'
     rw [hK (by rw [q]; simp)] at e; cases e)
  have hM : Mod K mg (ZmV s₁.heap Hs) := ⟨hKb, nsK hns, ⟨mb, nsK hb, hbb⟩, let ⟨mc, h1, h2⟩ := hlim; ⟨mc, nsK h1, h2⟩⟩
  let H : Hp := upd (upd Hs gS (.tup [.str "start"])) gE (.tup [.str "end"])
  have hHS : H gS = some (.tup [.str "start"]) := by show upd _ _ _ gS = _; rw [Zag (Ne.symm nSE), Zak]
  have hHE : H gE = some (.tup [.str "end"]) := Zak
  have hHo : ∀ b, b ≠ gS -> b ≠ gE -> H b = Hs b := fun b h1 h2 => by show upd _ _ _ b = _; rw [Zag h2, Zag h1]
  have sm : ZaF Hs H := fun b u e => by
   rw [hHo b (fun z => by rw [z, fS] at e; cases e) (fun z => by rw [z, fE] at e; cases e)]
   exact e
  have l1 : ∀ x : Str, [V.str x].length <= sizeLine := fun _ => Nat.le_of_lt (Zbh ZpR)
  have hokH : HOk P w H s₁.heap := fun b u e => by
   by_cases h1 : b = gS
   ·subst h1
    rw [hHS] at e
    cases e
    exact ⟨l1 _, [.str "start" kS], .cons ⟨kS, rfl⟩ .nil, ⟨_, hS0, rfl, _, rfl⟩⟩
   ·by_cases h2 : b = gE
    ·subst h2
     rw [hHE] at e
     cases e
     exact ⟨l1 _, [.str "end" kE], .cons ⟨kE, rfl⟩ .nil, ⟨_, hE0, rfl, _, rfl⟩⟩
    ·rw [hHo b h1 h2] at e
     rcases hO b with z | ⟨o, xs, z⟩
     ·rw [z] at e; cases e
     ·rw [z] at e
      cases e
      obtain ⟨q1, q2⟩ := hok b _ z
      exact ⟨q1, q2⟩
  have e0 : Env0 P w K mg (ZmV s₁.heap Hs) callerA [] s₁ H := ⟨rfl, hM, fun b o e => by
   obtain ⟨e1, e2⟩ := Zph e
   refine ⟨e1, ?_⟩
   by_cases h1 : b = gS
   ·exact .inr ⟨_, by rw [h1]; exact hHS⟩
   ·by_cases h2 : b = gE
    ·exact .inr ⟨_, by rw [h2]; exact hHE⟩
    ·exact .inl (by rw [hHo b h1 h2]; exact e2), Nat.le_of_eq (Zli _ _), trivial, fun b hb => absurd (show b ∈ ([] : List Addr) from hb) (by simp), hokH, .of_eq hg⟩
  refine codeAny_mono ((F _ hKb (nsK hns)).run callerA [] s₁ H ⟨[.ref a], []⟩ [.ref a] [.ref a] _ _ hr e0 (hbind s₁ (.ref a)) (.cons rfl .nil) (hsp H (sm.seq hSq) hHS hHE)) fun r s' h => ?_
  cases r with
  | error e => exact False.elim h
  | ok fl =>
    cases fl with
    | next => exact False.elim h
    | brk => exact False.elim h
    | cont => exact False.elim h
    | ret u =>
      obtain ⟨v, H', os, bare, un, hok', r', q⟩ := h
      have q' : v = .bl true := q
      subst q'
      obtain rfl : u = Value.bool true := r'
      refine ⟨rfl, OldK.of_keep fun b o e => ?_, os, bare⟩
      by_cases h1 : b = gS
      ·subst h1
       exact un.tupo b _ o hHS e (by simp)
      ·by_cases h2 : b = gE
       ·subst h2
        exact un.tupo b _ o hHE e (by simp)
       ·rcases hO b with z | ⟨ob, xs, z⟩
        ·exact un.keep b o e (by rw [hHo b h1 h2]; exact z) (by intro z; exact absurd (show b ∈ ([] : List Addr) from z) (by simp)) (by simp)
        ·have z2 := un.frzs b ob _ (by rw [hHo b h1 h2]; exact z)
         obtain ⟨e1, _⟩ := hok b _ z
         obtain ⟨e2, _⟩ := hok' b _ z2
         rw [e] at e1; cases e1
         exact e2
 cases hk : K.lookup a with
 | some o =>
   have e := KX a o hk
   rw [ha] at e
   cases e
   refine core (fun _ => none) (fun _ => .inl rfl) (.inr ⟨_, vs.toArray, _, hk, rfl, rfl, rfl, by rw [List.size_toArray, lenV]; exact hl, by simpa using rv⟩) (fun b u z => by have z' : (none : Option HO) = some u := z; cases z') (fun b z => absurd rfl z) fun z => absurd rfl z
 | none =>
   refine core (fun b => if b = a then some (.frz { cls := .type "list", data := .seq vs.toArray } (.lst (ns.map V.int))) else none) (fun b => ?_) (.inl (.inr ⟨{ cls := .type "list", data := .seq vs.toArray }, if_pos rfl⟩)) (fun b u z => ?_) (fun b z => ?_) fun _ => hk
   ·by_cases hb : b = a
    ·exact .inr ⟨_, _, if_pos hb⟩
    ·exact .inl (if_neg hb)
   ·by_cases hb : b = a
    ·have z' := (if_pos hb).symm.trans z
     cases z'
     subst hb
     exact ⟨ha, by rw [List.length_map]; exact hl, vs, _, rv, ha⟩
    ·have z' := (if_neg hb).symm.trans z
     cases z'
   ·by_cases hb : b = a
    ·exact hb
    ·exact absurd (if_neg hb) z
theorem ZlC {l : W.OpenLaw} {k : Nat} {q : Program} {loose : List Str} {XP : (Str -> Option Value) -> Heap -> Prop} {YP : World -> Heap -> Prop} {d : DefRec} {K : Params -> W.Frag} {x : Str}
 (hn : l.most = some 63) (hdf : d.params.defaults = []) (hr : Room k callerA)
 (hY : ∀ (w : World) (h : Heap), YP w h -> (K w.params).In h)
 (F : ∀ (w : World) (mg : Str -> Option Value) (fa : Addr) (h : Heap), (K w.params).In h -> h.Ns mainGlobals mg -> mg d.name = some (.ref fa) ->
  (∃ gS gE, W.nsIn (K w.params) mainGlobals "START" = some (some (.ref gS)) /\ W.nsIn (K w.params) mainGlobals "END" = some (some (.ref gE)) /\ KTup (K w.params) gS "start" /\ KTup (K w.params) gE "end") /\
  ∃ fd : FuncData, (∀ (s : Shared) (u : Value), BindsTo s fd ⟨[u], []⟩ [(x, u)]) /\
   ∀ base : Heap, (K w.params).In base -> base.Ns mainGlobals mg -> FnOk l.prog w (K w.params) mg base CX0 k fa fd [x] (Zj6 (K w.params))) :
 W.WalkO q loose XP YP l.row.toRowW d [] (fun f vs => PySem.call f vs) := by
 refine Att.attach_callW hn hdf fun w s₀ s₁ mg mb fa o pm cd doc a vs ns G Y ho hd hcd hmg hobj hints hlen hbits hg => ?_
 have KX := hY w _ Y
 obtain ⟨⟨gS, gE, n1, n2, t1, t2⟩, fd, hb, hF⟩ := F w mg fa _ KX G.T.g hmg
 exact ZlO KX G.T.g G.T.b G.T.builtins G.T.nolimit hg hobj hints (Nat.le_trans hlen (by decide)) hr t1 t2 hF hb (fun H hS h1 h2 => ⟨a, ns, rfl, ⟨gS, gE, n1, n2, h1, h2⟩, ⟨hS, hlen, hbits⟩, fun _ => rfl⟩)
theorem Zgy {K : W.Frag} {ρ : Zbe} {g : Addr} (a : W.nsIn K mainGlobals "START" = some (some (.ref g))) : EvE K (tC (.ref g)) ρ (Zck [.inr "start"]) := fun H0 F σ H Q S q => by
 obtain ⟨gS, gE, h1, h2, h3, h4⟩ := S.kt
 rw [h1] at a
 cases a
 exact q F H _ (Ext.refl S.sub) (.tup h3 (.cons (.str _) .nil))
theorem ZnO {K : W.Frag} {ρ : Zbe} {g : Addr} (a : W.nsIn K mainGlobals "END" = some (some (.ref g))) : EvE K (tC (.ref g)) ρ (Zck [.inr "end"]) := fun H0 F σ H Q S q => by
 obtain ⟨gS, gE, h1, h2, h3, h4⟩ := S.kt
 rw [h2] at a
 cases a
 exact q F H _ (Ext.refl S.sub) (.tup h4 (.cons (.str _) .nil))
end L2
end
section
namespace L2
open PySem PySem.Spec PyProof.Rows
theorem Zqt {A : Around} {k : Nat} (hr : Room k A) : A.units + 6 < cLine := Nat.lt_of_le_of_lt (Nat.add_le_add_left (by decide : 6 <= 64) _) hr.units
def ZnI (tk tv : TE) : TE := fun σ H Q => ∀ p, H p = none -> tk σ (upd H p (.dT [])) fun x H1 => tv σ H1 fun y H2 => ∃ k b, x = .ref b /\ H2 p = some (.dT []) /\ H2 b = some (.tup (k.map kV)) /\ Q (.ref p) (upd H2 p (.dT [(k, y)]))
theorem Zni {X : Cx} {pos : Pos} {ke ve : Expr} {tk tv : TE} (hu : X.A.units + 1 < cLine) (hk : PE X ke tk) (hv : PE X ve tv) : PE X (.Dict [some ke] [ve] pos) (ZnI tk tv) := by
 intro pins s σ H Q I q
 have hn := I.hok.fresh (Nat.le_refl s.heap.objs.size)
 have I1 := I.laid (a := s.heap.objs.size) (o := .dT []) (h' := s.heap.push { cls := .type "dict", data := .dict #[] }) (t' := s.toks) (fun _ _ q => Heap.get?_push_of_some _ q) (Nat.le_refl _) (ZjB s.heap I.big)
 refine wpAny_Dict_any rfl rfl (by simp) (by show (1 : Nat) <= 15; decide) (pairTrees_cons_walk (thn (hk pins _ σ _ _ I1 (q _ hn)) fun kv s1 ⟨x, H1, I2, rx, q1⟩ => thn (hv pins s1 σ H1 _ I2 q1) fun vv s2 ⟨y, H2, I3, ry, k, b, ex, e, eb, q2⟩ => pairTrees_nil_walk ?_))
 subst ex
 obtain rfl : kv = Value.ref b := rx
 obtain ⟨z, hd, xs, rel, dd⟩ := ZoD I3.hok e
 have hx : xs = [] := by cases rel; rfl
 subst hx
 unfold storeAll
 rw [List.forIn_cons]
 refine wpAny_bind (wpAny_bind (wpAny_dictSet_heap (hsz := Nat.zero_le _) (knd := tupleKind (ZaZ X.prog X.w)) (show X.A.units < cLine by omega) (Zeg I3.hok eb) dd fun h' dd' hs => wpAny_pure ?_))
 obtain ⟨q', es, ep, hq, g2, g3, g4, _, g5⟩ := dd'
 show wpAny _ _ (forIn [] PUnit.unit _) _ _ _
 rw [List.forIn_nil]
 refine wpAny_pure ⟨.ref s.heap.objs.size, upd H2 s.heap.objs.size (.dT [(k, y)]), ZfJ (ob := .dT [(k, y)]) I3 (by rw [e]; exact True.intro) hs ⟨q', hq⟩ ⟨Nat.le_of_lt (Zbh ZpR), hd, _, (show KT H2 [(k, y)] [(k, b, vv)] from .cons ⟨rfl, eb, ry⟩ .nil).keeps fun c ys ec => ?_, q', es, ep, hq, g2, g3, g4, g5⟩, rfl, q2⟩
 rw [Zag (fun z => by subst z; rw [e] at ec; cases ec)]
 exact ec
theorem Znv {K : W.Frag} {ρ : Zbe} {tk tv : TE} {k : List Key} {d : PyData} (hk : EvE K tk ρ (Zck k)) (hv : EvE K tv ρ d) : EvX K (ZnI tk tv) ρ (ZgU [(k, d)]) := fun H0 F σ H Q S q => fun p hp => by
 have x0 : Ext F H F (upd H p (.dT [])) := Ext.own S.sub hp
 have f0 : F p = none := S.sub.free hp
 refine hk H0 F σ _ _ (S.ext x0) fun F1 H1 x x1 r1 => hv H0 F1 σ H1 _ (S.ext (x0.trans x1)) fun F2 H2 y x2 r2 => ?_
 obtain ⟨b, rfl, hb⟩ := Zdp r1
 have X := x1.trans x2
 have hp2 : H2 p = some (.dT []) := X.hh _ _ Zak
 have fp2 : F2 p = none := X.free f0 (by rw [Zak]; exact fun z => nomatch z)
 have X' := x0.trans X
 refine ⟨k, b, rfl, hp2, X.fh _ _ (x2.ff _ _ hb), q F2 _ (.ref p) [p] (X'.wr hp fp2) (fun a ha => by cases List.mem_singleton.mp ha; exact hp) ⟨p, _, rfl, rfl, fp2, Zak, .cons r2 .nil⟩⟩
inductive LeavZ (F : Hp) : List (List Key × V) -> List (List Key × List Int) -> Prop
 | nil : LeavZ F [] []
 | cons {k : List Key} {a : Addr} {ns : List Int} {zs : List V} {xs : List (List Key × V)} {ls : List (List Key × List Int)} : F a = some (.lst zs) -> Reps F zs (ns.map PyData.int) -> LeavZ F xs ls -> LeavZ F ((k, .ref a) :: xs) ((k, ns) :: ls)
theorem LeavZ.mono {F F' : Hp} (s : ZaF F F') : ∀ {xs : List (List Key × V)} {ls : List (List Key × List Int)}, LeavZ F xs ls -> LeavZ F' xs ls
 | _, _, .nil => .nil
 | _, _, .cons h r t => .cons (s _ _ h) (r.mono s) (t.mono s)
theorem LeavZ.val {F : Hp} (k : List Key) : ∀ {xs : List (List Key × V)} {ls : List (List Key × List Int)}, LeavZ F xs ls -> (ZdW xs k = none /\ Zb6 ls k = none) \/ ∃ a ns zs, ZdW xs k = some (.ref a) /\ Zb6 ls k = some ns /\ F a = some (.lst zs) /\ Reps F zs (ns.map PyData.int)
 | _, _, .nil => .inl ⟨rfl, rfl⟩
 | _, _, .cons (k := k') (a := a) (ns := ns) (zs := zs) (xs := xs) (ls := ls) h r t => by
   by_cases e : k' = k
   ·exact .inr ⟨a, ns, zs, Zcn e, by simp [Zb6, List.find?_cons, e], h, r⟩
   ·have q : Zb6 ((k', ns) :: ls) k = Zb6 ls k := by simp [Zb6, List.find?_cons, e]
    rw [Zcw (p := (k', V.ref a)) e, q]
    exact t.val k
theorem LeavD.fz {F F' H : Hp} (s : ZaF F F') : ∀ {xs : List (List Key × V)} {ls : List (List Key × List Int)} {as : List Addr}, LeavD F H xs ls as -> (∀ b ∈ as, F' b = H b) -> LeavZ F' xs ls
 | _, _, _, .nil, _ => .nil
 | _, _, _, .cons h t, he => by
   obtain ⟨h1, xs, h2, h3⟩ := h
   exact .cons (by rw [he _ List.mem_cons_self]; exact h2) (h3.mono s) (t.fz s fun b hb => he b (List.mem_cons_of_mem _ hb))
structure NetFz (P : Program) (w : World) (C : Addr) (N : NetS) (F : Hp) (a dx e r l d : Addr) (xs : List (List Key × V)) (ys : List (KK × Addr × V)) : Prop where
 ins : F a = some (.ins C dx [("ends", .ref e), ("rooms", .ref r), ("leaving", .ref l), ("laid", .ref d)])
 ends : ∃ ex, F e = some (.lst ex) /\ Reps F ex (N.ends.map Zck)
 rooms : ∃ rx, F r = some (.lst rx) /\ Reps F rx (N.rooms.map PyData.int)
 leav : F l = some (.dT xs) /\ LeavZ F xs N.leav
 laid : F d = some (pdO P w d ys) /\ LaidD F ys N.laid
theorem NetFz.mono {P : Program} {w : World} {C : Addr} {N : NetS} {F F' : Hp} {a dx e r l d : Addr} {xs : List (List Key × V)} {ys : List (KK × Addr × V)} (s : ZaF F F') (h : NetFz P w C N F a dx e r l d xs ys) : NetFz P w C N F' a dx e r l d xs ys := by
 obtain ⟨h1, ⟨ex, h2, h3⟩, ⟨rx, h4, h5⟩, ⟨h6, h7⟩, ⟨h8, h9⟩⟩ := h
 exact ⟨s _ _ h1, ⟨ex, s _ _ h2, h3.mono s⟩, ⟨rx, s _ _ h4, h5.mono s⟩, ⟨s _ _ h6, h7.mono s⟩, ⟨s _ _ h8, h9.mono s⟩⟩
def ZgZ (P : Program) (w : World) (C : Addr) (N : NetS) : ZP where
 ok K F v := ∃ a dx e r l d xs ys, v = .ref a /\ NetFz P w C N F a dx e r l d xs ys
 mono := by
  rintro K F F' v s ⟨a, dx, e, r, l, d, xs, ys, rfl, h⟩
  exact ⟨a, dx, e, r, l, d, xs, ys, rfl, h.mono s⟩
theorem NetOk.fz {P : Program} {w : World} {C : Addr} {N : NetS} {F F' H : Hp} {a dx el r l d : Addr} {xs : List (List Key × V)} {ys : List (KK × Addr × V)} {as : List Addr} (ok : NetOk P w C N F H a dx el r l d xs ys as) (s : ZaF F F') (he : ∀ b ∈ a :: dx :: el :: r :: l :: d :: as, F' b = H b) :
 NetFz P w C N F' a dx el r l d xs ys := by
 obtain ⟨nd, ⟨i1, i2⟩, ⟨o1, o2⟩, ⟨e1, ex, e2, e3⟩, ⟨r1, rx, r2, r3⟩, ⟨l1, l2, l3⟩, ⟨d1, d2, d3⟩⟩ := ok
 exact ⟨by rw [he _ (by simp)]; exact i2, ⟨ex, by rw [he _ (by simp)]; exact e2, e3.mono s⟩, ⟨rx, by rw [he _ (by simp)]; exact r2, r3.mono s⟩, ⟨by rw [he _ (by simp)]; exact l2, l3.fz s fun b hb => he b (by simp [hb])⟩, ⟨by rw [he _ (by simp)]; exact d2, d3.mono s⟩⟩
theorem ZcG.fz {P : Program} {w : World} {C : Addr} {N : NetS} {K : W.Frag} {F F' H : Hp} {v : V} {p : List Addr} (h : (ZcG P w C N).ok K F H v p) (s : ZaF F F') (he : ∀ b ∈ p, F' b = H b) : (ZgZ P w C N).ok K F' v := by
 obtain ⟨a, dx, e, r, l, d, xs, ys, as, rfl, rfl, o⟩ := h
 exact ⟨a, dx, e, r, l, d, xs, ys, rfl, o.fz s he⟩
def ZoA (kvs : Zfe) : ZP where
 ok K F v := ∃ a xs, v = .ref a /\ F a = some (.dT xs) /\ PairD F xs kvs
 mono := by
  rintro K F F' v s ⟨a, xs, rfl, h1, h2⟩
  exact ⟨a, xs, rfl, s _ _ h1, h2.mono s⟩
theorem ZgU.fz {kvs : Zfe} {K : W.Frag} {F F' H : Hp} {v : V} {p : List Addr} (h : (ZgU kvs).ok K F H v p) (s : ZaF F F') (he : ∀ b ∈ p, F' b = H b) : (ZoA kvs).ok K F' v := by
 obtain ⟨a, xs, rfl, rfl, h1, h2, h3⟩ := h
 exact ⟨a, xs, rfl, by rw [he a List.mem_cons_self]; exact h2, h3.mono s⟩
section
variable {K : W.Frag} {ρ : Zbe} {D : PEnds}
theorem Sta.freezeZ {H0 F H : Hp} {σ : St} {i : Nat} {v : V} {Φ : OwnP} {Ψ : ZP} (s : Sta K H0 F ρ σ H) (e : ρ[i]? = some (some (.own v Φ)))
 (hz : ∀ {F F' H : Hp} {u : V} {p : List Addr}, Φ.ok K F H u p -> ZaF F F' -> (∀ b ∈ p, F' b = H b) -> Ψ.ok K F' u) :
 ∃ p, (∀ a ∈ p, F a = none /\ H a ≠ none /\ H0 a = none) /\ Sta K H0 (frF F H p) (ρ.set i (some (.zow Ψ))) σ H := by
 obtain ⟨kt, h1, h2, fp, h3, h4, h5⟩ := s
 obtain ⟨u, e1, rfl, ok⟩ := h3 i _ e
 have hlt := (List.getElem?_eq_some_iff.mp e).1
 have th := fun a ha => Φ.there ok a ha
 have sm : ZaF F (frF F H (fp i)) := Ze3 fun a ha => (th a ha).1
 refine ⟨fp i, fun a ha => ⟨(th a ha).1, (th a ha).2, (h5 i a ha).1⟩, kt.mono sm, ZiV h1, by simp [h2], fun j => if j = i then [] else fp j, fun j t' e' => ?_, fun j k b hb hc => ?_, fun j b hb => ?_⟩
 ·by_cases hj : j = i
  ·subst hj
   rw [List.getElem?_set_self hlt] at e'
   cases e'
   refine ⟨_, e1, ?_, hz ok sm fun b hb => Zgs hb⟩
   dsimp only
   rw [if_pos rfl]
  ·rw [List.getElem?_set_ne (Ne.symm hj)] at e'
   obtain ⟨u', f1, f2⟩ := h3 j t' e'
   refine ⟨u', f1, ?_⟩
   dsimp only
   rw [if_neg hj]
   exact f2.frOther sm fun a ha z => hj (h4 j i a ha z)
 ·by_cases hj : j = i
  ·simp [hj] at hb
  ·by_cases hk : k = i
   ·simp [hk] at hc
   ·simp only [if_neg hj] at hb
    simp only [if_neg hk] at hc
    exact h4 j k b hb hc
 ·by_cases hj : j = i
  ·simp [hj] at hb
  ·simp only [if_neg hj] at hb
   exact h5 j b hb
theorem Zre {t : TS} (i : Nat) {v : V} {Φ : OwnP} {Ψ : ZP} (e : ρ[i]? = some (some (.own v Φ))) (hz : ∀ {F F' H : Hp} {u : V} {p : List Addr}, Φ.ok K F H u p -> ZaF F F' -> (∀ b ∈ p, F' b = H b) -> Ψ.ok K F' u)
 (h : EvS K t (ρ.set i (some (.zow Ψ))) D) : EvS K t ρ D := fun F0 H0 F σ H E x S C => by
 obtain ⟨p, hp, S'⟩ := S.freezeZ e hz
 refine h F0 H0 _ σ H E ⟨x.hh, x.ff.trans (Ze3 fun a ha => (hp a ha).1), S'.sub, fun a ha => ?_⟩ S' C
 by_cases z : a ∈ p
 ·exact .inr (hp a z).2.2
 ·rw [Zdq z] at ha; exact x.fr a ha
theorem Zj1 {t : TS} {kvs : Zfe} {v : V} (i : Nat) (e : ρ[i]? = some (some (.own v (ZgU kvs)))) (h : EvS K t (ρ.set i (some (.zow (ZoA kvs)))) D) : EvS K t ρ D := Zre i e (fun a b c => ZgU.fz a b c) h
def EvD (K : W.Frag) (t : TE) (ρ : Zbe) (Φ : OT -> Prop) : Prop := ∀ (H0 F : Hp) (σ : St) (H : Hp) (Q : VK), Sta K H0 F ρ σ H -> (∀ F' H' v p r, Φ r -> Ext F H F' H' -> (∀ a ∈ p, H a = none) -> ZaE K F' H' v r p -> Q v H') -> t σ H Q
theorem EvO.d {t : TE} {r : OT} {Φ : OT -> Prop} (h : EvO K t ρ r) (hr : Φ r) : EvD K t ρ Φ := fun H0 F σ H Q S q => h H0 F σ H Q S fun F' H' v p x hp ok => q F' H' v p r hr x hp ok
theorem EvD.o {t : TE} {r : OT} (h : EvD K t ρ (fun r' => r' = r)) : EvO K t ρ r := fun H0 F σ H Q S q => h H0 F σ H Q S fun F' H' v p r' e x hp ok => by subst e; exact q F' H' v p x hp ok
theorem EvX.d {t : TE} {Φ0 : OwnP} {Φ : OT -> Prop} (h : EvX K t ρ Φ0) (hr : ∀ v, Φ (.own v Φ0)) : EvD K t ρ Φ := fun H0 F σ H Q S q => h H0 F σ H Q S fun F' H' v p x hp ok => q F' H' v p (.own v Φ0) (hr v) x hp ⟨rfl, ok⟩
theorem ZdL {te : TE} {i : Nat} {Φ : OT -> Prop} (h : EvD K te ρ Φ) (hn : ∀ r, Φ r -> D.nx (ρ.set i (some r))) : EvS K (Znc te (ZgA i)) ρ D := fun F0 H0 F σ H E x S C =>
 h H0 F σ H _ S fun F' H' v p r hr x' hp ok => by
  refine C.nx F' _ H' _ (x.trans x') ((S.ext x').set ok (fun a ha => x.hh.free (hp a ha)) (hn := fun a ha j w t' q e1 e2 ok' => ?_)) (hn r hr)
  obtain ⟨fp, g1, g2, g3⟩ := S.fp
  obtain ⟨w', f1, f2⟩ := g1 j t' e1
  intro hq
  have f3 := f2.ext x'
  rw [e2] at f1
  cases f1
  exact (g3 j a (Zh9 (K := K) f3 ok' a hq)).2 (hp a ha)
theorem Zo4 {te : TE} {Φ : OT -> Prop} (h : EvD K te ρ Φ) (hr : ∀ r, Φ r -> D.rt r) : EvS K (ZpT te) ρ D := fun F0 H0 F σ H E x S C =>
 h H0 F σ H _ S fun F' H' v p r e x' hp ok => C.rt F' H' v r p (x.trans x') (fun a ha => x.hh.free (hp a ha)) ok (hr r e)
theorem Zll {i : Nat} {v : V} {Φ : OwnP} (e : ρ[i]? = some (some (.own v Φ))) (hr : D.rt (.own v Φ)) : EvS K (ZpT (ZcP i)) ρ D := fun F0 H0 F σ H E x S C => by
 obtain ⟨fp, h, _, h5⟩ := S.fp
 obtain ⟨u, e1, e2⟩ := h i _ e
 exact ⟨_, e1, C.rt F H u (.own v Φ) (fp i) x (fun a ha => (h5 i a ha).1) e2 hr⟩
def ZqJ (r : OT) : Prop := ∀ (K : W.Frag) (F F' H : Hp) (v : V) (p : List Addr), (∀ a ∈ p, F' a = none) -> ZaE K F H v r p -> ZaE K F' H v r p
theorem Rep.thin {F F' : Hp} {v w : V} {d : PyData} (r : Rep F v d) (h : Zen d = some w) : Rep F' v d := by
 cases r <;> simp [Zen] at h
 ·exact .non
 ·exact .bl _
 ·exact .int _
 ·exact .str _
theorem Zlp {d : PyData} {w : V} (h : Zen d = some w) : ZqJ (.fz d) := fun K F F' H v p _ ok => ⟨ok.1, ok.2.thin h⟩
theorem ZoJ {ds : List PyData} (h : ZnQ ds) : ZqJ (.ol ds) := fun K F F' H v p hp ok => by
 obtain ⟨a, rfl, rfl, h1, xs, h2, h3⟩ := ok
 exact ⟨a, rfl, rfl, hp a List.mem_cons_self, xs, h2, h3.flats h⟩
def ZkS (kvs : Zfe) : Prop := ∀ x ∈ kvs, ∃ w, Zen x.2 = some w
theorem PairD.flats {F F' : Hp} : ∀ {xs : List (List Key × V)} {kvs : Zfe}, ZkS kvs -> PairD F xs kvs -> PairD F' xs kvs
 | _, _, _, .nil => .nil
 | _, _, h, .cons r t => by
   obtain ⟨w, e⟩ := h _ List.mem_cons_self
   exact .cons (r.thin e) (t.flats fun x hx => h x (List.mem_cons_of_mem _ hx))
theorem ZmH {kvs : Zfe} {v : V} (h : ZkS kvs) : ZqJ (.own v (ZgU kvs)) := fun K F F' H u p hp ok => by
 obtain ⟨e, a, xs, rfl, rfl, h1, h2, h3⟩ := ok
 exact ⟨e, a, xs, rfl, rfl, hp a List.mem_cons_self, h2, h3.flats h⟩
theorem Znt {t : TE} {v : V} {Φ0 : OwnP} {Ψ : ZP} {Φ : OT -> Prop} (i : Nat) (e : ρ[i]? = some (some (.own v Φ0))) (hz : ∀ {F F' H : Hp} {u : V} {p : List Addr}, Φ0.ok K F H u p -> ZaF F F' -> (∀ b ∈ p, F' b = H b) -> Ψ.ok K F' u)
 (hf : ∀ r, Φ r -> ZqJ r) (h : EvD K t (ρ.set i (some (.zow Ψ))) Φ) : EvD K t ρ Φ := fun H0 F σ H Q S q => by
 obtain ⟨p, hp, S'⟩ := S.freezeZ e hz
 refine h H0 _ σ H Q S' fun F' H' u pp r hr x hpp ok => ?_
 refine q _ H' u pp r hr (ZjC (fun a ha => ⟨(hp a ha).1, (hp a ha).2.1⟩) x) hpp (hf r hr K F' _ H' u pp (fun a ha => ?_) ok)
 by_cases z : a ∈ p
 ·show (if a ∈ p then none else F' a) = none
  rw [if_pos z]
 ·show (if a ∈ p then none else F' a) = none
  rw [if_neg z]; exact (ok.there a ha).1
theorem ZeE {t : TE} {P : Program} {w : World} {C : Addr} {N : NetS} {v : V} {Φ : OT -> Prop} (i : Nat) (e : ρ[i]? = some (some (.own v (ZcG P w C N)))) (hf : ∀ r, Φ r -> ZqJ r) (h : EvD K t (ρ.set i (some (.zow (ZgZ P w C N)))) Φ) : EvD K t ρ Φ :=
 Znt i e (fun a b c => ZcG.fz a b c) hf h
theorem Zkv {t : TE} {P : Program} {w : World} {C : Addr} {N : NetS} {v : V} {d : PyData} {u : V} (i : Nat) (e : ρ[i]? = some (some (.own v (ZcG P w C N)))) (hf : Zen d = some u) (h : EvE K t (ρ.set i (some (.zow (ZgZ P w C N)))) d) : EvE K t ρ d :=
 EvO.e (EvD.o (ZeE (Φ := fun r => r = .fz d) i e (fun r hr => by subst hr; exact Zlp hf) (h.o.d rfl)))
section
variable {tb te ty tx : TE} {i : Nat} {P : Program} {w : World} {C : Addr} {N : NetS} {k : List Key}
theorem Sta.netz {H0 F H : Hp} {σ : St} (S : Sta K H0 F ρ σ H) (e : ρ[i]? = some (some (.zow (ZgZ P w C N)))) : ∃ a dx el r l d xs ys, σ[i]? = some (some (.ref a)) /\ NetFz P w C N F a dx el r l d xs ys := by
 obtain ⟨fp, h, _⟩ := S.fp
 obtain ⟨v, e1, _, a, dx, el, r, l, d, xs, ys, rfl, h1⟩ := h i _ e
 exact ⟨a, dx, el, r, l, d, xs, ys, e1, h1⟩
theorem Zjd (c : NetC K C) (e : ρ[i]? = some (some (.zow (ZgZ P w C N)))) {k m : Int} (hb : EvE K tb ρ (.int k)) (hm : atI (N.rooms.map PyData.int) k = some (.int m)) : EvE K (tOp (rIx K) (Zlj K (ZcP i) "rooms") tb) ρ (.int m) := fun H0 F σ H Q S q => by
 obtain ⟨a, dx, el, r, l, d, xs, ys, e1, ok⟩ := S.netz e
 refine ⟨_, e1, a, C, dx, _, .ref r, rfl, S.sub _ _ ok.ins, c.cl, c.rooms, rfl, hb H0 F σ H _ S fun F1 H1 y x1 r1 => ?_⟩
 cases r1
 obtain ⟨rx, r2, r3⟩ := ok.rooms
 obtain ⟨z, z1, z2⟩ := Ze7 (r3.mono x1.ff) hm
 exact .inl ⟨r, rx, k, z, rfl, rfl, SqL.of (x1.fh _ _ (x1.ff _ _ r2)), z1, q F1 H1 z x1 z2⟩
theorem ZlP (c : NetC K C) (e : ρ[i]? = some (some (.zow (ZgZ P w C N)))) {k : Int} {n : PyData} (hb : EvE K tb ρ (.int k)) (hm : atI (N.ends.map Zck) k = some n) : EvE K (tOp (rIx K) (Zlj K (ZcP i) "ends") tb) ρ n := fun H0 F σ H Q S q => by
 obtain ⟨a, dx, el, r, l, d, xs, ys, e1, ok⟩ := S.netz e
 refine ⟨_, e1, a, C, dx, _, .ref el, rfl, S.sub _ _ ok.ins, c.cl, c.ends, rfl, hb H0 F σ H _ S fun F1 H1 y x1 r1 => ?_⟩
 cases r1
 obtain ⟨rx, r2, r3⟩ := ok.ends
 obtain ⟨z, z1, z2⟩ := Ze7 (r3.mono x1.ff) hm
 exact .inl ⟨el, rx, k, z, rfl, rfl, SqL.of (x1.fh _ _ (x1.ff _ _ r2)), z1, q F1 H1 z x1 z2⟩
theorem Znq (c : NetC K C) (e : ρ[i]? = some (some (.zow (ZgZ P w C N)))) (hy : EvE K ty ρ (Zck k)) : EvE K (Zof (Zlj K (ZcP i) "leaving") ty (Zro ZdF)) ρ (.list (((Zb6 N.leav k).getD []).map PyData.int)) := fun H0 F σ H Q S q => by
 obtain ⟨a, dx, el, r, l, d, xs, ys, e1, ok⟩ := S.netz e
 refine ⟨_, e1, a, C, dx, _, .ref l, rfl, S.sub _ _ ok.ins, c.cl, c.leav, rfl, l, rfl, .inr ⟨xs, Rd.of (S.sub _ _ ok.leav.1)⟩, hy H0 F σ H _ S fun F1 H1 y x1 r1 => ⟨Nat.zero_le _, fun p hp => ?_⟩⟩
 obtain ⟨b, rfl, hb⟩ := Zdp r1
 have S1 := S.ext x1
 have x2 : Ext F1 H1 (upd F1 p (.lst [])) (upd H1 p (.lst [])) := Ext.new S1.sub hp
 have xx := x1.trans x2
 have lH : upd H1 p (.lst []) l = some (.dT xs) := xx.fh _ _ (xx.ff _ _ ok.leav.1)
 have bH : upd H1 p (.lst []) b = some (.tup (k.map kV)) := x2.fh _ _ (x2.ff _ _ hb)
 refine ⟨ZdW xs k, Zhb.t lH bH, ?_⟩
 rcases ok.leav.2.val k with ⟨z1, z2⟩ | ⟨c1, ns, zs, z1, z2, z3, z4⟩
 ·rw [z1]
  exact q _ _ _ xx (by rw [z2]; exact .lst Zak .nil)
 ·rw [z1]
  exact q _ _ _ xx (by rw [z2]; exact .lst (xx.ff _ _ z3) (z4.mono xx.ff))
theorem Sta.dctz {H0 F H : Hp} {σ : St} {kvs : Zfe} (S : Sta K H0 F ρ σ H) (e : ρ[i]? = some (some (.zow (ZoA kvs)))) : ∃ a xs, σ[i]? = some (some (.ref a)) /\ F a = some (.dT xs) /\ PairD F xs kvs := by
 obtain ⟨fp, h, _⟩ := S.fp
 obtain ⟨v, e1, _, a, xs, rfl, h1, h2⟩ := h i _ e
 exact ⟨a, xs, e1, h1, h2⟩
theorem Zl6 {kvs : Zfe} {d : PyData} (e : ρ[i]? = some (some (.zow (ZoA kvs)))) (hy : EvE K ty ρ (Zck k)) (hd : Zim kvs k = some d) : EvE K (Zqh (ZcP i) ty) ρ d := fun H0 F σ H Q S q => by
 obtain ⟨a, xs, e1, _⟩ := S.dctz e
 refine ⟨_, e1, hy H0 F σ H _ S fun F1 H1 y x1 r1 => ?_⟩
 obtain ⟨a', xs', e1', f2, f3⟩ := (S.ext x1).dctz e
 rw [e1] at e1'
 cases e1'
 obtain ⟨b, rfl, hb⟩ := Zdp r1
 rcases f3.val k with ⟨_, z⟩ | ⟨x, d', z1, z2, z3⟩
 ·rw [hd] at z; cases z
 ·rw [hd] at z2
  cases z2
  exact ⟨a, x, rfl, z1 ▸ Zhb.t (x1.fh _ _ f2) (x1.fh _ _ hb), q F1 H1 x x1 z3⟩
theorem Zqs {kvs : Zfe} (hy : EvE K ty ρ (Zck k)) (e : ρ[i]? = some (some (.zow (ZoA kvs)))) : EvE K (ZrA ty (ZcP i)) ρ (.bool (Zim kvs k).isSome) := fun H0 F σ H Q S q =>
 hy H0 F σ H _ S fun F1 H1 y x1 r1 => by
  obtain ⟨a, xs, e1, f2, f3⟩ := (S.ext x1).dctz e
  obtain ⟨b, rfl, hb⟩ := Zdp r1
  exact ⟨_, e1, a, _, rfl, Zhb.t (x1.fh _ _ f2) (x1.fh _ _ hb), q F1 H1 _ x1 (by rw [ZeQ f3]; exact .bl _)⟩
end
end
end L2
end
section
namespace L2
open PySem PySem.Spec PyProof.Rows
def spD (K : W.Frag) (R : List OT -> (OT -> Prop) -> Prop) : Sp := fun vs H Q _ => ∃ F ts Φ, KTs K F /\ ZaF F H /\ Args K F vs ts /\ R ts Φ /\ ∀ F' H' v p r, Φ r -> Ext F H F' H' -> (∀ a ∈ p, H a = none) -> ZaE K F' H' v r p -> Q v H'
def Zrr (K : W.Frag) (t : TA) (ρ : Zbe) (Φ : List OT -> Prop) : Prop := ∀ (H0 F : Hp) (σ : St) (H : Hp) (Q : List V -> Hp -> Prop), Sta K H0 F ρ σ H -> (∀ F' H' vs ts, Φ ts -> Ext F H F' H' -> Args K F' vs ts -> Q vs H') -> t σ H Q
section
variable {K : W.Frag} {ρ : Zbe} {D : PEnds}
theorem Zem {R : List OT -> (OT -> Prop) -> Prop} {t : TA} {E : XK} {ts : List OT} {Φ : OT -> Prop} (h : EvA K t ρ ts) (hR : R ts Φ) : EvD K (ZhP (spD K R) [] E t) ρ Φ := fun H0 F σ H Q S q =>
 h H0 F σ H _ S fun F1 H1 vs x1 r1 => ⟨F1, ts, Φ, (S.ext x1).kt, x1.fh, by rw [List.append_nil]; exact r1, hR, fun F2 H2 v p r hr x2 hp ok => q F2 H2 v p r hr (x1.trans x2) (fun a ha => x1.hh.free (hp a ha)) ok⟩
theorem Ze5 {t : TA} {ts : List OT} {Φ : List OT -> Prop} (h : EvA K t ρ ts) (hp : Φ ts) : Zrr K t ρ Φ := fun H0 F σ H Q S q => h H0 F σ H Q S fun F' H' vs x r => q F' H' vs ts hp x r
theorem ZqW {ta : TE} {Φ : OT -> Prop} {Φ' : List OT -> Prop} (h : EvD K ta ρ Φ) (hi : ∀ r, Φ r -> ∃ ds, r = .ol ds /\ Φ' [.fz (.list ds)]) : Zrr K (Zbd ta ZdF) ρ Φ' := fun H0 F σ H Q S q =>
 h H0 F σ H _ S fun F1 H1 v p r hr x hp ok => by
  obtain ⟨ds, rfl, hp'⟩ := hi r hr
  obtain ⟨a, rfl, rfl, r1, xs, r2, r3⟩ := ok
  exact q (upd F1 a (.lst xs)) H1 [.ref a] _ hp' (x.freeze r1 r2 (hp a List.mem_cons_self)) (.fz (.lst Zak (r3.mono (ZaF.new r1))) .nil)
section
variable {P : Program} {w : World} {C : Addr} {N : NetS} {i : Nat} {m : Str}
def NoF (m : Str) : Prop := ∀ e r l d : Addr, ([("ends", V.ref e), ("rooms", V.ref r), ("leaving", V.ref l), ("laid", V.ref d)] : List (Str × V)).lookup m = none
theorem ZiZ {R : List OT -> (OT -> Prop) -> Prop} {t : TA} {E : XK} {ts : List OT} {Φ : OT -> Prop} (hm : NoF m) (e : ρ[i]? = some (some (.zow (ZgZ P w C N)))) (h : EvA K t ρ ts) (hR : R (.zow (ZgZ P w C N) :: ts) Φ) :
 EvD K (Zki C m (spD K R) [] E (ZcP i) t) ρ Φ := fun H0 F σ H Q S q => by
 obtain ⟨a, dx, el, r, l, d, xs, ys, e1, ok⟩ := S.netz e
 refine ⟨_, e1, a, dx, _, rfl, S.sub _ _ ok.ins, hm _ _ _ _, h H0 F σ H _ S fun F1 H1 vs x1 r1 => ?_⟩
 refine ⟨F1, _, Φ, (S.ext x1).kt, x1.fh, .zow (Ψ := ZgZ P w C N) ⟨a, dx, el, r, l, d, xs, ys, rfl, ok.mono x1.ff⟩ (by rw [List.append_nil]; exact r1), hR, fun F2 H2 v p r' hr x2 hp ok' => q F2 H2 v p r' hr (x1.trans x2) (fun b hb => x1.hh.free (hp b hb)) ok'⟩
theorem Zn8 {R : List OT -> (OT -> Prop) -> Prop} {ta : TE} {t : TA} {E : XK} {ts : List OT} {Φ1 Φ : OT -> Prop} (hm : NoF m) (h1 : EvD K ta ρ Φ1) (hz : ∀ r, Φ1 r -> ∃ v N, r = .own v (ZcG P w C N) /\ ∃ Φ2, R (.zow (ZgZ P w C N) :: ts) Φ2 /\ ∀ r, Φ2 r -> Φ r)
 (h : EvA K t ρ ts) : EvD K (Zki C m (spD K R) [] E ta t) ρ Φ := fun H0 F σ H Q S q =>
 h1 H0 F σ H _ S fun F1 H1 v p r hr x1 hp ok => by
  obtain ⟨v0, N, rfl, Φ2, hR, hi⟩ := hz r hr
  obtain ⟨rfl, ok⟩ := ok
  have th := fun a ha => (ZcG P w C N).there ok a ha
  have sm : ZaF F1 (frF F1 H1 p) := Ze3 fun a ha => (th a ha).1
  have x1' : Ext F H (frF F1 H1 p) H1 := ⟨x1.hh, x1.ff.trans sm, ZiV x1.fh, fun a ha => by
   by_cases z : a ∈ p
   ·exact .inr (hp a z)
   ·rw [Zdq z] at ha; exact x1.fr a ha⟩
  obtain ⟨a, dx, el, r, l, d, xs, ys, as, rfl, rfl, o⟩ := ok
  refine ⟨a, dx, _, rfl, o.ins.2, hm _ _ _ _, h H0 _ σ H1 _ (S.ext x1') fun F2 H2 vs x2 r2 => ?_⟩
  have z := o.fz sm (fun b hb => Zgs hb)
  exact ⟨F2, _, Φ2, (S.ext (x1'.trans x2)).kt, x2.fh, .zow (Ψ := ZgZ P w C N) ⟨a, dx, el, r, l, d, xs, ys, rfl, z.mono x2.ff⟩ (by rw [List.append_nil]; exact r2), hR, fun F3 H3 v p' r' hr' x3 hp' ok' => q F3 H3 v p' r' (hi r' hr') ((x1'.trans x2).trans x3) (fun b hb => (x1'.trans x2).hh.free (hp' b hb)) ok'⟩
structure ExtN (p : List Addr) (F H F' H' : Hp) : Prop where
 hh : ∀ b o, b ∉ p -> H b = some o -> H' b = some o
 ff : ZaF F F'
 fh : ZaF F' H'
 fr : ∀ b, F' b ≠ none -> F b ≠ none \/ H b = none \/ b ∈ p
def spN (K : W.Frag) (P : Program) (w : World) (C : Addr) (R : NetS -> List OT -> (NetS -> Prop) -> Prop) : Sp := fun vs H Q _ => ∃ F a vs' p ts N Ψ, vs = .ref a :: vs' /\ KTs K F /\ ZaF F H /\ Args K F vs' ts /\ (ZcG P w C N).ok K F H (.ref a) p /\ R N ts Ψ /\
 ∀ F' H' p' N', Ψ N' -> ExtN p F H F' H' -> (ZcG P w C N').ok K F' H' (.ref a) p' -> (∀ b ∈ p', b ∈ p \/ H b = none) -> Q .non H'
theorem Zbb.move {F F' H H' : Hp} (s : ZaF F F') : ∀ {as : List Addr} {dss : List (List PyData)}, (∀ a ∈ as, F' a = none) -> (∀ a ∈ as, H' a = H a) -> Zbb F H as dss -> Zbb F' H' as dss
 | [], [], _, _, _ => trivial
 | a :: as, _ :: _, hF, hH, o => by
   obtain ⟨⟨h1, xs, h2, h3⟩, o2⟩ := o
   exact ⟨⟨hF a List.mem_cons_self, xs, by rw [hH a List.mem_cons_self]; exact h2, h3.mono s⟩, Zbb.move s (fun b hb => hF b (List.mem_cons_of_mem _ hb)) (fun b hb => hH b (List.mem_cons_of_mem _ hb)) o2⟩
 | [], _ :: _, _, _, h => False.elim h
 | _ :: _, [], _, _, h => False.elim h
theorem ZaE.move {F F' H H' : Hp} {v : V} {t : OT} {p : List Addr} (s : ZaF F F') (hF : ∀ a ∈ p, F' a = none) (hH : ∀ a ∈ p, H' a = H a) (h : ZaE K F H v t p) : ZaE K F' H' v t p := by
 cases t with
 | fz d => exact ⟨h.1, h.2.mono s⟩
 | zow Ψ => exact ⟨h.1, Ψ.mono s h.2⟩
 | ol ds =>
   obtain ⟨a, rfl, rfl, h1, xs, h2, h3⟩ := h
   exact ⟨a, rfl, rfl, hF a List.mem_cons_self, xs, by rw [hH a List.mem_cons_self]; exact h2, h3.mono s⟩
 | oll dss =>
   obtain ⟨a, as, rfl, rfl, h1, h2, h3, h4⟩ := h
   exact ⟨a, as, rfl, rfl, h1, hF a List.mem_cons_self, by rw [hH a List.mem_cons_self]; exact h3, h4.move s (fun b hb => hF b (List.mem_cons_of_mem _ hb)) fun b hb => hH b (List.mem_cons_of_mem _ hb)⟩
 | scr ns => obtain ⟨h1, a, h2, h3⟩ := h; exact ⟨h1, a, h2, h3.mono s⟩
 | own v0 Φ => exact ⟨h.1, Φ.mono s hF hH h.2⟩
theorem Zjx {F0 H0 F H : Hp} {σ : St} {E : Ends} {v : V} {Ψ : NetS -> Prop} (S : Sta K H0 F ρ σ H) (x : Ext F0 H0 F H) (e : ρ[i]? = some (some (.own v (ZcG P w C N)))) (hn : ∀ N', Ψ N' -> D.nx (ρ.set i (some (.own v (ZcG P w C N'))))) (C' : Cnv K F0 H0 D E) :
 ∃ a p, v = .ref a /\ (ZcG P w C N).ok K F H (.ref a) p /\ ∀ F' H' p' N', Ψ N' -> ExtN p F H F' H' -> (ZcG P w C N').ok K F' H' (.ref a) p' -> (∀ b ∈ p', b ∈ p \/ H b = none) -> E.nx σ H' := by
 obtain ⟨kt, h1, h2, fp, h3, h4, h5⟩ := S
 obtain ⟨u, e1, rfl, ok⟩ := h3 i _ e
 obtain ⟨a, _, _, _, _, _, _, _, _, rfl, _⟩ := id ok
 have hlt := (List.getElem?_eq_some_iff.mp e).1
 refine ⟨a, fp i, rfl, ok, fun F' H' p' N' hN xn ok' sub => ?_⟩
 have out : ∀ j, j ≠ i -> ∀ b ∈ fp j, b ∉ fp i := fun j hj b hb z => hj (h4 j i b hb z)
 have hH : ∀ j, j ≠ i -> ∀ b ∈ fp j, H' b = H b := fun j hj b hb => by
  obtain ⟨o, ho⟩ := ZlN (h5 j b hb).2
  rw [xn.hh b o (out j hj b hb) ho, ho]
 refine C'.nx F' σ H' _ ⟨fun b o hb => xn.hh b o (fun z => by rw [(h5 i b z).1] at hb; cases hb) (x.hh b o hb), x.ff.trans xn.ff, xn.fh, fun b hb => ?_⟩ ⟨kt.mono xn.ff, xn.fh, by simp [h2], fun j => if j = i then p' else fp j, fun j t' e' => ?_, fun j k b hb hc => ?_, fun j b hb => ?_⟩ (hn N' hN)
 ·rcases xn.fr b hb with z | z | z
  ·exact x.fr b z
  ·exact .inr (x.hh.free z)
  ·exact .inr (h5 i b z).1
 ·by_cases hj : j = i
  ·subst hj
   rw [List.getElem?_set_self hlt] at e'
   cases e'
   refine ⟨_, e1, rfl, ?_⟩
   simp only [if_true]
   exact ok'
  ·rw [List.getElem?_set_ne (Ne.symm hj)] at e'
   obtain ⟨u', f1, f2⟩ := h3 j t' e'
   refine ⟨u', f1, ?_⟩
   simp only [if_neg hj]
   refine f2.move xn.ff (fun b hb => ?_) (hH j hj)
   cases z : F' b with
   | none => rfl
   | some o =>
     rcases xn.fr b (ZbP z) with y | y | y
     ·exact absurd (f2.there b hb).1 y
     ·exact absurd y (h5 j b hb).2
     ·exact absurd y (out j hj b hb)
 ·by_cases hj : j = i
  ·by_cases hk : k = i
   ·omega
   ·simp only [if_pos hj] at hb
    simp only [if_neg hk] at hc
    rcases sub b hb with z | z
    ·exact absurd (h4 k i b hc z) hk
    ·exact absurd z (h5 k b hc).2
  ·simp only [if_neg hj] at hb
   by_cases hk : k = i
   ·simp only [if_pos hk] at hc
    rcases sub b hc with z | z
    ·exact absurd (h4 j i b hb z) hj
    ·exact absurd z (h5 j b hb).2
   ·simp only [if_neg hk] at hc
    exact h4 j k b hb hc
 ·by_cases hj : j = i
  ·simp only [if_pos hj] at hb
   refine ⟨?_, ((ZcG P w C N').there ok' b hb).2⟩
   rcases sub b hb with z | z
   ·exact (h5 i b z).1
   ·exact x.hh.free z
  ·simp only [if_neg hj] at hb
   exact ⟨(h5 j b hb).1, by rw [hH j hj b hb]; exact (h5 j b hb).2⟩
theorem Zdh {R : NetS -> List OT -> (NetS -> Prop) -> Prop} {t : TA} {E' : XK} {v : V} {ΦA : List OT -> Prop} (hm : NoF m) (e : ρ[i]? = some (some (.own v (ZcG P w C N)))) (hA : Zrr K t ρ ΦA)
 (hR : ∀ ts, ΦA ts -> ∃ Ψ, R N ts Ψ /\ ∀ N', Ψ N' -> D.nx (ρ.set i (some (.own v (ZcG P w C N'))))) : EvS K (ZiO (Zki C m (spN K P w C R) [] E' (ZcP i) t)) ρ D := fun F0 H0 F σ H E x S C' => by
 obtain ⟨a, dx, el, r, l, d, xs, ys, as, rfl, e1, ok, _⟩ := S.net e
 refine ⟨_, e1, a, dx, _, rfl, ok.ins.2, hm _ _ _ _, hA H0 F σ H _ S fun F1 H1 vs ts ht x1 r1 => ?_⟩
 obtain ⟨Ψ, hR', hn⟩ := hR ts ht
 obtain ⟨a', p, ea, okp, fin⟩ := Zjx (S.ext x1) (x.trans x1) e hn C'
 cases ea
 exact ⟨F1, a, vs ++ [], p, ts, N, Ψ, rfl, (S.ext x1).kt, x1.fh, by rw [List.append_nil]; exact r1, okp, hR', fin⟩
theorem Zjg {R : NetS -> List OT -> (NetS -> Prop) -> Prop} {t : TA} {E' : XK} {v : V} {ΦA : List OT -> Prop} (e : ρ[i]? = some (some (.own v (ZcG P w C N)))) (hA : Zrr K t ρ ΦA)
 (hR : ∀ ts, ΦA ts -> ∃ Ψ, R N ts Ψ /\ ∀ N', Ψ N' -> D.nx (ρ.set i (some (.own v (ZcG P w C N'))))) : EvS K (ZiO (ZhP (spN K P w C R) [] E' (Zbd (ZcP i) t))) ρ D := fun F0 H0 F σ H E x S C' => by
 obtain ⟨a, dx, el, r, l, d, xs, ys, as, rfl, e1, ok, _⟩ := S.net e
 refine ⟨_, e1, hA H0 F σ H _ S fun F1 H1 vs ts ht x1 r1 => ?_⟩
 obtain ⟨Ψ, hR', hn⟩ := hR ts ht
 obtain ⟨a', p, ea, okp, fin⟩ := Zjx (S.ext x1) (x.trans x1) e hn C'
 cases ea
 exact ⟨F1, a, vs ++ [], p, ts, N, Ψ, rfl, (S.ext x1).kt, x1.fh, by rw [List.append_nil]; exact r1, okp, hR', fin⟩
def spI (P : Program) (w : World) (C : Addr) : Sp := fun vs H Q _ => ∃ x dx, vs = [.ref x] /\ H x = some (.ins C dx []) /\ ∀ e r l d H', H e = none -> H r = none -> H l = none -> H d = none -> [x, e, r, l, d].Nodup ->
 H' x = some (.ins C dx [("ends", .ref e), ("rooms", .ref r), ("leaving", .ref l), ("laid", .ref d)]) -> H' e = some (.lst []) -> H' r = some (.lst []) -> H' l = some (.dT []) -> H' d = some (pdO P w d []) -> (∀ b, b ∉ [x, e, r, l, d] -> H' b = H b) -> Q .non H'
theorem Zpl {E : XK} : EvX K (ZoP C (spI P w C) [] E ZdF) ρ (ZcG P w C ⟨[], [], [], []⟩) := fun H0 F σ H Q S q => fun x dx hx hdx ne => by
 refine ⟨x, dx, rfl, Zak, fun e r l d H' he hr hl hd nd h1 h2 h3 h4 h5 ho => ⟨rfl, ?_⟩⟩
 have un : ∀ {b : Addr}, upd (upd H dx (.own x)) x (.ins C dx []) b = none -> H b = none /\ b ≠ x /\ b ≠ dx := fun {b} hb => by
  have n1 : b ≠ x := fun z => by rw [z, Zak] at hb; cases hb
  rw [Zag n1] at hb
  have n2 : b ≠ dx := fun z => by rw [z, Zak] at hb; cases hb
  rw [Zag n2] at hb
  exact ⟨hb, n1, n2⟩
 obtain ⟨e1, e2, e3⟩ := un he
 obtain ⟨r1, r2, r3⟩ := un hr
 obtain ⟨l1, l2, l3⟩ := un hl
 obtain ⟨d1, d2, d3⟩ := un hd
 have hdx' : H' dx = some (.own x) := by
  rw [ho dx (by simp only [List.mem_cons, List.not_mem_nil, or_false, not_or]; exact ⟨ne, Ne.symm e3, Ne.symm r3, Ne.symm l3, Ne.symm d3⟩), Zag ne, Zak]
 have kp : ∀ b o, H b = some o -> H' b = some o := fun b o hb => by
  have nb : ∀ {c : Addr}, H c = none -> b ≠ c := fun hc z => by rw [z, hc] at hb; cases hb
  rw [ho b (by simp only [List.mem_cons, List.not_mem_nil, or_false, not_or]; exact ⟨nb hx, nb e1, nb r1, nb l1, nb d1⟩), Zag (nb hx), Zag (nb hdx)]
  exact hb
 have fr : ∀ {b : Addr}, H b = none -> F b = none := fun hb => S.sub.free hb
 refine q F H' (.ref x) [x, dx, e, r, l, d] ⟨kp, ZaF.refl _, fun b o hb => kp b o (S.sub b o hb), fun _ h => .inl h⟩ (fun b hb => ?_) ⟨x, dx, e, r, l, d, [], [], [], rfl, rfl, ?_, ⟨fr hx, h1⟩, ⟨fr hdx, hdx'⟩, ⟨fr e1, [], h2, .nil⟩, ⟨fr r1, [], h3, .nil⟩, ⟨fr l1, h4, .nil⟩, ⟨fr d1, h5, .nil⟩⟩
 ·simp only [List.mem_cons, List.not_mem_nil, or_false] at hb
  rcases hb with rfl | rfl | rfl | rfl | rfl | rfl
  ·exact hx
  ·exact hdx
  ·exact e1
  ·exact r1
  ·exact l1
  ·exact d1
 ·simp only [List.nodup_cons, List.mem_cons, List.not_mem_nil, or_false, not_or, not_false_eq_true, List.nodup_nil, and_true] at nd ⊢
  obtain ⟨⟨a1, a2, a3, a4⟩, b1, c1, f1⟩ := nd
  exact ⟨⟨Ne.symm ne, a1, a2, a3, a4⟩, ⟨Ne.symm e3, Ne.symm r3, Ne.symm l3, Ne.symm d3⟩, b1, c1, f1⟩
end
end
section
variable {P : Program} {w : World} {K : W.Frag} {mg : Str -> Option Value} {base : Heap}
theorem Fun.evD {x qual : Str} {st : Stmt} {f : Addr} {fd : FuncData} {N ps : List Str} {k : Nat} {R : List OT -> (OT -> Prop) -> Prop} (F : Fun K x qual st f fd) (S : FnScope N ps (Zab st)) (len : ∀ ts Φ, R ts Φ -> ts.length = ps.length)
 (hbody : ∀ (cdv : Value) (A : Around) (outer : List Env) (s : Shared) (H : Hp) (E : XK) (ts : List OT) (Φ : OT -> Prop), Room k (A.deeper (envOfC qual (Zab st) s.heap.objs.size f cdv)) -> R ts Φ ->
  ∃ t, PSs (Zin CX0 P w K mg base N qual (Zab st) f cdv A outer s H E).nox (Zal st) t /\ EvS K t (ts.map some ++ List.replicate (N.length - ts.length) none) { nx := fun _ => Φ (.fz .none), rt := Φ }) : FnOk P w K mg base CX0 (k + 1) f fd ps (spD K R) := by
 refine F.ok S (fun vs H Q E ⟨F, ts, Φ, _, _, ha, hR, _⟩ => ha.length.trans (len ts Φ hR)) fun cdv A outer s H vs Q E hr ⟨F, ts, Φ, kt, sm, ha, hR, q⟩ => ?_
 obtain ⟨t, h1, h2⟩ := hbody cdv A outer s H E ts Φ hr hR
 refine ⟨t, h1, h2 F H F (start N vs) H _ (Ext.refl sm) ⟨kt, sm, ?_, fun _ => [], fun i t' e => ?_, fun i j a h => (nomatch h), fun i a h => (nomatch h)⟩ ⟨fun F' σ' H' ρ' x' _ e => ?_, fun F' H' v r' p x' hp ok e => q F' H' v p r' e x' hp ok, fun _ _ _ _ _ _ z => False.elim z, fun _ _ _ _ _ _ z => False.elim z⟩⟩
 ·unfold start
  simp [ha.length]
 ·have hlt : i < ts.length := by
   by_cases z : i < ts.length
   ·exact z
   ·rw [List.getElem?_append_right (by simpa using z)] at e
    have := List.mem_of_getElem? e
    simp at this
  rw [List.getElem?_append_left (by simpa using hlt), List.getElem?_map] at e
  have e' : ts[i]? = some t' := by
   cases z : ts[i]? with
   | none => rw [z] at e; simp at e
   | some w => rw [z] at e; simp at e; rw [e]
  obtain ⟨v, e1, e2⟩ := ha.get (H := H) i t' e'
  refine ⟨v, ?_, e2⟩
  unfold start
  have hl2 : i < vs.length := by rw [ha.length]; exact hlt
  rw [List.getElem?_append_left (by simpa using hl2), List.getElem?_map, e1]
  rfl
 ·exact q F' H' _ [] _ e x' (fun _ z => nomatch z) ⟨rfl, .non⟩
theorem Fun.evN {C : Addr} {x qual : Str} {st : Stmt} {f : Addr} {fd : FuncData} {N ps : List Str} {k : Nat} {R : NetS -> List OT -> (NetS -> Prop) -> Prop} (F : Fun K x qual st f fd) (S : FnScope N ps (Zab st)) (len : ∀ M ts Ψ, R M ts Ψ -> ts.length + 1 = ps.length)
 (hbody : ∀ (cdv : Value) (A : Around) (outer : List Env) (s : Shared) (H : Hp) (E : XK) (v : V) (M : NetS) (ts : List OT) (Ψ : NetS -> Prop), Room k (A.deeper (envOfC qual (Zab st) s.heap.objs.size f cdv)) -> R M ts Ψ ->
  ∃ t, PSs (Zin CX0 P w K mg base N qual (Zab st) f cdv A outer s H E).nox (Zal st) t /\ EvS K t (some (.own v (ZcG P w C M)) :: (ts.map some ++ List.replicate (N.length - (ts.length + 1)) none)) { nx := fun ρ' => ∃ M', Ψ M' /\ ρ'[0]? = some (some (.own v (ZcG P w C M'))), rt := fun _ => False }) :
 FnOk P w K mg base CX0 (k + 1) f fd ps (spN K P w C R) := by
 refine F.ok S (fun vs H Q E ⟨F, a, vs', p, ts, M, Ψ, e, _, _, ha, _, hR, _⟩ => by rw [e, List.length_cons, ha.length]; exact len _ _ _ hR) fun cdv A outer s H vs Q E hr ⟨F, a, vs', p, ts, M, Ψ, e, kt, sm, ha, ok, hR, q⟩ => ?_
 subst e
 obtain ⟨t, h1, h2⟩ := hbody cdv A outer s H E (.ref a) M ts Ψ hr hR
 have h0 : ∀ b, (fun b => if b ∈ p then none else H b : Hp) b = none -> b ∈ p \/ H b = none := fun b hb => by
  by_cases z : b ∈ p
  ·exact .inl z
  ·simp only [if_neg z] at hb; exact .inr hb
 have th := fun b hb => (ZcG P w C M).there ok b hb
 refine ⟨t, h1, h2 F (fun b => if b ∈ p then none else H b) F (start N (.ref a :: vs')) H _ ⟨fun b o hb => ?_, ZaF.refl _, sm, fun _ h => .inl h⟩ ⟨kt, sm, ?_, fun j => if j = 0 then p else [], fun j t' e => ?_, fun j k' b hb hc => ?_, fun j b hb => ?_⟩
  ⟨fun F' σ' H' ρ' x' S' ⟨M', hM, e0⟩ => ?_, fun F' H' v r' p x' hp ok e => False.elim e, fun _ _ _ _ _ _ z => False.elim z, fun _ _ _ _ _ _ z => False.elim z⟩⟩
 ·by_cases z : b ∈ p
  ·simp [z] at hb
  ·simp only [if_neg z] at hb; exact hb
 ·unfold start
  simp [ha.length]
 ·cases j with
  | zero =>
    simp at e
    subst e
    refine ⟨.ref a, ?_, rfl, ?_⟩
    ·unfold start
     simp
    ·simp only [if_true]
     exact ok
  | succ i =>
    rw [List.getElem?_cons_succ] at e
    have hlt : i < ts.length := by
     by_cases z : i < ts.length
     ·exact z
     ·rw [List.getElem?_append_right (by simpa using z)] at e
      have := List.mem_of_getElem? e
      simp at this
    rw [List.getElem?_append_left (by simpa using hlt), List.getElem?_map] at e
    have e' : ts[i]? = some t' := by
     cases z : ts[i]? with
     | none => rw [z] at e; simp at e
     | some w => rw [z] at e; simp at e; rw [e]
    obtain ⟨v, e1, e2⟩ := ha.get (H := H) i t' e'
    refine ⟨v, ?_, ?_⟩
    ·unfold start
     have hl2 : i < vs'.length := by rw [ha.length]; exact hlt
     rw [List.map_cons, List.cons_append, List.getElem?_cons_succ, List.getElem?_append_left (by simpa using hl2), List.getElem?_map, e1]
     rfl
    ·simp only [Nat.add_one_ne_zero, if_false]
     exact e2
 ·by_cases hj : j = 0
  ·by_cases hk : k' = 0
   ·rw [hj, hk]
   ·simp [hk] at hc
  ·simp [hj] at hb
 ·by_cases hj : j = 0
  ·simp only [if_pos hj] at hb
   exact ⟨by simp [hb], (th b hb).2⟩
  ·simp [hj] at hb
 ·obtain ⟨fp, g1, g2, g3⟩ := S'.fp
  obtain ⟨u, u1, rfl, ok'⟩ := g1 0 _ e0
  refine q F' H' (fp 0) M' hM ⟨fun b o nb hb => x'.hh b o (by simp only [if_neg nb]; exact hb), x'.ff, x'.fh, fun b hb => ?_⟩ ok' (fun b hb => h0 b (g3 0 b hb).1)
  rcases x'.fr b hb with z | z
  ·exact .inl z
  ·exact .inr ((h0 b z).symm)
structure Mf (K : W.Frag) (C : Addr) (m qual : Str) (st : Stmt) (ps : List Str) : Prop where
 ex : ∃ f fd, Fun K m qual st f fd /\ Meth K C m f /\ ZeK K fd ps []
def ZhG (P : Program) (w : World) (K : W.Frag) (mg : Str -> Option Value) (base : Heap) (C : Addr) (m : Str) (ps : List Str) (k : Nat) (sp : Sp) : Prop :=
 ∃ f fd, Meth K C m f /\ ZeK K fd ps [] /\ FnOk P w K mg base CX0 k f fd ps sp
theorem Mf.evD {C : Addr} {m qual : Str} {st : Stmt} {N ps : List Str} {k : Nat} {R : List OT -> (OT -> Prop) -> Prop} (D : Mf K C m qual st ps) (S : FnScope N ps (Zab st)) (len : ∀ ts Φ, R ts Φ -> ts.length = ps.length)
 (hbody : ∀ (f : Addr) (cdv : Value) (A : Around) (outer : List Env) (s : Shared) (H : Hp) (E : XK) (ts : List OT) (Φ : OT -> Prop), Room k (A.deeper (envOfC qual (Zab st) s.heap.objs.size f cdv)) -> R ts Φ ->
  ∃ t, PSs (Zin CX0 P w K mg base N qual (Zab st) f cdv A outer s H E).nox (Zal st) t /\ EvS K t (ts.map some ++ List.replicate (N.length - ts.length) none) { nx := fun _ => Φ (.fz .none), rt := Φ }) : ZhG P w K mg base C m ps (k + 1) (spD K R) := by
 obtain ⟨f, fd, F, hm, hb⟩ := D.ex
 exact ⟨f, fd, hm, hb, F.evD S len fun cdv A outer s H E ts Φ => hbody f cdv A outer s H E ts Φ⟩
theorem Mf.evN {C : Addr} {m qual : Str} {st : Stmt} {N ps : List Str} {k : Nat} {R : NetS -> List OT -> (NetS -> Prop) -> Prop} (D : Mf K C m qual st ps) (S : FnScope N ps (Zab st)) (len : ∀ M ts Ψ, R M ts Ψ -> ts.length + 1 = ps.length)
 (hbody : ∀ (f : Addr) (cdv : Value) (A : Around) (outer : List Env) (s : Shared) (H : Hp) (E : XK) (v : V) (M : NetS) (ts : List OT) (Ψ : NetS -> Prop), Room k (A.deeper (envOfC qual (Zab st) s.heap.objs.size f cdv)) -> R M ts Ψ ->
  ∃ t, PSs (Zin CX0 P w K mg base N qual (Zab st) f cdv A outer s H E).nox (Zal st) t /\ EvS K t (some (.own v (ZcG P w C M)) :: (ts.map some ++ List.replicate (N.length - (ts.length + 1)) none)) { nx := fun ρ' => ∃ M', Ψ M' /\ ρ'[0]? = some (some (.own v (ZcG P w C M'))), rt := fun _ => False }) :
 ZhG P w K mg base C m ps (k + 1) (spN K P w C R) := by
 obtain ⟨f, fd, F, hm, hb⟩ := D.ex
 exact ⟨f, fd, hm, hb, F.evN S len fun cdv A outer s H E v M ts Ψ => hbody f cdv A outer s H E v M ts Ψ⟩
theorem Df.evD {x : Str} {st : Stmt} {N ps : List Str} {k : Nat} {R : List OT -> (OT -> Prop) -> Prop} (D : Df K mg x st ps) (S : FnScope N ps (Zab st)) (len : ∀ ts Φ, R ts Φ -> ts.length = ps.length)
 (hbody : ∀ (f : Addr) (cdv : Value) (A : Around) (outer : List Env) (s : Shared) (H : Hp) (E : XK) (ts : List OT) (Φ : OT -> Prop), Room k (A.deeper (envOfC x (Zab st) s.heap.objs.size f cdv)) -> R ts Φ ->
  ∃ t, PSs (Zin CX0 P w K mg base N x (Zab st) f cdv A outer s H E).nox (Zal st) t /\ EvS K t (ts.map some ++ List.replicate (N.length - ts.length) none) { nx := fun _ => Φ (.fz .none), rt := Φ }) : Cal P w K mg base x ps (k + 1) (spD K R) := by
 obtain ⟨f, fd, F, hm, hb⟩ := D.ex
 exact ⟨f, fd, hm, F.kp, hb, F.evD S len fun cdv A outer s H E ts Φ => hbody f cdv A outer s H E ts Φ⟩
theorem Df.evN {C : Addr} {x : Str} {st : Stmt} {N ps : List Str} {k : Nat} {R : NetS -> List OT -> (NetS -> Prop) -> Prop} (D : Df K mg x st ps) (S : FnScope N ps (Zab st)) (len : ∀ M ts Ψ, R M ts Ψ -> ts.length + 1 = ps.length)
 (hbody : ∀ (f : Addr) (cdv : Value) (A : Around) (outer : List Env) (s : Shared) (H : Hp) (E : XK) (v : V) (M : NetS) (ts : List OT) (Ψ : NetS -> Prop), Room k (A.deeper (envOfC x (Zab st) s.heap.objs.size f cdv)) -> R M ts Ψ ->
  ∃ t, PSs (Zin CX0 P w K mg base N x (Zab st) f cdv A outer s H E).nox (Zal st) t /\ EvS K t (some (.own v (ZcG P w C M)) :: (ts.map some ++ List.replicate (N.length - (ts.length + 1)) none)) { nx := fun ρ' => ∃ M', Ψ M' /\ ρ'[0]? = some (some (.own v (ZcG P w C M'))), rt := fun _ => False }) :
 Cal P w K mg base x ps (k + 1) (spN K P w C R) := by
 obtain ⟨f, fd, F, hm, hb⟩ := D.ex
 exact ⟨f, fd, hm, F.kp, hb, F.evN S len fun cdv A outer s H E v M ts Ψ => hbody f cdv A outer s H E v M ts Ψ⟩
def ZrL (P : Program) (w : World) (K : W.Frag) (mg : Str -> Option Value) (base : Heap) (x : Str) (C : Addr) (k : Nat) : Prop :=
 ∃ f fd, Mk K C f /\ mg x = some (.ref C) /\ ZeK K fd ["self"] [] /\ FnOk P w K mg base CX0 k f fd ["self"] (spI P w C)
end
section
variable {X : Cx}
theorem ZcI {C : Addr} {m : Str} {pos apos : Pos} {o e : Expr} {es : List Expr} {ta : TE} {t : TA} {ps : List Str} {j k : Nat} {sp : Sp} {pl : Sem Bool} (M : ZhG X.prog X.w X.K X.mg X.base C m ps j sp) (c : NetC X.K C) (hr : Room k X.A) (he : PE X o ta) (ha : PA X (e :: es) t) (hj : j <= k := by decide)
 (hst : starEach (e :: es) X.env = (false, eval e X.env) :: starEach es X.env := by rfl) (hpl : (backTo pos (starEach es X.env)).any (·.1) = false := by rfl)
 (ht : eval (.Call (.Attribute o m apos) (e :: es) [] pos) X.env = (do
  let ov <- eval o X.env
  standAt apos.atName
  let (f, first) <- holding [ov] (getMethod ov m pl)
  callWith pos f first (backTo pos (starEach (e :: es) X.env)) (backToKw pos (keywordEach [] X.env))) := by rfl) :
 PE X (.Call (.Attribute o m apos) (e :: es) [] pos) (Zki C m sp [] E0 ta t) := by
 obtain ⟨f, fd, hm, hb, F⟩ := M
 exact Zo1 (pl := pl) he c.cl hm F (hr.mono hj) hb .nil ZpB ha hst hpl ht
theorem Zov {C : Addr} {x : Str} {p pos : Pos} {j k : Nat} (M : ZrL X.prog X.w X.K X.mg X.base x C j) (hr : Room k X.A) (hj : j + 1 <= k := by decide) (hg : Gl X x := by rfl) (hdb : (x == ("__debug__" : Str)) = false := by decide +kernel) :
 PE X (.Call (.Name x p) [] [] pos) (ZoP C (spI X.prog X.w C) [] E0 ZdF) := by
 obtain ⟨f, fd, M, hm, hb, F⟩ := M
 exact Znf M F (hr.mono hj) hg hm hb .nil ZpB hdb
end
end L2
end
section
namespace Mir
open PySem L2
def nk : Nd -> List Key
 | .start => [.inr "start"]
 | .fin => [.inr "end"]
 | .guest k => [.inr "guest", .inl (k : Int)]
 | .line l t => [.inr "line", .inl (l : Int), .inl (t : Int)]
theorem ZfE : ∀ {a b : Nd}, nk a = nk b -> a = b
 | .start, .start, _ => rfl
 | .fin, .fin, _ => rfl
 | .start, .fin, h => absurd h (by decide)
 | .fin, .start, h => absurd h (by decide)
 | .guest a, .guest b, h => by
   injection h with _ h
   injection h with h _
   injection h with h
   have : a = b := by omega
   rw [this]
 | .line a b, .line c d, h => by
   injection h with _ h
   injection h with h1 h
   injection h with h2 _
   injection h1 with h1
   injection h2 with h2
   have e1 : a = c := by omega
   have e2 : b = d := by omega
   rw [e1, e2]
 | .start, .guest _, h => by have q := congrArg List.length h; simp [nk] at q
 | .start, .line _ _, h => by have q := congrArg List.length h; simp [nk] at q
 | .fin, .guest _, h => by have q := congrArg List.length h; simp [nk] at q
 | .fin, .line _ _, h => by have q := congrArg List.length h; simp [nk] at q
 | .guest _, .start, h => by have q := congrArg List.length h; simp [nk] at q
 | .guest _, .fin, h => by have q := congrArg List.length h; simp [nk] at q
 | .guest _, .line _ _, h => by have q := congrArg List.length h; simp [nk] at q
 | .line _ _, .start, h => by have q := congrArg List.length h; simp [nk] at q
 | .line _ _, .fin, h => by have q := congrArg List.length h; simp [nk] at q
 | .line _ _, .guest _, h => by have q := congrArg List.length h; simp [nk] at q
theorem Zq8 {a b : Nd} : nk a = nk b ↔ a = b := ⟨ZfE, fun h => by rw [h]⟩
def ZpO : Option Nat -> PyData
 | none => .none
 | some e => .int (e : Int)
def kvG (es : Got Nd) : Zfe := es.map fun x => (nk x.1, ZpO x.2)
theorem Zg3 (n : Nd) : ∀ es : Got Nd, Zim (kvG es) (nk n) = (ZhZ es n).map ZpO
 | [] => rfl
 | (k, v) :: es => by
   have ih := Zg3 n es
   unfold ZhZ at ih ⊢
   rw [List.lookup_cons]
   unfold kvG Zim at ih ⊢
   rw [List.map_cons, List.find?_cons]
   by_cases e : k = n
   ·subst e
    simp
   ·have e1 : ¬ nk k = nk n := fun z => e (ZfE z)
    have e2 : (n == k) = false := by rw [beq_eq_false_iff_ne]; exact fun z => e z.symm
    rw [e2]
    simp only [e1, decide_false]
    exact ih
theorem Zix {es : Got Nd} {n : Nd} : (es.lookup n).isSome = decide (n ∈ Za4 es) := by
 induction es with
 | nil => rfl
 | cons p es ih =>
   obtain ⟨k, v⟩ := p
   rw [List.lookup_cons]
   by_cases e : n = k
   ·subst e
    simp [Za4]
   ·have e2 : (n == k) = false := by rw [beq_eq_false_iff_ne]; exact e
    rw [e2]
    have : decide (n ∈ Za4 ((k, v) :: es)) = decide (n ∈ Za4 es) := by
     apply decide_eq_decide.mpr
     unfold Za4
     rw [List.map_cons, List.mem_cons]
     exact ⟨fun z => z.resolve_left e, .inr⟩
    rw [this]
    exact ih
theorem Zhy (n : Nd) (es : Got Nd) : (Zim (kvG es) (nk n)).isSome = decide (n ∈ Za4 es) := by
 rw [Zg3, Option.isSome_map]
 exact Zix
theorem Znz (es : Got Nd) : ZkS (kvG es) := fun x hx => by
 obtain ⟨y, _, rfl⟩ := List.mem_map.mp hx
 cases h : y.2 with
 | none => exact ⟨.non, by simp [h, ZpO, Zen]⟩
 | some e => exact ⟨.int (e : Int), by simp [h, ZpO, Zen]⟩
theorem Znu {es : Got Nd} {n : Nd} {e : Nat} (h : n ∉ Za4 es) : ZpS (kvG es) (nk n) (.int (e : Int)) = kvG (es ++ [(n, some e)]) := by
 unfold ZpS
 have : ¬ ((kvG es).any fun kv => decide (kv.1 = nk n)) = true := fun z => by
  obtain ⟨x, hx, hz⟩ := List.any_eq_true.mp z
  obtain ⟨y, hy, rfl⟩ := List.mem_map.mp hx
  have q : y.1 = n := ZfE (of_decide_eq_true hz)
  exact h (by rw [<- q]; exact List.mem_map.mpr ⟨y, hy, rfl⟩)
 rw [if_neg this]
 unfold kvG
 rw [List.map_append]
 rfl
structure NetR (N : NetS) (L : Lay Nd) (φ : Phi Nd) : Prop where
 ends : N.ends = (ZfS L).map nk
 rooms : N.rooms = Zcq L φ
 leav : ∀ (n : Nd) (e : Int), e ∈ (Zb6 N.leav (nk n)).getD [] ↔ ∃ j : Nat, e = (j : Int) /\ tlE L j = some n
 laid : ∀ (i : Nat) (x : Nd × Nd × Int), L[i]? = some x -> ZfT N.laid (nk x.1, nk x.2.1) = some ((2 * i : Nat) : Int)
 laid0 : ∀ p q : Nd, (p, q) ∉ L.map (fun x => (x.1, x.2.1)) -> ZfT N.laid (nk p, nk q) = none
 l1 : N.leav.length <= 2 * L.length
 l2 : N.laid.length <= L.length
 l3 : ∀ k ns, Zb6 N.leav k = some ns -> ns.length <= 2 * L.length
theorem ZrE (φ : Phi Nd) : NetR ⟨[], [], [], []⟩ [] φ where
 ends := rfl
 rooms := rfl
 leav n e := by
  constructor
  ·intro h; simp [Zb6] at h
  ·rintro ⟨j, _, h⟩; simp [tlE] at h
 laid i x h := by simp at h
 laid0 p q _ := rfl
 l1 := Nat.zero_le _
 l2 := Nat.zero_le _
 l3 k ns h := by simp [Zb6] at h
theorem ZbV {k k' : List Key} {ns : List Int} {ls : List (List Key × List Int)} : Zb6 ((k', ns) :: ls) k = if k' = k then some ns else Zb6 ls k := by
 by_cases e : k' = k
 ·simp [Zb6, List.find?_cons, e]
 ·simp [Zb6, List.find?_cons, e]
theorem Zje (k k' : List Key) (x : Int) : ∀ ls : List (List Key × List Int), Zb6 (ZhI ls k x) k' = if k' = k then (Zb6 ls k).map (· ++ [x]) else Zb6 ls k'
 | [] => by
   unfold ZhI
   by_cases e : k' = k
   ·rw [if_pos e]; simp [Zb6]
   ·rw [if_neg e]
 | (j, ns) :: ls => by
   unfold ZhI
   have ih := Zje k k' x ls
   by_cases e : j = k
   ·rw [if_pos e, ZbV, ZbV, ZbV, if_pos e]
    by_cases e2 : k' = k
    ·rw [if_pos e2, if_pos (e.trans e2.symm)]; rfl
    ·rw [if_neg e2, if_neg (fun z => e2 (z.symm.trans e)), if_neg (fun z => e2 (z.symm.trans e))]
   ·rw [if_neg e, ZbV, ZbV, ZbV, if_neg e, ih]
    by_cases e2 : k' = k
    ·rw [if_pos e2, if_neg (fun z => e (z.trans e2)), if_pos e2]
    ·rw [if_neg e2, if_neg e2]
theorem Zff (k : List Key) (x : Int) : ∀ ls : List (List Key × List Int), (ZhI ls k x).length = ls.length
 | [] => rfl
 | (j, ns) :: ls => by
   unfold ZhI
   split
   ·simp
   ·simp [Zff k x ls]
theorem Zge (k k' : List Key) : ∀ ls : List (List Key × List Int), Zb6 ls k = none -> Zb6 (ls ++ [(k, [])]) k' = if k' = k then some [] else Zb6 ls k'
 | [], _ => by
   rw [List.nil_append, ZbV]
   by_cases e : k' = k
   ·rw [if_pos e, if_pos e.symm]
   ·rw [if_neg e, if_neg (fun z => e z.symm)]
 | (j, ns) :: ls, h => by
   rw [ZbV] at h
   by_cases e : j = k
   ·rw [if_pos e] at h; cases h
   ·rw [if_neg e] at h
    rw [List.cons_append, ZbV, ZbV, Zge k k' ls h]
    by_cases e2 : k' = k
    ·rw [if_pos e2, if_neg (fun z => e (z.trans e2)), if_pos e2]
    ·rw [if_neg e2, if_neg e2]
theorem ZgR (ls : List (List Key × List Int)) (k k' : List Key) : Zb6 (ZhX ls k) k' = if k' = k then some ((Zb6 ls k).getD []) else Zb6 ls k' := by
 unfold ZhX
 cases h : Zb6 ls k with
 | some ns =>
   rw [if_pos (by rfl)]
   by_cases e : k' = k
   ·rw [if_pos e, e, h]; rfl
   ·rw [if_neg e]
 | none =>
   rw [if_neg (by simp), Zge k k' ls h]
   rfl
theorem ZiI (ls : List (List Key × List Int)) (k : List Key) : (ZhX ls k).length <= ls.length + 1 := by
 unfold ZhX
 split
 ·omega
 ·simp
def ZpP (N : NetS) (s e : List Key) (r : Int) : NetS := { N with ends := N.ends ++ [e], rooms := N.rooms ++ [r], leav := ZhI (ZhX N.leav s) s (N.ends.length : Int) }
def ZoW (N : NetS) (s e : List Key) (r : Int) : NetS := ZpP (ZpP { N with laid := ZjU N.laid (s, e) (N.ends.length : Int) } s e r) e s 0
theorem Zdw (N : NetS) (s e : List Key) (r : Int) (k : List Key) : Zb6 (ZpP N s e r).leav k = if k = s then some ((Zb6 N.leav s).getD [] ++ [(N.ends.length : Int)]) else Zb6 N.leav k := by
 show Zb6 (ZhI (ZhX N.leav s) s _) k = _
 rw [Zje, ZgR, if_pos rfl, ZgR]
 by_cases e : k = s
 ·rw [if_pos e, if_pos e]; rfl
 ·rw [if_neg e, if_neg e, if_neg e]
theorem ZbU {k k' : KK} {n : Int} {ls : List (KK × Int)} : ZfT ((k', n) :: ls) k = if k' = k then some n else ZfT ls k := by
 by_cases e : k' = k
 ·simp [ZfT, List.find?_cons, e]
 ·simp [ZfT, List.find?_cons, e]
theorem Zjr (k k' : KK) (n : Int) : ∀ ls : List (KK × Int), ZfT (ls.map fun x => if x.1 = k then (x.1, n) else x) k' = if k' = k then (ZfT ls k).map fun _ => n else ZfT ls k'
 | [] => by
   by_cases e : k' = k
   ·rw [if_pos e]; rfl
   ·rw [if_neg e]; rfl
 | (j, m) :: ls => by
   rw [List.map_cons]
   have ih := Zjr k k' n ls
   by_cases e : j = k
   ·simp only [e, if_true]
    rw [ZbU, ZbU, ZbU, ih]
    by_cases e2 : k' = k
    ·simp [e2]
    ·have : ¬ k = k' := fun z => e2 z.symm
     simp [e2, this]
   ·simp only [e, if_false]
    rw [ZbU, ZbU, ZbU, ih]
    by_cases e2 : k' = k
    ·simp [e2, e]
    ·simp [e2]
theorem Zhj (k k' : KK) (n : Int) : ∀ ls : List (KK × Int), ZfT ls k = none -> ZfT (ls ++ [(k, n)]) k' = if k' = k then some n else ZfT ls k'
 | [], _ => by
   rw [List.nil_append, ZbU]
   by_cases e : k' = k
   ·rw [if_pos e, if_pos e.symm]
   ·rw [if_neg e, if_neg (fun z => e z.symm)]
 | (j, m) :: ls, h => by
   rw [ZbU] at h
   by_cases e : j = k
   ·rw [if_pos e] at h; cases h
   ·rw [if_neg e] at h
    rw [List.cons_append, ZbU, ZbU, Zhj k k' n ls h]
    by_cases e2 : k' = k
    ·rw [if_pos e2, if_neg (fun z => e (z.trans e2)), if_pos e2]
    ·rw [if_neg e2, if_neg e2]
theorem Zjl (ls : List (KK × Int)) (k k' : KK) (n : Int) : ZfT (ZjU ls k n) k' = if k' = k then some n else ZfT ls k' := by
 unfold ZjU
 cases h : ZfT ls k with
 | some m => rw [if_pos (by rfl), Zjr, h]; rfl
 | none => rw [if_neg (by simp), Zhj k k' n ls h]
theorem Zng (ls : List (KK × Int)) (k : KK) (n : Int) : (ZjU ls k n).length <= ls.length + 1 := by
 unfold ZjU
 split
 ·simp
 ·simp
theorem Zh4 {ν : Type} [DecidableEq ν] (L : Lay ν) : (ZfS L).length = 2 * L.length := by
 unfold ZfS
 induction L with
 | nil => rfl
 | cons x L ih => rw [List.flatMap_cons, List.length_append, ih, List.length_cons]; simp; omega
theorem NetR.elen {N : NetS} {L : Lay Nd} {φ : Phi Nd} (h : NetR N L φ) : N.ends.length = 2 * L.length := by rw [h.ends, List.length_map, Zh4]
theorem ZeN {ν : Type} [DecidableEq ν] (L : Lay ν) (φ : Phi ν) : (Zcq L φ).length = 2 * L.length := by
 unfold Zcq
 induction L with
 | nil => rfl
 | cons x L ih => rw [List.flatMap_cons, List.length_append, ih, List.length_cons]; simp; omega
theorem Zfa {L : Lay Nd} {x : Nd × Nd × Int} {j : Nat} {n : Nd} : tlE (L ++ [x]) j = some n ↔ tlE L j = some n \/ (j = 2 * L.length /\ n = x.1) \/ (j = 2 * L.length + 1 /\ n = x.2.1) := by
 unfold tlE
 by_cases h : j / 2 < L.length
 ·rw [List.getElem?_append_left h]
  constructor
  ·exact .inl
  ·rintro (z | ⟨z, _⟩ | ⟨z, _⟩)
   ·exact z
   ·omega
   ·omega
 ·rw [List.getElem?_append_right (by omega), List.getElem?_eq_none_iff.mpr (show L.length <= j / 2 by omega)]
  by_cases h2 : j / 2 = L.length
  ·rw [h2, Nat.sub_self]
   simp only [List.getElem?_cons_zero, Option.map_some, Option.map_none, Option.some.injEq]
   by_cases p : j % 2 = 0
   ·rw [if_pos p]
    constructor
    ·intro z; exact .inr (.inl ⟨by omega, z.symm⟩)
    ·rintro (z | ⟨_, z⟩ | ⟨z, _⟩)
     ·cases z
     ·exact z.symm
     ·omega
   ·rw [if_neg p]
    constructor
    ·intro z; exact .inr (.inr ⟨by omega, z.symm⟩)
    ·rintro (z | ⟨z, _⟩ | ⟨_, z⟩)
     ·cases z
     ·omega
     ·exact z.symm
  ·have : ([x] : Lay Nd)[j / 2 - L.length]? = none := List.getElem?_eq_none_iff.mpr (by simp; omega)
   rw [this]
   constructor
   ·intro z; cases z
   ·rintro (z | ⟨z, _⟩ | ⟨z, _⟩)
    ·cases z
    ·omega
    ·omega
theorem ZmY {N : NetS} {L : Lay Nd} {φ : Phi Nd} (h : NetR N L φ) {s e : Nd} {r : Int} (h0 : φ s e = 0) (new : (s, e) ∉ L.map (fun x => (x.1, x.2.1))) : NetR (ZoW N (nk s) (nk e) r) (L ++ [(s, e, r)]) φ where
 ends := by
  show (N.ends ++ [nk e]) ++ [nk s] = _
  unfold ZfS
  rw [List.flatMap_append, List.map_append, h.ends]
  simp [ZfS]
 rooms := by
  show (N.rooms ++ [r]) ++ [0] = _
  unfold Zcq
  rw [List.flatMap_append, h.rooms]
  simp [Zcq, h0]
 leav n e' := by
  have le := h.elen
  have l1 : (ZpP { N with laid := ZjU N.laid (nk s, nk e) (N.ends.length : Int) } (nk s) (nk e) r).ends.length = 2 * L.length + 1 := by
   show (N.ends ++ [nk e]).length = _
   rw [List.length_append, le]
   rfl
  have q : (Zb6 (ZoW N (nk s) (nk e) r).leav (nk n)).getD [] = ((Zb6 N.leav (nk n)).getD [] ++ (if n = s then [((2 * L.length : Nat) : Int)] else [])) ++ (if n = e then [((2 * L.length + 1 : Nat) : Int)] else []) := by
   unfold ZoW
   rw [Zdw, l1, Zdw, Zdw]
   show Option.getD (if nk n = nk e then some ((if nk e = nk s then some ((Zb6 N.leav (nk s)).getD [] ++ [(N.ends.length : Int)]) else Zb6 N.leav (nk e)).getD [] ++ [((2 * L.length + 1 : Nat) : Int)]) else if nk n = nk s then some ((Zb6 N.leav (nk s)).getD [] ++ [(N.ends.length : Int)]) else Zb6 N.leav (nk n)) [] = _
   rw [le]
   simp only [Zq8]
   by_cases e1 : n = e
   ·subst e1
    by_cases e2 : n = s
    ·subst e2; simp
    ·simp [e2]
   ·by_cases e2 : n = s
    ·subst e2; simp [e1]
    ·simp [e1, e2]
  rw [q, List.mem_append, List.mem_append, h.leav n e']
  constructor
  ·rintro ((⟨j, rfl, hj⟩ | z) | z)
   ·exact ⟨j, rfl, Zfa.mpr (.inl hj)⟩
   ·by_cases e2 : n = s
    ·rw [if_pos e2] at z
     exact ⟨2 * L.length, List.mem_singleton.mp z, Zfa.mpr (.inr (.inl ⟨rfl, e2⟩))⟩
    ·rw [if_neg e2] at z; cases z
   ·by_cases e2 : n = e
    ·rw [if_pos e2] at z
     exact ⟨2 * L.length + 1, List.mem_singleton.mp z, Zfa.mpr (.inr (.inr ⟨rfl, e2⟩))⟩
    ·rw [if_neg e2] at z; cases z
  ·rintro ⟨j, rfl, hj⟩
   rcases Zfa.mp hj with z | ⟨rfl, z⟩ | ⟨rfl, z⟩
   ·exact .inl (.inl ⟨j, rfl, z⟩)
   ·exact .inl (.inr (by rw [if_pos z]; exact List.mem_singleton.mpr rfl))
   ·exact .inr (by rw [if_pos z]; exact List.mem_singleton.mpr rfl)
 laid i x hx := by
  show ZfT (ZjU N.laid (nk s, nk e) (N.ends.length : Int)) (nk x.1, nk x.2.1) = _
  rw [Zjl, h.elen]
  by_cases hi : i < L.length
  ·rw [List.getElem?_append_left hi] at hx
   have ne : ¬ (nk x.1, nk x.2.1) = (nk s, nk e) := fun z => new (by
    injection z with z1 z2
    exact List.mem_map.mpr ⟨x, List.mem_of_getElem? hx, by rw [ZfE z1, ZfE z2]⟩)
   rw [if_neg ne]
   exact h.laid i x hx
  ·rw [List.getElem?_append_right (by omega)] at hx
   have hi2 : i = L.length := by
    have := (List.getElem?_eq_some_iff.mp hx).1
    simp at this
    omega
   subst hi2
   rw [Nat.sub_self] at hx
   cases hx
   rw [if_pos rfl]
 laid0 p q hn := by
  show ZfT (ZjU N.laid (nk s, nk e) (N.ends.length : Int)) (nk p, nk q) = _
  rw [List.map_append, List.mem_append, not_or] at hn
  rw [Zjl, if_neg (fun z => ?_)]
  ·exact h.laid0 p q hn.1
  ·injection z with z1 z2
   exact hn.2 (by rw [ZfE z1, ZfE z2]; simp)
 l1 := by
  have a := h.l1
  have b : (ZoW N (nk s) (nk e) r).leav.length <= N.leav.length + 2 := by
   unfold ZoW
   show (ZhI (ZhX (ZhI (ZhX N.leav (nk s)) (nk s) _) (nk e)) (nk e) _).length <= _
   rw [Zff]
   refine Nat.le_trans (ZiI _ _) ?_
   rw [Zff]
   have := ZiI N.leav (nk s)
   omega
  rw [List.length_append]
  simp
  omega
 l2 := by
  have a := h.l2
  have b : (ZoW N (nk s) (nk e) r).laid.length <= N.laid.length + 1 := Zng _ _ _
  rw [List.length_append]
  simp
  omega
 l3 k ns hk := by
  have g : ∀ k', ((Zb6 N.leav k').getD []).length <= 2 * L.length := fun k' => by
   cases z : Zb6 N.leav k' with
   | none => exact Nat.zero_le _
   | some m => exact h.l3 k' m z
  have g1 : ∀ k', ((Zb6 (ZpP { N with laid := ZjU N.laid (nk s, nk e) (N.ends.length : Int) } (nk s) (nk e) r).leav k').getD []).length <= 2 * L.length + 1 := fun k' => by
   rw [Zdw]
   by_cases z : k' = nk s
   ·rw [if_pos z]
    have := g (nk s)
    simpa using this
   ·rw [if_neg z]
    have := g k'
    show ((Zb6 N.leav k').getD []).length <= _
    omega
  unfold ZoW at hk
  rw [Zdw] at hk
  rw [List.length_append]
  by_cases z : k = nk e
  ·rw [if_pos z] at hk
   cases hk
   have := g1 (nk e)
   simp at this ⊢
   omega
  ·rw [if_neg z] at hk
   have := g1 k
   rw [hk] at this
   simp at this ⊢
   omega
theorem Zkd {L : Lay Nd} (hd : Dis L) {φ : Phi Nd} {a r r' : Int} {e : Nat} (h1 : (Zcq L φ)[e]? = some r) (h2 : (Zcq L φ)[ZeD e]? = some r') : Zcq L (Zeb L a φ e) = ((Zcq L φ).set e (r - a)).set (ZeD e) (r' + a) := by
 have me : ZeD e ≠ e := by unfold ZeD; split <;> omega
 have mh : ZeD e / 2 = e / 2 := by unfold ZeD; split <;> omega
 rw [Ze4] at h1 h2
 have h1' := h1
 unfold rmE at h1 h2
 rw [mh] at h2
 cases ex : L[e / 2]? with
 | none => rw [ex] at h1; cases h1
 | some x =>
   rw [ex] at h1 h2
   simp only [Option.map_some, Option.some.injEq] at h1 h2
   have hp : Zeb L a φ e = Zhl φ x.1 x.2.1 (if e % 2 = 0 then a else -a) := by unfold Zeb; rw [ex]
   have bx : Zhl φ x.1 x.2.1 (if e % 2 = 0 then a else -a) x.1 x.2.1 = φ x.1 x.2.1 + (if e % 2 = 0 then a else -a) := by unfold Zhl; rw [if_pos ⟨rfl, rfl⟩]
   have le : e / 2 < L.length := (List.getElem?_eq_some_iff.mp ex).1
   have lr := ZeN L φ
   have le2 : e < (Zcq L φ).length := by omega
   have lm : ZeD e < (Zcq L φ).length := by omega
   refine List.ext_getElem? fun i => ?_
   rw [Ze4, List.getElem?_set, List.getElem?_set, Ze4, hp]
   by_cases im : ZeD e = i
   ·subst im
    rw [if_pos rfl, if_pos (show ZeD e < ((Zcq L φ).set e (r - a)).length by simpa using lm)]
    unfold rmE
    rw [mh, ex]
    simp only [Option.map_some, Option.some.injEq]
    rw [bx]
    have pm : (ZeD e % 2 = 0) = ¬ (e % 2 = 0) := by
     apply propext
     unfold ZeD
     split <;> omega
    by_cases p : e % 2 = 0
    ·have p2 : ¬ ZeD e % 2 = 0 := by rw [pm]; exact fun z => z p
     rw [if_neg p2] at h2 ⊢
     rw [if_pos p]
     omega
    ·have p2 : ZeD e % 2 = 0 := by rw [pm]; exact p
     rw [if_pos p2] at h2 ⊢
     rw [if_neg p]
     omega
   ·rw [if_neg im]
    by_cases ie : e = i
    ·subst ie
     rw [if_pos rfl, if_pos le2]
     unfold rmE
     rw [ex]
     simp only [Option.map_some, Option.some.injEq]
     rw [bx]
     by_cases p : e % 2 = 0
     ·rw [if_pos p] at h1 ⊢
      rw [if_pos p]
      omega
     ·rw [if_neg p] at h1 ⊢
      rw [if_neg p]
      omega
    ·rw [if_neg ie]
     unfold rmE
     cases ey : L[i / 2]? with
     | none => rfl
     | some y =>
       have ne : ¬ (y.1 = x.1 /\ y.2.1 = x.2.1) := fun ⟨z1, z2⟩ => by
        have q := ZiX hd ey ex z1 z2
        unfold ZeD at im
        split at im <;> omega
       have by' : Zhl φ x.1 x.2.1 (if e % 2 = 0 then a else -a) y.1 y.2.1 = φ y.1 y.2.1 := by unfold Zhl; rw [if_neg ne]
       simp only [Option.map_some, by']
def ZpD (L : Lay Nd) (φ : Phi Nd) (es : Got Nd) (U : List Nd) : Prop := ∀ e m n r, tlE L e = some m -> hdE L e = some n -> rmE L φ e = some r -> 0 < r -> m ∈ Za4 es -> m ∉ U -> n ∈ Za4 es
theorem ZpD.closed {L : Lay Nd} {φ : Phi Nd} {es : Got Nd} (h : ZpD L φ es []) : ZcM L φ es := fun e m n r h1 h2 h3 h4 h5 => h e m n r h1 h2 h3 h4 h5 (fun z => nomatch z)
theorem Zci {es : Got Nd} {x : Nd × Option Nat} {n : Nd} : n ∈ Za4 (es ++ [x]) ↔ n ∈ Za4 es \/ n = x.1 := by
 unfold Za4
 rw [List.map_append, List.mem_append]
 simp
theorem ZpD.add {L : Lay Nd} {φ : Phi Nd} {es : Got Nd} {U V : List Nd} (h : ZpD L φ es (U ++ V)) (n : Nd) (o : Option Nat) : ZpD L φ (es ++ [(n, o)]) (U ++ (V ++ [n])) := fun e m k r h1 h2 h3 h4 h5 h6 => by
 rw [<- List.append_assoc, List.mem_append, not_or] at h6
 have ne : m ≠ n := fun z => h6.2 (by simp [z])
 rcases Zci.mp h5 with z | z
 ·exact Zci.mpr (.inl (h e m k r h1 h2 h3 h4 z h6.1))
 ·exact absurd z ne
theorem Tree.inClosed {L : Lay Nd} {φ : Phi Nd} {s : Nd} {fs : Got Nd} (hc : ZcM L φ fs) (hs : s ∈ Za4 fs) : ∀ {es : Got Nd}, Tree L φ s es -> ∀ n ∈ Za4 es, n ∈ Za4 fs
 | _, .root, n, hn => by
   have e : n = s := by simpa [Za4] using hn
   rw [e]; exact hs
 | _, .add t hn hh ht hm hr h0, n, hx => by
   rcases Zci.mp hx with z | z
   ·exact t.inClosed hc hs n z
   ·rw [z]
    exact hc _ _ _ _ ht hh hr h0 (t.inClosed hc hs _ hm)
end Mir
end
section
namespace My
open PySem L2 Mir
local macro_rules | `(tactic| walk_at "d") => `(tactic| dsimp only [List.set])
local macro_rules | `(tactic| walk_at "e") => `(tactic| dsimp only [List.set, Ziv, List.map, Zef])
local macro_rules | `(tactic| walk_at "x") => `(tactic| try dsimp only [ZqM, Zm6])
local macro_rules | `(tactic| walk_at "p") => `(tactic| exact ⟨rfl, rfl, rfl, by decide +kernel, rfl, by decide +kernel, by decide +kernel⟩)
local macro_rules | `(tactic| walk_at "j") => `(tactic| first | decide | omega)
def top (i : Nat) : Stmt := PySem.Challenge.pw_chargeyard_k53_whole_levels_are_the_fair.main.body.getD i (.Pass ⟨0, 0, 0, 0⟩)
abbrev Zc1 : Stmt := top 2
abbrev ZbG : Stmt := top 3
abbrev Zc0 : Stmt := top 4
abbrev Zc5 : Stmt := top 5
abbrev ZcT : Stmt := top 6
abbrev Zc4 : Stmt := top 7
abbrev ZcY : Stmt := top 8
abbrev Zdc : Stmt := top 9
abbrev Zca : Stmt := top 10
abbrev Zbq : Stmt := top 11
abbrev Zbp : Stmt := top 12
abbrev Zb4 : Stmt := top 13
abbrev ZaG : Stmt := top 14
abbrev ZbI : Stmt := top 19
abbrev ZbY : Stmt := top 20
abbrev Zcb : Stmt := top 21
abbrev Zc8 : Stmt := top 22
abbrev ZbD : Stmt := top 23
abbrev ZaC : Stmt := top 24
abbrev ZaU : Stmt := top 26
abbrev Zc3 : Stmt := top 27
abbrev Zbm : Stmt := top 28
abbrev Zb5 : Stmt := top 30
abbrev Za9 : Stmt := top 32
abbrev Zc2 : Stmt := top 33
abbrev ZaI : Stmt := top 34
abbrev ZbH : Stmt := top 35
abbrev Zcc : Stmt := top 36
abbrev ZcO : Stmt := top 38
abbrev Zbn : Stmt := top 39
abbrev ZaQ : Stmt := top 40
abbrev Zbo : Stmt := top 41
abbrev Zbs : Stmt := top 42
abbrev ZaW : Stmt := top 44
abbrev Zbz : Stmt := top 45
abbrev Zbv : Stmt := top 46
abbrev Zce : Stmt := top 47
abbrev Zbw : Stmt := top 48
abbrev Zbr : Stmt := top 49
abbrev ZbM : Stmt := top 50
abbrev ZaT : Stmt := top 51
abbrev ZaY : Stmt := top 52
abbrev ZbJ : Stmt := top 53
abbrev ZeZ : Stmt := top 54
abbrev Zb8 : Stmt := Zei (top 18) 0
abbrev ZcZ : Stmt := Zei (top 18) 1
abbrev Zbu : Stmt := Zei (top 18) 2
abbrev Zbt : Stmt := Zei (top 18) 4
abbrev Zch : Stmt := Zei (top 18) 5
abbrev Zc6 : Stmt := Zei (top 18) 6
abbrev ZbK : Stmt := Zei (top 18) 7
structure Bl (mg : Str -> Option Value) : Prop where
 abs : mg "abs" = none
 len : mg "len" = none
 max : mg "max" = none
 min : mg "min" = none
 sum : mg "sum" = none
 any : mg "any" = none
 all : mg "all" = none
 isi : mg "isinstance" = none
 int : mg "int" = none
 bool : mg "bool" = none
 list : mg "list" = none
 tuple : mg "tuple" = none
 range : mg "range" = none
 zip : mg "zip" = none
 enumerate : mg "enumerate" = none
 sorted : mg "sorted" = none
structure Tx (K : W.Frag) (mg : Str -> Option Value) (C gS gE : Addr) : Prop where
 net : NetC K C
 mSTART : mg "START" = some (.ref gS)
 mEND : mg "END" = some (.ref gE)
 aS : W.nsIn K mainGlobals "START" = some (some (.ref gS))
 aE : W.nsIn K mainGlobals "END" = some (some (.ref gE))
def upD : Option Nat -> PyData
 | none => .none
 | some a => .int (a : Int)
def eLn (l : Ln) : PyData := .tuple [upD l.up, .tuple (l.bs.map PyData.int)]
def eYd (y : Yd) : PyData := .tuple [.int (y.T : Int), .tuple (y.ls.map eLn)]
def Zbf (l : List Nat) : List PyData := l.map fun (j : Nat) => PyData.int (j : Int)
theorem mdl {j : Int} (h : 0 < j) : 0 < j := h
theorem cdl {i j : Int} (h1 : 0 < j) (h2 : j <= 10 ^ 60) : ZeY i j := ⟨h1, Int.lt_of_le_of_lt h2 (by decide +kernel)⟩
theorem Zgi {a b : Int} (h0 : 0 <= a) (h1 : a < 10 ^ 300) (h2 : 0 <= b) (h3 : b < 10 ^ 300) : IntMulOk a b := ZmC (m := 1000) (n := 1000) h0 (Int.lt_trans h1 (by decide +kernel)) h2 (Int.lt_trans h3 (by decide +kernel)) (by decide)
theorem z60 : (10 : Int) ^ 60 = 1000000000000000000000000000000000000000000000000000000000000 := by decide +kernel
theorem Zs7 {i j : Int} (h1 : 0 < j) (h2 : j <= 1000000000000000000000000000000000000000000000000000000000000) : ZeY i j := cdl h1 (by rw [z60]; exact h2)
theorem ZoT {α : Type} [Inhabited α] {f : α -> PyData} {xs : List α} {k : Int} (h0 : 0 <= k) (h1 : k < (xs.length : Int)) : atI (xs.map f) k = some (f (xs.getD k.toNat default)) := by
 have h : k.toNat < xs.length := by omega
 have e : (xs.map f)[k.toNat]? = some (f (xs.getD k.toNat default)) := by simp [h]
 have e2 := Zd8 e
 rwa [Int.toNat_of_nonneg h0] at e2
theorem Zrq {xs : List Int} {k : Int} (h0 : 0 <= k) (h1 : k < (xs.length : Int)) : atI (xs.map PyData.int) k = some (.int (xs.getD k.toNat 0)) := by
 have h : k.toNat < xs.length := by omega
 have e : (xs.map PyData.int)[k.toNat]? = some (.int (xs.getD k.toNat 0)) := by simp [h]
 have e2 := Zd8 e
 rwa [Int.toNat_of_nonneg h0] at e2
theorem Zr0 {xs : List Int} {k : Int} (h0 : 0 <= k) (h1 : k < (xs.length : Int)) : atI xs k = some (xs.getD k.toNat 0) := by
 have h : k.toNat < xs.length := by omega
 have e : xs[k.toNat]? = some (xs.getD k.toNat 0) := by simp [h]
 have e2 := Zd8 e
 rwa [Int.toNat_of_nonneg h0] at e2
theorem Zrv {f : Nat -> PyData} {n : Nat} {k : Int} (h0 : 0 <= k) (h1 : k < (n : Int)) : atI ((List.range n).map f) k = some (f k.toNat) := by
 have h : k.toNat < n := by omega
 have e : ((List.range n).map f)[k.toNat]? = some (f k.toNat) := by simp [h]
 have e2 := Zd8 e
 rwa [Int.toNat_of_nonneg h0] at e2
theorem ZqF {n : Nat} {k : Int} (h0 : 0 <= k) (h1 : k < (n : Int)) : ixN n k = some k.toNat := by
 unfold ixN; rw [if_pos h0, if_pos h1]
theorem ZkJ {α β : Type} (xs : List α) (c : β) : xs.map (fun _ => c) = (List.range xs.length).map fun _ => c := by
 apply List.ext_getElem?
 intro i
 by_cases h : i < xs.length
 ·simp [h]
 ·simp [h]
instance : Inhabited Ln := ⟨⟨none, []⟩⟩
structure ScrOk (ns : List Int) : Prop where
 len : ns.length <= 63
 bits : ∀ i ∈ ns, Builtin.Int.intBits i <= 2 ^ 20
def eGs (g : Gs) : PyData := .tuple [.int (g.line : Int), .int (g.first : Int), .int (g.last : Int), .int g.want, .int g.most]
instance : Inhabited Gs := ⟨⟨0, 0, 0, 1, 1⟩⟩
theorem ZhW {ds : List PyData} {m : Nat} (h : ∀ d ∈ ds, d.canLay0 = true /\ d.depth <= m) : PyData.canLayAll0 ds = true /\ PyData.depthAll ds <= m := by
 induction ds with
 | nil => exact ⟨rfl, Nat.zero_le _⟩
 | cons d ds ih =>
   obtain ⟨a, b⟩ := h d List.mem_cons_self
   obtain ⟨c, e⟩ := ih fun x hx => h x (List.mem_cons_of_mem _ hx)
   refine ⟨by rw [PyData.canLayAll0, a, c]; rfl, ?_⟩
   rw [PyData.depthAll]
   omega
def ZfH (m : Nat) (d : PyData) : Prop := d.canLay0 = true /\ d.depth <= m
theorem ZfH.fine {m : Nat} {d : PyData} (h : ZfH m d) (hm : m <= 60) : ZpQ d := ⟨h.1, Nat.le_trans h.2 hm⟩
theorem ZmM {ds : List PyData} {m : Nat} (h : ∀ d ∈ ds, ZfH m d) : ZfH (m + 1) (.tuple ds) := by
 obtain ⟨a, b⟩ := ZhW h
 refine ⟨by rw [PyData.canLay0]; exact a, ?_⟩
 rw [PyData.depth]
 omega
theorem ZnD (i : Int) (m : Nat) : ZfH m (.int i) := ⟨rfl, Nat.zero_le _⟩
theorem Zp4 (m : Nat) : ZfH m .none := ⟨rfl, Nat.zero_le _⟩
theorem Zrc {m : Nat} : ∀ d ∈ ([] : List PyData), ZfH m d := fun d hd => (nomatch hd)
theorem Zlt {m : Nat} {d : PyData} {ds : List PyData} (h : ZfH m d) (h2 : ∀ d ∈ ds, ZfH m d) : ∀ x ∈ d :: ds, ZfH m x := fun x hx => by
 rcases List.mem_cons.mp hx with rfl | hx
 ·exact h
 ·exact h2 x hx
theorem Zg0 (l : List Nat) : Zbf l = (l.map fun (j : Nat) => (j : Int)).map PyData.int := by
 unfold Zbf
 rw [List.map_map]
 rfl
theorem ZmW {a : Nat} {l : List Nat} : ((a : Int) ∈ l.map fun (j : Nat) => (j : Int)) ↔ a ∈ l := by
 constructor
 ·intro h
  obtain ⟨j, hj, e⟩ := List.mem_map.mp h
  have : j = a := by omega
  subst this
  exact hj
 ·intro h
  exact List.mem_map.mpr ⟨a, h, rfl⟩
theorem Zif {K : W.Frag} {ρ : Zbe} {ta tb : TE} {a : Nat} {l : List Nat} (ha : EvE K ta ρ (.int (a : Int))) (hb : EvE K tb ρ (.list (Zbf l))) : EvE K (tOp (rIn K true) ta tb) ρ (.bool (!decide (a ∈ l))) := by
 rw [Zg0] at hb
 have := ZpF ha hb
 rwa [decide_eq_decide.mpr ZmW] at this
theorem p10 (n : Nat) : (10 : Int) ^ n = ((10 ^ n : Nat) : Int) := by rw [Int.natCast_pow]; rfl
theorem ZlU (n : Nat) : (0 : Int) < 10 ^ n := by
 rw [p10]
 have : 0 < 10 ^ n := Nat.pow_pos (by decide)
 omega
theorem Zs6 {i j : Int} (h0 : 0 <= j) (h1 : j <= 1000) : ZeY i (10 ^ j.toNat) := ⟨ZlU _, by
 have h : (10 : Nat) ^ j.toNat <= 10 ^ 1000 := Nat.pow_le_pow_right (by decide) (by omega)
 have h2 : (10 : Int) ^ j.toNat <= 10 ^ 1000 := by
  rw [p10, p10]
  exact Int.ofNat_le.mpr h
 exact Int.lt_of_le_of_lt h2 (by decide +kernel)⟩
theorem Zs8 {j : Int} : 0 < (10 : Int) ^ j.toNat := ZlU _
def Zr2 (w : String) : Lean.MacroM (Lean.TSyntax `tactic) := do
 let n := Lean.mkIdent (w.drop 1).toString.toName
 match w.front with
 | '@' => `(tactic| with_reducible apply $n)
 | '!' => `(tactic| with_reducible exact $n)
 | '~' => `(tactic| apply $n)
 | _ => `(tactic| walk_at $(Lean.Syntax.mkStrLit w))
def ZhA (s : String) : Lean.MacroM (Lean.TSyntax `tactic) := do
 let l ← (s.splitOn "|").mapM fun a => do
  match a.splitOn "<" with
  | [x, z] => `(tactic| ($(← Zr2 x):tactic <;> $(← Zr2 z):tactic))
  | _ =>
    let ts ← (a.splitOn " ").mapM Zr2
    `(tactic| ($[$ts.toArray:tactic];*))
 `(tactic| first $[| $l.toArray:tactic]*)
local macro_rules | `(tactic| walk_at "rfl") => `(tactic| rfl)
local macro_rules | `(tactic| walk_at "hc") => `(tactic| intro hc)
local macro_rules | `(tactic| walk_at "ls") => `(tactic| dsimp only [List.set])
local macro_rules | `(tactic| walk_at "om") => `(tactic| first | lia | omega)
local macro_rules | `(tactic| walk_at "asm") => `(tactic| with_reducible assumption)
local macro_rules | `(tactic| walk_at "ble") => `(tactic| first | with_reducible rfl | decide | exact Nat.le_of_ble_eq_true rfl)
local macro_rules | `(tactic| walk_at "smo") => `(tactic| (focus (simp; (first | done | walk_at "om"))))
local macro_rules | `(tactic| walk_at "dso") => `(tactic| (focus (dsimp only; walk_at "om")))
local macro_rules | `(tactic| walk_at "r4") => `(tactic| (refine ⟨?_, ?_, ?_, ?_⟩ <;> walk_at "r62"))
local macro_rules | `(tactic| walk_at "r62") => `(tactic| (rw [z62]; walk_at "side"))
local macro_rules | `(tactic| walk_at "ss") => `(tactic| repeat walk_at "s1")
local macro_rules | `(tactic| walk_at "call") => `(tactic| (constructor <;> walk_at "side"))
local macro_rules | `(tactic| walk_at "rg") => `(tactic| first | with_reducible rfl | (apply ZdG <;> walk_at "rs") | (apply ZhR <;> walk_at "rs"))
local macro_rules | `(tactic| walk_at "rs") => ZhA "om|smo"
local macro_rules | `(tactic| walk_at "side") => ZhA "om|asm|ble|smo"
local macro_rules | `(tactic| walk_at "arith") => ZhA "om|asm|ble|smo"
local macro_rules | `(tactic| walk_at "ev") => ZhA "@Zac rfl|!Zba|!Zr9|!Zl1|!ZnK|@Zjj ev ev|@ZjH ev ev|@ZcC ev ev cond|@Zs2 ev|@Zsr ev ev|@Zon ev ev|@Zo3 ev|@ZmI ev ev ev|@Zss rfl ev item|@ZrZ rfl ev item|@Zdd evd ev item|@ZnV evd ev item|@Zec eas side|@Za3 ea call|@Zez ea call|@Zry ev|@Zr8 ev ev|@ZrI ev ev|@Zr1 rfl|@ZoY rfl|@ZrK evd|@ZgC evd|@ZrG rfl|@ZlB evd|@Zoq ev|@Zif ev evd|@Zjh ev rfl|@EvO.fz eo"
local macro_rules | `(tactic| walk_at "evd") => ZhA "~Zac rfl|ev|@EvO.fz eo"
local macro_rules | `(tactic| walk_at "ea") => ZhA "!Zas|@Zsi rfl ea|@Zaf ev ea"
local macro_rules | `(tactic| walk_at "eas") => ZhA "~ZaO|~ZaS ev eas"
local macro_rules | `(tactic| walk_at "eo") => ZhA "@ZdA eas side|@ZiD ea call|@ZmB evd|@Zgm evd evd side"
local macro_rules | `(tactic| walk_at "et") => ZhA "!Zrh|@Zd7 ev|@Zpw ev|@Zoi et hc et|@Zrs et hc et|@Zq1 et"
local macro_rules | `(tactic| walk_at "g") => ZhA "!ZaN|!Zgg|@ZcH g g|@ZjR g rfl|~ZjR g rfl"
local macro_rules | `(tactic| walk_at "ei") => ZhA "@Zd1 ea r62 r62|@Zl3 ea r4|@Zri ea r4|@Zog ea|@Zp0 ea|@Zb9 evd|@Zso evd"
local macro_rules | `(tactic| walk_at "s1") => ZhA "@Zar s1|@ZcF eo ls|@ZbO ev ls|@Zsd ev g ls|@Zeu rfl ev side ls|@Zna rfl ev ev item ls"
local macro_rules | `(tactic| walk_at "ret") => ZhA "@Zgx rfl|@Zcl evd|@Zgp eo"
local macro_rules | `(tactic| walk_at "if") => ZhA "@Zar if|@ZhD et"
local macro_rules | `(tactic| walk_at "eir") => ZhA "~EvI.cast ei rg"
local macro_rules | `(tactic| walk_at "item") => ZhA "rfl|asm|@Zrq<arith|@Zr0<arith|@Zrv<arith|@ZqF<arith|~ZoT<arith"
local macro_rules | `(tactic| walk_at "cond") => ZhA "asm|@Zsc<om|@Zs7<om|!Zsu|@Zs6<om|!Zs8|@mdl<om|om|dso"
section
variable {P : Program} {w : World} {K : W.Frag} {mg : Str -> Option Value} {base : Heap} {C gS gE : Addr}
inductive R_cell : List OT -> OT -> Prop
 | mk {ns : List Int} {k : Int} (h : 0 <= k) : R_cell [.scr ns, .fz (.int k)] (.fz (.int (ZaP ns k)))
theorem ZfF : FnScope ["_law_script", "_law_k"] ["_law_script", "_law_k"] (Zab ZaW) := by walk_at "p"
theorem ZoZ (T : Bl mg) (D : Df K mg "_law_cell_at" ZaW ["_law_script", "_law_k"]) : Cal P w K mg base "_law_cell_at" ["_law_script", "_law_k"] 1 (spO (K := K) R_cell) := by
 refine D.ev ZfF (fun ts r h => by cases h; rfl) (fun f cdv A outer s H E ts r hr h => ?_)
 cases h with
 | @mk ns k h0 =>
   refine ⟨_, (Zad (Zea (ZbA Zn6 (pv 1) (Za0 Zdu (by rfl) T.len Zdx (Zaa (pv 0) Zae)) (ZcL _)) (Zah (Zaw (Zax Zan (pv 0) (pv 1) (fun _ _ => rfl)))) ZbZ)
 (Zah (Zaw Zai))), ?_⟩
   show EvS K _ [some _, some _] _
   walk_at "x"
   walk_at "if"
   ·
    intro c
    have c := of_decide_eq_true c
    walk_at "ret"
    rfl
   ·
    intro c
    have c := of_decide_eq_false c
    refine Zcd ?_
    walk_at "ret"
    have e : ZaP ns k = 0 := by
     have : ns.length <= k.toNat := by omega
     simp [ZaP, List.getD, this]
    rw [e]
inductive R_amount : List OT -> OT -> Prop
 | mk {n : Int} (h : 0 <= n) : R_amount [.fz (.int n)] (.fz (.tuple [.int (Zcz n).1, .int (Zcz n).2]))
theorem Zdo : FnScope ["_law_number_here", "_law_way"] ["_law_number_here"] (Zab Zbv) := by walk_at "p"
theorem ZlF (T : Bl mg) (D : Df K mg "_law_amount" Zbv ["_law_number_here"]) : Cal P w K mg base "_law_amount" ["_law_number_here"] 1 (spO (K := K) R_amount) := by
 refine D.ev Zdo (fun ts r h => by cases h; rfl) (fun f cdv A outer s H E ts r hr h => ?_)
 cases h with
 | @mk n h0 =>
   refine ⟨_, (Zad (Zaq (i := 1) Zdo.nd rfl (Or.inl rfl) (Zau Zcr (pv 0) Zai))
 (Zad (Zaq (i := 0) Zdo.nd rfl (Or.inl rfl) (Zau ZaL (pv 0) Zai))
 (Zad (Zea (ZbA Zop (pv 1) Zai (ZcL _)) (Zah (Zaw (Zcy (Zaa Zai (Zaa (pv 0) Zae))))) ZbZ)
 (Zad (Zea (ZbA Zn6 (pv 1) Zai (ZcL _)) (Zah (Zaw (Zcy (Zaa (Zau Zcr (pv 0) Zai) (Zaa (Zau ZaL (pv 0) Zai) Zae))))) ZbZ)
 (Zad (Zea (ZbA Zop (pv 1) Zai (ZcL _)) (Zah (Zaw (Zcy (Zaa (Zau Zcr (pv 0) Zai) (Zaa (Zau ZaL (pv 0) Zai) Zae))))) ZbZ)
 (Zah (Zaw (Zcy (Zaa (Zau Zcr (pv 0) (Zau ZnH Zai Zai)) (Zaa (Zau ZaL (pv 0) (Zau ZnH Zai Zai)) Zae)))))))))), ?_⟩
   show EvS K _ [some _, none] _
   walk_at "ss"
   walk_at "if"
   ·
    intro c
    have c := of_decide_eq_true c
    walk_at "ret"
    show _ = _
    unfold Zcz
    rw [if_pos c]
   ·
    intro c
    have c := of_decide_eq_false c
    refine Zcd ?_
    walk_at "if"
    ·
     intro c2
     have c2 := of_decide_eq_true c2
     walk_at "ret"
     show _ = _
     unfold Zcz
     rw [if_neg c, if_pos c2]
    ·
     intro c2
     have c2 := of_decide_eq_false c2
     refine Zcd ?_
     walk_at "if"
     ·
      intro c3
      have c3 := of_decide_eq_true c3
      walk_at "ret"
      show _ = _
      unfold Zcz
      rw [if_neg c, if_neg c2, if_pos c3]
     ·
      intro c3
      have c3 := of_decide_eq_false c3
      refine Zcd ?_
      walk_at "ret"
      show _ = _
      unfold Zcz
      rw [if_neg c, if_neg c2, if_neg c3]
      rfl
inductive R_number : List OT -> OT -> Prop
 | mk {ns : List Int} {k : Int} (hs : ScrOk ns) (h0 : 0 <= k) (h1 : k < 1000) : R_number [.scr ns, .fz (.int k)] (.fz (.int (Zco ns k)))
theorem ZoC {x : Int} {m : Nat} (h0 : 0 <= x) (h : x < 2 ^ m) : Builtin.Int.intBits x <= m := by
 unfold Builtin.Int.intBits
 by_cases e : x = 0
 ·subst e; simp
 ·have e1 : (x == 0) = false := by simpa using e
  rw [e1]
  have h1 : x.natAbs ≠ 0 := by omega
  have h2 : x.natAbs < 2 ^ m := by
   have : ((x.natAbs : Nat) : Int) < ((2 ^ m : Nat) : Int) := by
    have e2 : ((2 ^ m : Nat) : Int) = (2 : Int) ^ m := by rw [Int.natCast_pow]; rfl
    rw [e2]
    omega
   exact Int.ofNat_lt.mp this
  have := (Nat.log2_lt h1).mpr h2
  simp only [Bool.false_eq_true, if_false]
  omega
theorem Zlm {ns : List Int} (hs : ScrOk ns) (k : Int) : Builtin.Int.intBits (Zfz (ZaP ns k)) <= 2 ^ 20 := by
 have e : Builtin.Int.intBits (Zfz (ZaP ns k)) = Builtin.Int.intBits (ZaP ns k) := by
  unfold Zfz
  split
  ·unfold Builtin.Int.intBits
   simp
  ·rfl
 rw [e]
 by_cases h : k.toNat < ns.length
 ·refine hs.bits _ ?_
  simp [ZaP, h]
 ·have : ZaP ns k = 0 := by
   have : ns.length <= k.toNat := by omega
   simp [ZaP, List.getD, this]
  rw [this]
  decide
theorem Za8 : FnScope ["_law_script", "_law_k", "_law_head", "_law_one", "_law_other", "_law_total", "_law_turn", "_law_cell"] ["_law_script", "_law_k"] (Zab Zbz) := by walk_at "p"
theorem Zmv (T : Bl mg) (D : Df K mg "_law_number" Zbz ["_law_script", "_law_k"]) (c__law_cell_at : Cal P w K mg base "_law_cell_at" ["_law_script", "_law_k"] 1 (spO (K := K) R_cell)) : Cal P w K mg base "_law_number" ["_law_script", "_law_k"] 2 (spO (K := K) R_number) := by
 refine D.ev Za8 (fun ts r h => by cases h; rfl) (fun f cdv A outer s H E ts r hr h => ?_)
 cases h with
 | @mk ns k hs h0 h1 =>
   refine ⟨_, (Zad (Zaq (i := 2) Za8.nd rfl (Or.inl rfl) (Zap c__law_cell_at hr (Zaa (pv 0) (Zaa Zai Zae)) (hj := by walk_at "j")))
 (Zad (Zaq (i := 3) Za8.nd rfl (Or.inl rfl) (Zau ZcJ (Zau Zcr (pv 2) Zai) (Zau Zfq Zai (pv 1))))
 (Zad (Zaq (i := 4) Za8.nd rfl (Or.inl rfl) (Zau ZcJ (Zau Zfq Zai (pv 1)) Zai))
 (Zad (Zaq (i := 5) Za8.nd rfl (Or.inl rfl) Zai)
 (Zad (ZbB PassesOwn.never rfl (Zbl rfl T.range (Zaa Zai Zae)) (Zam (i := 6) Za8.nd rfl (Or.inl rfl)) (Zad (Zaq (i := 3) Za8.nd rfl (Or.inl rfl) (Zau Zcr (Zau ZcJ (Zau ZcJ (Zau Zfq (pv 3) Zai) Zai) (Zau Zfq (pv 6) (pv 1))) Zai))
 (Zad (Zaq (i := 4) Za8.nd rfl (Or.inl rfl) (Zau Zcr (Zau ZcJ (Zau Zfq (pv 4) Zai) (pv 3)) Zai))
 (Zah (Zaq (i := 5) Za8.nd rfl (Or.inl rfl) (Zau ZcJ (Zau Zfq (pv 5) Zai) (Zau Zcr (Zau ZcJ (Zau Zfq (pv 4) (pv 4)) (pv 3)) Zai)))))))
 (Zad (Zea (ZbA Zop (Zau Zcr (Zau ZaL (pv 2) Zai) Zai) Zai (ZcL _)) (Zah (Zaw (pv 5))) ZbZ)
 (Zad (Zaq (i := 7) Za8.nd rfl (Or.inl rfl) (Za0 Zj8 (by rfl) T.abs Zj4 (Zaa (Zap c__law_cell_at hr (Zaa (pv 0) (Zaa (pv 1) Zae)) (hj := by walk_at "j")) Zae)))
 (Zah (Zaw (Zau ZcJ (pv 7) (Zau ZoM (pv 5) (ZqZ PySem.F.plainAttrs_int PySem.F.slot_int_bit_length PySem.F.type_int_bit_length ZoQ (pv 7))))))))))))), ?_⟩
   show EvS K _ [some _, some _, none, none, none, none, none, none] _
   walk_at "x"
   walk_at "ss"
   refine Zar (ZbC (fun i => [some (.scr ns), some (.fz (.int k)), some (.fz (.int (ZaP ns 0))), some (.fz (.int (mix (ZaP ns 0) k i).1)), some (.fz (.int (mix (ZaP ns 0) k i).2.1)), some (.fz (.int (mix (ZaP ns 0) k i).2.2)), none, none]) (by walk_at "ei") ⟨rfl, rfl, rfl, rfl, rfl, rfl, trivial⟩ ?_ ?_)
   ·intro i d hd
    obtain ⟨hi, rfl⟩ := Zc9 hd
    refine ⟨_, by walk_at "g", ?_⟩
    walk_at "d"
    have hi2 : i < 30 := hi
    have o1 : 0 <= ((mix (ZaP ns 0) k i).1 * 48271 + 11 + (0 + (i : Int)) * k) % 2147483647 /\ ((mix (ZaP ns 0) k i).1 * 48271 + 11 + (0 + (i : Int)) * k) % 2147483647 < 2147483647 := by omega
    have o2 : 0 <= ((mix (ZaP ns 0) k i).2.1 * 16807 + ((mix (ZaP ns 0) k i).1 * 48271 + 11 + (0 + (i : Int)) * k) % 2147483647) % 2147483629 /\ ((mix (ZaP ns 0) k i).2.1 * 16807 + ((mix (ZaP ns 0) k i).1 * 48271 + 11 + (0 + (i : Int)) * k) % 2147483647) % 2147483629 < 2147483629 := by omega
    walk_at "ss"
    refine ⟨rfl, rfl, rfl, ?_, ?_, ?_, trivial⟩ <;> simp only [mix, Int.zero_add]
   ·intro ρ' hf
    refine ZcW hf ?_
    have hn := Zet (ZaP ns 0) k 30
    have e30 : (ZfO 0 (30 : Int).toNat).length = 30 := ZcB
    rw [e30]
    walk_at "if"
    ·
     intro c
     have c := of_decide_eq_true c
     walk_at "ret"
     show _ = _
     unfold Zco
     rw [if_pos c]
    ·
     intro c
     have c := of_decide_eq_false c
     refine Zcd ?_
     have cb := Zlm hs k
     have tb : Builtin.Int.intBits (mix (ZaP ns 0) k 30).2.2 <= 930 := ZoC hn.1 (Znb _ _)
     have sh : Zse (mix (ZaP ns 0) k 30).2.2 (Builtin.Int.intBits (Zfz (ZaP ns k)) : Int) := ⟨by omega, by
      have : (2 : Int) ^ 27 = 134217728 := by decide
      have : (2 : Nat) ^ 20 = 1048576 := by decide
      omega⟩
     walk_at "s1"
     refine Zcl (Zjj (Zac rfl) (ZcC (Zac rfl) (Zoq (Zac rfl)) sh)) ?_
     show _ = _
     unfold Zco
     rw [if_neg c]
     rfl
inductive R_yard : List OT -> OT -> Prop
 | mk {ns : List Int} (hs : ScrOk ns) : R_yard [.scr ns] (.fz (eYd (Zd9 ns)))
theorem Za7 : FnScope ["_law_script", "_law_head", "_law_turns", "_law_lines", "_law_k", "_law_number_here", "_law_above", "_law_bounds", "_law_turn", "_law_bound"] ["_law_script"] (Zab Zce) := by walk_at "p"
theorem Zp3 (T : Bl mg) (D : Df K mg "_law_yard" Zce ["_law_script"]) (c__law_cell_at : Cal P w K mg base "_law_cell_at" ["_law_script", "_law_k"] 1 (spO (K := K) R_cell)) (c__law_number : Cal P w K mg base "_law_number" ["_law_script", "_law_k"] 2 (spO (K := K) R_number))
 (c__law_amount : Cal P w K mg base "_law_amount" ["_law_number_here"] 1 (spO (K := K) R_amount)) : Cal P w K mg base "_law_yard" ["_law_script"] 3 (spO (K := K) R_yard) := by
 refine D.ev Za7 (fun ts r h => by cases h; rfl) (fun f cdv A outer s H E ts r hr h => ?_)
 cases h with
 | @mk ns hs =>
   refine ⟨_, (Zad (Zaq (i := 1) Za7.nd rfl (Or.inl rfl) (Za0 Zj8 (by rfl) T.abs Zj4 (Zaa (Zap c__law_cell_at hr (Zaa (pv 0) (Zaa Zai Zae)) (hj := by walk_at "j")) Zae)))
 (Zad (Zaq (i := 2) Za7.nd rfl (Or.inl rfl) (Zau ZcJ Zai (Zau Zcr (pv 1) Zai)))
 (Zad (Zaq (i := 3) Za7.nd rfl (Or.inl rfl) (Zct Zae))
 (Zad (ZbB PassesOwn.never rfl (Zbl rfl T.range (Zaa (Zau ZcJ Zai (Zau Zcr (Zau ZaL (pv 1) Zai) Zai)) Zae)) (Zam (i := 4) Za7.nd rfl (Or.inl rfl)) (Zad (Zaq (i := 5) Za7.nd rfl (Or.inl rfl) (Zap c__law_number hr (Zaa (pv 0) (Zaa (Zau ZcJ Zai (pv 4)) Zae)) (hj := by walk_at "j")))
 (Zad (Zaq (i := 6) Za7.nd rfl (Or.inl rfl) Zjb)
 (Zad (Zea (ZbA Zlg (pv 4) Zai (ZcL _)) (Zad (Zaq (i := 6) Za7.nd rfl (Or.inl rfl) (Zau Zcr (pv 5) (pv 4)))
 (Zah (Zaq (i := 5) Za7.nd rfl (Or.inl rfl) (Zau ZaL (pv 5) (pv 4))))) ZbZ)
 (Zad (Zaq (i := 7) Za7.nd rfl (Or.inl rfl) (Zct Zae))
 (Zad (ZbB PassesOwn.never rfl (Zbl rfl T.range (Zaa (pv 2) Zae)) (Zam (i := 8) Za7.nd rfl (Or.inl rfl)) (Zad (ZeT (Zap c__law_amount hr (Zaa (pv 5) Zae) (hj := by walk_at "j")) (ZdR (n := 2) rfl (Za6 (Zam (i := 9) Za7.nd rfl (Or.inl rfl)) (Za6 (Zam (i := 5) Za7.nd rfl (Or.inl rfl)) Zdb))))
 (Zah (Zbj (ZfP PySem.F.plainAttrs_list PySem.F.slot_list_append PySem.F.type_list_append ZbW (pv 7) (Zaa (pv 9) Zae))))))
 (Zah (Zbj (ZfP PySem.F.plainAttrs_list PySem.F.slot_list_append PySem.F.type_list_append ZbW (pv 3) (Zaa (Zcy (Zaa (pv 6) (Zaa (ZdI Zfj (by rfl) T.tuple Zfi (Zaa (pv 7) Zae)) Zae))) Zae))))))))))
 (Zah (Zaw (Zcy (Zaa (pv 2) (Zaa (ZdI Zfj (by rfl) T.tuple Zfi (Zaa (pv 3) Zae)) Zae))))))))), ?_⟩
   show EvS K _ [some _, none, none, none, none, none, none, none, none, none] _
   walk_at "x"
   obtain ⟨t1, t8⟩ := Zgk ns
   obtain ⟨c1, c5⟩ := ZfW ns
   have hn := ZeL (ZaP ns 0)
   walk_at "ss"
   have et : 1 + Zfz (ZaP ns 0) % 8 = ((ZbE ns : Nat) : Int) := by unfold ZbE; omega
   have ec : 1 + Zfz (ZaP ns 0) / 8 % 5 = ((Zdn ns : Nat) : Int) := by unfold Zdn; omega
   rw [et]
   refine Zar (ZbC (ds := ZfO 0 (Zdn ns)) (fun i => [some (.scr ns), some (.fz (.int (Zfz (ZaP ns 0)))), some (.fz (.int (ZbE ns : Int))), some (.ol (((List.range i).map (ZdB ns (ZbE ns))).map eLn)), none, none, none, none, none, none]) ?ei ⟨rfl, rfl, rfl, rfl, trivial⟩ ?st ?fin)
   case ei => walk_at "eir"
   case st =>
    intro i d hd
    obtain ⟨hi, rfl⟩ := Zc9 hd
    refine ⟨_, by walk_at "g", ?_⟩
    walk_at "d"
    rw [Int.zero_add]
    have nn := Ze6 ns (1 + (i : Int))
    walk_at "ss"
    refine ZhC (fun ρ' => ∃ (ab : Option Nat) (nm : Int), 0 <= nm /\ ZdB ns (ZbE ns) i = ⟨ab, (bnd nm (ZbE ns)).1⟩ /\
     ρ' = [some (.scr ns), some (.fz (.int (Zfz (ZaP ns 0)))), some (.fz (.int (ZbE ns : Int))), some (.ol (((List.range i).map (ZdB ns (ZbE ns))).map eLn)), some (.fz (.int (i : Int))), some (.fz (.int nm)), some (.fz (upD ab)), none, none, none]) ?h ?z
    case h =>
     walk_at "if"
     ·
      intro c
      have c : (0 : Int) < (i : Int) := of_decide_eq_true c
      walk_at "ss"
      refine ⟨some (Zco ns (1 + (i : Int)) % (i : Int)).toNat, Zco ns (1 + (i : Int)) / (i : Int), Int.ediv_nonneg nn (by omega), ?_, ?_⟩
      ·unfold ZdB
       rw [if_neg (by omega)]
      ·have : (((Zco ns (1 + (i : Int)) % (i : Int)).toNat : Nat) : Int) = Zco ns (1 + (i : Int)) % (i : Int) := Int.toNat_of_nonneg (Int.emod_nonneg _ (by omega))
       simp only [upD, this]
     ·
      intro c
      have c : ¬ (0 : Int) < (i : Int) := of_decide_eq_false c
      refine Zcd ⟨none, Zco ns (1 + (i : Int)), nn, ?_, rfl⟩
      unfold ZdB
      rw [if_pos (by omega)]
    case z =>
     rintro ρ' ⟨ab, nm, hnm, eln, rfl⟩
     walk_at "ss"
     refine Zar (ZbC (ds := ZfO 0 (ZbE ns)) (fun j => [some (.scr ns), some (.fz (.int (Zfz (ZaP ns 0)))), some (.fz (.int (ZbE ns : Int))), some (.ol (((List.range i).map (ZdB ns (ZbE ns))).map eLn)), some (.fz (.int (i : Int))), some (.fz (.int (bnd nm j).2)), some (.fz (upD ab)), some (.ol ((bnd nm j).1.map PyData.int)), none, none]) ?ei2 ⟨rfl, rfl, rfl, rfl, rfl, rfl, rfl, rfl, trivial⟩ ?st2 ?fin2)
     case ei2 => walk_at "eir"
     case st2 =>
      intro j d hd
      obtain ⟨hj, rfl⟩ := Zc9 hd
      obtain ⟨b1, b2, b3⟩ := ZdQ hnm j
      refine ⟨_, by walk_at "g", ?_⟩
      walk_at "d"
      walk_at "ss"
      exact ⟨rfl, rfl, rfl, rfl, rfl, rfl, rfl, by simp [bnd], trivial⟩
     case fin2 =>
      intro ρ' hf
      refine ZcW hf ?_
      obtain ⟨b1, b2, b3⟩ := ZdQ hnm (ZbE ns)
      walk_at "ss"
      refine ⟨rfl, rfl, rfl, ?_, trivial⟩
      rw [List.range_succ, List.map_append, List.map_append, ZcB]
      simp only [List.map_cons, List.map_nil, eln]
      rfl
   case fin =>
    intro ρ' hf
    refine ZcW hf ?_
    walk_at "ret"
    rw [ZcB]
    rfl
inductive R_guests : List OT -> OT -> Prop
 | mk {ns : List Int} {y : Yd} (hs : ScrOk ns) (ok : y.Ok) : R_guests [.scr ns, .fz (eYd y)] (.ol ((Zdk ns y).map eGs))
theorem Zav : FnScope ["_law_script", "_law_yard_here", "_law_guests_here", "_law_k", "_law_number_here", "_law_line", "_law_first", "_law_last", "_law_want", "_law_most"] ["_law_script", "_law_yard_here"] (Zab Zbw) := by walk_at "p"
theorem Zmh (T : Bl mg) (D : Df K mg "_law_guests" Zbw ["_law_script", "_law_yard_here"]) (c__law_cell_at : Cal P w K mg base "_law_cell_at" ["_law_script", "_law_k"] 1 (spO (K := K) R_cell)) (c__law_number : Cal P w K mg base "_law_number" ["_law_script", "_law_k"] 2 (spO (K := K) R_number))
 (c__law_amount : Cal P w K mg base "_law_amount" ["_law_number_here"] 1 (spO (K := K) R_amount)) : Cal P w K mg base "_law_guests" ["_law_script", "_law_yard_here"] 3 (spO (K := K) R_guests) := by
 refine D.ev Zav (fun ts r h => by cases h; rfl) (fun f cdv A outer s H E ts r hr h => ?_)
 cases h with
 | @mk ns y hs ok =>
   refine ⟨_, (Zad (Zaq (i := 2) Zav.nd rfl (Or.inl rfl) (Zct Zae))
 (Zad (ZbB PassesOwn.never rfl (Zbl rfl T.range (Zaa (Zau Zcr (Zau ZaL (Za0 Zj8 (by rfl) T.abs Zj4 (Zaa (Zap c__law_cell_at hr (Zaa (pv 0) (Zaa Zai Zae)) (hj := by walk_at "j")) Zae)) Zai) Zai) Zae)) (Zam (i := 3) Zav.nd rfl (Or.inl rfl)) (Zad (Zaq (i := 4) Zav.nd rfl (Or.inl rfl) (Zap c__law_number hr (Zaa (pv 0) (Zaa (Zau ZcJ Zai (pv 3)) Zae)) (hj := by walk_at "j")))
 (Zad (Zaq (i := 5) Zav.nd rfl (Or.inl rfl) (Zau Zcr (pv 4) (Za0 Zdu (by rfl) T.len Zdx (Zaa (Zax Zan (pv 1) Zai (fun _ _ => rfl)) Zae))))
 (Zad (Zaq (i := 4) Zav.nd rfl (Or.inl rfl) (Zau ZaL (pv 4) (Za0 Zdu (by rfl) T.len Zdx (Zaa (Zax Zan (pv 1) Zai (fun _ _ => rfl)) Zae))))
 (Zad (Zaq (i := 6) Zav.nd rfl (Or.inl rfl) (Zau Zcr (pv 4) (Zax Zan (pv 1) Zai (fun _ _ => rfl))))
 (Zad (Zaq (i := 4) Zav.nd rfl (Or.inl rfl) (Zau ZaL (pv 4) (Zax Zan (pv 1) Zai (fun _ _ => rfl))))
 (Zad (Zaq (i := 7) Zav.nd rfl (Or.inl rfl) (Zau ZcJ (pv 6) (Zau Zcr (pv 4) (Zau Zh0 (Zax Zan (pv 1) Zai (fun _ _ => rfl)) (pv 6)))))
 (Zad (Zaq (i := 4) Zav.nd rfl (Or.inl rfl) (Zau ZaL (pv 4) (Zau Zh0 (Zax Zan (pv 1) Zai (fun _ _ => rfl)) (pv 6))))
 (Zad (ZeT (Zap c__law_amount hr (Zaa (pv 4) Zae) (hj := by walk_at "j")) (ZdR (n := 2) rfl (Za6 (Zam (i := 8) Zav.nd rfl (Or.inl rfl)) (Za6 (Zam (i := 4) Zav.nd rfl (Or.inl rfl)) Zdb))))
 (Zad (ZeT (Zap c__law_amount hr (Zaa (pv 4) Zae) (hj := by walk_at "j")) (ZdR (n := 2) rfl (Za6 (Zam (i := 9) Zav.nd rfl (Or.inl rfl)) (Za6 (Zam (i := 4) Zav.nd rfl (Or.inl rfl)) Zdb))))
 (Zah (Zbj (ZfP PySem.F.plainAttrs_list PySem.F.slot_list_append PySem.F.type_list_append ZbW (pv 2) (Zaa (Zcy (Zaa (pv 5) (Zaa (pv 6) (Zaa (pv 7) (Zaa (Za0 (ZnE rfl) (by rfl) T.max ZnU (Zaa Zai (Zaa (pv 8) Zae))) (Zaa (Za0 (ZnE rfl) (by rfl) T.max ZnU (Zaa Zai (Zaa (pv 9) Zae))) Zae)))))) Zae))))))))))))))
 (Zah (Zaw (pv 2))))), ?_⟩
   show EvS K _ [some _, some _, none, none, none, none, none, none, none, none] _
   walk_at "x"
   have l1 := ok.l1
   have l5 := ok.l5
   have t1 := ok.t1
   have t8 := ok.t8
   have hn := ZeL (ZaP ns 0)
   have gc : ZcR ns <= 8 := by unfold ZcR; omega
   have eg : ZcR ns = (Zfz (ZaP ns 0) / 40 % 9).toNat := rfl
   walk_at "ss"
   refine Zar (ZbC (ds := ZfO 0 (ZcR ns)) (fun i => [some (.scr ns), some (.fz (eYd y)), some (.ol (((List.range i).map (Zdr ns y)).map eGs)), none, none, none, none, none, none, none]) ?ei ⟨rfl, rfl, rfl, trivial⟩ ?st ?fin)
   case ei => walk_at "eir"
   case st =>
    intro i d hd
    obtain ⟨hi, rfl⟩ := Zc9 hd
    refine ⟨_, by walk_at "g", ?_⟩
    walk_at "d"
    rw [Int.zero_add]
    obtain ⟨f0, f1⟩ := ZmU ok ns i
    obtain ⟨e0, e1⟩ := Zqn ok ns i
    obtain ⟨n0, n1, n2, n3⟩ := Zp7 ok ns i
    obtain ⟨a1, a2, a3⟩ := ZcX n3
    obtain ⟨b1, b2, b3⟩ := ZcX a3
    have lp : (0 : Int) < (((y.ls.map eLn).length : Nat) : Int) := by rw [List.length_map]; omega
    have lp2 : (((y.ls.map eLn).length : Nat) : Int) <= 5 := by rw [List.length_map]; omega
    have tp : (0 : Int) < (y.T : Int) := by omega
    have fp : (0 : Int) < (y.T : Int) - gf ns y i := by omega
    walk_at "s1"
    walk_at "s1"
    walk_at "s1"
    rw [List.length_map]
    change EvS K _ [_, _, _, _, some (.fz (.int (gn1 ns y i))), some (.fz (.int (gn0 ns i % (y.ls.length : Int)))), _, _, _, _] _
    walk_at "s1"
    walk_at "s1"
    change EvS K _ [_, _, _, _, some (.fz (.int (gn2 ns y i))), _, some (.fz (.int (gf ns y i))), _, _, _] _
    walk_at "s1"
    walk_at "s1"
    change EvS K _ [_, _, _, _, some (.fz (.int (gn3 ns y i))), _, _, some (.fz (.int (gl ns y i))), _, _] _
    walk_at "ss"
    refine ⟨rfl, rfl, ?_, trivial⟩
    rw [List.range_succ, List.map_append, List.map_append]
    simp only [List.map_cons, List.map_nil]
    have c1 := Int.emod_nonneg (gn0 ns i) (show (y.ls.length : Int) ≠ 0 by omega)
    have hg : eGs (Zdr ns y i) = .tuple [.int (gn0 ns i % (y.ls.length : Int)), .int (gf ns y i), .int (gl ns y i), .int (Znn (Zcz (gn3 ns y i)).1), .int (Znn (Zcz (Zcz (gn3 ns y i)).2).1)] := by
     unfold eGs Zdr
     dsimp only
     rw [Int.toNat_of_nonneg c1, Int.toNat_of_nonneg f0, Int.toNat_of_nonneg (by omega)]
    have m1 : ∀ i : Int, max 1 i = Znn i := fun i => by unfold Znn; split <;> omega
    rw [hg, <- m1, <- m1]
   case fin =>
    intro ρ' hf
    refine ZcW hf ?_
    walk_at "ret"
    rw [ZcB]
    rfl
def Zfk (y : Yd) (k : Nat) : Ln := y.ls.getD k default
def upN (y : Yd) (k : Nat) : Nat := (Zcx y k).getD 0
theorem Zfm {y : Yd} {k : Nat} (h : k < y.ls.length) : Zcx y k = (Zfk y k).up := by simp [Zcx, Zfk, h]
theorem ZdS {y : Yd} {k t : Nat} (h : k < y.ls.length) : Zbc y k t = (Zfk y k).bs.getD t 0 := by simp [Zbc, Zfk, h]
theorem Zgw {y : Yd} (ok : y.Ok) {k : Nat} (h : k < y.ls.length) : (Zfk y k).bs.length = y.T := ok.bl _ (by simp [Zfk, h])
inductive R_turns : List OT -> OT -> Prop
 | mk {y : Yd} : R_turns [.fz (eYd y)] (.fz (.int (y.T : Int)))
theorem ZiH : FnScope ["yard"] ["yard"] (Zab Zc1) := by walk_at "p"
theorem Zm4 (T : Bl mg) (D : Df K mg "turns_of" Zc1 ["yard"]) : Cal P w K mg base "turns_of" ["yard"] 1 (spO (K := K) R_turns) := by
 refine D.ev ZiH (fun ts r h => by cases h; rfl) (fun f cdv A outer s H E ts r hr h => ?_)
 cases h with
 | @mk y =>
   refine ⟨_, (Zah (Zaw (Zax Zan (pv 0) Zai (fun _ _ => rfl)))), ?_⟩
   show EvS K _ [some _] _
   walk_at "x"
   walk_at "ret"
   rfl
inductive R_count : List OT -> OT -> Prop
 | mk {y : Yd} : R_count [.fz (eYd y)] (.fz (.int (y.ls.length : Int)))
theorem ZgL : FnScope ["yard"] ["yard"] (Zab ZbG) := by walk_at "p"
theorem ZmL (T : Bl mg) (D : Df K mg "line_count" ZbG ["yard"]) : Cal P w K mg base "line_count" ["yard"] 1 (spO (K := K) R_count) := by
 refine D.ev ZgL (fun ts r h => by cases h; rfl) (fun f cdv A outer s H E ts r hr h => ?_)
 cases h with
 | @mk y =>
   refine ⟨_, (Zah (Zaw (Za0 Zdu (by rfl) T.len Zdx (Zaa (Zax Zan (pv 0) Zai (fun _ _ => rfl)) Zae)))), ?_⟩
   show EvS K _ [some _] _
   walk_at "x"
   walk_at "ret"
   show _ = _
   rw [List.length_map]
inductive R_above : List OT -> OT -> Prop
 | mk {y : Yd} {k : Int} (ok : y.Ok) (h0 : 0 < k) (h1 : k < (y.ls.length : Int)) : R_above [.fz (eYd y), .fz (.int k)] (.fz (.int (upN y k.toNat : Int)))
 | zero {y : Yd} (ok : y.Ok) : R_above [.fz (eYd y), .fz (.int 0)] (.fz .none)
theorem ZiW : FnScope ["yard", "line"] ["yard", "line"] (Zab Zc0) := by walk_at "p"
theorem Zn1 (T : Bl mg) (D : Df K mg "above_of" Zc0 ["yard", "line"]) : Cal P w K mg base "above_of" ["yard", "line"] 1 (spO (K := K) R_above) := by
 refine D.ev ZiW (fun ts r h => by cases h <;> rfl) (fun f cdv A outer s H E ts r hr h => ?_)
 cases h with
 | @mk y k ok h0 h1 =>
   refine ⟨_, (Zah (Zaw (Zax Zan (Zax Zan (Zax Zan (pv 0) Zai (fun _ _ => rfl)) (pv 1) (fun _ _ => rfl)) Zai (fun _ _ => rfl)))), ?_⟩
   show EvS K _ [some _, some _] _
   walk_at "x"
   walk_at "ret"
   obtain ⟨a, e, l⟩ := ok.ups k.toNat (by omega) (by omega)
   have e2 : (Zfk y k.toNat).up = some a := by rw [<- Zfm (by omega)]; exact e
   show OT.fz (upD (Zfk y k.toNat).up) = _
   rw [e2]
   simp [upN, e, upD]
 | @zero y ok =>
   refine ⟨_, (Zah (Zaw (Zax Zan (Zax Zan (Zax Zan (pv 0) Zai (fun _ _ => rfl)) (pv 1) (fun _ _ => rfl)) Zai (fun _ _ => rfl)))), ?_⟩
   show EvS K _ [some _, some _] _
   walk_at "x"
   have l1 := ok.l1
   walk_at "ret"
   have e2 : (Zfk y 0).up = none := by rw [<- Zfm (by omega)]; exact ok.up0
   show OT.fz (upD (Zfk y 0).up) = _
   rw [e2]
   rfl
inductive R_bound : List OT -> OT -> Prop
 | mk {y : Yd} {k t : Int} (ok : y.Ok) (h0 : 0 <= k) (h1 : k < (y.ls.length : Int)) (h2 : 0 <= t) (h3 : t < (y.T : Int)) : R_bound [.fz (eYd y), .fz (.int k), .fz (.int t)] (.fz (.int (Zbc y k.toNat t.toNat)))
theorem ZiT : FnScope ["yard", "line", "turn"] ["yard", "line", "turn"] (Zab Zc5) := by walk_at "p"
theorem ZnB (T : Bl mg) (D : Df K mg "bound_at" Zc5 ["yard", "line", "turn"]) : Cal P w K mg base "bound_at" ["yard", "line", "turn"] 1 (spO (K := K) R_bound) := by
 refine D.ev ZiT (fun ts r h => by cases h; rfl) (fun f cdv A outer s H E ts r hr h => ?_)
 cases h with
 | @mk y k t ok h0 h1 h2 h3 =>
   refine ⟨_, (Zah (Zaw (Zax Zan (Zax Zan (Zax Zan (Zax Zan (pv 0) Zai (fun _ _ => rfl)) (pv 1) (fun _ _ => rfl)) Zai (fun _ _ => rfl)) (pv 2) (fun _ _ => rfl)))), ?_⟩
   show EvS K _ [some _, some _, some _] _
   walk_at "x"
   have hl : (y.ls.getD k.toNat default).bs.length = y.T := Zgw ok (by omega)
   walk_at "ret"
   show _ = _
   rw [ZdS (by omega)]
   rfl
inductive R_lineof : List OT -> OT -> Prop
 | mk {g : Gs} : R_lineof [.fz (eGs g)] (.fz (.int (g.line : Int)))
theorem Zkj : FnScope ["guest"] ["guest"] (Zab ZcT) := by walk_at "p"
theorem Zmt (T : Bl mg) (D : Df K mg "line_of" ZcT ["guest"]) : Cal P w K mg base "line_of" ["guest"] 1 (spO (K := K) R_lineof) := by
 refine D.ev Zkj (fun ts r h => by cases h; rfl) (fun f cdv A outer s H E ts r hr h => ?_)
 cases h with
 | @mk g =>
   refine ⟨_, (Zah (Zaw (Zax Zan (pv 0) Zai (fun _ _ => rfl)))), ?_⟩
   show EvS K _ [some _] _
   walk_at "x"
   walk_at "ret"
   rfl
inductive R_there : List OT -> OT -> Prop
 | mk {g : Gs} {t : Int} : R_there [.fz (eGs g), .fz (.int t)] (.fz (.bool (Zc7 g t)))
theorem Zi5 : FnScope ["guest", "turn"] ["guest", "turn"] (Zab Zc4) := by walk_at "p"
theorem Znx (T : Bl mg) (D : Df K mg "is_there" Zc4 ["guest", "turn"]) : Cal P w K mg base "is_there" ["guest", "turn"] 1 (spO (K := K) R_there) := by
 refine D.ev Zi5 (fun ts r h => by cases h; rfl) (fun f cdv A outer s H E ts r hr h => ?_)
 cases h with
 | @mk g t =>
   refine ⟨_, (Zah (Zaw (Zno Zkt Zkt (Zax Zan (pv 0) Zai (fun _ _ => rfl)) (pv 1) (Zax Zan (pv 0) Zai (fun _ _ => rfl))))), ?_⟩
   show EvS K _ [some _, some _] _
   walk_at "x"
   walk_at "ret"
   rfl
inductive R_most : List OT -> OT -> Prop
 | mk {g : Gs} : R_most [.fz (eGs g)] (.fz (.int g.most))
theorem Zk0 : FnScope ["guest"] ["guest"] (Zab Zdc) := by walk_at "p"
theorem Zps (T : Bl mg) (D : Df K mg "most_of" Zdc ["guest"]) : Cal P w K mg base "most_of" ["guest"] 1 (spO (K := K) R_most) := by
 refine D.ev Zk0 (fun ts r h => by cases h; rfl) (fun f cdv A outer s H E ts r hr h => ?_)
 cases h with
 | @mk g =>
   refine ⟨_, (Zah (Zaw (Zax Zan (pv 0) Zai (fun _ _ => rfl)))), ?_⟩
   show EvS K _ [some _] _
   walk_at "x"
   walk_at "ret"
   rfl
inductive R_want : List OT -> OT -> Prop
 | mk {g : Gs} : R_want [.fz (eGs g)] (.fz (.int g.want))
theorem Zkn : FnScope ["guest"] ["guest"] (Zab ZcY) := by walk_at "p"
theorem Zpp (T : Bl mg) (D : Df K mg "want_of" ZcY ["guest"]) : Cal P w K mg base "want_of" ["guest"] 1 (spO (K := K) R_want) := by
 refine D.ev Zkn (fun ts r h => by cases h; rfl) (fun f cdv A outer s H E ts r hr h => ?_)
 cases h with
 | @mk g =>
   refine ⟨_, (Zah (Zaw (Zax Zan (pv 0) Zai (fun _ _ => rfl)))), ?_⟩
   show EvS K _ [some _] _
   walk_at "x"
   walk_at "ret"
   rfl
structure SetOk (gs : List Gs) (some : List Nat) : Prop where
 mem : ∀ k ∈ some, k < gs.length
 len : some.length <= 8
def ZdN (gs : List Gs) (t : Nat) (sm : List Nat) : Nat -> Int := fun l => Zb1 gs (t : Int) l sm
def ZfZ (y : Yd) (gs : List Gs) (sm : List Nat) (t : Nat) : List Int := (List.range y.ls.length).map fun l => Zd2 y (fun k => Zbc y k t) (ZdN gs t sm) l
inductive R_reaching : List OT -> OT -> Prop
 | mk {y : Yd} {gs : List Gs} {sm : List Nat} {t : Int} (ok : y.Ok) (hg : ∀ g ∈ gs, g.Ok y) (hs : SetOk gs sm) (h0 : 0 <= t) (h1 : t < (y.T : Int)) :
  R_reaching [.fz (eYd y), .fz (.list (gs.map eGs)), .fz (.list (Zbf sm)), .fz (.int t)] (.ol ((ZfZ y gs sm t.toNat).map PyData.int))
theorem ZgH {n j : Nat} {f g : Nat -> Int} (hj : j < n) (e1 : ∀ l, l < n -> l ≠ j -> g l = f l) {v : Int} (e2 : g j = v) :
 (((List.range n).map fun l => PyData.int (f l)).set j (.int v)) = (List.range n).map fun l => PyData.int (g l) := by
 apply List.ext_getElem?
 intro i
 by_cases hi : i = j
 ·subst hi
  rw [List.getElem?_set_self (by simpa using hj)]
  simp [hj, e2]
 ·rw [List.getElem?_set_ne (Ne.symm hi)]
  by_cases h : i < n
  ·simp [h, e1 i h hi]
  ·simp [h]
theorem ZbT : FnScope ["yard", "guests", "some", "turn", "reaching", "number", "guest", "line"] ["yard", "guests", "some", "turn"] (Zab ZaU) := by walk_at "p"
theorem ZiN (T : Bl mg) (D : Df K mg "reaching_at" ZaU ["yard", "guests", "some", "turn"]) (c_line_count : Cal P w K mg base "line_count" ["yard"] 1 (spO (K := K) R_count)) (c_is_there : Cal P w K mg base "is_there" ["guest", "turn"] 1 (spO (K := K) R_there))
 (c_line_of : Cal P w K mg base "line_of" ["guest"] 1 (spO (K := K) R_lineof)) (c_most_of : Cal P w K mg base "most_of" ["guest"] 1 (spO (K := K) R_most)) (c_above_of : Cal P w K mg base "above_of" ["yard", "line"] 1 (spO (K := K) R_above))
 (c_bound_at : Cal P w K mg base "bound_at" ["yard", "line", "turn"] 1 (spO (K := K) R_bound)) : Cal P w K mg base "reaching_at" ["yard", "guests", "some", "turn"] 2 (spO (K := K) R_reaching) := by
 refine D.ev ZbT (fun ts r h => by cases h; rfl) (fun f cdv A outer s H E ts r hr h => ?_)
 cases h with
 | @mk y gs sm t ok hg hs h0 h1 =>
   refine ⟨_, (Zad (ZdU (i := 4) ZbT.nd rfl rfl (NX := ["yard", "guests", "some", "turn", "reaching", "number", "guest", "line"]) (sc := Zab ZaU) (N := ["line"]) (f := [none]) rfl (by decide +kernel) rfl rfl (Zbl rfl T.range (Zaa (Zap c_line_count hr (Zaa (pv 0) Zae) (hj := by walk_at "j")) Zae)) (fun _ => (Zam (i := 0) (show (["line"] : List Str).Nodup by decide +kernel) rfl (Or.inl rfl))) (fun _ => Zbk) (fun _ => ZbQ) (fun _ => Zai) rfl)
 (Zad (ZbB PassesOwn.never rfl (ZaV (pv 2)) (Zam (i := 5) ZbT.nd rfl (Or.inl rfl)) (Zad (Zaq (i := 6) ZbT.nd rfl (Or.inl rfl) (Zax Zan (pv 1) (pv 5) (fun _ _ => rfl)))
 (Zah (Zea (Zlh (Zap c_is_there hr (Zaa (pv 6) (Zaa (pv 3) Zae)) (hj := by walk_at "j"))) (Zah (ZgJ (pv 4) (Zap c_line_of hr (Zaa (pv 6) Zae) (hj := by walk_at "j")) Zfh (Zap c_most_of hr (Zaa (pv 6) Zae) (hj := by walk_at "j")) Zmp Zd4)) ZbZ))))
 (Zad (ZbB PassesOwn.never rfl (Zhe rfl T.range (Zaa (Zau Zh0 (Zap c_line_count hr (Zaa (pv 0) Zae) (hj := by walk_at "j")) Zai) (Zaa Zai (Zaa (Zoz ZlA Zai) Zae)))) (Zam (i := 7) ZbT.nd rfl (Or.inl rfl)) (Zah (ZgJ (pv 4) (Zap c_above_of hr (Zaa (pv 0) (Zaa (pv 7) Zae)) (hj := by walk_at "j")) Zfh (Za0 (Zj2 rfl) (by rfl) T.min ZhL (Zaa (Zax Zan (pv 4) (pv 7) (fun _ _ => rfl)) (Zaa (Zap c_bound_at hr (Zaa (pv 0) (Zaa (pv 7) (Zaa (pv 3) Zae))) (hj := by walk_at "j")) Zae))) Zmp Zd4)))
 (Zah (Zaw (pv 4)))))), ?_⟩
   show EvS K _ [some _, some _, some _, some _, none, none, none, none] _
   walk_at "x"
   have l1 := ok.l1
   have l5 := ok.l5
   have n8 := hs.len
   refine Zar (ZcF (Zoe (lo := 0) (n := y.ls.length) (h := fun _ => .int 0) ?ei (by omega) ?el) ?_)
   case ei => walk_at "eir"
   case el =>
    intro x hx c
    exact ⟨_, by walk_at "g", by walk_at "ev"⟩
   walk_at "d"
   refine Zar (ZbC (fun i => [some (.fz (eYd y)), some (.fz (.list (gs.map eGs))), some (.fz (.list (Zbf sm))), some (.fz (.int t)), some (.ol ((List.range y.ls.length).map fun l => PyData.int (Zb1 gs t l (sm.take i)))), none, none, none]) (by walk_at "ei") ⟨rfl, rfl, rfl, rfl, rfl, trivial⟩ ?st ?fin)
   case st =>
    intro i d hd
    have hi : i < sm.length := by
     have := (List.getElem?_eq_some_iff.mp hd).1
     simpa [Zbf] using this
    obtain rfl : d = .int ((sm[i] : Nat) : Int) := by simpa [Zbf, hi] using hd.symm
    have hk : sm[i] < gs.length := hs.mem _ (List.getElem_mem hi)
    refine ⟨_, by walk_at "g", ?_⟩
    walk_at "d"
    walk_at "s1"
    have eg : gs.getD ((sm[i] : Nat) : Int).toNat default = gs[sm[i]] := by simp [hk]
    rw [eg]
    have gok := hg gs[sm[i]] (List.getElem_mem hk)
    have gl := gok.ln
    have tk : sm.take (i + 1) = sm.take i ++ [sm[i]] := by rw [List.take_succ]; simp [hi]
    refine ZhD (by walk_at "et") (fun c => ?_) (fun c => ?_)
    ·refine Zlv (m := Zb1 gs t gs[sm[i]].line (sm.take i)) rfl (by walk_at "ev") (by omega) ?_ (by walk_at "ev") ?_
     ·simp [gl]
     ·walk_at "d"
      refine ⟨rfl, rfl, rfl, rfl, ?_, trivial⟩
      rw [Int.toNat_natCast]
      congr 2
      refine ZgH gl (fun l hl hn => ?_) ?_
      ·rw [tk, ZbL]
       simp [Zb1, hk, Ne.symm hn]
      ·rw [tk, ZbL]
       simp [Zb1, hk, c]
    ·refine Zcd ⟨rfl, rfl, rfl, rfl, ?_, trivial⟩
     refine congrArg (fun z => some (OT.ol z)) (List.map_congr_left fun l _ => ?_)
     rw [tk, ZbL]
     simp [Zb1, hk, c]
   case fin =>
    intro ρ' hf
    refine ZcW hf ?_
    have el : (Zbf sm).length = sm.length := by simp [Zbf]
    rw [el, List.take_length]
    refine Zar (ZbC (fun i => [some (.fz (eYd y)), some (.fz (.list (gs.map eGs))), some (.fz (.list (Zbf sm))), some (.fz (.int t)), some (.ol ((List.range y.ls.length).map fun l => PyData.int (ZaK y (fun k => Zbc y k t.toNat) (fun l => Zb1 gs t l sm) i l))), none, none, none]) (by walk_at "ei") ⟨rfl, rfl, rfl, rfl, rfl, trivial⟩ ?st2 ?fin2)
    case st2 =>
     intro i d hd
     obtain ⟨hi, rfl⟩ := Zg7 hd
     have hi2 : i < y.ls.length - 1 := by omega
     refine ⟨_, by walk_at "g", ?_⟩
     walk_at "d"
     have ej : ((y.ls.length : Int) - 1 - (i : Int)).toNat = y.ls.length - 1 - i := by omega
     obtain ⟨a, ea, la⟩ := ok.ups (y.ls.length - 1 - i) (by omega) (by omega)
     have un : upN y ((y.ls.length : Int) - 1 - (i : Int)).toNat = a := by rw [ej]; simp [upN, ea]
     refine Zlv (m := ZaK y (fun k => Zbc y k t.toNat) (fun l => Zb1 gs t l sm) i a) rfl (by walk_at "ev") (by omega) ?_ (by walk_at "ev") ?_
     ·rw [un, Int.toNat_natCast]
      have : a < y.ls.length := by omega
      simp [this]
     ·walk_at "d"
      refine ⟨rfl, rfl, rfl, rfl, ?_, trivial⟩
      rw [un, Int.toNat_natCast]
      refine congrArg (fun z => some (OT.ol z)) (ZgH (by omega) (fun l hl hn => ?_) ?_)
      ·simp only [ZaK, ZeJ]
       rw [ea, if_neg (by simpa using fun z => hn z.symm)]
       omega
      ·simp only [ZaK, ZeJ]
       rw [ea, if_pos rfl, ej]
    case fin2 =>
     intro ρ' hf
     refine ZcW hf ?_
     walk_at "ret"
     show _ = _
     have e2 : (ZmS ((y.ls.length : Int) - 1) ((y.ls.length : Int) - 1 - 0).toNat).length = y.ls.length - 1 := by rw [ZgN]; omega
     rw [e2]
     unfold ZfZ Zd2 ZdN
     rw [Int.toNat_of_nonneg h0, List.map_map]
     rfl
theorem ZjQ (y : Yd) (gs : List Gs) (sm : List Nat) (t : Nat) : (ZfZ y gs sm t).length = y.ls.length := by simp [ZfZ]
theorem Zlb {y : Yd} {gs : List Gs} {sm : List Nat} {t l : Nat} (h : l < y.ls.length) : (ZfZ y gs sm t).getD l 0 = Zd2 y (fun k => Zbc y k t) (ZdN gs t sm) l := by simp [ZfZ, List.getD, h]
def Zcf (y : Yd) (gs : List Gs) (sm : List Nat) (t : Nat) : Int := ZaJ y (fun k => Zbc y k t) (ZdN gs t sm) 0
def ZaA (y : Yd) (gs : List Gs) (sm : List Nat) : Int := ((List.range y.T).map fun t => Zcf y gs sm t).sum
def ZjT (f : Nat -> Int) (i : Nat) : Int := ((List.range i).map f).sum
theorem Zk4 (f : Nat -> Int) (i : Nat) : ZjT f (i + 1) = ZjT f i + f i := by simp [ZjT, List.range_succ]
theorem ZoF (y : Yd) (gs : List Gs) (t : Nat) : ZdN gs t [] = fun _ => 0 := rfl
theorem Zgo {y : Yd} (ok : y.Ok) (t : Nat) : ∀ i l, ZaK y (fun k => Zbc y k t) (fun _ => 0) i l = 0
 | 0, l => rfl
 | i + 1, l => by
   have b0 : ∀ k, 0 <= Zbc y k t := fun k => by
    unfold Zbc
    cases e : y.ls[k]? with
    | none => simp
    | some ln =>
      have := ok.bb ln (List.mem_of_getElem? e)
      simp only [Option.map_some, Option.getD_some]
      by_cases h : t < ln.bs.length
      ·have h2 := this (ln.bs[t]) (List.getElem_mem h)
       simp only [List.getD, List.getElem?_eq_getElem h, Option.getD_some]
       exact h2.1
      ·simp [List.getD, h]
   simp only [ZaK, ZeJ, Zgo ok t i]
   have := b0 (y.ls.length - 1 - i)
   split <;> omega
theorem ZqI {y : Yd} (ok : y.Ok) (k t : Nat) : 0 <= Zbc y k t := by
 unfold Zbc
 cases e : y.ls[k]? with
 | none => simp
 | some ln =>
   have := ok.bb ln (List.mem_of_getElem? e)
   simp only [Option.map_some, Option.getD_some]
   by_cases h : t < ln.bs.length
   ·have h2 := this (ln.bs[t]) (List.getElem_mem h)
    simp only [List.getD, List.getElem?_eq_getElem h, Option.getD_some]
    exact h2.1
   ·simp [List.getD, h]
theorem Ze8 {y : Yd} (ok : y.Ok) (gs : List Gs) : ZaA y gs [] = 0 := by
 have g0 : ∀ t, Zcf y gs [] t = 0 := fun t => by
  unfold Zcf ZaJ Zd2
  rw [ZoF y, Zgo ok]
  have := ZqI ok 0 t
  dsimp only
  omega
 unfold ZaA
 rw [Zbi, Zaj (g := fun _ => 0) fun t _ => g0 t, ZaB]
inductive R_given : List OT -> OT -> Prop
 | mk {y : Yd} {gs : List Gs} {sm : List Nat} {t : Int} (ok : y.Ok) (hg : ∀ g ∈ gs, g.Ok y) (hs : SetOk gs sm) (h0 : 0 <= t) (h1 : t < (y.T : Int)) :
  R_given [.fz (eYd y), .fz (.list (gs.map eGs)), .fz (.list (Zbf sm)), .fz (.int t)] (.fz (.int (Zcf y gs sm t.toNat)))
theorem Zi1 : FnScope ["yard", "guests", "some", "turn"] ["yard", "guests", "some", "turn"] (Zab Zc3) := by walk_at "p"
theorem Znj (T : Bl mg) (D : Df K mg "given_at" Zc3 ["yard", "guests", "some", "turn"]) (c_reaching_at : Cal P w K mg base "reaching_at" ["yard", "guests", "some", "turn"] 2 (spO (K := K) R_reaching)) (c_bound_at : Cal P w K mg base "bound_at" ["yard", "line", "turn"] 1 (spO (K := K) R_bound)) :
 Cal P w K mg base "given_at" ["yard", "guests", "some", "turn"] 3 (spO (K := K) R_given) := by
 refine D.ev Zi1 (fun ts r h => by cases h; rfl) (fun f cdv A outer s H E ts r hr h => ?_)
 cases h with
 | @mk y gs sm t ok hg hs h0 h1 =>
   refine ⟨_, (Zah (Zaw (Za0 (Zj2 rfl) (by rfl) T.min ZhL (Zaa (Zax Zan (Zap c_reaching_at hr (Zaa (pv 0) (Zaa (pv 1) (Zaa (pv 2) (Zaa (pv 3) Zae)))) (hj := by walk_at "j")) Zai (fun _ _ => rfl)) (Zaa (Zap c_bound_at hr (Zaa (pv 0) (Zaa Zai (Zaa (pv 3) Zae))) (hj := by walk_at "j")) Zae))))), ?_⟩
   show EvS K _ [some _, some _, some _, some _] _
   walk_at "x"
   have l1 := ok.l1
   have rl := ZjQ y gs sm t.toNat
   walk_at "ret"
   show _ = _
   rw [show (0 : Int).toNat = 0 from rfl, Zlb (by omega)]
   rfl
inductive R_givenm : List OT -> OT -> Prop
 | mk {y : Yd} {gs : List Gs} {sm : List Nat} (ok : y.Ok) (hg : ∀ g ∈ gs, g.Ok y) (hs : SetOk gs sm) :
  R_givenm [.fz (eYd y), .fz (.list (gs.map eGs)), .fz (.list (Zbf sm))] (.fz (.int (ZaA y gs sm)))
theorem ZgD : FnScope ["yard", "guests", "some"] ["yard", "guests", "some"] (Zab Zbm) := by walk_at "p"
theorem ZlI (T : Bl mg) (D : Df K mg "given_most" Zbm ["yard", "guests", "some"]) (c_turns_of : Cal P w K mg base "turns_of" ["yard"] 1 (spO (K := K) R_turns)) (c_given_at : Cal P w K mg base "given_at" ["yard", "guests", "some", "turn"] 3 (spO (K := K) R_given)) :
 Cal P w K mg base "given_most" ["yard", "guests", "some"] 4 (spO (K := K) R_givenm) := by
 refine D.ev ZgD (fun ts r h => by cases h; rfl) (fun f cdv A outer s H E ts r hr h => ?_)
 cases h with
 | @mk y gs sm ok hg hs =>
   refine ⟨_, (Zah (Zaw (Za0 Zjt (by rfl) T.sum Zja (Zaa (ZeO (NX := ["yard", "guests", "some"]) (sc := Zab Zbm) (N := ["turn", "yard", "guests", "some"]) (f := [none, some 0, some 1, some 2]) rfl (by decide +kernel) rfl rfl (Zbl rfl T.range (Zaa (Zap c_turns_of hr (Zaa (pv 0) Zae) (hj := by walk_at "j")) Zae)) (fun _ => (Zam (i := 0) (show (["turn", "yard", "guests", "some"] : List Str).Nodup by decide +kernel) rfl (Or.inl rfl))) (fun _ => Zbk) (fun _ => ZbQ) (fun _ => (Zap c_given_at hr (Zaa (pv 1) (Zaa (pv 2) (Zaa (pv 3) (Zaa (pv 0) Zae)))) (hj := by walk_at "j")))) Zae)))), ?_⟩
   show EvS K _ [some _, some _, some _] _
   walk_at "x"
   have t8 := ok.t8
   refine Zcl (Zjh (ns := (List.range y.T).map fun t => Zcf y gs sm t) ?_ rfl) rfl
   refine EvO.fz ?_
   rw [List.map_map]
   refine Zoe (lo := 0) (n := y.T) ?_ (by omega) ?_
   ·walk_at "eir"
   ·intro x hx c
    refine ⟨_, by walk_at "g", ?_⟩
    walk_at "e"
    rw [Int.zero_add]
    have h : R_given [.fz (eYd y), .fz (.list (gs.map eGs)), .fz (.list (Zbf sm)), .fz (.int (x : Int))] (.fz (.int (Zcf y gs sm x))) := R_given.mk (t := (x : Int)) ok hg hs (by omega) (by omega)
    exact Za3 (by walk_at "ea") h
def Zep (l : Ln) (k : Int) : Ln := ⟨l.up, l.bs.map fun b => b * k⟩
def ZaD (y : Yd) (k : Int) : Yd := ⟨y.T, y.ls.map fun l => Zep l k⟩
def ZdK (g : Gs) (k : Int) : Gs := ⟨g.line, g.first, g.last, g.want * k, g.most * k⟩
theorem ZkB {y : Yd} (ok : y.Ok) {k : Int} (h0 : 0 <= k) (hb : ∀ l ∈ y.ls, ∀ b ∈ l.bs, b * k < 10 ^ 300) : (ZaD y k).Ok := by
 have hu : ∀ j, Zcx (ZaD y k) j = Zcx y j := fun j => by
  simp only [Zcx, ZaD, List.getElem?_map]
  cases y.ls[j]? <;> rfl
 refine ⟨ok.t1, ok.t8, by simpa [ZaD] using ok.l1, by simpa [ZaD] using ok.l5, by rw [hu]; exact ok.up0, fun j h1 h2 => ?_, fun l hl => ?_, fun l hl b hb' => ?_⟩
 ·rw [hu]
  exact ok.ups j h1 (by simpa [ZaD] using h2)
 ·simp only [ZaD, List.mem_map] at hl
  obtain ⟨l0, h1, rfl⟩ := hl
  simpa [Zep, ZaD] using ok.bl l0 h1
 ·simp only [ZaD, List.mem_map] at hl
  obtain ⟨l0, h1, rfl⟩ := hl
  simp only [Zep, List.mem_map] at hb'
  obtain ⟨b0, h2, rfl⟩ := hb'
  exact ⟨Int.mul_nonneg (ok.bb l0 h1 b0 h2).1 h0, hb l0 h1 b0 h2⟩
inductive R_lntimes : List OT -> OT -> Prop
 | mk {l : Ln} {k : Int} (hb : ∀ b ∈ l.bs, IntMulOk b k) (hl : l.bs.length <= 8) : R_lntimes [.fz (eLn l), .fz (.int k)] (.fz (eLn (Zep l k)))
theorem Zg2 : FnScope ["line", "k"] ["line", "k"] (Zab Zbq) := by walk_at "p"
theorem Zkg (T : Bl mg) (D : Df K mg "line_times" Zbq ["line", "k"]) : Cal P w K mg base "line_times" ["line", "k"] 1 (spO (K := K) R_lntimes) := by
 refine D.ev Zg2 (fun ts r h => by cases h; rfl) (fun f cdv A outer s H E ts r hr h => ?_)
 cases h with
 | @mk l k hb hl =>
   refine ⟨_, (Zah (Zaw (Zcy (Zaa (Zax Zan (pv 0) Zai (fun _ _ => rfl)) (Zaa (ZdI Zfj (by rfl) T.tuple Zfi (Zaa (ZeO (NX := ["line", "k"]) (sc := Zab Zbq) (N := ["bound", "k"]) (f := [none, some 1]) rfl (by decide +kernel) rfl rfl (ZlY (Zax Zan (pv 0) Zai (fun _ _ => rfl))) (fun _ => (Zam (i := 0) (show (["bound", "k"] : List Str).Nodup by decide +kernel) rfl (Or.inl rfl))) (fun _ => Zbk) (fun _ => ZbQ) (fun _ => (Zau ZcV (pv 0) (pv 1)))) Zae)) Zae))))), ?_⟩
   show EvS K _ [some _, some _] _
   walk_at "x"
   refine Zcl (Zec (ZaS (by walk_at "ev") (ZaS (ZlB (EvO.fz (Zel (xs := l.bs) (enc := PyData.int) (h := fun b => .int (b * k)) ?ei (by omega) ?el))) ZaO)) (Nat.le_of_ble_eq_true rfl)) ?_
   case ei => walk_at "ei"
   case el =>
    intro x hx c
    have hm := hb x hx
    refine ⟨_, by walk_at "g", ?_⟩
    walk_at "e"
    walk_at "ev"
   show _ = _
   unfold eLn Zep
   rw [List.map_map]
   rfl
inductive R_ydtimes : List OT -> OT -> Prop
 | mk {y : Yd} {k : Int} (hb : ∀ l ∈ y.ls, ∀ b ∈ l.bs, IntMulOk b k) (hl : ∀ l ∈ y.ls, l.bs.length <= 8) (h5 : y.ls.length <= 5) : R_ydtimes [.fz (eYd y), .fz (.int k)] (.fz (eYd (ZaD y k)))
theorem ZgP : FnScope ["yard", "k"] ["yard", "k"] (Zab Zbp) := by walk_at "p"
theorem Zkl (T : Bl mg) (D : Df K mg "yard_times" Zbp ["yard", "k"]) (c_line_times : Cal P w K mg base "line_times" ["line", "k"] 1 (spO (K := K) R_lntimes)) : Cal P w K mg base "yard_times" ["yard", "k"] 2 (spO (K := K) R_ydtimes) := by
 refine D.ev ZgP (fun ts r h => by cases h; rfl) (fun f cdv A outer s H E ts r hr h => ?_)
 cases h with
 | @mk y k hb hl h5 =>
   refine ⟨_, (Zah (Zaw (Zcy (Zaa (Zax Zan (pv 0) Zai (fun _ _ => rfl)) (Zaa (ZdI Zfj (by rfl) T.tuple Zfi (Zaa (ZeO (NX := ["yard", "k"]) (sc := Zab Zbp) (N := ["line", "k"]) (f := [none, some 1]) rfl (by decide +kernel) rfl rfl (ZlY (Zax Zan (pv 0) Zai (fun _ _ => rfl))) (fun _ => (Zam (i := 0) (show (["line", "k"] : List Str).Nodup by decide +kernel) rfl (Or.inl rfl))) (fun _ => Zbk) (fun _ => ZbQ) (fun _ => (Zap c_line_times hr (Zaa (pv 0) (Zaa (pv 1) Zae)) (hj := by walk_at "j")))) Zae)) Zae))))), ?_⟩
   show EvS K _ [some _, some _] _
   walk_at "x"
   refine Zcl (Zec (ZaS (by walk_at "ev") (ZaS (ZlB (EvO.fz (Zel (xs := y.ls) (enc := eLn) (h := fun l => eLn (Zep l k)) ?ei (by omega) ?el))) ZaO)) (Nat.le_of_ble_eq_true rfl)) ?_
   case ei => walk_at "ei"
   case el =>
    intro x hx c
    have hm := hb x hx
    have hn := hl x hx
    refine ⟨_, by walk_at "g", ?_⟩
    walk_at "e"
    walk_at "ev"
   show _ = _
   unfold eYd ZaD
   rw [List.map_map]
   rfl
inductive R_gstimes : List OT -> OT -> Prop
 | mk {g : Gs} {k : Int} (hw : IntMulOk g.want k) (hm : IntMulOk g.most k) : R_gstimes [.fz (eGs g), .fz (.int k)] (.fz (eGs (ZdK g k)))
theorem ZfQ : FnScope ["guest", "k"] ["guest", "k"] (Zab Zb4) := by walk_at "p"
theorem Zk1 (T : Bl mg) (D : Df K mg "guest_times" Zb4 ["guest", "k"]) : Cal P w K mg base "guest_times" ["guest", "k"] 1 (spO (K := K) R_gstimes) := by
 refine D.ev ZfQ (fun ts r h => by cases h; rfl) (fun f cdv A outer s H E ts r hr h => ?_)
 cases h with
 | @mk g k hw hm =>
   refine ⟨_, (Zah (Zaw (Zcy (Zaa (Zax Zan (pv 0) Zai (fun _ _ => rfl)) (Zaa (Zax Zan (pv 0) Zai (fun _ _ => rfl)) (Zaa (Zax Zan (pv 0) Zai (fun _ _ => rfl)) (Zaa (Zau ZcV (Zax Zan (pv 0) Zai (fun _ _ => rfl)) (pv 1)) (Zaa (Zau ZcV (Zax Zan (pv 0) Zai (fun _ _ => rfl)) (pv 1)) Zae)))))))), ?_⟩
   show EvS K _ [some _, some _] _
   walk_at "x"
   walk_at "ret"
   rfl
inductive R_gsstimes : List OT -> OT -> Prop
 | mk {gs : List Gs} {k : Int} (hw : ∀ g ∈ gs, IntMulOk g.want k /\ IntMulOk g.most k) (h8 : gs.length <= 8) : R_gsstimes [.fz (.list (gs.map eGs)), .fz (.int k)] (.ol ((gs.map fun g => ZdK g k).map eGs))
theorem Zf9 : FnScope ["guests", "k"] ["guests", "k"] (Zab ZaG) := by walk_at "p"
theorem ZiC (T : Bl mg) (D : Df K mg "guests_times" ZaG ["guests", "k"]) (c_guest_times : Cal P w K mg base "guest_times" ["guest", "k"] 1 (spO (K := K) R_gstimes)) : Cal P w K mg base "guests_times" ["guests", "k"] 2 (spO (K := K) R_gsstimes) := by
 refine D.ev Zf9 (fun ts r h => by cases h; rfl) (fun f cdv A outer s H E ts r hr h => ?_)
 cases h with
 | @mk gs k hw h8 =>
   refine ⟨_, (Zah (Zaw (ZeO (NX := ["guests", "k"]) (sc := Zab ZaG) (N := ["guest", "k"]) (f := [none, some 1]) rfl (by decide +kernel) rfl rfl (ZaV (pv 0)) (fun _ => (Zam (i := 0) (show (["guest", "k"] : List Str).Nodup by decide +kernel) rfl (Or.inl rfl))) (fun _ => Zbk) (fun _ => ZbQ) (fun _ => (Zap c_guest_times hr (Zaa (pv 0) (Zaa (pv 1) Zae)) (hj := by walk_at "j")))))), ?_⟩
   show EvS K _ [some _, some _] _
   walk_at "x"
   refine Zgp (Zel (xs := gs) (enc := eGs) (h := fun g => eGs (ZdK g k)) ?ei (by omega) ?el) ?_
   case ei => walk_at "ei"
   case el =>
    intro x hx c
    have h1 := (hw x hx).1
    have h2 := (hw x hx).2
    refine ⟨_, by walk_at "g", ?_⟩
    walk_at "e"
    walk_at "ev"
   show _ = _
   rw [List.map_map]
   rfl
theorem Zg9 : NoF "lay" := fun _ _ _ _ => rfl
theorem ZiY : NoF "lay_one" := fun _ _ _ _ => rfl
theorem Zf0 : NoF "reached" := fun _ _ _ _ => rfl
theorem Zm7 : NoF "push" := fun _ _ _ _ => rfl
theorem Zns : NoF "fill" := fun _ _ _ _ => rfl
theorem ZpL : NoF "way_to" := fun _ _ _ _ => rfl
theorem Zfo : FnScope ["self"] ["self"] (Zab Zb8) := by walk_at "p"
theorem Zqj {f : Addr} {fd : FuncData} (T : Bl mg) (U : Tx K mg C gS gE) (F : Fun K "__init__" "Net.__init__" Zb8 f fd) : FnOk P w K mg base CX0 1 f fd ["self"] (spI P w C) := by
 refine F.ok Zfo (fun vs H Q E ⟨x, dx, e, _⟩ => by rw [e]; rfl) fun cdv A outer s H vs Q E hr ⟨x, dx, e, hx, q⟩ => ?_
 subst e
 refine ⟨_, (Zad (ZjG (pv 0) (Zct Zae) rfl)
 (Zad (ZjG (pv 0) (Zct Zae) rfl)
 (Zad (ZjG (pv 0) Znl rfl)
 (Zah (ZjG (pv 0) Znp rfl))))), ?_⟩
 refine ⟨Nat.zero_le _, fun e he => ⟨_, rfl, x, C, dx, [], rfl, ?_, U.net.cl, U.net.ends, by decide, ?_⟩⟩
 ·rw [Zag (Zat hx he)]; exact hx
 have xe : x ≠ e := Zat hx he
 refine ⟨Nat.zero_le _, fun r hr' => ⟨_, rfl, x, C, dx, [("ends", .ref e)], rfl, ?_, U.net.cl, U.net.rooms, (by show (1 : Nat) < 1000; decide), ?_⟩⟩
 ·have xr : x ≠ r := Zat Zak hr'
  rw [Zag xr, Zak]
  rfl
 have xr : x ≠ r := Zat Zak hr'
 have rr : upd H e (.lst []) r = none := by rw [Zag (Ne.symm xr)] at hr'; exact hr'
 have er : e ≠ r := Zat Zak rr
 have r0 : H r = none := by rw [Zag (Ne.symm er)] at rr; exact rr
 refine fun l hl => ⟨_, rfl, x, C, dx, [("ends", .ref e), ("rooms", .ref r)], rfl, ?_, U.net.cl, U.net.leav, (by show (2 : Nat) < 1000; decide), ?_⟩
 ·have xl : x ≠ l := Zat Zak hl
  rw [Zag xl, Zak]
  rfl
 have xl : x ≠ l := Zat Zak hl
 rw [Zag (Ne.symm xl)] at hl
 have rl : r ≠ l := Zat Zak hl
 rw [Zag (Ne.symm rl), Zag (Ne.symm xl)] at hl
 have el : e ≠ l := Zat Zak hl
 rw [Zag (Ne.symm el)] at hl
 refine fun d hd => ⟨_, rfl, x, C, dx, [("ends", .ref e), ("rooms", .ref r), ("leaving", .ref l)], rfl, ?_, U.net.cl, U.net.laid, (by show (3 : Nat) < 1000; decide), ?_⟩
 ·have xd : x ≠ d := Zat Zak hd
  rw [Zag xd, Zak]
  rfl
 have xd : x ≠ d := Zat Zak hd
 rw [Zag (Ne.symm xd)] at hd
 have ld : l ≠ d := Zat Zak hd
 rw [Zag (Ne.symm ld), Zag (Ne.symm xd)] at hd
 have rd : r ≠ d := Zat Zak hd
 rw [Zag (Ne.symm rd), Zag (Ne.symm xd)] at hd
 have ed : e ≠ d := Zat Zak hd
 rw [Zag (Ne.symm ed)] at hd
 refine q e r l d _ he r0 hl hd ?_ ?_ ?_ ?_ ?_ ?_ (fun b hb => ?_)
 ·simp only [List.nodup_cons, List.mem_cons, List.not_mem_nil, or_false, not_or, not_false_eq_true, List.nodup_nil, and_true]
  exact ⟨⟨xe, xr, xl, xd⟩, ⟨er, el, ed⟩, ⟨rl, rd⟩, ld⟩
 ·rw [Zak]; rfl
 ·rw [Zag (Ne.symm xe), Zag ed, Zag (Ne.symm xe), Zag el, Zag (Ne.symm xe), Zag er, Zag (Ne.symm xe), Zak]
 ·rw [Zag (Ne.symm xr), Zag rd, Zag (Ne.symm xr), Zag rl, Zag (Ne.symm xr), Zak]
 ·rw [Zag (Ne.symm xl), Zag ld, Zag (Ne.symm xl), Zak]
 ·rw [Zag (Ne.symm xd), Zak]; rfl
 ·simp only [List.mem_cons, List.not_mem_nil, or_false, not_or] at hb
  obtain ⟨b1, b2, b3, b4, b5⟩ := hb
  rw [Zag b1, Zag b5, Zag b1, Zag b4, Zag b1, Zag b3, Zag b1, Zag b2]
inductive R_lay1 : NetS -> List OT -> (NetS -> Prop) -> Prop
 | mk {N : NetS} {s e : List Key} {r : Int} (h1 : N.ends.length < 900) (h2 : N.rooms.length < 900) (h3 : N.leav.length < 900) (h4 : ∀ k ns, Zb6 N.leav k = some ns -> ns.length < 900) : R_lay1 N [.fz (Zck s), .fz (Zck e), .fz (.int r)] (fun N' => N' = ZpP N s e r)
theorem ZfU : FnScope ["self", "start", "end", "room"] ["self", "start", "end", "room"] (Zab Zbu) := by walk_at "p"
theorem Zo9 (T : Bl mg) (U : Tx K mg C gS gE) (D : Mf K C "lay_one" "Net.lay_one" Zbu ["self", "start", "end", "room"]) : ZhG P w K mg base C "lay_one" ["self", "start", "end", "room"] 1 (spN K P w C R_lay1) := by
 refine D.evN ZfU (fun M ts Ψ h => by cases h; rfl) (fun f cdv A outer s H E v M ts Ψ hr h => ?_)
 cases h with
 | @mk s' e r h1 h2 h3 h4 =>
   refine ⟨_, (Zad (Zbj (ZfP PySem.F.plainAttrs_list PySem.F.slot_list_append PySem.F.type_list_append ZbW (ZmX (ZgX hr) (ZcU (pv 0) rfl) (pv 1) (Zct Zae) ⟨rfl, rfl, rfl, rfl⟩) (Zaa (Za0 Zdu (by rfl) T.len Zdx (Zaa (ZcU (pv 0) rfl) Zae)) Zae)))
 (Zad (Zbj (ZfP PySem.F.plainAttrs_list PySem.F.slot_list_append PySem.F.type_list_append ZbW (ZcU (pv 0) rfl) (Zaa (pv 2) Zae)))
 (Zah (Zbj (ZfP PySem.F.plainAttrs_list PySem.F.slot_list_append PySem.F.type_list_append ZbW (ZcU (pv 0) rfl) (Zaa (pv 3) Zae)))))), ?_⟩
   show EvS K _ [some _, some _, some _, some _] _
   walk_at "x"
   refine Zar (Zk3 (N := M) (n := (M.ends.length : Int)) U.net rfl (Zac rfl) (by omega) (fun ns hns => ?_) (Zhi (N := { M with leav := ZhX M.leav s' }) U.net rfl) ?_)
   ·rw [ZgR, if_pos rfl] at hns
    cases hns
    cases z : Zb6 M.leav s' with
    | none => decide
    | some ms => have := h4 s' ms z; show ms.length < 1000; omega
   walk_at "d"
   refine Zar (ZjS U.net rfl (Zac rfl) (show M.ends.length < 1000 by omega) ?_)
   walk_at "d"
   refine Zkf U.net rfl (Zac rfl) (show M.rooms.length < 1000 by omega) ?_
   walk_at "d"
   exact ⟨_, rfl, rfl⟩
abbrev Zf1 : Phi Nd := fun _ _ => 0
inductive R_lay : NetS -> List OT -> (NetS -> Prop) -> Prop
 | mk {N : NetS} {L : Lay Nd} {s e : Nd} {r : Int} (h : NetR N L Zf1) (new : (s, e) ∉ L.map (fun x => (x.1, x.2.1))) (l : L.length < 400) : R_lay N [.fz (Zck (nk s)), .fz (Zck (nk e)), .fz (.int r)] (fun N' => NetR N' (L ++ [(s, e, r)]) Zf1)
theorem Zkz : FnScope ["self", "start", "end", "room"] ["self", "start", "end", "room"] (Zab ZcZ) := by walk_at "p"
theorem Zqk (T : Bl mg) (U : Tx K mg C gS gE) (D : Mf K C "lay" "Net.lay" ZcZ ["self", "start", "end", "room"]) (c_Net_lay_one : ZhG P w K mg base C "lay_one" ["self", "start", "end", "room"] 1 (spN K P w C R_lay1)) : ZhG P w K mg base C "lay" ["self", "start", "end", "room"] 2 (spN K P w C R_lay) := by
 refine D.evN Zkz (fun M ts Ψ h => by cases h; rfl) (fun f cdv A outer s H E v M ts Ψ hr h => ?_)
 cases h with
 | @mk L s' e r h new l =>
   refine ⟨_, (Zad (ZpI (Zqt hr) (ZcU (pv 0) rfl) (Zcy (Zaa (pv 1) (Zaa (pv 2) Zae))) (Za0 Zdu (by rfl) T.len Zdx (Zaa (ZcU (pv 0) rfl) Zae)) rfl)
 (Zad (Zbj (ZcI c_Net_lay_one U.net hr (pv 0) (Zaa (pv 1) (Zaa (pv 2) (Zaa (pv 3) Zae))) (hj := by walk_at "j")))
 (Zah (Zbj (ZcI c_Net_lay_one U.net hr (pv 0) (Zaa (pv 2) (Zaa (pv 1) (Zaa Zai Zae))) (hj := by walk_at "j")))))), ?_⟩
   show EvS K _ [some _, some _, some _, some _] _
   walk_at "x"
   have le := h.elen
   have lr : M.rooms.length = 2 * L.length := by rw [h.rooms, ZeN]
   have l1 := h.l1
   have l2 := h.l2
   have l3 := h.l3
   refine Zar (ZlD (N := M) (n := (M.ends.length : Int)) (k1 := nk s') (k2 := nk e) U.net rfl (Zhi U.net rfl) (Zec (ZaS (Zac rfl) (ZaS (Zac rfl) ZaO)) ZpN) (by omega) ?_)
   walk_at "d"
   refine Zar (Zdh (ΦA := fun ts => ts = [.fz (Zck (nk s')), .fz (Zck (nk e)), .fz (.int r)]) ZiY rfl (Ze5 (Zaf (Zac rfl) (Zaf (Zac rfl) (Zaf (Zac rfl) Zas))) rfl) (fun ts hts => ?_))
   subst hts
   refine ⟨_, R_lay1.mk (show M.ends.length < 900 by omega) (show M.rooms.length < 900 by omega) (show M.leav.length < 900 by omega) (fun k ns hk => by have := l3 k ns hk; omega), fun N' hN => ?_⟩
   subst hN
   walk_at "d"
   refine Zdh (ΦA := fun ts => ts = [.fz (Zck (nk e)), .fz (Zck (nk s')), .fz (.int 0)]) ZiY rfl (Ze5 (Zaf (Zac rfl) (Zaf (Zac rfl) (Zaf Zba Zas))) rfl) (fun ts hts => ?_)
   subst hts
   refine ⟨_, R_lay1.mk ?a1 ?a2 ?a3 ?a4, fun N' hN => ?_⟩
   case a1 => show (M.ends ++ [nk e]).length < 900; rw [List.length_append, le]; show 2 * L.length + 1 < 900; omega
   case a2 => show (M.rooms ++ [r]).length < 900; rw [List.length_append, lr]; show 2 * L.length + 1 < 900; omega
   case a3 =>
    show (ZhI (ZhX M.leav (nk s')) (nk s') _).length < 900
    rw [Zff]
    have := ZiI M.leav (nk s')
    omega
   case a4 =>
    intro k ns hk
    rw [Zdw] at hk
    by_cases z : k = nk s'
    ·rw [if_pos z] at hk
     cases hk
     have : ((Zb6 M.leav (nk s')).getD []).length <= 2 * L.length := by
      cases q : Zb6 M.leav (nk s') with
      | none => exact Nat.zero_le _
      | some ms => exact l3 _ ms q
     show ((Zb6 M.leav (nk s')).getD [] ++ [_]).length < 900
     rw [List.length_append]
     show _ + 1 < 900
     omega
    ·rw [if_neg z] at hk
     have := l3 k ns hk
     omega
   subst hN
   walk_at "d"
   exact ⟨_, ZmY (r := r) h rfl new, rfl⟩
theorem ZlT {K : W.Frag} {ρ : Zbe} {ta : TE} {ds : List PyData} (h : EvE K ta ρ (.list ds)) : EvT K (fun σ H Q => ta σ H fun x H' => ∃ k, Zrw K x H' k /\ Q k H') ρ (!ds.isEmpty) := fun H0 F σ H Q S q => h H0 F σ H _ S fun F1 H1 v x1 r1 => by
 obtain ⟨a, xs, rfl, h1, h2, _⟩ := Zcv (K := K) r1 x1.fh
 refine ⟨_, .inl ⟨xs, h1, rfl⟩, ?_⟩
 have e : xs.isEmpty = ds.isEmpty := by
  have := h2.length
  cases xs <;> cases ds <;> simp at this ⊢
 rw [e]
 exact q F1 H1 x1
def Zm3 (n : Nd) : PyData := Zck (nk n)
inductive R_reached (P : Program) (w : World) (C : Addr) : List OT -> (OT -> Prop) -> Prop
 | mk {N : NetS} {L : Lay Nd} {φ : Phi Nd} {s : Nd} (h : NetR N L φ) (l : L.length < 400) : R_reached P w C [.zow (ZgZ P w C N), .fz (Zck (nk s))] (fun r => ∃ v es, r = .own v (ZgU (kvG es)) /\ Tree L φ s es /\ ZcM L φ es)
structure ReachI (L : Lay Nd) (φ : Phi Nd) (s : Nd) (es0 es : Got Nd) (U fu : List Nd) : Prop where
 tree : Tree L φ s es
 fin : ∀ n ∈ fu, n ∈ Za4 es
 sub : ∀ n ∈ Za4 es0, n ∈ Za4 es
 done : ZpD L φ es (U ++ fu)
 len : es.length = es0.length + fu.length
theorem ZaX : FnScope ["self", "start", "edges", "latest", "further", "node", "edge"] ["self", "start"] (Zab Zbt) := by walk_at "p"
theorem Zkc (T : Bl mg) (U : Tx K mg C gS gE) (D : Mf K C "reached" "Net.reached" Zbt ["self", "start"]) : ZhG P w K mg base C "reached" ["self", "start"] 1 (spD K (R_reached P w C)) := by
 refine D.evD ZaX (fun ts Φ h => by cases h; rfl) (fun f cdv A outer s H E ts Φ hr h => ?_)
 cases h with
 | @mk N L φ s' h l =>
   refine ⟨_, (Zad (Zaq (i := 2) ZaX.nd rfl (Or.inl rfl) (Zni (ZgX hr) (pv 1) Zjb))
 (Zad (Zaq (i := 3) ZaX.nd rfl (Or.inl rfl) (Zct (Zaa (pv 1) Zae)))
 (Zad (Zd6 PassesOwn.never (Zjm (pv 3) (fun _ => rfl)) (Zad (Zaq (i := 4) ZaX.nd rfl (Or.inl rfl) (Zct Zae))
 (Zad (ZbB PassesOwn.never rfl (ZaV (pv 3)) (Zam (i := 5) ZaX.nd rfl (Or.inl rfl)) (Zah (ZbB PassesOwn.never rfl (ZaV (ZmD (ZgX hr) (ZcU (pv 0) rfl) (pv 5) (Zct Zae) ⟨rfl, rfl, rfl, rfl⟩)) (Zam (i := 6) ZaX.nd rfl (Or.inl rfl)) (Zah (Zea (PW.pt (ZnJ (ZbA Zlg (Zax Zan (ZcU (pv 0) rfl) (pv 6) (fun _ _ => rfl)) Zai (ZcL _)) (ZlR (ZjJ (ZlE (ZgX hr) (Zax Zan (ZcU (pv 0) rfl) (pv 6) (fun _ _ => rfl)) (pv 2)))))) (Zad (Zow (ZgX hr) (pv 2) (Zax Zan (ZcU (pv 0) rfl) (pv 6) (fun _ _ => rfl)) (pv 6) rfl)
 (Zah (Zbj (ZfP PySem.F.plainAttrs_list PySem.F.slot_list_append PySem.F.type_list_append ZbW (pv 4) (Zaa (Zax Zan (ZcU (pv 0) rfl) (pv 6) (fun _ _ => rfl)) Zae))))) ZbZ)))))
 (Zah (Zaq (i := 3) ZaX.nd rfl (Or.inl rfl) (pv 4))))))
 (Zah (Zaw (pv 2)))))), ?_⟩
   show EvS K _ [some _, some _, none, none, none, none, none] _
   walk_at "x"
   refine Zar (ZkT (Znv (k := nk s') (d := .none) (Zac rfl) Zl1) (fun v => ?_))
   walk_at "d"
   refine Zar (ZcF (ZdA (ds := [Zck (nk s')]) (ZaS (Zac rfl) ZaO) ZpR) ?_)
   walk_at "d"
   refine ZeI 3 rfl ?_
   walk_at "d"
   have bnd : ∀ es, Tree L φ s' es -> es.length <= 2 * L.length + 1 := fun es t => by have := t.len; rw [Zh4] at this; exact this
   refine Zar (Zd3 (fun m ρ' => ∃ (es : Got Nd) (lt : List Nd) (u4 u5 u6 : Option OT), Tree L φ s' es /\ (∀ n ∈ lt, n ∈ Za4 es) /\ ZpD L φ es lt /\ m = 2 * (2 * L.length + 2 - es.length) + (if lt = [] then 0 else 1) /\
    ρ' = [some (.zow (ZgZ P w C N)), some (.fz (Zck (nk s'))), some (.own v (ZgU (kvG es))), some (.fz (.list (lt.map Zm3))), u4, u5, u6]) _ ⟨[(s', none)], [s'], none, none, none, .root, (fun n hn => by simpa [Za4] using hn), ?d0, rfl, rfl⟩ ?ws)
   case d0 =>
    intro e m n r h1 h2 h3 h4 h5 h6
    have : m = s' := by simpa [Za4] using h5
    exact absurd (by rw [this]; exact List.mem_cons_self) h6
   case ws =>
    rintro m _ ⟨es, lt, u4, u5, u6, tr, sb, dn, rfl, rfl⟩
    refine ⟨_, ZlT (ds := lt.map Zm3) (Zac rfl), fun c => ?_, fun c => ?_⟩
    ·have hlt : lt ≠ [] := fun z => by rw [z] at c; cases c
     rw [if_neg hlt]
     refine Zar (ZcF (ZdA (ds := []) ZaO (by decide)) ?_)
     walk_at "d"
     refine Zar (ZeU (ds := lt.map Zm3) (fun i ρ' => ∃ (es' : Got Nd) (fu : List Nd) (u5 u6 : Option OT), ReachI L φ s' es es' (lt.drop i) fu /\
      ρ' = [some (.zow (ZgZ P w C N)), some (.fz (Zck (nk s'))), some (.own v (ZgU (kvG es'))), some (.fz (.list (lt.map Zm3))), some (.ol (fu.map Zm3)), u5, u6]) (Zb9 (Zac rfl)) ⟨es, [], _, _, ⟨tr, (fun n hn => nomatch hn), fun n hn => hn, by rw [List.drop_zero, List.append_nil]; exact dn, by simp⟩, rfl⟩ ?st ?fin)
     case fin =>
      rintro _ ⟨es', fu, w5, w6, I, rfl⟩
      rw [List.length_map] at I
      have dn' := I.done
      rw [List.drop_length, List.nil_append] at dn'
      refine ZeI 4 rfl ?_
      walk_at "d"
      refine ZbO (Zac rfl) ?_
      walk_at "d"
      refine ⟨2 * (2 * L.length + 2 - es'.length) + (if fu = [] then 0 else 1), ?_, es', fu, _, _, _, I.tree, I.fin, dn', rfl, rfl⟩
      have b1 := bnd es' I.tree
      have b2 := I.len
      by_cases z : fu = []
      ·rw [if_pos z]
       rw [z] at b2
       simp at b2
       omega
      ·rw [if_neg z]
       have : 0 < fu.length := List.length_pos_iff.mpr z
       omega
     case st =>
      rintro i d _ hd ⟨es1, fu1, w5, w6, I1, rfl⟩
      have hi : i < lt.length := by
       have := (List.getElem?_eq_some_iff.mp hd).1
       simpa using this
      obtain rfl : d = Zm3 lt[i] := by simpa [hi] using hd.symm
      have hdr : lt.drop i = lt[i] :: lt.drop (i + 1) := List.drop_eq_getElem_cons hi
      generalize lt[i] = x at hdr
      refine ⟨_, ZaN, ?_⟩
      walk_at "d"
      refine ZeU (ds := ((Zb6 N.leav (nk x)).getD []).map PyData.int) (fun j ρ' => ∃ (es2 : Got Nd) (fu2 : List Nd) (u6 : Option OT), ReachI L φ s' es es2 (lt.drop i) fu2 /\
       (∀ (k : Nat) (n : Nd) (r : Int), (k : Int) ∈ ((Zb6 N.leav (nk x)).getD []).take j -> hdE L k = some n -> rmE L φ k = some r -> 0 < r -> n ∈ Za4 es2) /\
       ρ' = [some (.zow (ZgZ P w C N)), some (.fz (Zck (nk s'))), some (.own v (ZgU (kvG es2))), some (.fz (.list (lt.map Zm3))), some (.ol (fu2.map Zm3)), some (.fz (Zm3 x)), u6]) (Zb9 (Znq (k := nk x) U.net rfl (Zac rfl))) ⟨es1, fu1, _, I1, (fun k n r hk => by simp at hk), rfl⟩ ?st2 ?fin2
      case fin2 =>
       rintro _ ⟨es2, fu2, w6, I2, dn2, rfl⟩
       refine ⟨es2, fu2, _, _, ⟨I2.tree, I2.fin, I2.sub, ?_, I2.len⟩, rfl⟩
       rw [List.length_map, List.take_length] at dn2
       intro e m n r h1 h2 h3 h4 h5 h6
       by_cases z : m = x
       ·subst z
        exact dn2 e n r ((h.leav m (e : Int)).mpr ⟨e, rfl, h1⟩) h2 h3 h4
       ·refine I2.done e m n r h1 h2 h3 h4 h5 ?_
        rw [hdr, List.cons_append, List.mem_cons, not_or]
        exact ⟨z, h6⟩
      case st2 =>
       rintro j d2 _ hd2 ⟨es2, fu2, w6, I2, dn2, rfl⟩
       have hj : j < ((Zb6 N.leav (nk x)).getD []).length := by
        have := (List.getElem?_eq_some_iff.mp hd2).1
        simpa using this
       obtain ⟨k, ek, tk⟩ := (h.leav x _).mp (List.getElem_mem hj)
       obtain rfl : d2 = .int (k : Int) := by
        rw [List.getElem?_map, List.getElem?_eq_getElem hj] at hd2
        rw [ek] at hd2
        simpa using hd2.symm
       obtain ⟨y, hy⟩ : ∃ y, L[k / 2]? = some y := by
        unfold tlE at tk
        cases z : L[k / 2]? with
        | none => rw [z] at tk; cases tk
        | some y => exact ⟨y, rfl⟩
       obtain ⟨n, hn⟩ : ∃ n, hdE L k = some n := ⟨_, by unfold hdE; rw [hy]; rfl⟩
       obtain ⟨r, hr'⟩ : ∃ r, rmE L φ k = some r := ⟨_, by unfold rmE; rw [hy]; rfl⟩
       have ra : atI (N.rooms.map PyData.int) (k : Int) = some (.int r) := Zd8 (by rw [List.getElem?_map, h.rooms, Ze4, hr']; rfl)
       have ea : atI (N.ends.map Zck) (k : Int) = some (Zck (nk n)) := Zd8 (by rw [h.ends, List.map_map, List.getElem?_map, Ziy, hn]; rfl)
       have tks : ((Zb6 N.leav (nk x)).getD []).take (j + 1) = ((Zb6 N.leav (nk x)).getD []).take j ++ [(k : Int)] := by rw [List.take_succ, List.getElem?_eq_getElem hj, ek]; rfl
       have bes := bnd es2 I2.tree
       have ben := I2.len
       refine ⟨_, ZaN, ?_⟩
       walk_at "d"
       have eend : ∀ {ρ : Zbe}, ρ[0]? = some (some (.zow (ZgZ P w C N))) -> ρ[6]? = some (some (.fz (.int (k : Int)))) -> EvE K (tOp (rIx K) (Zlj K (ZcP 0) "ends") (ZcP 6)) ρ (Zck (nk n)) := fun e0 e6 => ZlP U.net e0 (Zac e6) ea
       refine ZhD (b := decide (r > 0) && !(Zim (kvG es2) (nk n)).isSome) (Zoi (Zd7 (ZjH (Zjd U.net rfl (Zac rfl) ra) Zba)) (fun _ => Zpw (Zk6 (eend rfl rfl) rfl))) (fun c => ?_) (fun c => Zcd ?_)
       ·rw [Zhy] at c
        have c1 : r > 0 := of_decide_eq_true (Bool.and_eq_true_iff.mp c).1
        have c2 : n ∉ Za4 es2 := by simpa using (Bool.and_eq_true_iff.mp c).2
        refine Zar (ZmE rfl (Zac rfl) (eend rfl rfl) (by rw [show (kvG es2).length = es2.length from List.length_map _]; exact Zbh (by omega)) ?_)
        walk_at "d"
        rw [Znu c2]
        refine Zeu (ds := fu2.map Zm3) rfl (eend rfl rfl) (by rw [List.length_map]; omega) ?_
        walk_at "d"
        have km : x ∈ Za4 es2 := I2.sub x (sb x (List.mem_of_mem_drop (by rw [hdr]; exact List.mem_cons_self)))
        refine ⟨es2 ++ [(n, some k)], fu2 ++ [n], _, ⟨I2.tree.add c2 hn tk km hr' c1, fun z hz => ?_, fun z hz => Zci.mpr (.inl (I2.sub z hz)), ?_, by simp; omega⟩, fun k' n' r' hk' q1 q2 q3 => ?_, by rw [List.map_append]; rfl⟩
        ·rcases List.mem_append.mp hz with hz | hz
         ·exact Zci.mpr (.inl (I2.fin z hz))
         ·exact Zci.mpr (.inr (by simpa using hz))
        ·exact I2.done.add n (some k)
        ·rw [tks] at hk'
         rcases List.mem_append.mp hk' with z | z
         ·exact Zci.mpr (.inl (dn2 k' n' r' z q1 q2 q3))
         ·have : k' = k := by have := List.mem_singleton.mp z; omega
          subst this
          rw [hn] at q1
          cases q1
          exact Zci.mpr (.inr rfl)
       ·rw [Zhy] at c
        refine ⟨es2, fu2, _, I2, fun k' n' r' hk' q1 q2 q3 => ?_, rfl⟩
        rw [tks] at hk'
        rcases List.mem_append.mp hk' with z | z
        ·exact dn2 k' n' r' z q1 q2 q3
        ·have : k' = k := by have := List.mem_singleton.mp z; omega
         subst this
         rw [hn] at q1
         rw [hr'] at q2
         cases q1
         cases q2
         apply Classical.byContradiction
         intro hq
         have q3' : r > 0 := q3
         simp [q3', hq] at c
    ·have hlt : lt = [] := by
      cases lt with
      | nil => rfl
      | cons a b => cases c
     subst hlt
     exact Zll rfl ⟨v, es, rfl, tr, dn.closed⟩
def Zkq (w : List Nat) : List PyData := w.map fun (e : Nat) => PyData.int (e : Int)
theorem ZhS {L : Lay Nd} {es : Got Nd} {n : Nd} {w : List Nat} (b : Back L es n w) : Zim (kvG es) (nk n) = some (ZpO w.head?) := by
 rw [Zg3]
 cases b with
 | nil h => rw [h]; rfl
 | cons h t b => rw [h]; rfl
theorem ZqY {L : Lay Nd} {φ : Phi Nd} {e : Nat} {r : Int} (h : rmE L φ e = some r) : e < 2 * L.length := by
 unfold rmE at h
 cases z : L[e / 2]? with
 | none => rw [z] at h; cases h
 | some x => have := (List.getElem?_eq_some_iff.mp z).1; omega
theorem Zmg {L : Lay Nd} {φ : Phi Nd} {s n : Nd} {es : Got Nd} {w : List Nat} (q : WayOk L φ s es n w) : w.length <= 2 * L.length := by
 have := Zfr (ys := List.range (2 * L.length)) q.nodup fun e he => by
  obtain ⟨r, hr, _⟩ := q.room e he
  exact List.mem_range.mpr (ZqY hr)
 simpa using this
inductive R_way (P : Program) (w : World) (C : Addr) : List OT -> (OT -> Prop) -> Prop
 | mk {N : NetS} {L : Lay Nd} {φ : Phi Nd} {s n : Nd} {es : Got Nd} {wy : List Nat} (h : NetR N L φ) (l : L.length < 400) (q : WayOk L φ s es n wy) : R_way P w C [.zow (ZgZ P w C N), .zow (ZoA (kvG es)), .fz (Zck (nk n))] (fun r => r = .ol (Zkq wy))
theorem ZcQ : FnScope ["self", "edges", "end", "way", "edge"] ["self", "edges", "end"] (Zab ZbK) := by walk_at "p"
theorem ZqQ (T : Bl mg) (U : Tx K mg C gS gE) (D : Mf K C "way_to" "Net.way_to" ZbK ["self", "edges", "end"]) : ZhG P w K mg base C "way_to" ["self", "edges", "end"] 1 (spD K (R_way P w C)) := by
 refine D.evD ZcQ (fun ts Φ h => by cases h; rfl) (fun f cdv A outer s H E ts Φ hr h => ?_)
 cases h with
 | @mk N L φ s' n es wy h l q =>
   refine ⟨_, (Zad (Zaq (i := 3) ZcQ.nd rfl (Or.inl rfl) (Zct Zae))
 (Zad (Zaq (i := 4) ZcQ.nd rfl (Or.inl rfl) (Zmn (ZgX hr) (pv 1) (pv 2) (fun _ _ => rfl)))
 (Zad (Zd6 PassesOwn.never (ZjJ (ZpG (pv 4))) (Zad (Zbj (ZfP PySem.F.plainAttrs_list PySem.F.slot_list_append PySem.F.type_list_append ZbW (pv 3) (Zaa (pv 4) Zae)))
 (Zah (Zaq (i := 4) ZcQ.nd rfl (Or.inl rfl) (Zmn (ZgX hr) (pv 1) (Zax Zan (ZcU (pv 0) rfl) (Zau ZnX (pv 4) Zai) (fun _ _ => rfl)) (fun _ _ => rfl))))))
 (Zah (Zaw (pv 3)))))), ?_⟩
   show EvS K _ [some _, some _, some _, none, none] _
   walk_at "x"
   have wl := Zmg q
   refine Zar (ZcF (ZdA (ds := []) ZaO (by decide)) ?_)
   walk_at "d"
   refine Zar (ZbO (Zl6 rfl (Zac rfl) (ZhS q.back)) ?_)
   walk_at "d"
   refine Zar (Zd3 (fun m ρ' => ∃ (dn rs : List Nat) (n' : Nd), m = rs.length /\ dn ++ rs = wy /\ Back L es n' rs /\ ρ' = [some (.zow (ZgZ P w C N)), some (.zow (ZoA (kvG es))), some (.fz (Zck (nk n))), some (.ol (Zkq dn)), some (.fz (ZpO rs.head?))]) wy.length ⟨[], wy, n, rfl, rfl, q.back, rfl⟩ ?ws)
   case ws =>
    rintro m _ ⟨dn, rs, n', rfl, hw, b, rfl⟩
    refine ⟨_, Zpw (Zo3 (Zac rfl)), fun c => ?_, fun c => ?_⟩
    ·cases b with
     | nil h0 => cases c
     | @cons _ m' e rs' h0 t0 b0 =>
       have dl : dn.length < 1000 := by
        have := congrArg List.length hw
        rw [List.length_append] at this
        omega
       refine Zar (Zeu (ds := Zkq dn) (d := .int (e : Int)) rfl (Zac rfl) (by unfold Zkq; rw [List.length_map]; exact dl) ?_)
       walk_at "d"
       have ea : atI (N.ends.map Zck) (Builtin.bitXor (e : Int) 1) = some (Zck (nk m')) := by
        rw [ZfD]
        exact Zd8 (by rw [h.ends, List.map_map, List.getElem?_map, ZlV, t0]; rfl)
       refine ZbO (Zl6 rfl (ZlP U.net rfl (Zjj (g := Builtin.bitXor) (Zac rfl) Zba) ea) (ZhS b0)) ?_
       walk_at "d"
       refine ⟨rs'.length, Nat.lt_succ_self _, dn ++ [e], rs', m', rfl, by rw [<- hw, List.append_assoc]; rfl, b0, ?_⟩
       unfold Zkq
       rw [List.map_append]
       rfl
    ·have : rs = [] := by
      cases rs with
      | nil => rfl
      | cons a b => cases c
     subst this
     rw [List.append_nil] at hw
     subst hw
     exact Zgx rfl rfl
def amt (L : Lay Nd) (φ : Phi Nd) (w : List Nat) : Int := Zka (w.map fun e => (rmE L φ e).getD 0)
inductive R_push : NetS -> List OT -> (NetS -> Prop) -> Prop
 | mk {N : NetS} {L : Lay Nd} {φ : Phi Nd} {wy : List Nat} (h : NetR N L φ) (hd : Dis L) (ne : wy ≠ []) (hin : ∀ e ∈ wy, ∃ r, rmE L φ e = some r) (hl : wy.length < 900) : R_push N [.fz (.list (Zkq wy))] (fun N' => NetR N' L (ZfA L (amt L φ wy) φ wy))
theorem NetR.rm {N : NetS} {L : Lay Nd} {φ : Phi Nd} (h : NetR N L φ) {e : Nat} (he : e < 2 * L.length) : ∃ r, N.rooms[e]? = some r /\ (Zcq L φ)[e]? = some r := by
 have : e < (Zcq L φ).length := by rw [ZeN]; exact he
 exact ⟨(Zcq L φ)[e], by rw [h.rooms, List.getElem?_eq_getElem this], List.getElem?_eq_getElem this⟩
theorem NetR.push {N : NetS} {L : Lay Nd} {φ : Phi Nd} (h : NetR N L φ) (hd : Dis L) {a r r' : Int} {e : Nat} (h1 : (Zcq L φ)[e]? = some r) (h2 : (Zcq L φ)[ZeD e]? = some r') : NetR { N with rooms := (N.rooms.set e (r - a)).set (ZeD e) (r' + a) } L (Zeb L a φ e) :=
 ⟨h.ends, by show (N.rooms.set e (r - a)).set (ZeD e) (r' + a) = _; rw [h.rooms, Zkd hd h1 h2], h.leav, h.laid, h.laid0, h.l1, h.l2, h.l3⟩
theorem ZkA {L : Lay Nd} {a : Int} {φ : Phi Nd} {wy : List Nat} {i e : Nat} (h : wy[i]? = some e) : ZfA L a φ (wy.take (i + 1)) = Zeb L a (ZfA L a φ (wy.take i)) e := by
 have t : wy.take (i + 1) = wy.take i ++ [e] := by rw [List.take_succ, h]; rfl
 rw [t]
 unfold ZfA
 rw [List.foldl_append]
 rfl
theorem Zeq : FnScope ["self", "way", "amount", "edge"] ["self", "way"] (Zab Zch) := by walk_at "p"
theorem Zo0 (T : Bl mg) (U : Tx K mg C gS gE) (D : Mf K C "push" "Net.push" Zch ["self", "way"]) : ZhG P w K mg base C "push" ["self", "way"] 1 (spN K P w C R_push) := by
 refine D.evN Zeq (fun M ts Ψ h => by cases h; rfl) (fun f cdv A outer s H E v M ts Ψ hr h => ?_)
 cases h with
 | @mk L φ wy h hd ne hin hl =>
   refine ⟨_, (Zad (Zaq (i := 2) Zeq.nd rfl (Or.inl rfl) (Za0 ZpA (by rfl) T.min ZhL (Zaa (ZeO (NX := ["self", "way", "amount", "edge"]) (sc := Zab Zch) (N := ["edge", "self"]) (f := [none, some 0]) rfl (by decide +kernel) rfl rfl (ZaV (pv 1)) (fun _ => (Zam (i := 0) (show (["edge", "self"] : List Str).Nodup by decide +kernel) rfl (Or.inl rfl))) (fun _ => Zbk) (fun _ => ZbQ) (fun _ => (Zax Zan (ZcU (pv 1) rfl) (pv 0) (fun _ _ => rfl)))) Zae)))
 (Zah (ZbB PassesOwn.never rfl (ZaV (pv 1)) (Zam (i := 3) Zeq.nd rfl (Or.inl rfl)) (Zad (ZgJ (ZcU (pv 0) rfl) (pv 3) Zfh (pv 2) ZqA Zd4)
 (Zah (ZgJ (ZcU (pv 0) rfl) (Zau ZnX (pv 3) Zai) Zfh (pv 2) Zmp Zd4)))))), ?_⟩
   show EvS K _ [some _, some _, none, none] _
   walk_at "x"
   refine Zar (ZbO (d := .int (amt L φ wy)) (Zkv 0 rfl rfl (Zpu (ns := wy.map fun e => (rmE L φ e).getD 0) (EvE.cast (EvO.fz (Zel (xs := wy) (enc := fun (e : Nat) => PyData.int (e : Int)) (h := fun e => .int ((rmE L φ e).getD 0)) ?ei (by omega) ?el)) (by rw [List.map_map]; rfl)) rfl (fun z => ne (List.map_eq_nil_iff.mp z)))) ?_)
   case ei => exact Zb9 (Zac rfl)
   case el =>
    intro e he c
    refine ⟨_, ZaN, ?_⟩
    walk_at "e"
    obtain ⟨r, hr'⟩ := hin e he
    refine EvE.cast (Zjd (N := M) (m := r) U.net rfl (Zac rfl) ?_) (by rw [hr']; rfl)
    exact Zd8 (by rw [List.getElem?_map, h.rooms, Ze4, hr']; rfl)
   walk_at "d"
   generalize amt L φ wy = a
   refine ZeU (ds := Zkq wy) (fun i ρ' => ∃ (N' : NetS) (u3 : Option OT), NetR N' L (ZfA L a φ (wy.take i)) /\ ρ' = [some (.own v (ZcG P w C N')), some (.fz (.list (Zkq wy))), some (.fz (.int a)), u3]) (Zb9 (Zac rfl)) ⟨M, _, h, rfl⟩ ?st ?fin
   case fin =>
    rintro _ ⟨N', u3, hN, rfl⟩
    unfold Zkq at hN
    rw [List.length_map, List.take_length] at hN
    exact ⟨N', hN, rfl⟩
   case st =>
    rintro i d _ hd' ⟨N', u3, hN, rfl⟩
    have hi : i < wy.length := by
     have := (List.getElem?_eq_some_iff.mp hd').1
     unfold Zkq at this
     simpa using this
    obtain rfl : d = .int (wy[i] : Int) := by
     unfold Zkq at hd'
     simpa [hi] using hd'.symm
    obtain ⟨r0, hr0⟩ := hin wy[i] (List.getElem_mem hi)
    have el := ZqY hr0
    rw [ZkA (List.getElem?_eq_getElem hi)]
    generalize wy[i] = e at el
    have em : ZeD e < 2 * L.length := by unfold ZeD; split <;> omega
    have me : ZeD e ≠ e := by unfold ZeD; split <;> omega
    obtain ⟨r, h1, h2⟩ := My.NetR.rm hN el
    obtain ⟨r', h3, h4⟩ := My.NetR.rm hN em
    refine ⟨_, ZaN, ?_⟩
    walk_at "d"
    refine Zar (Zid (N := N') (f := fun i j => i - j) (k := (e : Int)) (m := r) (n := a) U.net rfl (Zac rfl) (by omega) (by rw [Int.toNat_natCast]; exact h1) (Zac rfl) ?_)
    walk_at "d"
    rw [Int.toNat_natCast]
    refine Zid (f := fun i j => i + j) (k := (ZeD e : Int)) (m := r') (n := a) U.net rfl (EvE.cast (Zjj (g := Builtin.bitXor) (Zac rfl) Zba) (by rw [ZfD])) (by omega) (by rw [Int.toNat_natCast]; show (N'.rooms.set e (r - a))[ZeD e]? = _; rw [List.getElem?_set_ne (Ne.symm me)]; exact h3) (Zac rfl) ?_
    walk_at "d"
    rw [Int.toNat_natCast]
    exact ⟨_, _, My.NetR.push hN hd h2 h4, rfl⟩
inductive R_fill : NetS -> List OT -> (NetS -> Prop) -> Prop
 | mk {N : NetS} {y : Yd} {G : Gv} {φ : Phi Nd} (h : NetR N (ZcK y G) φ) (F : Flow y G φ) (l : (ZcK y G).length < 400) : R_fill N [.fz (Zck (nk .start)), .fz (Zck (nk .fin))] (fun N' => ∃ φ' es, NetR N' (ZcK y G) φ' /\ Flow y G φ' /\ Nd.start ∈ Za4 es /\ ZcM (ZcK y G) φ' es /\ Nd.fin ∉ Za4 es)
theorem Zer : FnScope ["self", "start", "end", "edges"] ["self", "start", "end"] (Zab Zc6) := by walk_at "p"
theorem Zp2 (T : Bl mg) (U : Tx K mg C gS gE) (D : Mf K C "fill" "Net.fill" Zc6 ["self", "start", "end"]) (c_Net_reached : ZhG P w K mg base C "reached" ["self", "start"] 1 (spD K (R_reached P w C))) (c_Net_push : ZhG P w K mg base C "push" ["self", "way"] 1 (spN K P w C R_push)) (c_Net_way_to : ZhG P w K mg base C "way_to" ["self", "edges", "end"] 1 (spD K (R_way P w C))) :
 ZhG P w K mg base C "fill" ["self", "start", "end"] 2 (spN K P w C R_fill) := by
 refine D.evN Zer (fun M ts Ψ h => by cases h; rfl) (fun f cdv A outer s H E v M ts Ψ hr h => ?_)
 cases h with
 | @mk y G φ h F l =>
   refine ⟨_, (Zad (Zaq (i := 3) Zer.nd rfl (Or.inl rfl) (ZcI c_Net_reached U.net hr (pv 0) (Zaa (pv 1) Zae) (hj := by walk_at "j")))
 (Zah (Zd6 PassesOwn.never (ZjJ (Zoh (ZgX hr) (pv 2) (pv 3))) (Zad (Zbj (ZcI c_Net_push U.net hr (pv 0) (Zaa (ZcI c_Net_way_to U.net hr (pv 0) (Zaa (pv 3) (Zaa (pv 2) Zae)) (hj := by walk_at "j")) Zae) (hj := by walk_at "j")))
 (Zah (Zaq (i := 3) Zer.nd rfl (Or.inl rfl) (ZcI c_Net_reached U.net hr (pv 0) (Zaa (pv 1) Zae) (hj := by walk_at "j")))))))), ?_⟩
   show EvS K _ [some _, some _, some _, none] _
   walk_at "x"
   have Zd2 : ∀ {M : NetS} {φ : Phi Nd} {u : Option OT} {E' : XK}, NetR M (ZcK y G) φ -> EvD K (Zki C "reached" (spD K (R_reached P w C)) [] E' (ZcP 0) (Zbd (ZcP 1) ZdF)) [some (.own v (ZcG P w C M)), some (.fz (Zck (nk .start))), some (.fz (Zck (nk .fin))), u] (fun r => ∃ v' es, r = .own v' (ZgU (kvG es)) /\ Tree (ZcK y G) φ .start es /\ ZcM (ZcK y G) φ es) := fun h' =>
    ZeE 0 rfl (fun r ⟨v', es, e, _⟩ => by subst e; exact ZmH (Znz es)) (ZiZ Zf0 rfl (Zaf (Zac rfl) Zas) (R_reached.mk h' l))
   refine Zar (ZdL (Zd2 h) (fun r hr' => ?_))
   obtain ⟨v3, es, rfl, tr, cl⟩ := hr'
   walk_at "d"
   refine Zd3 (fun m ρ' => ∃ (M : NetS) (φ : Phi Nd) (es : Got Nd) (v3 : V), NetR M (ZcK y G) φ /\ Flow y G φ /\ Tree (ZcK y G) φ .start es /\ ZcM (ZcK y G) φ es /\ m = (Za1 G.wa G.m - ZgV (ZcK y G) φ .start).toNat /\
    ρ' = [some (.own v (ZcG P w C M)), some (.fz (Zck (nk .start))), some (.fz (Zck (nk .fin))), some (.own v3 (ZgU (kvG es)))]) _ ⟨M, φ, es, v3, h, F, tr, cl, rfl, rfl⟩ ?ws
   clear tr cl es v3 h F
   rintro m _ ⟨M, φ, es, v3, h, F, tr, cl, rfl, rfl⟩
   refine ⟨_, Zpw (ZoO (k := nk .fin) (Zac rfl) rfl), fun c => ?_, fun c => ?_⟩
   ·rw [Zhy] at c
    obtain ⟨wy, q⟩ := tr.way .fin (of_decide_eq_true c)
    have wl := Zmg q
    have wne : wy ≠ [] := fun z => by
     have := q.chain
     rw [z] at this
     cases this
    refine Zj1 3 rfl ?_
    walk_at "d"
    refine Zar (Zdh (ΦA := fun ts => ts = [.fz (.list (Zkq wy))]) Zm7 rfl (ZqW (Φ := fun r => r = .ol (Zkq wy)) (ZeE 0 rfl (fun r e => by subst e; exact ZoJ (fun d hd => by
     obtain ⟨e, _, rfl⟩ := List.mem_map.mp hd
     exact ⟨_, rfl⟩)) (ZiZ ZpL rfl (ZqR rfl (Zaf (Zac rfl) Zas)) (R_way.mk h l q))) (fun r e => ⟨_, e, rfl⟩)) (fun ts hts => ?_))
    subst hts
    refine ⟨_, R_push.mk h (Zfl y G) wne (fun e he => let ⟨r, a, _⟩ := q.room e he; ⟨r, a⟩) (by omega), fun N' hN => ?_⟩
    walk_at "d"
    obtain ⟨m1, m2⟩ := ZfI (ns := wy.map fun e => (rmE (ZcK y G) φ e).getD 0) (fun z => wne (List.map_eq_nil_iff.mp z))
    have a0 : 0 < amt (ZcK y G) φ wy := by
     obtain ⟨e, he, ee⟩ := List.mem_map.mp m1
     obtain ⟨r, hr1, hr2⟩ := q.room e he
     rw [hr1] at ee
     show 0 < Zka _
     rw [<- ee]
     exact hr2
    obtain ⟨F', nd⟩ := F.push (a := amt (ZcK y G) φ wy) (by omega) q.chain q.nodup (fun e he => by
     obtain ⟨r, hr1, _⟩ := q.room e he
     refine ⟨r, hr1, ?_⟩
     have := m2 _ (List.mem_map.mpr ⟨e, he, rfl⟩)
     rw [hr1] at this
     exact this)
    refine ZdL (Zd2 hN) (fun r hr' => ?_)
    obtain ⟨v4, es', rfl, tr', cl'⟩ := hr'
    walk_at "d"
    refine ⟨_, ?_, N', _, es', v4, hN, F', tr', cl', rfl, rfl⟩
    have := F'.most
    rw [nd] at this ⊢
    omega
   ·rw [Zhy] at c
    exact ⟨M, ⟨φ, es, h, F, tr.start, cl, of_decide_eq_false c⟩, rfl⟩
structure GOk (y : Yd) (g : Gs) : Prop where
 ln : g.line < y.ls.length
 w0 : 0 <= g.want
 m0 : 0 <= g.most
def ZcN (gs : List Gs) : Gv := { m := gs.length, ln := fun k => (gs.getD k default).line, wa := fun k => (gs.getD k default).want, mo := fun k => (gs.getD k default).most, th := fun k t => Zc7 (gs.getD k default) (t : Int) }
theorem Zdm {gs : List Gs} {k : Nat} (h : k < gs.length) : gs.getD k default = gs[k] := by simp [List.getD, h]
theorem Znw (y : Yd) (G : Gv) (k : Nat) : (Zfy y G k).length <= 1 + y.T := by
 unfold Zfy
 rw [List.length_cons]
 have : ∀ n, ((List.range n).flatMap fun t => if G.th k t = true then [((.guest k, .line (G.ln k) t, G.mo k) : Nd × Nd × Int)] else []).length <= n := by
  intro n
  induction n with
  | zero => simp
  | succ n ih =>
    rw [List.range_succ, List.flatMap_append, List.length_append]
    have : ([n].flatMap fun t => if G.th k t = true then [((.guest k, .line (G.ln k) t, G.mo k) : Nd × Nd × Int)] else []).length <= 1 := by
     simp only [List.flatMap_cons, List.flatMap_nil, List.append_nil]
     split <;> simp
    omega
 have := this y.T
 omega
theorem Zn3 {y : Yd} (h : 1 <= y.ls.length) (t : Nat) : (Zhc y t).length = y.ls.length := by
 unfold Zhc
 rw [List.length_cons]
 have : ∀ n, ((List.range n).flatMap fun i => [((.line (i + 1) t, .line (Mir.upN y (i + 1)) t, Zbc y (i + 1) t) : Nd × Nd × Int)]).length = n := by
  intro n
  induction n with
  | zero => simp
  | succ n ih => rw [List.range_succ, List.flatMap_append, List.length_append, ih]; simp
 rw [this]
 omega
theorem Zey {f : Nat -> Lay Nd} {c : Nat} (h : ∀ k, (f k).length <= c) : ∀ n, ((List.range n).flatMap f).length <= n * c
 | 0 => by simp
 | n + 1 => by
   rw [List.range_succ, List.flatMap_append, List.length_append]
   have a := Zey h n
   have b : ([n].flatMap f).length <= c := by simpa using h n
   rw [Nat.add_mul]
   omega
theorem ZdJ (f : Nat -> Lay Nd) (n : Nat) : (List.range (n + 1)).flatMap f = (List.range n).flatMap f ++ f n := by rw [List.range_succ, List.flatMap_append]; simp
theorem ZgT {f : Nat -> Lay Nd} {n : Nat} {x : Nd × Nd × Int} : x ∈ (List.range n).flatMap f ↔ ∃ k, k < n /\ x ∈ f k := by
 rw [List.mem_flatMap]
 simp only [List.mem_range]
theorem ZdT {y : Yd} (ok : y.Ok) (G : Gv) {n : Nat} (h : n <= 8) : ((List.range n).flatMap (Zfy y G)).length <= 72 := by
 have a := Zey (f := Zfy y G) (c := 9) (fun k => by have := Znw y G k; have := ok.t8; omega) n
 omega
theorem Zfu {y : Yd} (ok : y.Ok) {n : Nat} (h : n <= 8) : ((List.range n).flatMap (Zhc y)).length <= 40 := by
 have a := Zey (f := Zhc y) (c := 5) (fun k => by rw [Zn3 ok.l1 k]; exact ok.l5) n
 omega
inductive R_gnode : List OT -> OT -> Prop
 | mk {k : Nat} : R_gnode [.fz (.int (k : Int))] (.fz (Zck (nk (.guest k))))
theorem Zg4 : FnScope ["number"] ["number"] (Zab ZbI) := by walk_at "p"
theorem ZmF (T : Bl mg) (D : Df K mg "guest_node" ZbI ["number"]) : Cal P w K mg base "guest_node" ["number"] 1 (spO (K := K) R_gnode) := by
 refine D.ev Zg4 (fun ts r h => by cases h; rfl) (fun f cdv A outer s H E ts r hr h => ?_)
 cases h with
 | @mk k =>
   refine ⟨_, (Zah (Zaw (Zcy (Zaa ZnY (Zaa (pv 0) Zae))))), ?_⟩
   show EvS K _ [some _] _
   walk_at "x"
   exact Zcl (Zec (ds := [.str "guest", .int (k : Int)]) (ZaS ZnK (ZaS (Zac rfl) ZaO)) ZpN) rfl
inductive R_lnode : List OT -> OT -> Prop
 | mk {l t : Nat} : R_lnode [.fz (.int (l : Int)), .fz (.int (t : Int))] (.fz (Zck (nk (.line l t))))
theorem Zhn : FnScope ["line", "turn"] ["line", "turn"] (Zab ZbY) := by walk_at "p"
theorem Znk (T : Bl mg) (D : Df K mg "line_node" ZbY ["line", "turn"]) : Cal P w K mg base "line_node" ["line", "turn"] 1 (spO (K := K) R_lnode) := by
 refine D.ev Zhn (fun ts r h => by cases h; rfl) (fun f cdv A outer s H E ts r hr h => ?_)
 cases h with
 | @mk l t =>
   refine ⟨_, (Zah (Zaw (Zcy (Zaa ZnY (Zaa (pv 0) (Zaa (pv 1) Zae)))))), ?_⟩
   show EvS K _ [some _, some _] _
   walk_at "x"
   exact Zcl (Zec (ds := [.str "line", .int (l : Int), .int (t : Int)]) (ZaS ZnK (ZaS (Zac rfl) (ZaS (Zac rfl) ZaO))) (by show (3 : Nat) <= 1000; decide)) rfl
inductive R_lguest : NetS -> List OT -> (NetS -> Prop) -> Prop
 | mk {N : NetS} {y : Yd} {gs : List Gs} {k : Nat} (ok : y.Ok) (g8 : gs.length <= 8) (hk : k < gs.length) (h : NetR N ((List.range k).flatMap (Zfy y (ZcN gs))) Zf1) :
  R_lguest N [.fz (eYd y), .fz (.int (k : Int)), .fz (eGs gs[k])] (fun N' => NetR N' ((List.range (k + 1)).flatMap (Zfy y (ZcN gs))) Zf1)
theorem ZeR : FnScope ["net", "yard", "number", "guest", "turn"] ["net", "yard", "number", "guest"] (Zab Zcb) := by walk_at "p"
theorem Zln (T : Bl mg) (U : Tx K mg C gS gE) (D : Df K mg "lay_guest" Zcb ["net", "yard", "number", "guest"]) (c_Net_lay : ZhG P w K mg base C "lay" ["self", "start", "end", "room"] 2 (spN K P w C R_lay)) (c_want_of : Cal P w K mg base "want_of" ["guest"] 1 (spO (K := K) R_want)) (c_guest_node : Cal P w K mg base "guest_node" ["number"] 1 (spO (K := K) R_gnode))
 (c_turns_of : Cal P w K mg base "turns_of" ["yard"] 1 (spO (K := K) R_turns)) (c_is_there : Cal P w K mg base "is_there" ["guest", "turn"] 1 (spO (K := K) R_there)) (c_most_of : Cal P w K mg base "most_of" ["guest"] 1 (spO (K := K) R_most)) (c_line_node : Cal P w K mg base "line_node" ["line", "turn"] 1 (spO (K := K) R_lnode)) (c_line_of : Cal P w K mg base "line_of" ["guest"] 1 (spO (K := K) R_lineof)) :
 Cal P w K mg base "lay_guest" ["net", "yard", "number", "guest"] 3 (spN K P w C R_lguest) := by
 refine D.evN ZeR (fun M ts Ψ h => by cases h; rfl) (fun f cdv A outer s H E v M ts Ψ hr h => ?_)
 cases h with
 | @mk y gs k ok g8 hk h =>
   refine ⟨_, (Zad (Zbj (ZcI c_Net_lay U.net hr (pv 0) (Zaa (Zfs (v := .ref _) rfl U.mSTART rfl) (Zaa (Zap c_guest_node hr (Zaa (pv 2) Zae) (hj := by walk_at "j")) (Zaa (Zap c_want_of hr (Zaa (pv 3) Zae) (hj := by walk_at "j")) Zae))) (hj := by walk_at "j")))
 (Zah (ZbB PassesOwn.never rfl (Zbl rfl T.range (Zaa (Zap c_turns_of hr (Zaa (pv 1) Zae) (hj := by walk_at "j")) Zae)) (Zam (i := 4) ZeR.nd rfl (Or.inl rfl)) (Zah (Zea (Zlh (Zap c_is_there hr (Zaa (pv 3) (Zaa (pv 4) Zae)) (hj := by walk_at "j"))) (Zah (Zbj (ZcI c_Net_lay U.net hr (pv 0) (Zaa (Zap c_guest_node hr (Zaa (pv 2) Zae) (hj := by walk_at "j")) (Zaa (Zap c_line_node hr (Zaa (Zap c_line_of hr (Zaa (pv 3) Zae) (hj := by walk_at "j")) (Zaa (pv 4) Zae)) (hj := by walk_at "j")) (Zaa (Zap c_most_of hr (Zaa (pv 3) Zae) (hj := by walk_at "j")) Zae))) (hj := by walk_at "j")))) ZbZ))))), ?_⟩
   show EvS K _ [some _, some _, some _, some _, none] _
   walk_at "x"
   have t8 := ok.t8
   have gl := ZdT ok (ZcN gs) (n := k) (by omega)
   have gk := Zdm hk
   have ew : (ZcN gs).wa k = gs[k].want := by show (gs.getD k default).want = _; rw [gk]
   have glb : ∀ x ∈ (List.range k).flatMap (Zfy y (ZcN gs)), ∃ j, j < k /\ x ∈ Zfy y (ZcN gs) j := fun x hx => ZgT.mp hx
   refine Zar (Zdh (ΦA := fun ts => ts = [.fz (Zck (nk .start)), .fz (Zck (nk (.guest k))), .fz (.int gs[k].want)]) Zg9 rfl (Ze5 (Zaf (Zgy U.aS) (Zaf (Za3 (Zaf (Zac rfl) Zas) R_gnode.mk) (Zaf (Za3 (Zaf (Zac rfl) Zas) R_want.mk) Zas))) rfl) (fun ts hts => ?_))
   subst hts
   refine ⟨_, R_lay.mk h ?n0 (by omega), fun N1 hN1 => ?_⟩
   case n0 =>
    intro hm
    obtain ⟨x, hx, ex⟩ := List.mem_map.mp hm
    obtain ⟨j, hj, hx⟩ := glb x hx
    injection ex with e1 e2
    rcases ZcA.mp hx with rfl | ⟨t, _, _, rfl⟩
    ·injection e2 with e2
     omega
    ·cases e1
   walk_at "d"
   refine ZeU (ds := ZfO 0 y.T) (fun i ρ' => ∃ (N' : NetS) (u4 : Option OT), NetR N' ((List.range k).flatMap (Zfy y (ZcN gs)) ++ ((.start, .guest k, (ZcN gs).wa k) :: (List.range i).flatMap fun t => if (ZcN gs).th k t = true then [(.guest k, .line ((ZcN gs).ln k) t, (ZcN gs).mo k)] else [])) Zf1 /\
    ρ' = [some (.own v (ZcG P w C N')), some (.fz (eYd y)), some (.fz (.int (k : Int))), some (.fz (eGs gs[k])), u4]) ?ei ⟨N1, none, by rw [ew]; exact hN1, rfl⟩ ?st ?fin
   case ei => exact EvI.cast (Zd1 (Zaf (Za3 (Zaf (Zac rfl) Zas) R_turns.mk) Zas) (by rw [z62]; omega) (by rw [z62]; omega)) (ZdG rfl (by omega))
   case fin =>
    rintro _ ⟨N', u4, hN, rfl⟩
    rw [ZcB] at hN
    refine ⟨N', ?_, rfl⟩
    rw [ZdJ]
    exact hN
   case st =>
    rintro t d _ hd ⟨N', u4, hN, rfl⟩
    obtain ⟨ht, rfl⟩ := Zc9 hd
    rw [Int.zero_add]
    refine ⟨_, ZaN, ?_⟩
    walk_at "d"
    have et : Zc7 gs[k] (t : Int) = (ZcN gs).th k t := by show _ = Zc7 (gs.getD k default) (t : Int); rw [gk]
    refine ZhD (b := (ZcN gs).th k t) (EvT.cast (Zpw (Za3 (Zaf (Zac rfl) (Zaf (Zac rfl) Zas)) R_there.mk)) et) (fun c => ?_) (fun c => Zcd ?_)
    ·refine Zdh (ΦA := fun ts => ts = [.fz (Zck (nk (.guest k))), .fz (Zck (nk (.line gs[k].line t))), .fz (.int gs[k].most)]) Zg9 rfl (Ze5 (Zaf (Za3 (Zaf (Zac rfl) Zas) R_gnode.mk) (Zaf (Za3 (Zaf (Za3 (Zaf (Zac rfl) Zas) R_lineof.mk) (Zaf (Zac rfl) Zas)) R_lnode.mk) (Zaf (Za3 (Zaf (Zac rfl) Zas) R_most.mk) Zas))) rfl) (fun ts hts => ?_)
     subst hts
     refine ⟨_, R_lay.mk hN ?n1 ?l1, fun N2 hN2 => ?_⟩
     case n1 =>
      intro hm
      obtain ⟨x, hx, ex⟩ := List.mem_map.mp hm
      injection ex with e1 e2
      rcases List.mem_append.mp hx with hx | hx
      ·obtain ⟨j, hj, hx⟩ := glb x hx
       rcases ZcA.mp hx with rfl | ⟨t', _, _, rfl⟩
       ·cases e1
       ·injection e1 with e1
        omega
      ·rcases List.mem_cons.mp hx with rfl | hx
       ·cases e1
       ·obtain ⟨t', ht', hx⟩ := List.mem_flatMap.mp hx
        split at hx
        ·rw [List.mem_singleton.mp hx] at e2
         injection e2 with _ e2
         have := List.mem_range.mp ht'
         omega
        ·cases hx
     case l1 =>
      rw [List.length_append]
      have : (((.start, .guest k, (ZcN gs).wa k) : Nd × Nd × Int) :: (List.range t).flatMap fun t => if (ZcN gs).th k t = true then [((.guest k, .line ((ZcN gs).ln k) t, (ZcN gs).mo k) : Nd × Nd × Int)] else []).length <= 1 + t * 1 := by
       rw [List.length_cons]
       have := Zey (f := fun t => if (ZcN gs).th k t = true then [((.guest k, .line ((ZcN gs).ln k) t, (ZcN gs).mo k) : Nd × Nd × Int)] else []) (c := 1) (fun t => by split <;> simp) t
       omega
      omega
     walk_at "d"
     refine ⟨N2, _, ?_, rfl⟩
     rw [ZdJ, if_pos c]
     have e1 : (ZcN gs).ln k = gs[k].line := by show (gs.getD k default).line = _; rw [gk]
     have e2 : (ZcN gs).mo k = gs[k].most := by show (gs.getD k default).most = _; rw [gk]
     rw [<- e1, <- e2, List.append_assoc] at hN2
     exact hN2
    ·refine ⟨N', _, ?_, rfl⟩
     rw [ZdJ, if_neg (by rw [c]; decide), List.append_nil]
     exact hN
inductive R_lturn : NetS -> List OT -> (NetS -> Prop) -> Prop
 | mk {N : NetS} {y : Yd} {G : Gv} {t : Nat} (ok : y.Ok) (g8 : G.m <= 8) (ht : t < y.T) (h : NetR N ((List.range G.m).flatMap (Zfy y G) ++ (List.range t).flatMap (Zhc y)) Zf1) :
  R_lturn N [.fz (eYd y), .fz (.int (t : Int))] (fun N' => NetR N' ((List.range G.m).flatMap (Zfy y G) ++ (List.range (t + 1)).flatMap (Zhc y)) Zf1)
theorem Zf2 : FnScope ["net", "yard", "turn", "line"] ["net", "yard", "turn"] (Zab Zc8) := by walk_at "p"
theorem ZnC (T : Bl mg) (U : Tx K mg C gS gE) (D : Df K mg "lay_turn" Zc8 ["net", "yard", "turn"]) (c_Net_lay : ZhG P w K mg base C "lay" ["self", "start", "end", "room"] 2 (spN K P w C R_lay)) (c_bound_at : Cal P w K mg base "bound_at" ["yard", "line", "turn"] 1 (spO (K := K) R_bound)) (c_line_node : Cal P w K mg base "line_node" ["line", "turn"] 1 (spO (K := K) R_lnode))
 (c_line_count : Cal P w K mg base "line_count" ["yard"] 1 (spO (K := K) R_count)) (c_above_of : Cal P w K mg base "above_of" ["yard", "line"] 1 (spO (K := K) R_above)) : Cal P w K mg base "lay_turn" ["net", "yard", "turn"] 3 (spN K P w C R_lturn) := by
 refine D.evN Zf2 (fun M ts Ψ h => by cases h; rfl) (fun f cdv A outer s H E v M ts Ψ hr h => ?_)
 cases h with
 | @mk y G t ok g8 ht h =>
   refine ⟨_, (Zad (Zbj (ZcI c_Net_lay U.net hr (pv 0) (Zaa (Zap c_line_node hr (Zaa Zai (Zaa (pv 2) Zae)) (hj := by walk_at "j")) (Zaa (Zfs (v := .ref _) rfl U.mEND rfl) (Zaa (Zap c_bound_at hr (Zaa (pv 1) (Zaa Zai (Zaa (pv 2) Zae))) (hj := by walk_at "j")) Zae))) (hj := by walk_at "j")))
 (Zah (ZbB PassesOwn.never rfl (Zl7 rfl T.range (Zaa Zai (Zaa (Zap c_line_count hr (Zaa (pv 1) Zae) (hj := by walk_at "j")) Zae))) (Zam (i := 3) Zf2.nd rfl (Or.inl rfl)) (Zah (Zbj (ZcI c_Net_lay U.net hr (pv 0) (Zaa (Zap c_line_node hr (Zaa (pv 3) (Zaa (pv 2) Zae)) (hj := by walk_at "j")) (Zaa (Zap c_line_node hr (Zaa (Zap c_above_of hr (Zaa (pv 1) (Zaa (pv 3) Zae)) (hj := by walk_at "j")) (Zaa (pv 2) Zae)) (hj := by walk_at "j")) (Zaa (Zap c_bound_at hr (Zaa (pv 1) (Zaa (pv 3) (Zaa (pv 2) Zae))) (hj := by walk_at "j")) Zae))) (hj := by walk_at "j"))))))), ?_⟩
   show EvS K _ [some _, some _, some _, none] _
   walk_at "x"
   have t8 := ok.t8
   have l1 := ok.l1
   have l5 := ok.l5
   have gl := ZdT ok G g8
   have tl := Zfu ok (n := t) (by omega)
   have glb : ∀ x ∈ (List.range G.m).flatMap (Zfy y G) ++ (List.range t).flatMap (Zhc y), (∃ j, x ∈ Zfy y G j) \/ ∃ t', t' < t /\ x ∈ Zhc y t' := fun x hx => by
    rcases List.mem_append.mp hx with hx | hx
    ·obtain ⟨j, _, hx⟩ := ZgT.mp hx
     exact .inl ⟨j, hx⟩
    ·obtain ⟨j, hj, hx⟩ := ZgT.mp hx
     exact .inr ⟨j, hj, hx⟩
   refine Zar (Zdh (ΦA := fun ts => ts = [.fz (Zck (nk (.line 0 t))), .fz (Zck (nk .fin)), .fz (.int (Zbc y 0 t))]) Zg9 rfl (Ze5 (Zaf (Za3 (Zaf Zba (Zaf (Zac rfl) Zas)) (R_lnode.mk (l := 0))) (Zaf (ZnO U.aE) (Zaf (Za3 (Zaf (Zac rfl) (Zaf Zba (Zaf (Zac rfl) Zas))) (R_bound.mk (k := 0) (t := (t : Int)) ok (by decide) (by omega) (by omega) (by omega))) Zas))) ?e0) (fun ts hts => ?_))
   case e0 => rw [Int.toNat_natCast]; rfl
   subst hts
   refine ⟨_, R_lay.mk h ?n0 (by rw [List.length_append]; omega), fun N1 hN1 => ?_⟩
   case n0 =>
    intro hm
    obtain ⟨x, hx, ex⟩ := List.mem_map.mp hm
    injection ex with e1 e2
    rcases glb x hx with ⟨j, hx⟩ | ⟨t', ht', hx⟩
    ·rcases ZcA.mp hx with rfl | ⟨u, _, _, rfl⟩ <;> cases e1
    ·rcases Zdg.mp hx with rfl | ⟨i, _, rfl⟩
     ·injection e1 with _ e1
      omega
     ·cases e2
   walk_at "d"
   refine ZeU (ds := ZfO 1 (y.ls.length - 1)) (fun i ρ' => ∃ (N' : NetS) (u3 : Option OT), NetR N' (((List.range G.m).flatMap (Zfy y G) ++ (List.range t).flatMap (Zhc y)) ++ ((.line 0 t, .fin, Zbc y 0 t) :: (List.range i).flatMap fun i => [(.line (i + 1) t, .line (Mir.upN y (i + 1)) t, Zbc y (i + 1) t)])) Zf1 /\
    ρ' = [some (.own v (ZcG P w C N')), some (.fz (eYd y)), some (.fz (.int (t : Int))), u3]) ?ei ⟨N1, none, by simpa using hN1, rfl⟩ ?st ?fin
   case ei => exact EvI.cast (Zl3 (Zaf Zba (Zaf (Za3 (Zaf (Zac rfl) Zas) R_count.mk) Zas)) (by rw [z62]; omega)) (ZdG rfl (by omega))
   case fin =>
    rintro _ ⟨N', u3, hN, rfl⟩
    rw [ZcB] at hN
    refine ⟨N', ?_, rfl⟩
    rw [ZdJ, <- List.append_assoc]
    exact hN
   case st =>
    rintro i d _ hd ⟨N', u3, hN, rfl⟩
    obtain ⟨hi, rfl⟩ := Zc9 hd
    have ei : (1 : Int) + (i : Int) = ((i + 1 : Nat) : Int) := by omega
    rw [ei]
    refine ⟨_, ZaN, ?_⟩
    walk_at "d"
    refine Zdh (ΦA := fun ts => ts = [.fz (Zck (nk (.line (i + 1) t))), .fz (Zck (nk (.line (Mir.upN y (i + 1)) t))), .fz (.int (Zbc y (i + 1) t))]) Zg9 rfl (Ze5 (Zaf (Za3 (Zaf (Zac rfl) (Zaf (Zac rfl) Zas)) (R_lnode.mk (l := i + 1))) (Zaf (Za3 (Zaf (Za3 (Zaf (Zac rfl) (Zaf (Zac rfl) Zas)) (R_above.mk (k := ((i + 1 : Nat) : Int)) ok (by omega) (by omega))) (Zaf (Zac rfl) Zas)) (R_lnode.mk (l := upN y (((i + 1 : Nat) : Int)).toNat))) (Zaf (Za3 (Zaf (Zac rfl) (Zaf (Zac rfl) (Zaf (Zac rfl) Zas))) (R_bound.mk (k := ((i + 1 : Nat) : Int)) (t := (t : Int)) ok (by omega) (by omega) (by omega) (by omega))) Zas))) ?e1) (fun ts hts => ?_)
    case e1 => rw [Int.toNat_natCast, Int.toNat_natCast]; rfl
    subst hts
    refine ⟨_, R_lay.mk hN ?n1 ?l1, fun N2 hN2 => ?_⟩
    case n1 =>
     intro hm
     obtain ⟨x, hx, ex⟩ := List.mem_map.mp hm
     injection ex with e1 e2
     rcases List.mem_append.mp hx with hx | hx
     ·rcases glb x hx with ⟨j, hx⟩ | ⟨t', ht', hx⟩
      ·rcases ZcA.mp hx with rfl | ⟨u, _, _, rfl⟩ <;> cases e1
      ·rcases Zdg.mp hx with rfl | ⟨i', _, rfl⟩
       ·cases e2
       ·injection e1 with _ e1
        omega
     ·rcases List.mem_cons.mp hx with rfl | hx
      ·cases e2
      ·obtain ⟨i', hi', hx⟩ := List.mem_flatMap.mp hx
       rw [List.mem_singleton.mp hx] at e1
       injection e1 with e1 _
       have := List.mem_range.mp hi'
       omega
    case l1 =>
     rw [List.length_append, List.length_append, List.length_cons]
     have := Zey (f := fun i => [((.line (i + 1) t, .line (Mir.upN y (i + 1)) t, Zbc y (i + 1) t) : Nd × Nd × Int)]) (c := 1) (fun i => by simp) i
     omega
    walk_at "d"
    refine ⟨N2, _, ?_, rfl⟩
    rw [ZdJ]
    rw [List.append_assoc] at hN2
    exact hN2
def Zsy (y : Yd) (G : Gv) (φ : Phi Nd) : Prop := Flow y G φ /\ ∃ es : Got Nd, Nd.start ∈ Za4 es /\ ZcM (ZcK y G) φ es /\ Nd.fin ∉ Za4 es
inductive R_filled (P : Program) (w : World) (C : Addr) : List OT -> (OT -> Prop) -> Prop
 | mk {y : Yd} {gs : List Gs} (ok : y.Ok) (hg : ∀ g ∈ gs, GOk y g) (g8 : gs.length <= 8) : R_filled P w C [.fz (eYd y), .fz (.list (gs.map eGs))] (fun r => ∃ v N φ, r = .own v (ZcG P w C N) /\ NetR N (ZcK y (ZcN gs)) φ /\ Zsy y (ZcN gs) φ)
theorem Zqx {y : Yd} (ok : y.Ok) {l t : Nat} (hl : l < y.ls.length) (ht : t < y.T) : 0 <= Zbc y l t := by
 rw [ZdS hl]
 have h1 := Zgw ok hl
 have hm : Zfk y l ∈ y.ls := by simp [Zfk, hl]
 have : (Zfk y l).bs.getD t 0 = (Zfk y l).bs[t]'(by omega) := by simp [List.getD, show t < (Zfk y l).bs.length by omega]
 rw [this]
 exact (ok.bb _ hm _ (List.getElem_mem _)).1
theorem Zo2 {y : Yd} (ok : y.Ok) {gs : List Gs} (hg : ∀ g ∈ gs, GOk y g) : ∀ x ∈ ZcK y (ZcN gs), 0 <= x.2.2 := fun x hx => by
 have l1 := ok.l1
 rcases Zew.mp hx with ⟨k, hk, hx⟩ | ⟨t, ht, hx⟩
 ·have gk : GOk y (gs.getD k default) := by rw [Zdm hk]; exact hg _ (List.getElem_mem _)
  rcases ZcA.mp hx with rfl | ⟨t, _, _, rfl⟩
  ·exact gk.w0
  ·exact gk.m0
 ·rcases Zdg.mp hx with rfl | ⟨i, hi, rfl⟩
  ·exact Zqx ok (by omega) ht
  ·exact Zqx ok (by omega) ht
theorem Zcs : FnScope ["yard", "guests", "net", "number", "guest", "turn"] ["yard", "guests"] (Zab ZbD) := by walk_at "p"
theorem Zlo (T : Bl mg) (U : Tx K mg C gS gE) (D : Df K mg "filled_net" ZbD ["yard", "guests"]) (c_Net : ZrL P w K mg base "Net" C 1) (c_lay_guest : Cal P w K mg base "lay_guest" ["net", "yard", "number", "guest"] 3 (spN K P w C R_lguest)) (c_turns_of : Cal P w K mg base "turns_of" ["yard"] 1 (spO (K := K) R_turns))
 (c_lay_turn : Cal P w K mg base "lay_turn" ["net", "yard", "turn"] 3 (spN K P w C R_lturn)) (c_Net_fill : ZhG P w K mg base C "fill" ["self", "start", "end"] 2 (spN K P w C R_fill)) : Cal P w K mg base "filled_net" ["yard", "guests"] 4 (spD K (R_filled P w C)) := by
 refine D.evD Zcs (fun ts Φ h => by cases h; rfl) (fun f cdv A outer s H E ts Φ hr h => ?_)
 cases h with
 | @mk y gs ok hg g8 =>
   refine ⟨_, (Zad (Zaq (i := 2) Zcs.nd rfl (Or.inl rfl) (Zov c_Net hr (hj := by walk_at "j")))
 (Zad (ZbB PassesOwn.never rfl (ZhU rfl T.enumerate (Zaa (pv 1) Zae)) (ZdR (n := 2) rfl (Za6 (Zam (i := 3) Zcs.nd rfl (Or.inl rfl)) (Za6 (Zam (i := 4) Zcs.nd rfl (Or.inl rfl)) Zdb))) (Zah (Zbj (Zap c_lay_guest hr (Zaa (pv 2) (Zaa (pv 0) (Zaa (pv 3) (Zaa (pv 4) Zae)))) (hj := by walk_at "j")))))
 (Zad (ZbB PassesOwn.never rfl (Zbl rfl T.range (Zaa (Zap c_turns_of hr (Zaa (pv 0) Zae) (hj := by walk_at "j")) Zae)) (Zam (i := 5) Zcs.nd rfl (Or.inl rfl)) (Zah (Zbj (Zap c_lay_turn hr (Zaa (pv 2) (Zaa (pv 0) (Zaa (pv 5) Zae))) (hj := by walk_at "j")))))
 (Zad (Zbj (ZcI c_Net_fill U.net hr (pv 2) (Zaa (Zfs (v := .ref _) rfl U.mSTART rfl) (Zaa (Zfs (v := .ref _) rfl U.mEND rfl) Zae)) (hj := by walk_at "j")))
 (Zah (Zaw (pv 2))))))), ?_⟩
   show EvS K _ [some _, some _, none, none, none, none] _
   walk_at "x"
   have t8 := ok.t8
   refine Zar (ZkT Zpl (fun v => ?_))
   walk_at "d"
   refine Zar (ZeU (ds := Zkp (gs.map eGs)) (fun i ρ' => ∃ (N' : NetS) (u3 u4 : Option OT), NetR N' ((List.range i).flatMap (Zfy y (ZcN gs))) Zf1 /\ ρ' = [some (.fz (eYd y)), some (.fz (.list (gs.map eGs))), some (.own v (ZcG P w C N')), u3, u4, none]) (Zp0 (Zaf (Zac rfl) Zas)) ⟨_, none, none, ZrE _, rfl⟩ ?st ?fin)
   case st =>
    rintro i d _ hd ⟨N', u3, u4, hN, rfl⟩
    obtain ⟨a, ha, rfl⟩ := Zhw hd
    have hi : i < gs.length := by
     have := (List.getElem?_eq_some_iff.mp ha).1
     simpa using this
    obtain rfl : a = eGs gs[i] := by simpa [hi] using ha.symm
    refine ⟨_, ZjR (ds := [.int (i : Int), eGs gs[i]]) (ZcH ZaN (ZcH ZaN Zgg)) rfl, ?_⟩
    walk_at "d"
    refine Zjg (ΦA := fun ts => ts = [.fz (eYd y), .fz (.int (i : Int)), .fz (eGs gs[i])]) rfl (Ze5 (Zaf (Zac rfl) (Zaf (Zac rfl) (Zaf (Zac rfl) Zas))) rfl) (fun ts hts => ?_)
    subst hts
    refine ⟨_, R_lguest.mk ok g8 hi hN, fun N2 hN2 => ?_⟩
    walk_at "d"
    exact ⟨N2, _, _, hN2, rfl⟩
   case fin =>
    rintro _ ⟨N1, u3, u4, hN1, rfl⟩
    rw [Zij, List.length_map] at hN1
    refine Zar (ZeU (ds := ZfO 0 y.T) (fun i ρ' => ∃ (N' : NetS) (u5 : Option OT), NetR N' ((List.range (ZcN gs).m).flatMap (Zfy y (ZcN gs)) ++ (List.range i).flatMap (Zhc y)) Zf1 /\ ρ' = [some (.fz (eYd y)), some (.fz (.list (gs.map eGs))), some (.own v (ZcG P w C N')), u3, u4, u5]) ?ei2 ⟨N1, none, by rw [show (List.range 0).flatMap (Zhc y) = [] from rfl, List.append_nil]; exact hN1, rfl⟩ ?st2 ?fin2)
    case ei2 => exact EvI.cast (Zd1 (Zaf (Za3 (Zaf (Zac rfl) Zas) R_turns.mk) Zas) (by rw [z62]; omega) (by rw [z62]; omega)) (ZdG rfl (by omega))
    case st2 =>
     rintro t d _ hd ⟨N', u5, hN, rfl⟩
     obtain ⟨ht, rfl⟩ := Zc9 hd
     rw [Int.zero_add]
     refine ⟨_, ZaN, ?_⟩
     walk_at "d"
     refine Zjg (ΦA := fun ts => ts = [.fz (eYd y), .fz (.int (t : Int))]) rfl (Ze5 (Zaf (Zac rfl) (Zaf (Zac rfl) Zas)) rfl) (fun ts hts => ?_)
     subst hts
     refine ⟨_, R_lturn.mk ok g8 ht hN, fun N2 hN2 => ?_⟩
     walk_at "d"
     exact ⟨N2, _, hN2, rfl⟩
    case fin2 =>
     rintro _ ⟨N', u5, hN, rfl⟩
     rw [ZcB] at hN
     have hN : NetR N' (ZcK y (ZcN gs)) Zf1 := hN
     have ll : (ZcK y (ZcN gs)).length < 400 := by
      unfold ZcK
      rw [List.length_append]
      have a := ZdT ok (ZcN gs) (n := (ZcN gs).m) g8
      have b := Zfu ok t8
      omega
     refine Zar (Zdh (ΦA := fun ts => ts = [.fz (Zck (nk .start)), .fz (Zck (nk .fin))]) Zns rfl (Ze5 (Zaf (Zgy U.aS) (Zaf (ZnO U.aE) Zas)) rfl) (fun ts hts => ?_))
     subst hts
     refine ⟨_, R_fill.mk hN (ZrN (Zo2 ok hg)) ll, fun N2 hN2 => ?_⟩
     obtain ⟨φ', es, h1, h2, h3, h4, h5⟩ := hN2
     walk_at "d"
     exact Zll rfl ⟨v, N2, φ', rfl, h1, h2, es, h3, h4, h5⟩
def Zgf (y : Yd) (G : Gv) (S : Nat -> Bool) : Int := Za1 (Za5 S G.wa) G.m - Za1 (fun t => ZaJ y (fun l => Zbc y l t) (Zm5 G S t) 0) y.T
def Zpo (y : Yd) (G : Gv) (φ : Phi Nd) : Int := Za1 (fun k => G.wa k - Za1 (fun t => ZdC G φ t k) y.T) G.m
theorem Zmm {y : Yd} {G : Gv} {φ : Phi Nd} (F : Flow y G φ) (ok : y.Ok) (hln : ∀ k, k < G.m -> G.ln k < y.ls.length) (S : Nat -> Bool) : Zgf y G S <= Zpo y G φ := by
 have nn : ∀ k, k < G.m -> 0 <= G.wa k - Za1 (fun t => ZdC G φ t k) y.T := fun k hk => by
  rw [F.total hk]
  have := F.want hk
  omega
 have h1 : Za1 (Za5 S fun k => G.wa k - Za1 (fun t => ZdC G φ t k) y.T) G.m <= Zpo y G φ := Zbx fun k hk => Zg5 (nn k hk)
 have h2 : Za1 (Za5 S fun k => G.wa k - Za1 (fun t => ZdC G φ t k) y.T) G.m = Za1 (Za5 S G.wa) G.m - Za1 (Za5 S fun k => Za1 (fun t => ZdC G φ t k) y.T) G.m := by
  rw [<- ZgI]
  refine Zaj fun k _ => ?_
  unfold Za5
  dsimp only
  split <;> omega
 have h3 : Za1 (fun t => Za1 (Za5 S (ZdC G φ t)) G.m) y.T = Za1 (Za5 S fun k => Za1 (fun t => ZdC G φ t k) y.T) G.m := by
  rw [Ze0 (fun t k => Za5 S (ZdC G φ t) k) y.T G.m]
  refine Zaj fun k _ => ?_
  unfold Za5
  cases S k with
  | true => rfl
  | false => simp only [Bool.false_eq_true, if_false]; exact ZaB _
 have h4 : Za1 (fun t => Za1 (Za5 S (ZdC G φ t)) G.m) y.T <= Za1 (fun t => ZaJ y (fun l => Zbc y l t) (Zm5 G S t) 0) y.T := Zbx fun t ht => F.no_more ok hln S ht
 unfold Zgf
 omega
theorem ZnS {y : Yd} {gs : List Gs} (hg : ∀ g ∈ gs, GOk y g) : ∀ k, k < (ZcN gs).m -> (ZcN gs).ln k < y.ls.length := fun k hk => by
 show (gs.getD k default).line < _
 rw [Zdm hk]
 exact (hg _ (List.getElem_mem _)).ln
def ZbF (gs : List Gs) (S : Nat -> Bool) : List Nat := (List.range gs.length).filter S
theorem Zg6 {gs : List Gs} (g8 : gs.length <= 8) (S : Nat -> Bool) : SetOk gs (ZbF gs S) :=
 ⟨fun k hk => List.mem_range.mp (List.mem_filter.mp hk).1, Nat.le_trans (List.length_filter_le _ _) (by simpa using g8)⟩
theorem Zbi (f : Nat -> Int) : ∀ n, ((List.range n).map f).sum = Za1 f n
 | 0 => rfl
 | n + 1 => by rw [List.range_succ, List.map_append, List.sum_append, Zbi f n]; simp [Za1]
theorem Zdz (f : Nat -> Int) (p : Nat -> Bool) : ∀ n, (((List.range n).filter p).map f).sum = Za1 (Za5 p f) n
 | 0 => rfl
 | n + 1 => by
   rw [List.range_succ, List.filter_append, List.map_append, List.sum_append, Zdz f p n]
   show _ = Za1 (Za5 p f) n + Za5 p f n
   unfold Za5
   cases e : p n with
   | true => simp [List.filter_cons, e]
   | false => simp [List.filter_cons, e]
theorem ZpH (gs : List Gs) (S : Nat -> Bool) (t l : Nat) : Zm5 (ZcN gs) S t l = ZdN gs t (ZbF gs S) l := by
 show _ = Zb1 gs (t : Int) l ((List.range gs.length).filter S)
 rw [ZeP]
 unfold Zm5
 refine Zaj fun k hk => ?_
 have hk : k < gs.length := hk
 unfold Za5 moT wgt ind
 rw [List.getElem?_eq_getElem hk]
 have e1 : (ZcN gs).th k t = Zc7 gs[k] (t : Int) := by show Zc7 (gs.getD k default) _ = _; rw [Zdm hk]
 have e2 : (ZcN gs).mo k = gs[k].most := by show (gs.getD k default).most = _; rw [Zdm hk]
 have e3 : (ZcN gs).ln k = gs[k].line := by show (gs.getD k default).line = _; rw [Zdm hk]
 rw [e1, e2, e3]
 cases S k with
 | false => simp
 | true =>
   simp only [if_true]
   by_cases c : gs[k].line = l
   ·by_cases d : Zc7 gs[k] (t : Int) = true
    ·simp [c, d]
    ·simp [c, d]
   ·simp [c]
def Zi8 (gs : List Gs) (sm : List Nat) : Int := (sm.map fun k => (gs.getD k default).want).sum
theorem ZkQ (y : Yd) (gs : List Gs) (S : Nat -> Bool) : Zgf y (ZcN gs) S = Zi8 gs (ZbF gs S) - ZaA y gs (ZbF gs S) := by
 unfold Zgf
 congr 1
 ·exact (Zdz _ S gs.length).symm
 ·unfold ZaA
  rw [Zbi]
  refine Zaj fun t _ => ?_
  unfold Zcf
  rw [show Zm5 (ZcN gs) S t = ZdN gs t (ZbF gs S) from funext fun l => ZpH gs S t l]
def ZkX (y : Yd) (G : Gv) (φ : Phi Nd) (es : Got Nd) : Prop := Flow y G φ /\ Nd.start ∈ Za4 es /\ ZcM (ZcK y G) φ es /\ Nd.fin ∉ Za4 es
inductive R_lset : List OT -> (OT -> Prop) -> Prop
 | mk {y : Yd} {gs : List Gs} (ok : y.Ok) (hg : ∀ g ∈ gs, GOk y g) (g8 : gs.length <= 8) : R_lset [.fz (eYd y), .fz (.list (gs.map eGs))] (fun r => ∃ φ es, ZkX y (ZcN gs) φ es /\ r = .ol (Zbf (ZbF gs (Zej es))))
theorem Zd0 : FnScope ["yard", "guests", "edges"] ["yard", "guests"] (Zab ZaC) := by walk_at "p"
theorem ZiP (T : Bl mg) (U : Tx K mg C gS gE) (D : Df K mg "guests_reached" ZaC ["yard", "guests"]) (c_filled_net : Cal P w K mg base "filled_net" ["yard", "guests"] 4 (spD K (R_filled P w C))) (c_Net_reached : ZhG P w K mg base C "reached" ["self", "start"] 1 (spD K (R_reached P w C))) (c_guest_node : Cal P w K mg base "guest_node" ["number"] 1 (spO (K := K) R_gnode)) :
 Cal P w K mg base "guests_reached" ["yard", "guests"] 5 (spD K R_lset) := by
 refine D.evD Zd0 (fun ts Φ h => by cases h; rfl) (fun f cdv A outer s H E ts Φ hr h => ?_)
 cases h with
 | @mk y gs ok hg g8 =>
   refine ⟨_, (Zad (Zaq (i := 2) Zd0.nd rfl (Or.inr rfl) (ZcI c_Net_reached U.net hr (Zap c_filled_net hr (Zaa (pv 0) (Zaa (pv 1) Zae)) (hj := by walk_at "j")) (Zaa (Zfs (v := .ref _) rfl U.mSTART rfl) Zae) (hj := by walk_at "j")))
 (Zah (Zaw (ZeO (NX := ["yard", "guests", "edges"]) (sc := Zab ZaC) (N := ["number", "edges"]) (f := [none, some 2]) rfl (by decide +kernel) rfl rfl (Zbl rfl T.range (Zaa (Za0 Zdu (by rfl) T.len Zdx (Zaa (pv 1) Zae)) Zae)) (fun _ => (Zam (i := 0) (show (["number", "edges"] : List Str).Nodup by decide +kernel) rfl (Or.inl rfl))) (fun _ => Zbk) (fun _ => (Zi9 (ZjJ (Zoh (ZgX hr) (Zap c_guest_node hr (Zaa (pv 0) Zae) (hj := by walk_at "j")) (pv 1))))) (fun _ => (pv 0)))))), ?_⟩
   show EvS K _ [some _, some _, none] _
   walk_at "x"
   have ll : (ZcK y (ZcN gs)).length < 400 := by
    unfold ZcK
    rw [List.length_append]
    have a := ZdT ok (ZcN gs) (n := (ZcN gs).m) g8
    have b := Zfu ok ok.t8
    omega
   refine Zar (ZdL (Φ := fun r => ∃ v φ es, r = .own v (ZgU (kvG es)) /\ ZkX y (ZcN gs) φ es) (Zn8 (P := P) (w := w) Zf0 (Zem (Zaf (Zac rfl) (Zaf (Zac rfl) Zas)) (R_filled.mk ok hg g8)) (fun r hr' => ?_) (Zaf (Zgy U.aS) Zas)) (fun r hr' => ?_))
   ·obtain ⟨v, N, φ, rfl, hN, F, es0, h1, h2, h3⟩ := hr'
    refine ⟨v, N, rfl, _, R_reached.mk (s := .start) hN ll, fun r ⟨v', es, e, tr, cl⟩ => ⟨v', φ, es, e, F, tr.start, cl, fun z => h3 (tr.inClosed h2 h1 _ z)⟩⟩
   ·obtain ⟨v, φ, es, rfl, fb⟩ := hr'
    walk_at "d"
    refine Zj1 2 rfl ?_
    walk_at "d"
    refine Zgp (r := .ol (Zbf (ZbF gs (Zej es)))) (Zjn (xs := List.range gs.length) (enc := fun (j : Nat) => PyData.int (j : Int)) (h := fun (j : Nat) => PyData.int (j : Int)) (p := Zej es) ?ei (by simp; omega) ?el) ⟨φ, es, fb, rfl⟩
    case ei =>
     have e : (gs.map eGs).length = gs.length := by simp
     refine EvI.cast (Zd1 (Zaf (ZgC (Zac rfl)) Zas) (by rw [z62, e]; omega) (by rw [z62, e]; omega)) ?_
     rw [e, Int.toNat_natCast]
     unfold ZfO
     refine List.map_congr_left fun i _ => ?_
     rw [Int.zero_add]
    case el =>
     intro k hk c
     refine ⟨_, ZaN, ?_, fun _ => ?_⟩
     ·walk_at "e"
      exact EvT.cast (Zpw (Zqs (k := nk (.guest k)) (Za3 (Zaf (Zac rfl) Zas) R_gnode.mk) rfl)) (Zhy _ _)
     ·walk_at "e"
      exact Zac rfl
theorem ZfR : FnScope ["yard", "guests"] ["yard", "guests"] (Zab Zb5) := by walk_at "p"
theorem Zo8 (T : Bl mg) (D : Df K mg "lacking_set" Zb5 ["yard", "guests"]) (c_guests_reached : Cal P w K mg base "guests_reached" ["yard", "guests"] 5 (spD K R_lset)) : Cal P w K mg base "lacking_set" ["yard", "guests"] 6 (spD K R_lset) := by
 refine D.evD ZfR (fun ts Φ h => by cases h; rfl) (fun f cdv A outer s H E ts Φ hr h => ?_)
 have h0 := h
 cases h with
 | @mk y gs ok hg g8 =>
   refine ⟨_, (Zah (Zaw (Zap c_guests_reached hr (Zaa (pv 0) (Zaa (pv 1) Zae)) (hj := by walk_at "j")))), ?_⟩
   show EvS K _ [some _, some _] _
   walk_at "x"
   exact Zo4 (Zem (Zaf (Zac rfl) (Zaf (Zac rfl) Zas)) h0) (fun r hr' => hr')
theorem Zjo {x y a b : Nat} (h : Nat.gcd x y = Nat.gcd a b) : Nat.gcd y (x % y) = Nat.gcd a b := by
 rw [<- h, Nat.gcd_comm x y, Nat.gcd_rec y x, Nat.gcd_comm]
inductive R_ldiv : List OT -> OT -> Prop
 | mk {a b : Nat} : R_ldiv [.fz (.int (a : Int)), .fz (.int (b : Int))] (.fz (.int ((Nat.gcd a b : Nat) : Int)))
theorem ZdM : FnScope ["_law_one", "_law_other"] ["_law_one", "_law_other"] (Zab ZaY) := by walk_at "p"
theorem ZoU (T : Bl mg) (D : Df K mg "_law_divisor" ZaY ["_law_one", "_law_other"]) : Cal P w K mg base "_law_divisor" ["_law_one", "_law_other"] 1 (spO (K := K) R_ldiv) := by
 refine D.ev ZdM (fun ts r h => by cases h; rfl) (fun f cdv A outer s H E ts r hr h => ?_)
 cases h with
 | @mk a b =>
   refine ⟨_, (Zad (Zd6 PassesOwn.never (ZbA Zlg (pv 1) Zai (ZcL _)) (Zah (Zrd (i := 0) (j := 1) rfl ZdM.nd rfl rfl (by decide) rfl rfl (Zaa (pv 1) (Zaa (Zau Zcr (pv 0) (pv 1)) Zae)) rfl)))
 (Zah (Zaw (pv 0)))), ?_⟩
   show EvS K _ [some _, some _] _
   walk_at "x"
   refine ZhC (fun ρ' => ρ' = [some (.fz (.int ((Nat.gcd a b : Nat) : Int))), some (.fz (.int 0))]) (Zd3 (fun m ρ' => ∃ (x y : Nat), y = m /\ Nat.gcd x y = Nat.gcd a b /\ ρ' = [some (.fz (.int (x : Int))), some (.fz (.int (y : Int)))]) b ⟨a, b, rfl, rfl, rfl⟩ ?w) ?z
   case w =>
    rintro m _ ⟨x, y, rfl, hg, rfl⟩
    refine ⟨_, by walk_at "et", fun c => ?_, fun c => ?_⟩
    ·have c : (0 : Int) < (y : Int) := of_decide_eq_true c
     have y0 : 0 < y := by omega
     refine ZqU (by walk_at "ea") ?_
     walk_at "d"
     exact ⟨x % y, Nat.mod_lt _ y0, y, x % y, rfl, Zjo hg, rfl⟩
    ·have c : ¬ (0 : Int) < (y : Int) := of_decide_eq_false c
     have y0 : y = 0 := by omega
     subst y0
     rw [Nat.gcd_zero_right] at hg
     rw [hg]
     rfl
   case z =>
    rintro _ rfl
    walk_at "ret"
    rfl
def Zde (f : Fr) : PyData := .tuple [.int (f.t : Int), .int (f.b : Int)]
structure FrB (f : Fr) : Prop where
 ok : f.Ok
 t : f.t < 2 ^ 110
 b : f.b <= 2 ^ 110
theorem Zl5 {a b : Nat} (h1 : a < 2 ^ 2000) (h3 : b < 2 ^ 2000) : IntMulOk (a : Int) (b : Int) := ZmC (m := 2000) (n := 2000) (by omega) (by rw [show (2 : Int) ^ 2000 = ((2 ^ 2000 : Nat) : Int) by rw [Int.natCast_pow]; rfl]; exact Int.ofNat_lt.mpr h1) (by omega) (by rw [show (2 : Int) ^ 2000 = ((2 ^ 2000 : Nat) : Int) by rw [Int.natCast_pow]; rfl]; exact Int.ofNat_lt.mpr h3) (by decide)
theorem Zga {a : Nat} (h : a <= 2 ^ 1900) : a < 2 ^ 2000 := Nat.lt_of_le_of_lt h (Nat.pow_lt_pow_right (by decide) (by decide))
theorem Zl0 {a : Nat} (h : a <= 2 ^ 110) : a <= 2 ^ 1900 := Nat.le_trans h (Nat.pow_le_pow_right (by decide) (by decide))
theorem Zs5 (f : Fr) : ZfH 1 (Zde f) := ZmM (Zlt (ZnD _ _) (Zlt (ZnD _ _) Zrc))
theorem Zqd (f : Fr) : ZpQ (Zde f) := (Zs5 f).fine (by decide)
def Ze1 (B : Nat) (fs : List Fr) : Nat := fs.foldl (fun B f => B * (f.b / Nat.gcd B f.b)) B
theorem Zn5 (B : Nat) (f : Fr) (fs : List Fr) : Ze1 B (f :: fs) = Ze1 (B * (f.b / Nat.gcd B f.b)) fs := rfl
theorem ZhO (B b : Nat) : b ∣ B * (b / Nat.gcd B b) := by
 obtain ⟨c, hc⟩ := Nat.gcd_dvd_left B b
 have e : Nat.gcd B b * (b / Nat.gcd B b) = b := Nat.mul_div_cancel' (Nat.gcd_dvd_right B b)
 refine ⟨c, ?_⟩
 have q : B * (b / Nat.gcd B b) = (Nat.gcd B b * c) * (b / Nat.gcd B b) := by rw [<- hc]
 rw [q, Nat.mul_comm (Nat.gcd B b) c, Nat.mul_assoc, e, Nat.mul_comm]
theorem Zh6 : ∀ (fs : List Fr) (B : Nat), B ∣ Ze1 B fs
 | [], B => Nat.dvd_refl _
 | f :: fs, B => Nat.dvd_trans (Nat.dvd_mul_right _ _) (Zh6 fs _)
theorem ZgG : ∀ {fs : List Fr} {B : Nat} {f : Fr}, f ∈ fs -> f.b ∣ Ze1 B fs
 | g :: fs, B, f, h => by
   rcases List.mem_cons.mp h with rfl | h
   ·exact Nat.dvd_trans (ZhO B f.b) (Zh6 fs _)
   ·exact ZgG (fs := fs) h
theorem Zf3 : ∀ {fs : List Fr} {B : Nat}, 0 < B -> (∀ f ∈ fs, 0 < f.b) -> 0 < Ze1 B fs
 | [], _, h, _ => h
 | f :: fs, B, h, hf => Zf3 (fs := fs) (Nat.mul_pos h (Nat.div_pos (Nat.le_of_dvd (hf f List.mem_cons_self) (Nat.gcd_dvd_right _ _)) (Nat.gcd_pos_of_pos_left _ h))) (fun g hg => hf g (List.mem_cons_of_mem _ hg))
theorem Zob : ∀ {fs : List Fr} {B c : Nat}, B <= 2 ^ c -> (∀ f ∈ fs, f.b <= 2 ^ 110) -> Ze1 B fs <= 2 ^ (c + 110 * fs.length)
 | [], _, _, h, _ => h
 | f :: fs, B, c, h, hf => by
   have h1 : B * (f.b / Nat.gcd B f.b) <= 2 ^ (c + 110) := by
    rw [Nat.pow_add]
    exact Nat.mul_le_mul h (Nat.le_trans (Nat.div_le_self _ _) (hf f List.mem_cons_self))
   have h2 := Zob (fs := fs) h1 (fun g hg => hf g (List.mem_cons_of_mem _ hg))
   rw [Zn5, List.length_cons, Nat.mul_add, Nat.mul_one, Nat.add_comm (110 * fs.length), <- Nat.add_assoc]
   exact h2
theorem Zjc {fs : List Fr} {i : Nat} {f : Fr} (h : fs[i]? = some f) : Ze1 1 (fs.take (i + 1)) = Ze1 1 (fs.take i) * (f.b / Nat.gcd (Ze1 1 (fs.take i)) f.b) := by
 have e : fs.take (i + 1) = fs.take i ++ [f] := by rw [List.take_succ, h]; rfl
 rw [e]
 unfold Ze1
 rw [List.foldl_append]
 rfl
theorem Ze2 {fs : List Fr} (h : ∀ f ∈ fs, FrB f) (hl : fs.length <= 16) : Ze1 1 fs <= 2 ^ 1900 :=
 Nat.le_trans (Zob (c := 0) (by decide) fun f hf => (h f hf).b) (Nat.pow_le_pow_right (by decide) (by omega))
inductive R_gdiv : List OT -> OT -> Prop
 | mk {a b : Nat} : R_gdiv [.fz (.int (a : Int)), .fz (.int (b : Int))] (.fz (.int ((Nat.gcd a b : Nat) : Int)))
theorem Zb2 : FnScope ["one", "other", "rest"] ["one", "other"] (Zab Za9) := by walk_at "p"
theorem Zou (T : Bl mg) (D : Df K mg "greatest_divisor" Za9 ["one", "other"]) : Cal P w K mg base "greatest_divisor" ["one", "other"] 1 (spO (K := K) R_gdiv) := by
 refine D.ev Zb2 (fun ts r h => by cases h; rfl) (fun f cdv A outer s H E ts r hr h => ?_)
 cases h with
 | @mk a b =>
   refine ⟨_, (Zad (Zd6 PassesOwn.never (ZbA ZoH (pv 1) Zai (ZcL _)) (Zad (Zaq (i := 2) Zb2.nd rfl (Or.inl rfl) (Zau Zcr (pv 0) (pv 1)))
 (Zad (Zaq (i := 0) Zb2.nd rfl (Or.inl rfl) (pv 1))
 (Zah (Zaq (i := 1) Zb2.nd rfl (Or.inl rfl) (pv 2))))))
 (Zah (Zaw (pv 0)))), ?_⟩
   show EvS K _ [some _, some _, none] _
   walk_at "x"
   refine ZhC (fun ρ' => ∃ u : Option OT, ρ' = [some (.fz (.int ((Nat.gcd a b : Nat) : Int))), some (.fz (.int 0)), u]) (Zd3 (fun m ρ' => ∃ (x y : Nat) (u : Option OT), y = m /\ Nat.gcd x y = Nat.gcd a b /\ ρ' = [some (.fz (.int (x : Int))), some (.fz (.int (y : Int))), u]) b ⟨a, b, none, rfl, rfl, rfl⟩ ?w) ?z
   case w =>
    rintro m _ ⟨x, y, u, rfl, hg, rfl⟩
    refine ⟨_, by walk_at "et", fun c => ?_, fun c => ?_⟩
    ·have c : ¬ (y : Int) = 0 := by simpa using c
     have y0 : 0 < y := by omega
     have y1 : (0 : Int) < (y : Int) := by omega
     walk_at "ss"
     exact ⟨x % y, Nat.mod_lt _ y0, y, x % y, _, rfl, Zjo hg, rfl⟩
    ·have c : (y : Int) = 0 := by simpa using c
     have y0 : y = 0 := by omega
     subst y0
     rw [Nat.gcd_zero_right] at hg
     rw [hg]
     exact ⟨u, rfl⟩
   case z =>
    rintro _ ⟨u, rfl⟩
    walk_at "ret"
    rfl
inductive R_cbot : List OT -> OT -> Prop
 | mk {fs : List Fr} (h : ∀ f ∈ fs, FrB f) (hl : fs.length <= 16) : R_cbot [.fz (.list (fs.map Zde))] (.fz (.int (Ze1 1 fs : Int)))
theorem ZbX : FnScope ["parts", "bottom", "part"] ["parts"] (Zab ZaI) := by walk_at "p"
theorem Zox (T : Bl mg) (D : Df K mg "common_bottom" ZaI ["parts"]) (c_greatest_divisor : Cal P w K mg base "greatest_divisor" ["one", "other"] 1 (spO (K := K) R_gdiv)) : Cal P w K mg base "common_bottom" ["parts"] 2 (spO (K := K) R_cbot) := by
 refine D.ev ZbX (fun ts r h => by cases h; rfl) (fun f cdv A outer s H E ts r hr h => ?_)
 cases h with
 | @mk fs h hl =>
   refine ⟨_, (Zad (Zaq (i := 1) ZbX.nd rfl (Or.inl rfl) Zai)
 (Zad (ZbB PassesOwn.never rfl (ZaV (pv 0)) (Zam (i := 2) ZbX.nd rfl (Or.inl rfl)) (Zah (Zq4 (i := 1) ZbX.nd rfl (Or.inl rfl) (Zau ZaL (Zax Zan (pv 2) Zai (fun _ _ => rfl)) (Zap c_greatest_divisor hr (Zaa (pv 1) (Zaa (Zax Zan (pv 2) Zai (fun _ _ => rfl)) Zae)) (hj := by walk_at "j"))) Zpv)))
 (Zah (Zaw (pv 1))))), ?_⟩
   show EvS K _ [some _, none, none] _
   walk_at "x"
   refine Zar (ZbO (d := .int 1) Zba ?_)
   walk_at "d"
   refine Zar (ZbC (ds := fs.map Zde) (fun i => [some (.fz (.list (fs.map Zde))), some (.fz (.int (Ze1 1 (fs.take i) : Int))), none]) ?ei ⟨rfl, rfl, trivial⟩ ?st ?fin)
   case ei => exact Zb9 (Zac rfl)
   case st =>
    intro i d hd
    have hi : i < fs.length := by
     have := (List.getElem?_eq_some_iff.mp hd).1
     simpa using this
    obtain rfl : d = Zde fs[i] := by simpa [hi] using hd.symm
    have hm := h fs[i] (List.getElem_mem hi)
    have hp : Ze1 1 (fs.take i) <= 2 ^ 1900 := Ze2 (fun f hf => h f (List.mem_of_mem_take hf)) (by rw [List.length_take]; omega)
    have hp0 : 0 < Ze1 1 (fs.take i) := Zf3 (by decide) (fun f hf => (h f (List.mem_of_mem_take hf)).ok.1)
    have et := Zjc (List.getElem?_eq_getElem hi)
    rw [et]
    generalize Ze1 1 (fs.take i) = B at hp hp0
    refine ⟨_, by walk_at "g", ?_⟩
    walk_at "d"
    have g0 : 0 < Nat.gcd B fs[i].b := Nat.gcd_pos_of_pos_left _ hp0
    have g1 : Nat.gcd B fs[i].b <= 2 ^ 110 := Nat.le_trans (Nat.le_of_dvd hm.ok.1 (Nat.gcd_dvd_right _ _)) hm.b
    have cb : ZeY (fs[i].b : Int) ((Nat.gcd B fs[i].b : Nat) : Int) := ⟨by omega, by
     have : ((Nat.gcd B fs[i].b : Nat) : Int) <= ((2 ^ 110 : Nat) : Int) := Int.ofNat_le.mpr g1
     exact Int.lt_of_le_of_lt this (by decide +kernel)⟩
    have qb : fs[i].b / Nat.gcd B fs[i].b <= 2 ^ 110 := Nat.le_trans (Nat.div_le_self _ _) hm.b
    refine ZoR (m := (B : Int)) (n := ((fs[i].b / Nat.gcd B fs[i].b : Nat) : Int)) rfl (EvE.cast (ZcC (Zdd (ds := [.int (fs[i].t : Int), .int (fs[i].b : Int)]) (Zac rfl) Zba rfl) (Za3 (Zaf (Zac rfl) (Zaf (Zdd (ds := [.int (fs[i].t : Int), .int (fs[i].b : Int)]) (Zac rfl) Zba rfl) Zas)) R_gdiv.mk) cb) rfl) (Zl5 (Zga hp) (Zga (Zl0 qb))) ?_
    walk_at "d"
    refine ⟨rfl, ?_, trivial⟩
    rw [Int.natCast_mul]
   case fin =>
    intro ρ' hf
    refine ZcW hf ?_
    rw [List.length_map, List.take_length]
    exact Zcl (Zac rfl) rfl
def Zha (B : Nat) (f : Fr) : Int := (phi B f : Int)
inductive R_tops : List OT -> OT -> Prop
 | mk {fs : List Fr} {B : Nat} (h : ∀ f ∈ fs, FrB f) (hd : ∀ f ∈ fs, f.b ∣ B) (hB : 0 < B) (h2 : B <= 2 ^ 1900) (hl : fs.length <= 8) : R_tops [.fz (.list (fs.map Zde)), .fz (.int (B : Int))] (.ol (((ZkI fs).map (Zha B)).map PyData.int))
theorem Zhs : FnScope ["parts", "bottom"] ["parts", "bottom"] (Zab ZbH) := by walk_at "p"
theorem Zpm (T : Bl mg) (D : Df K mg "tops_over" ZbH ["parts", "bottom"]) : Cal P w K mg base "tops_over" ["parts", "bottom"] 1 (spO (K := K) R_tops) := by
 refine D.ev Zhs (fun ts r h => by cases h; rfl) (fun f cdv A outer s H E ts r hr h => ?_)
 cases h with
 | @mk fs B h hd hB h2 hl =>
   refine ⟨_, (Zah (Zaw (Za0 Zib (by rfl) T.sorted Zh3 (Zaa (ZeO (NX := ["parts", "bottom"]) (sc := Zab ZbH) (N := ["part", "bottom"]) (f := [none, some 1]) rfl (by decide +kernel) rfl rfl (ZaV (pv 0)) (fun _ => (Zam (i := 0) (show (["part", "bottom"] : List Str).Nodup by decide +kernel) rfl (Or.inl rfl))) (fun _ => Zbk) (fun _ => ZbQ) (fun _ => (Zau ZcV (Zax Zan (pv 0) Zai (fun _ _ => rfl)) (Zau ZaL (pv 1) (Zax Zan (pv 0) Zai (fun _ _ => rfl)))))) Zae)))), ?_⟩
   show EvS K _ [some _, some _] _
   walk_at "x"
   refine Zgp (Zhh (ns := fs.map (Zha B)) (ms := (ZkI fs).map (Zha B)) (EvE.cast (EvO.fz (Zel (xs := fs) (enc := Zde) (h := fun f => .int (Zha B f)) ?ei (by omega) ?el)) (by rw [List.map_map]; rfl)) ((ZdP fs).map _) ?so (by rw [List.length_map]; omega)) rfl
   case ei => exact Zb9 (Zac rfl)
   case so =>
    rw [List.pairwise_map]
    exact (Zkk hB fun g hg => ⟨hd g hg, (h g hg).ok.1⟩).imp fun {a b} z => Int.ofNat_le.mpr z
   case el =>
    intro x hx c
    have hm := h x hx
    have b0 := hm.ok.1
    refine ⟨_, by walk_at "g", ?_⟩
    walk_at "e"
    have cb : ZeY (B : Int) (x.b : Int) := ⟨by omega, by
     have : (x.b : Int) <= ((2 ^ 110 : Nat) : Int) := Int.ofNat_le.mpr hm.b
     exact Int.lt_of_le_of_lt this (by decide +kernel)⟩
    have q : B / x.b <= 2 ^ 1900 := Nat.le_trans (Nat.div_le_self _ _) h2
    have mk := Zl5 (a := x.t) (b := B / x.b) (Zga (Zl0 (Nat.le_of_lt hm.t))) (Zga q)
    exact EvE.cast (ZcC (Zdd (ds := [.int (x.t : Int), .int (x.b : Int)]) (Zac rfl) Zba rfl) (EvE.cast (d' := .int ((B / x.b : Nat) : Int)) (ZcC (Zac rfl) (Zdd (ds := [.int (x.t : Int), .int (x.b : Int)]) (Zac rfl) Zba rfl) cb) rfl) mk) (by unfold Zha phi; rw [Int.natCast_mul])
theorem Zld {B : Nat} (hB : 0 < B) : ∀ {as bs : List Fr}, (∀ f ∈ as, f.Ok /\ f.b ∣ B) -> (∀ f ∈ bs, f.Ok /\ f.b ∣ B) -> ZfB (as.map (Zha B)) (bs.map (Zha B)) = Zqo as bs
 | [], [], _, _ => rfl
 | [], _ :: _, _, _ => rfl
 | _ :: _, [], _, _ => rfl
 | f :: as, g :: bs, ha, hb => by
   obtain ⟨k1, k2⟩ := ZmP hB (ha f List.mem_cons_self).1 (hb g List.mem_cons_self).1 (ha f List.mem_cons_self).2 (hb g List.mem_cons_self).2
   have k1 : Zha B f = Zha B g ↔ f = g := k1
   have k2 : Zha B g < Zha B f ↔ g.t * f.b < f.t * g.b := k2
   have ih := Zld hB (as := as) (bs := bs) (fun f hf => ha f (List.mem_cons_of_mem _ hf)) (fun f hf => hb f (List.mem_cons_of_mem _ hf))
   show (if Zha B f = Zha B g then ZfB (as.map (Zha B)) (bs.map (Zha B)) else decide (Zha B g < Zha B f)) = if f = g then Zqo as bs else decide (g.t * f.b < f.t * g.b)
   by_cases e : f = g
   ·rw [if_pos e, if_pos (k1.mpr e), ih]
   ·rw [if_neg e, if_neg (fun z => e (k1.mp z))]
    exact decide_eq_decide.mpr k2
inductive R_fairer : List OT -> OT -> Prop
 | mk {as bs : List Fr} (ha : ∀ f ∈ as, FrB f) (hb : ∀ f ∈ bs, FrB f) (hl : as.length = bs.length) (h8 : as.length <= 8) : R_fairer [.fz (.list (as.map Zde)), .fz (.list (bs.map Zde))] (.fz (.bool (Zqo (ZkI as) (ZkI bs))))
theorem ZeW : FnScope ["one", "other", "bottom"] ["one", "other"] (Zab Zcc) := by walk_at "p"
theorem Zml (T : Bl mg) (D : Df K mg "is_fairer" Zcc ["one", "other"]) (c_common_bottom : Cal P w K mg base "common_bottom" ["parts"] 2 (spO (K := K) R_cbot)) (c_tops_over : Cal P w K mg base "tops_over" ["parts", "bottom"] 1 (spO (K := K) R_tops)) : Cal P w K mg base "is_fairer" ["one", "other"] 3 (spO (K := K) R_fairer) := by
 refine D.ev ZeW (fun ts r h => by cases h; rfl) (fun f cdv A outer s H E ts r hr h => ?_)
 cases h with
 | @mk as bs ha hb hl h8 =>
   have hu := hr.units
   refine ⟨_, (Zad (Zaq (i := 2) ZeW.nd rfl (Or.inl rfl) (Zap c_common_bottom hr (Zaa (Zau Zgl (pv 0) (pv 1)) Zae) (hj := by walk_at "j")))
 (Zah (Zaw (Zoy (Zqm hu) (Zap c_tops_over hr (Zaa (pv 0) (Zaa (pv 2) Zae)) (hj := by walk_at "j")) (Zap c_tops_over hr (Zaa (pv 1) (Zaa (pv 2) Zae)) (hj := by walk_at "j")) (ZcL _))))), ?_⟩
   show EvS K _ [some _, some _, none] _
   walk_at "x"
   have hab : ∀ f ∈ as ++ bs, FrB f := fun f hf => by
    rcases List.mem_append.mp hf with hf | hf
    ·exact ha f hf
    ·exact hb f hf
   have l16 : (as ++ bs).length <= 16 := by rw [List.length_append]; omega
   refine Zar (ZbO (Za3 (Zaf (EvE.cast (d' := .list ((as ++ bs).map Zde)) (EvO.fz (Zgm (as := as.map Zde) (bs := bs.map Zde) (Zac rfl) (Zac rfl) (by simp; omega))) (by rw [List.map_append])) Zas) (R_cbot.mk hab l16)) ?_)
   walk_at "d"
   have hB : 0 < Ze1 1 (as ++ bs) := Zf3 (by decide) fun f hf => (hab f hf).ok.1
   have h2 := Ze2 hab l16
   have da : ∀ f ∈ as, f.b ∣ Ze1 1 (as ++ bs) := fun f hf => ZgG (List.mem_append_left _ hf)
   have db : ∀ f ∈ bs, f.b ∣ Ze1 1 (as ++ bs) := fun f hf => ZgG (List.mem_append_right _ hf)
   generalize Ze1 1 (as ++ bs) = B at hB h2 da db
   refine Zcl (Zrf (ns := (ZkI as).map (Zha B)) (ms := (ZkI bs).map (Zha B)) (Zez (Zaf (Zac rfl) (Zaf (Zac rfl) Zas)) (R_tops.mk ha da hB h2 h8)) (Zez (Zaf (Zac rfl) (Zaf (Zac rfl) Zas)) (R_tops.mk hb db hB h2 (by omega))) (by rw [List.length_map, List.length_map, (ZdP as).length_eq, (ZdP bs).length_eq, hl])) ?_
   rw [Zld hB (fun f hf => have m := (ZdP as).mem_iff.mp hf; ⟨(ha f m).ok, da f m⟩) (fun f hf => have m := (ZdP bs).mem_iff.mp hf; ⟨(hb f m).ok, db f m⟩)]
def frT (t : Int) (b : Nat) : Int := t / ((Nat.gcd t.natAbs b : Nat) : Int)
def frB (t : Int) (b : Nat) : Nat := b / Nat.gcd t.natAbs b
theorem ZgE (t : Int) {b : Nat} (h0 : 0 < b) : ∃ g : Nat, 0 < g /\ g <= b /\ Nat.gcd t.natAbs b = g /\ t = (g : Int) * frT t b /\ b = g * frB t b /\ 0 < frB t b /\ Nat.gcd (frT t b).natAbs (frB t b) = 1 := by
 have hg : 0 < Nat.gcd t.natAbs b := Nat.gcd_pos_of_pos_right _ h0
 have d1 : Nat.gcd t.natAbs b ∣ t.natAbs := Nat.gcd_dvd_left _ _
 have d2 : Nat.gcd t.natAbs b ∣ b := Nat.gcd_dvd_right _ _
 have d3 : ((Nat.gcd t.natAbs b : Nat) : Int) ∣ t := Int.ofNat_dvd_left.mpr d1
 have e1 : ((Nat.gcd t.natAbs b : Nat) : Int) * frT t b = t := Int.mul_ediv_cancel' d3
 have e2 : Nat.gcd t.natAbs b * frB t b = b := Nat.mul_div_cancel' d2
 have e3 : t.natAbs = Nat.gcd t.natAbs b * (frT t b).natAbs := by
  have := congrArg Int.natAbs e1
  rw [Int.natAbs_mul, Int.natAbs_natCast] at this
  exact this.symm
 have p0 : 0 < frB t b := Nat.pos_of_ne_zero fun z => by rw [z, Nat.mul_zero] at e2; omega
 refine ⟨Nat.gcd t.natAbs b, hg, Nat.le_of_dvd h0 d2, rfl, e1.symm, e2.symm, p0, ?_⟩
 have e4 : Nat.gcd (Nat.gcd t.natAbs b * (frT t b).natAbs) (Nat.gcd t.natAbs b * frB t b) = Nat.gcd t.natAbs b := by rw [<- e3, e2]
 rw [Nat.gcd_mul_left] at e4
 exact Nat.eq_of_mul_eq_mul_left hg (by rw [Nat.mul_one]; exact e4)
theorem ZiK (t : Int) : Zfz t = ((t.natAbs : Nat) : Int) := by
 unfold Zfz
 split <;> omega
inductive R_frac : List OT -> OT -> Prop
 | mk {t : Int} {b : Nat} (h0 : 0 < b) (h1 : (b : Int) < 2 ^ 8000) : R_frac [.fz (.int t), .fz (.int (b : Int))] (.fz (.tuple [.int (frT t b), .int (frB t b : Int)]))
theorem ZfM : FnScope ["top", "bottom", "divisor"] ["top", "bottom"] (Zab Zc2) := by walk_at "p"
theorem Zpq (T : Bl mg) (D : Df K mg "fraction" Zc2 ["top", "bottom"]) (c_greatest_divisor : Cal P w K mg base "greatest_divisor" ["one", "other"] 1 (spO (K := K) R_gdiv)) : Cal P w K mg base "fraction" ["top", "bottom"] 2 (spO (K := K) R_frac) := by
 refine D.ev ZfM (fun ts r h => by cases h; rfl) (fun f cdv A outer s H E ts r hr h => ?_)
 cases h with
 | @mk t b h0 h1 =>
   refine ⟨_, (Zad (Zaq (i := 2) ZfM.nd rfl (Or.inl rfl) (Zap c_greatest_divisor hr (Zaa (Za0 Zj8 (by rfl) T.abs Zj4 (Zaa (pv 0) Zae)) (Zaa (pv 1) Zae)) (hj := by walk_at "j")))
 (Zah (Zaw (Zcy (Zaa (Zau ZaL (pv 0) (pv 2)) (Zaa (Zau ZaL (pv 1) (pv 2)) Zae)))))), ?_⟩
   show EvS K _ [some _, some _, none] _
   walk_at "x"
   obtain ⟨g, g1, g2, e, _⟩ := ZgE t h0
   have e0 : PyData.int (Zfz t) = PyData.int ((t.natAbs : Nat) : Int) := by rw [ZiK]
   refine Zar (ZbO (Za3 (Zaf (EvE.cast (d := .int (Zfz t)) (by walk_at "ev") e0) (Zaf (by walk_at "ev") Zas)) R_gdiv.mk) ?_)
   walk_at "d"
   have c1 : ZeY t ((Nat.gcd t.natAbs b : Nat) : Int) := ⟨by omega, by omega⟩
   have c2 : ZeY (b : Int) ((Nat.gcd t.natAbs b : Nat) : Int) := ⟨by omega, by omega⟩
   refine Zcl (Zec (ZaS (ZcC (Zac rfl) (Zac rfl) c1) (ZaS (ZcC (Zac rfl) (Zac rfl) c2) ZaO)) ZpN) ?_
   rfl
def gvS (y : Yd) (gs : List Gs) (S : Nat -> Bool) : Int := ZaA y gs (ZbF gs S)
def waN (gs : List Gs) (k : Nat) : Int := (gs.getD k default).want
def Zay (sm : List Nat) : Nat -> Bool := fun k => decide (k ∈ sm)
theorem ZhN {gs : List Gs} {S U : Nat -> Bool} (h : ∀ k, k < gs.length -> S k = U k) : ZbF gs S = ZbF gs U := List.filter_congr fun k hk => h k (List.mem_range.mp hk)
theorem Zrl {y : Yd} {gs : List Gs} (ok : y.Ok) (hg : ∀ g ∈ gs, g.Ok y) : Giv gs.length (waN gs) (gvS y gs) where
 w1 k hk := by
  show 1 <= (gs.getD k default).want
  rw [Zdm hk]
  exact (hg _ (List.getElem_mem hk)).w1
 g0 S hS := by
  unfold gvS
  have e : ZbF gs S = [] := List.filter_eq_nil_iff.mpr fun k hk => by rw [hS k (List.mem_range.mp hk)]; decide
  rw [e]
  exact Ze8 ok gs
 nn S := by
  have e : ZaA y gs [] = 0 := Ze8 ok gs
  unfold gvS
  rw [<- e]
  unfold ZaA
  rw [Zbi, Zbi]
  refine Zbx fun t _ => Ziz (fun _ => Int.le_refl _) (fun l => ?_) 0
  show (0 : Int) <= Zb1 gs (t : Int) l ((List.range gs.length).filter S)
  rw [ZeP]
  refine ZiR fun k hk => ?_
  split
  ·unfold wgt
   cases e : gs[k]? with
   | none => simp
   | some g =>
     have := (hg g (List.mem_of_getElem? e)).m1
     dsimp only
     split <;> omega
  ·exact Int.le_refl _
 ext S U h := by
  unfold gvS
  rw [ZhN h]
 sub S U := by
  unfold gvS ZaA
  rw [Zbi, Zbi, Zbi, Zbi, <- Zcm, <- Zcm]
  exact Zbx fun t _ => Zir (y := y) (c := fun k => Zbc y k t) (Znh (gs := gs) (fun g h => (hg g h).m1) (t : Int) S U gs.length)
theorem ZkD (gs : List Gs) (t : Int) (l : Nat) {a b : List Nat} (h : a.Perm b) : Zb1 gs t l a = Zb1 gs t l b := by
 induction h with
 | nil => rfl
 | cons x _ ih => simp only [Zb1, ih]
 | swap x z r => simp only [Zb1]; omega
 | trans _ _ h1 h2 => rw [h1, h2]
theorem Zjf (f : Nat -> Int) {a b : List Nat} (h : a.Perm b) : (a.map f).sum = (b.map f).sum := by
 induction h with
 | nil => rfl
 | cons x _ ih => simp only [List.map_cons, List.sum_cons, ih]
 | swap x z r => simp only [List.map_cons, List.sum_cons]; omega
 | trans _ _ h1 h2 => rw [h1, h2]
structure NdS (gs : List Gs) (sm : List Nat) : Prop where
 mem : ∀ k ∈ sm, k < gs.length
 nd : sm.Nodup
theorem NdS.perm {gs : List Gs} {sm : List Nat} (h : NdS gs sm) : sm.Perm (ZbF gs (Zay sm)) := by
 refine (List.perm_ext_iff_of_nodup h.nd (List.nodup_range.filter _)).mpr fun k => ?_
 rw [List.mem_filter, List.mem_range]
 unfold Zay
 rw [decide_eq_true_eq]
 exact ⟨fun z => ⟨h.mem k z, z⟩, fun z => z.2⟩
theorem NdS.ok {gs : List Gs} {sm : List Nat} (h : NdS gs sm) (g8 : gs.length <= 8) : SetOk gs sm := ⟨h.mem, by
 have := h.perm.length_eq
 have h2 := (Zg6 g8 (Zay sm)).len
 omega⟩
theorem NdS.given {y : Yd} {gs : List Gs} {sm : List Nat} (h : NdS gs sm) : ZaA y gs sm = gvS y gs (Zay sm) := by
 unfold gvS ZaA
 congr 1
 refine List.map_congr_left fun t _ => ?_
 unfold Zcf
 rw [show ZdN gs t sm = ZdN gs t (ZbF gs (Zay sm)) from funext fun l => ZkD gs (t : Int) l h.perm]
theorem NdS.wants {gs : List Gs} {sm : List Nat} (h : NdS gs sm) : (sm.map (waN gs)).sum = wS gs.length (waN gs) (Zay sm) := by
 rw [Zjf (waN gs) h.perm]
 exact Zdz (waN gs) (Zay sm) gs.length
theorem Zek (a b : List Nat) (k : Nat) : Zay (a ++ b) k = (Zay a k || Zay b k) := by
 unfold Zay
 by_cases h1 : k ∈ a <;> by_cases h2 : k ∈ b <;> simp [h1, h2]
theorem ZeM {y : Yd} {gs : List Gs} (a b : List Nat) : gvS y gs (Zay (a ++ b)) = gvS y gs (fun k => Zay a k || Zay b k) := by
 unfold gvS
 rw [ZhN fun k _ => Zek a b k]
def Zdy (p q : Int) (g : Gs) : Gs := ⟨g.line, g.first, g.last, g.want * p, g.most * q⟩
theorem Zh5 (gs : List Gs) (p q : Int) (t : Int) (l : Nat) : ∀ sm : List Nat, Zb1 (gs.map (Zdy p q)) t l sm = Zb1 gs t l sm * q
 | [] => by simp [Zb1]
 | j :: r => by
   simp only [Zb1]
   rw [Zh5 gs p q t l r, Int.add_mul]
   congr 1
   rw [List.getElem?_map]
   cases gs[j]? with
   | none => simp
   | some g =>
     simp only [Option.map_some]
     by_cases h : g.line = l /\ Zc7 g t = true
     ·rw [if_pos (show (Zdy p q g).line = l /\ Zc7 (Zdy p q g) t = true from h), if_pos h]
      rfl
     ·rw [if_neg (show ¬ ((Zdy p q g).line = l /\ Zc7 (Zdy p q g) t = true) from h), if_neg h]
      simp
theorem Zgt {y : Yd} (gs : List Gs) (sm : List Nat) {p q : Int} (h : 0 <= q) : ZaA (ZaD y q) (gs.map (Zdy p q)) sm = q * ZaA y gs sm := by
 rw [ZaA, ZaA, Zbi, Zbi, <- ZdV]
 refine Zaj fun t _ => ?_
 unfold Zcf ZdN
 have hu : ∀ j, Zcx (ZaD y q) j = Zcx y j := fun j => by
  simp only [Zcx, ZaD, List.getElem?_map]
  cases y.ls[j]? <;> rfl
 have hb : (fun j => Zbc (ZaD y q) j t) = fun j => Zbc y j t * q := by
  funext j
  simp only [Zbc, ZaD, List.getElem?_map]
  cases y.ls[j]? with
  | none => simp
  | some ln =>
    simp only [Option.map_some, Option.getD_some, Zep, List.getD, List.getElem?_map]
    cases ln.bs[t]? <;> simp
 have ho : (fun l => Zb1 (gs.map (Zdy p q)) (t : Int) l sm) = fun l => Zb1 gs (t : Int) l sm * q := by
  funext l
  exact Zh5 gs p q t l sm
 rw [hb, ho, Zk8 h hu (by simp [ZaD]), Int.mul_comm]
theorem Zlx (gs : List Gs) (p q : Int) (S : Nat -> Bool) : Zi8 (gs.map (Zdy p q)) (ZbF gs S) = p * wS gs.length (waN gs) S := by
 unfold Zi8
 have e : ((ZbF gs S).map fun k => ((gs.map (Zdy p q)).getD k default).want) = (ZbF gs S).map fun k => p * waN gs k := List.map_congr_left fun k hk => by
  have hk' : k < gs.length := List.mem_range.mp (List.mem_filter.mp hk).1
  unfold waN
  simp only [List.getD, List.getElem?_map, List.getElem?_eq_getElem hk', Option.map_some, Option.getD_some]
  exact Int.mul_comm _ _
 rw [e]
 unfold wS
 rw [<- ZdV]
 have h := Zdz (fun k => p * waN gs k) S gs.length
 have h2 : Za1 (Za5 S fun k => p * waN gs k) gs.length = Za1 (fun k => p * Za5 S (waN gs) k) gs.length := Zaj fun k _ => by
  unfold Za5
  dsimp only
  split
  ·rfl
  ·simp
 rw [<- h2]
 exact h
theorem ZhT {gs gs' : List Gs} (h : gs'.length = gs.length) (S : Nat -> Bool) : ZbF gs' S = ZbF gs S := by
 unfold ZbF
 rw [h]
theorem Zo5 {y : Yd} {gs : List Gs} {p q : Int} (hq : 0 <= q) (ok' : (ZaD y q).Ok) (hg' : ∀ g ∈ gs.map (Zdy p q), GOk (ZaD y q) g) {φ : Phi Nd} {es : Got Nd} (h : ZkX (ZaD y q) (ZcN (gs.map (Zdy p q))) φ es) (U : Nat -> Bool) :
 p * wS gs.length (waN gs) U - q * gvS y gs U <= p * wS gs.length (waN gs) (Zej es) - q * gvS y gs (Zej es) := by
 have e : ∀ S, Zgf (ZaD y q) (ZcN (gs.map (Zdy p q))) S = p * wS gs.length (waN gs) S - q * gvS y gs S := fun S => by
  rw [ZkQ, ZhT (gs := gs) (gs' := gs.map (Zdy p q)) (by simp) S, Zlx, Zgt gs _ hq]
  rfl
 rw [<- e, <- e]
 have h1 := Zmm h.1 ok' (ZnS hg') U
 have h2 : Zpo (ZaD y q) (ZcN (gs.map (Zdy p q))) φ = Zgf (ZaD y q) (ZcN (gs.map (Zdy p q))) (Zej es) := h.1.lack ok' (ZnS hg') h.2.2.1 h.2.1 h.2.2.2
 omega
structure Sml (y : Yd) (gs : List Gs) : Prop where
 ok : y.Ok
 hg : ∀ g ∈ gs, g.Ok y
 g8 : gs.length <= 8
 b30 : ∀ l ∈ y.ls, ∀ b ∈ l.bs, b < 10 ^ 30
 w30 : ∀ g ∈ gs, g.want < 10 ^ 30 /\ g.most < 10 ^ 30
theorem Sml.giv {y : Yd} {gs : List Gs} (h : Sml y gs) : Giv gs.length (waN gs) (gvS y gs) := Zrl h.ok h.hg
inductive R_wwant : List OT -> OT -> Prop
 | mk {g : Gs} {n : Int} : R_wwant [.fz (eGs g), .fz (.int n)] (.fz (eGs ⟨g.line, g.first, g.last, n, g.most⟩))
theorem Zht : FnScope ["guest", "want"] ["guest", "want"] (Zab Zca) := by walk_at "p"
theorem ZmO (T : Bl mg) (D : Df K mg "with_want" Zca ["guest", "want"]) : Cal P w K mg base "with_want" ["guest", "want"] 1 (spO (K := K) R_wwant) := by
 refine D.ev Zht (fun ts r h => by cases h; rfl) (fun f cdv A outer s H E ts r hr h => ?_)
 cases h with
 | @mk g n =>
   refine ⟨_, (Zah (Zaw (Zcy (Zaa (Zax Zan (pv 0) Zai (fun _ _ => rfl)) (Zaa (Zax Zan (pv 0) Zai (fun _ _ => rfl)) (Zaa (Zax Zan (pv 0) Zai (fun _ _ => rfl)) (Zaa (pv 1) (Zaa (Zax Zan (pv 0) Zai (fun _ _ => rfl)) Zae)))))))), ?_⟩
   show EvS K _ [some _, some _] _
   walk_at "x"
   have ix : ∀ {ρ : Zbe} {k : Int} {d : PyData}, ρ[0]? = some (some (.fz (eGs g))) -> atI [.int (g.line : Int), .int (g.first : Int), .int (g.last : Int), .int g.want, .int g.most] k = some d -> EvE K (tOp (rIx K) (ZcP 0) (tC (.int k))) ρ d := fun e h => Zdd (ds := [.int (g.line : Int), .int (g.first : Int), .int (g.last : Int), .int g.want, .int g.most]) (Zac e) Zba h
   exact Zcl (Zec (ZaS (ix rfl rfl) (ZaS (ix rfl rfl) (ZaS (ix rfl rfl) (ZaS (Zac rfl) (ZaS (ix rfl rfl) ZaO))))) (by show (5 : Nat) <= 1000; decide)) rfl
inductive R_asking : List OT -> OT -> Prop
 | mk {gs : List Gs} {p q : Int} (q1 : 1 <= q) (q2 : q < 10 ^ 100) (p0 : 0 <= p) (p2 : p < 10 ^ 100) (hw : ∀ g ∈ gs, (0 <= g.want /\ g.want < 10 ^ 100) /\ 0 <= g.most /\ g.most < 10 ^ 100) (g8 : gs.length <= 8) :
  R_asking [.fz (.list (gs.map eGs)), .fz (.list (gs.map fun g => .tuple [.int (g.want * p), .int q])), .fz (.int q)] (.ol ((gs.map (Zdy p q)).map eGs))
theorem Zmj {a b : Int} (h0 : 0 <= a) (h1 : a < 10 ^ 100) (h2 : 0 <= b) (h3 : b < 10 ^ 100) : 0 <= a * b /\ a * b < 10 ^ 200 := by
 refine ⟨Int.mul_nonneg h0 h2, ?_⟩
 have e1 : a * b <= (10 ^ 100 - 1) * (10 ^ 100 - 1) := Int.mul_le_mul (by omega) (by omega) h2 (by decide +kernel)
 exact Int.lt_of_le_of_lt e1 (by decide +kernel)
theorem Zcp {a : Int} (h : a < 10 ^ 100) : a < 10 ^ 300 := Int.lt_trans h (by decide +kernel)
theorem Zji {a : Int} (h : a < 10 ^ 200) : a < 10 ^ 300 := Int.lt_trans h (by decide +kernel)
theorem Zos (gs : List Gs) (p q : Int) : Zm9 ((gs.map fun g => ZdK g q).map eGs) (gs.map fun g => PyData.int (g.want * p)) = gs.map fun g => .tuple [eGs (ZdK g q), .int (g.want * p)] := by
 unfold Zm9
 rw [List.map_map]
 induction gs with
 | nil => rfl
 | cons g gs ih =>
   simp only [List.map_cons, List.zip_cons_cons]
   rw [ih]
   rfl
theorem ZhJ : FnScope ["guests", "totals", "k", "wants"] ["guests", "totals", "k"] (Zab ZcO) := by walk_at "p"
theorem Zlz (T : Bl mg) (D : Df K mg "asking" ZcO ["guests", "totals", "k"]) (c_guests_times : Cal P w K mg base "guests_times" ["guests", "k"] 2 (spO (K := K) R_gsstimes)) (c_with_want : Cal P w K mg base "with_want" ["guest", "want"] 1 (spO (K := K) R_wwant)) : Cal P w K mg base "asking" ["guests", "totals", "k"] 3 (spO (K := K) R_asking) := by
 refine D.ev ZhJ (fun ts r h => by cases h; rfl) (fun f cdv A outer s H E ts r hr h => ?_)
 cases h with
 | @mk gs p q q1 q2 p0 p2 hw g8 =>
   refine ⟨_, (Zad (ZdU (i := 3) ZhJ.nd rfl rfl (NX := ["guests", "totals", "k", "wants"]) (sc := Zab ZcO) (N := ["total", "k"]) (f := [none, some 2]) rfl (by decide +kernel) rfl rfl (ZaV (pv 1)) (fun _ => (Zam (i := 0) (show (["total", "k"] : List Str).Nodup by decide +kernel) rfl (Or.inl rfl))) (fun _ => Zbk) (fun _ => ZbQ) (fun _ => (Zau ZaL (Zau ZcV (Zax Zan (pv 0) Zai (fun _ _ => rfl)) (pv 1)) (Zax Zan (pv 0) Zai (fun _ _ => rfl)))) rfl)
 (Zah (Zaw (ZeO (NX := ["guests", "totals", "k", "wants"]) (sc := Zab ZcO) (N := ["guest", "want"]) (f := [none, none]) rfl (by decide +kernel) rfl rfl (Zom rfl T.zip (Zaa (Zap c_guests_times hr (Zaa (pv 0) (Zaa (pv 2) Zae)) (hj := by walk_at "j")) (Zaa (pv 3) Zae))) (fun _ => (ZdR (n := 2) rfl (Za6 (Zam (i := 0) (show (["guest", "want"] : List Str).Nodup by decide +kernel) rfl (Or.inl rfl)) (Za6 (Zam (i := 1) (show (["guest", "want"] : List Str).Nodup by decide +kernel) rfl (Or.inl rfl)) Zdb)))) (fun _ => (Zq6 (n := 2) (Zjv Zbk (Zjv Zbk ZoI)))) (fun _ => ZbQ) (fun _ => (Zap c_with_want hr (Zaa (pv 0) (Zaa (pv 1) Zae)) (hj := by walk_at "j"))))))), ?_⟩
   show EvS K _ [some _, some _, some _, none] _
   walk_at "x"
   refine Zar (ZcF (Zel (xs := gs) (enc := fun g => .tuple [.int (g.want * p), .int q]) (h := fun g => .int (g.want * p)) ?ei (by omega) ?el) ?_)
   case ei => exact Zb9 (Zac rfl)
   case el =>
    intro g hg c
    obtain ⟨⟨w0, w1⟩, m0, m1⟩ := hw g hg
    have m := Zmj w0 w1 p0 p2
    refine ⟨_, ZaN, ?_⟩
    walk_at "e"
    have cd : ZeY (g.want * p * q) q := ⟨by omega, Int.lt_trans q2 (by decide +kernel)⟩
    exact EvE.cast (ZcC (ZcC (Zdd (ds := [.int (g.want * p), .int q]) (Zac rfl) Zba rfl) (Zac rfl) (Zgi m.1 (Zji m.2) (by omega) (Zcp q2))) (Zdd (ds := [.int (g.want * p), .int q]) (Zac rfl) Zba rfl) cd) (by rw [Int.mul_ediv_cancel _ (by omega)])
   walk_at "d"
   refine ZeI 3 rfl ?_
   walk_at "d"
   refine Zgp (Zel (xs := gs) (enc := fun g => .tuple [eGs (ZdK g q), .int (g.want * p)]) (h := fun g => eGs (Zdy p q g)) ?ei2 (by omega) ?el2) (by rw [List.map_map]; rfl)
   case ei2 =>
    refine EvI.cast (Zog (Zaf (Zez (Zaf (Zac rfl) (Zaf (Zac rfl) Zas)) (R_gsstimes.mk (k := q) (fun g hg => ?_) g8)) (Zaf (Zac rfl) Zas))) (Zos gs p q)
    obtain ⟨⟨w0, w1⟩, m0, m1⟩ := hw g hg
    exact ⟨Zgi w0 (Zcp w1) (by omega) (Zcp q2), Zgi m0 (Zcp m1) (by omega) (Zcp q2)⟩
   case el2 =>
    intro g hg c
    refine ⟨_, ZjR (ds := [eGs (ZdK g q), .int (g.want * p)]) (ZcH ZaN (ZcH ZaN Zgg)) rfl, ?_⟩
    walk_at "e"
    exact Za3 (Zaf (Zac rfl) (Zaf (Zac rfl) Zas)) (R_wwant.mk (g := ZdK g q))
def shF (n m : Nat) : Fr := ⟨(frT (n : Int) m).natAbs, frB (n : Int) m⟩
theorem ZhF {n m : Nat} (h : 0 < m) : (shF n m).Ok /\ ((shF n m).t : Int) = frT (n : Int) m /\ ((shF n m).t : Int) * (m : Int) = ((shF n m).b : Int) * (n : Int) /\ (shF n m).b <= m := by
 obtain ⟨g, g1, g2, e, et, eb, p0, cp⟩ := ZgE (n : Int) h
 have n0 : 0 <= frT (n : Int) m := Int.le_of_mul_le_mul_left (show (g : Int) * 0 <= (g : Int) * frT (n : Int) m by rw [Int.mul_zero, <- et]; omega) (by omega)
 have en : ((shF n m).t : Int) = frT (n : Int) m := Int.natAbs_of_nonneg n0
 refine ⟨⟨p0, cp⟩, en, ?_, ?_⟩
 ·rw [en]
  have eb' : (m : Int) = (g : Int) * ((shF n m).b : Int) := by
   show (m : Int) = (g : Int) * (frB (n : Int) m : Int)
   rw [<- Int.natCast_mul, <- eb]
  rw [eb']
  have e2 : ((shF n m).b : Int) * (n : Int) = ((shF n m).b : Int) * ((g : Int) * frT (n : Int) m) := by rw [<- et]
  rw [e2]
  generalize frT (n : Int) m = a
  generalize ((shF n m).b : Int) = b
  rw [<- Int.mul_assoc, Int.mul_comm a, Int.mul_comm b, Int.mul_assoc, Int.mul_comm a, <- Int.mul_assoc]
 ·show frB (n : Int) m <= m
  exact Nat.div_le_self _ _
def Zby (y : Yd) (gs : List Gs) (A T : List Nat) : Int := gvS y gs (fun k => Zay A k || Zay T k) - gvS y gs (Zay A)
theorem NdS.app {gs : List Gs} {A T : List Nat} (hA : NdS gs A) (hT : NdS gs T) (hd : ∀ k ∈ T, k ∉ A) : NdS gs (A ++ T) := ⟨fun k hk => by
 rcases List.mem_append.mp hk with h | h
 ·exact hA.mem k h
 ·exact hT.mem k h, List.nodup_append.mpr ⟨hA.nd, hT.nd, fun a ha b hb e => hd b hb (e ▸ ha)⟩⟩
theorem Sml.want {y : Yd} {gs : List Gs} (h : Sml y gs) (S : Nat -> Bool) : wS gs.length (waN gs) S <= 8 * 10 ^ 30 := by
 have h1 : wS gs.length (waN gs) S <= Za1 (fun _ => 10 ^ 30) gs.length := Zbx fun k hk => by
  have h2 := h.w30 (gs.getD k default) (by rw [Zdm hk]; exact List.getElem_mem hk)
  have h3 := h.giv.w1 k hk
  unfold Za5
  split
  ·show (gs.getD k default).want <= _
   omega
  ·decide +kernel
 have h2 : ∀ n : Nat, Za1 (fun _ => (10 : Int) ^ 30) n = 10 ^ 30 * (n : Int) := fun n => by
  induction n with
  | zero => rfl
  | succ n ih =>
    simp only [Za1]
    rw [ih, Int.natCast_add, Int.mul_add]
    omega
 rw [h2] at h1
 have := h.g8
 omega
theorem Zfc {y : Yd} {gs : List Gs} (h : Sml y gs) (S : Nat -> Bool) : ((wS gs.length (waN gs) S).toNat : Int) = wS gs.length (waN gs) S := Int.toNat_of_nonneg (h.giv.w0 S)
theorem ZqH {y : Yd} {gs : List Gs} (h : Sml y gs) {S : Nat -> Bool} {n : Nat} (hp : 1 <= wS gs.length (waN gs) S) (hn : (n : Int) <= wS gs.length (waN gs) S) : FrB (shF n (wS gs.length (waN gs) S).toNat) := by
 have hm : 0 < (wS gs.length (waN gs) S).toNat := by omega
 obtain ⟨a, b, c, d⟩ := ZhF (n := n) hm
 have h8 := h.want S
 have e110 : (8 * 10 ^ 30 : Nat) < 2 ^ 110 := by decide +kernel
 have h8' : (wS gs.length (waN gs) S).toNat <= 8 * 10 ^ 30 := by omega
 refine ⟨a, ?_, by omega⟩
 have : (shF n (wS gs.length (waN gs) S).toNat).t <= (shF n (wS gs.length (waN gs) S).toNat).b := by
  rw [Zfc h] at c
  have h3 : ((shF n (wS gs.length (waN gs) S).toNat).b : Int) * (n : Int) <= ((shF n (wS gs.length (waN gs) S).toNat).b : Int) * wS gs.length (waN gs) S := Int.mul_le_mul_of_nonneg_left hn (by omega)
  have h4 : ((shF n (wS gs.length (waN gs) S).toNat).t : Int) * wS gs.length (waN gs) S <= ((shF n (wS gs.length (waN gs) S).toNat).b : Int) * wS gs.length (waN gs) S := by omega
  have := Int.le_of_mul_le_mul_right h4 (by omega)
  omega
 omega
inductive R_shleft : List OT -> OT -> Prop
 | mk {y : Yd} {gs : List Gs} {A T : List Nat} (h : Sml y gs) (hA : NdS gs A) (hT : NdS gs T) (hd : ∀ k ∈ T, k ∉ A) (ne : T ≠ []) (hl : 0 <= Zby y gs A T) :
  R_shleft [.fz (eYd y), .fz (.list (gs.map eGs)), .fz (.list (Zbf A)), .fz (.list (Zbf T))] (.fz (Zde (shF (Zby y gs A T).toNat (wS gs.length (waN gs) (Zay T)).toNat)))
theorem NdS.pos {y : Yd} {gs : List Gs} (h : Sml y gs) {T : List Nat} (hT : NdS gs T) (ne : T ≠ []) : 1 <= wS gs.length (waN gs) (Zay T) := by
 obtain ⟨k, hk⟩ := List.exists_mem_of_ne_nil T ne
 exact h.giv.wp (hT.mem k hk) (by unfold Zay; exact decide_eq_true hk)
theorem Zgv (a b : List Nat) : Zbf (a ++ b) = Zbf a ++ Zbf b := List.map_append
theorem Zev : FnScope ["yard", "guests", "ahead", "some", "left"] ["yard", "guests", "ahead", "some"] (Zab Zbn) := by walk_at "p"
theorem Zlu (T : Bl mg) (D : Df K mg "share_left" Zbn ["yard", "guests", "ahead", "some"]) (c_given_most : Cal P w K mg base "given_most" ["yard", "guests", "some"] 4 (spO (K := K) R_givenm)) (c_fraction : Cal P w K mg base "fraction" ["top", "bottom"] 2 (spO (K := K) R_frac)) (c_want_of : Cal P w K mg base "want_of" ["guest"] 1 (spO (K := K) R_want)) : Cal P w K mg base "share_left" ["yard", "guests", "ahead", "some"] 5 (spO (K := K) R_shleft) := by
 refine D.ev Zev (fun ts r h => by cases h; rfl) (fun f cdv A outer s H E ts r hr h => ?_)
 cases h with
 | @mk y gs A T' h hA hT hd ne hl =>
   refine ⟨_, (Zad (Zaq (i := 4) Zev.nd rfl (Or.inl rfl) (Zau Zh0 (Zap c_given_most hr (Zaa (pv 0) (Zaa (pv 1) (Zaa (Zau Zgl (pv 2) (pv 3)) Zae))) (hj := by walk_at "j")) (Zap c_given_most hr (Zaa (pv 0) (Zaa (pv 1) (Zaa (pv 2) Zae))) (hj := by walk_at "j"))))
 (Zah (Zaw (Zap c_fraction hr (Zaa (pv 4) (Zaa (Za0 Zjt (by rfl) T.sum Zja (Zaa (ZeO (NX := ["yard", "guests", "ahead", "some", "left"]) (sc := Zab Zbn) (N := ["number", "guests"]) (f := [none, some 1]) rfl (by decide +kernel) rfl rfl (ZaV (pv 3)) (fun _ => (Zam (i := 0) (show (["number", "guests"] : List Str).Nodup by decide +kernel) rfl (Or.inl rfl))) (fun _ => Zbk) (fun _ => ZbQ) (fun _ => (Zap c_want_of hr (Zaa (Zax Zan (pv 1) (pv 0) (fun _ _ => rfl)) Zae) (hj := by walk_at "j")))) Zae)) Zae)) (hj := by walk_at "j"))))), ?_⟩
   show EvS K _ [some _, some _, some _, some _, none] _
   walk_at "x"
   have g8 := h.g8
   have hAT := hA.app hT hd
   have lA := (hA.ok g8).len
   have lT := (hT.ok g8).len
   have lnA : (Zbf A).length = A.length := by simp [Zbf]
   have lnT : (Zbf T').length = T'.length := by simp [Zbf]
   have hp := NdS.pos h hT ne
   refine Zar (ZbO (d := .int (Zby y gs A T')) (EvE.cast (Zjj (Za3 (Zaf (Zac rfl) (Zaf (Zac rfl) (Zaf (EvE.cast (d' := .list (Zbf (A ++ T'))) (EvO.fz (Zgm (Zac rfl) (Zac rfl) (by omega))) (by rw [Zgv])) Zas))) (R_givenm.mk h.ok h.hg (hAT.ok g8))) (Za3 (Zaf (Zac rfl) (Zaf (Zac rfl) (Zaf (Zac rfl) Zas))) (R_givenm.mk h.ok h.hg (hA.ok g8)))) ?e1) ?_)
   case e1 =>
    rw [hAT.given, hA.given, ZeM]
    rfl
   walk_at "d"
   have eb : (T'.map (waN gs)).sum = (((wS gs.length (waN gs) (Zay T')).toNat : Nat) : Int) := by rw [hT.wants, Zfc h]
   have et : Zby y gs A T' = (((Zby y gs A T').toNat : Nat) : Int) := (Int.toNat_of_nonneg hl).symm
   have h8 := h.want (Zay T')
   refine Zcl (EvE.cast (Za3 (Zaf (EvE.cast (Zac rfl) (congrArg PyData.int et)) (Zaf (EvE.cast (Zjh (ns := T'.map (waN gs)) (EvE.cast (EvO.fz (Zel (xs := T') (enc := fun (k : Nat) => PyData.int (k : Int)) (h := fun k => .int (waN gs k)) ?ei (by omega) ?el)) (by rw [List.map_map]; rfl)) rfl) (by rw [eb])) Zas)) (R_frac.mk (t := ((Zby y gs A T').toNat : Int)) (b := (wS gs.length (waN gs) (Zay T')).toNat) (by omega) ?_)) ?eq) rfl
   case ei => exact Zb9 (Zac rfl)
   case el =>
    intro k hk c
    have hk' := hT.mem k hk
    refine ⟨_, ZaN, ?_⟩
    walk_at "e"
    have it : atI (gs.map eGs) (k : Int) = some (eGs (gs.getD k default)) := by rw [ZoT (f := eGs) (by omega) (by omega), Int.toNat_natCast]
    exact Za3 (Zaf (ZnV (Zac rfl) (Zac rfl) it) Zas) R_want.mk
   case eq =>
    show PyData.tuple [_, _] = _
    unfold Zde
    rw [(ZhF (n := (Zby y gs A T').toNat) (m := (wS gs.length (waN gs) (Zay T')).toNat) (by omega)).2.1]
    rfl
   ·have : ((wS gs.length (waN gs) (Zay T')).toNat : Int) <= 8 * 10 ^ 30 := by omega
    exact Int.lt_of_le_of_lt this (by decide +kernel)
def ZoL (y : Yd) (gs : List Gs) (A : List Nat) (f : Fr) (T : List Nat) : Prop :=
 ∀ U : Nat -> Bool, (∀ k, k < gs.length -> U k = true -> Zay A k = false) -> (f.t : Int) * wS gs.length (waN gs) U - (f.b : Int) * (gvS y gs (fun k => Zay A k || U k) - gvS y gs (Zay A)) <= (f.t : Int) * wS gs.length (waN gs) (Zay T) - (f.b : Int) * Zby y gs A T
inductive R_mshort : List OT -> (OT -> Prop) -> Prop
 | mk {y : Yd} {gs : List Gs} {A : List Nat} {f : Fr} (h : Sml y gs) (hA : NdS gs A) (hf : FrB f) (hl : Low gs.length (waN gs) (gvS y gs) (Zay A) f.t f.b) :
  R_mshort [.fz (eYd y), .fz (.list (gs.map eGs)), .fz (.list (Zbf A)), .fz (Zde f)] (fun r => ∃ T : List Nat, NdS gs T /\ (∀ k ∈ T, k ∉ A) /\ ZoL y gs A f T /\ r = .ol (Zbf T))
theorem Zd5 : FnScope ["yard", "guests", "ahead", "share", "totals", "some"] ["yard", "guests", "ahead", "share"] (Zab ZaQ) := by walk_at "p"
theorem Zlr (T : Bl mg) (D : Df K mg "most_short" ZaQ ["yard", "guests", "ahead", "share"]) (c_want_of : Cal P w K mg base "want_of" ["guest"] 1 (spO (K := K) R_want)) (c_lacking_set : Cal P w K mg base "lacking_set" ["yard", "guests"] 6 (spD K R_lset)) (c_yard_times : Cal P w K mg base "yard_times" ["yard", "k"] 2 (spO (K := K) R_ydtimes)) (c_asking : Cal P w K mg base "asking" ["guests", "totals", "k"] 3 (spO (K := K) R_asking)) : Cal P w K mg base "most_short" ["yard", "guests", "ahead", "share"] 7 (spD K R_mshort) := by
 refine D.evD Zd5 (fun ts Φ h => by cases h; rfl) (fun f cdv A outer s H E ts Φ hr h => ?_)
 cases h with
 | @mk y gs A f h hA hf hl =>
   refine ⟨_, (Zad (ZdU (i := 4) Zd5.nd rfl rfl (NX := ["yard", "guests", "ahead", "share", "totals", "some"]) (sc := Zab ZaQ) (N := ["guest", "share"]) (f := [none, some 3]) rfl (by decide +kernel) rfl rfl (ZaV (pv 1)) (fun _ => (Zam (i := 0) (show (["guest", "share"] : List Str).Nodup by decide +kernel) rfl (Or.inl rfl))) (fun _ => Zbk) (fun _ => ZbQ) (fun _ => (Zcy (Zaa (Zau ZcV (Zap c_want_of hr (Zaa (pv 0) Zae) (hj := by walk_at "j")) (Zax Zan (pv 1) Zai (fun _ _ => rfl))) (Zaa (Zax Zan (pv 1) Zai (fun _ _ => rfl)) Zae)))) rfl)
 (Zad (Zaq (i := 5) Zd5.nd rfl (Or.inl rfl) (Zap c_lacking_set hr (Zaa (Zap c_yard_times hr (Zaa (pv 0) (Zaa (Zax Zan (pv 3) Zai (fun _ _ => rfl)) Zae)) (hj := by walk_at "j")) (Zaa (Zap c_asking hr (Zaa (pv 1) (Zaa (pv 4) (Zaa (Zax Zan (pv 3) Zai (fun _ _ => rfl)) Zae))) (hj := by walk_at "j")) Zae)) (hj := by walk_at "j")))
 (Zah (Zaw (ZeO (NX := ["yard", "guests", "ahead", "share", "totals", "some"]) (sc := Zab ZaQ) (N := ["number", "ahead"]) (f := [none, some 2]) rfl (by decide +kernel) rfl rfl (ZaV (pv 5)) (fun _ => (Zam (i := 0) (show (["number", "ahead"] : List Str).Nodup by decide +kernel) rfl (Or.inl rfl))) (fun _ => Zbk) (fun _ => (Zi9 (ZbA ZeX (pv 0) (pv 1) rfl))) (fun _ => (pv 0))))))), ?_⟩
   show EvS K _ [some _, some _, some _, some _, none, none] _
   walk_at "x"
   have g8 := h.g8
   have ok := h.ok
   have b1 := hf.ok.1
   have e110 : (2 ^ 110 : Nat) < 10 ^ 100 := by decide +kernel
   have f2 : (f.b : Int) < 10 ^ 100 := by
    have := hf.b
    have : f.b < 10 ^ 100 := by omega
    have e : (10 : Int) ^ 100 = ((10 ^ 100 : Nat) : Int) := by decide +kernel
    rw [e]
    exact Int.ofNat_lt.mpr this
   have f1 : (f.t : Int) < 10 ^ 100 := by
    have := hf.t
    have : f.t < 10 ^ 100 := by omega
    have e : (10 : Int) ^ 100 = ((10 ^ 100 : Nat) : Int) := by decide +kernel
    rw [e]
    exact Int.ofNat_lt.mpr this
   have p30 : ∀ {a : Int}, a < 10 ^ 30 -> a < 10 ^ 100 := fun h => Int.lt_trans h (by decide +kernel)
   have hw : ∀ g ∈ gs, (0 <= g.want /\ g.want < 10 ^ 100) /\ 0 <= g.most /\ g.most < 10 ^ 100 := fun g hg => ⟨⟨by have := (h.hg g hg).w1; omega, p30 (h.w30 g hg).1⟩, by have := (h.hg g hg).m1; omega, p30 (h.w30 g hg).2⟩
   have ix : ∀ {ρ : Zbe} {i : Nat} {k : Int} {d : PyData}, ρ[i]? = some (some (.fz (Zde f))) -> atI [.int (f.t : Int), .int (f.b : Int)] k = some d -> EvE K (tOp (rIx K) (ZcP i) (tC (.int k))) ρ d := fun e h => Zdd (ds := [.int (f.t : Int), .int (f.b : Int)]) (Zac e) Zba h
   refine Zar (ZcF (Zel (xs := gs) (enc := eGs) (h := fun g => .tuple [.int (g.want * (f.t : Int)), .int (f.b : Int)]) ?ei (by omega) ?el) ?_)
   case ei => exact Zb9 (Zac rfl)
   case el =>
    intro g hg c
    obtain ⟨⟨w0, w1⟩, m0, m1⟩ := hw g hg
    refine ⟨_, ZaN, ?_⟩
    walk_at "e"
    exact Zec (ZaS (ZcC (Za3 (Zaf (Zac rfl) Zas) R_want.mk) (ix rfl rfl) (Zgi w0 (Zcp w1) (by omega) (Zcp f1))) (ZaS (ix rfl rfl) ZaO)) ZpN
   walk_at "d"
   refine ZeI 4 rfl ?_
   walk_at "d"
   have bb : ∀ l ∈ y.ls, ∀ b ∈ l.bs, 0 <= b /\ b < 10 ^ 100 := fun l hl b hb => ⟨(ok.bb l hl b hb).1, p30 (h.b30 l hl b hb)⟩
   have ok' : (ZaD y (f.b : Int)).Ok := ZkB ok (by omega) fun l hl b hb => Zji (Zmj (bb l hl b hb).1 (bb l hl b hb).2 (by omega) f2).2
   have hg' : ∀ g ∈ gs.map (Zdy (f.t : Int) (f.b : Int)), GOk (ZaD y (f.b : Int)) g := fun g hg => by
    obtain ⟨g0, h0, rfl⟩ := List.mem_map.mp hg
    obtain ⟨⟨w0, w1⟩, m0, m1⟩ := hw g0 h0
    exact ⟨by have := (h.hg g0 h0).ln; simpa [ZaD, Zdy] using this, Int.mul_nonneg w0 (by omega), Int.mul_nonneg m0 (by omega)⟩
   refine Zar (ZdL (Zem (Zaf (Za3 (Zaf (Zac rfl) (Zaf (ix rfl rfl) Zas)) (R_ydtimes.mk (fun l hl b hb => Zgi (bb l hl b hb).1 (Zcp (bb l hl b hb).2) (by omega) (Zcp f2)) (fun l hl => by rw [ok.bl l hl]; exact ok.t8) ok.l5)) (Zaf (Zez (Zaf (Zac rfl) (Zaf (Zac rfl) (Zaf (ix rfl rfl) Zas))) (R_asking.mk (p := (f.t : Int)) (q := (f.b : Int)) (by omega) f2 (by omega) f1 hw g8)) Zas)) (R_lset.mk ok' hg' (by simpa using g8))) (fun r hr' => ?_))
   obtain ⟨φ, es, fb, rfl⟩ := hr'
   walk_at "d"
   refine ZeI 5 rfl ?_
   walk_at "d"
   have esl : ZbF (gs.map (Zdy (f.t : Int) (f.b : Int))) (Zej es) = ZbF gs (Zej es) := ZhT (by simp) _
   rw [esl]
   have sl := (Zg6 g8 (Zej es)).len
   have mx := Zo5 (by omega) ok' hg' fb
   refine Zgp (r := .ol (Zbf ((ZbF gs (Zej es)).filter fun k => !decide (k ∈ A)))) (Zjn (xs := ZbF gs (Zej es)) (enc := fun (k : Nat) => PyData.int (k : Int)) (h := fun (k : Nat) => PyData.int (k : Int)) (p := fun k => !decide (k ∈ A)) ?ei2 (by omega) ?el2) ?fin
   case ei2 => exact Zb9 (Zac rfl)
   case el2 =>
    intro k hk c
    refine ⟨_, ZaN, ?_, fun _ => ?_⟩
    ·walk_at "e"
     exact Zd7 (Zif (Zac rfl) (Zac rfl))
    ·walk_at "e"
     exact Zac rfl
   case fin =>
    have em : ∀ k, k < gs.length -> Zay ((ZbF gs (Zej es)).filter fun k => !decide (k ∈ A)) k = (Zej es k && !Zay A k) := fun k hk => by
     unfold Zay ZbF
     have : (k ∈ ((List.range gs.length).filter (Zej es)).filter fun k => !decide (k ∈ A)) ↔ (Zej es k = true /\ ¬ k ∈ A) := by
      rw [List.mem_filter, List.mem_filter, List.mem_range]
      simp [hk]
     rw [Bool.eq_iff_iff, decide_eq_true_eq, this]
     simp
    refine ⟨(ZbF gs (Zej es)).filter fun k => !decide (k ∈ A), ⟨fun k hk => List.mem_range.mp (List.mem_filter.mp (List.mem_filter.mp hk).1).1, (List.nodup_range.filter _).filter _⟩, fun k hk => by have := (List.mem_filter.mp hk).2; simpa using this, ?_, rfl⟩
    intro U hU
    have h1 := ZkP h.giv hl (by omega) mx U hU
    have e1 : wS gs.length (waN gs) (Zay ((ZbF gs (Zej es)).filter fun k => !decide (k ∈ A))) = wS gs.length (waN gs) (fun k => Zej es k && !Zay A k) := ZkL em
    have e2 : gvS y gs (fun k => Zay A k || Zay ((ZbF gs (Zej es)).filter fun k => !decide (k ∈ A)) k) = gvS y gs (fun k => Zay A k || (Zej es k && !Zay A k)) := h.giv.ext _ _ fun k hk => by rw [em k hk]
    unfold Zby
    rw [e1, e2]
    exact h1
structure NextOk (y : Yd) (gs : List Gs) (A : List Nat) (p q : Int) (f : Fr) (T : List Nat) : Prop where
 fr : FrB f
 le : f.t <= f.b
 low : p * (f.b : Int) <= (f.t : Int) * q
 up : Up gs.length (waN gs) (gvS y gs) (Zay A) f.t f.b
 nd : NdS gs T
 dis : ∀ k ∈ T, k ∉ A
 ne : T ≠ []
 tight : f.t < f.b -> (f.t : Int) * wS gs.length (waN gs) (Zay T) = (f.b : Int) * Zby y gs A T
 all : f.t = f.b -> ∀ k, k < gs.length -> k ∉ A -> k ∈ T
inductive R_nlevel : List OT -> (OT -> Prop) -> Prop
 | mk {y : Yd} {gs : List Gs} {A : List Nat} {p q : Int} (h : Sml y gs) (hA : NdS gs A) (p0 : 0 <= p) (pq : p <= q) (q0 : 0 < q) (hl : Low gs.length (waN gs) (gvS y gs) (Zay A) p q) (hu : Up gs.length (waN gs) (gvS y gs) (Zay A) p q) (hm : A.length < gs.length) :
  R_nlevel [.fz (eYd y), .fz (.list (gs.map eGs)), .fz (.list (Zbf A))] (fun r => ∃ f T, NextOk y gs A p q f T /\ r = .fz (.tuple [Zde f, .list (Zbf T)]))
theorem ZoE (a b : Fr) : Zqo (ZkI [a]) (ZkI [b]) = decide (b.t * a.b < a.t * b.b) := by
 have e : ∀ x : Fr, ZkI [x] = [x] := fun x => rfl
 rw [e, e]
 show (if a = b then false else decide (b.t * a.b < a.t * b.b)) = _
 by_cases c : a = b
 ·subst c
  rw [if_pos rfl]
  exact (decide_eq_false (by omega)).symm
 ·rw [if_neg c]
theorem ZgW {y : Yd} {gs : List Gs} (h : Sml y gs) {A T : List Nat} {p q : Int} (p0 : 0 <= p) (q0 : 0 < q) (hu : Up gs.length (waN gs) (gvS y gs) (Zay A) p q) (hd : ∀ k ∈ T, k ∉ A) : p * wS gs.length (waN gs) (Zay T) <= q * Zby y gs A T /\ 0 <= Zby y gs A T := by
 have h1 := hu (Zay T) (fun k _ e => decide_eq_false (hd k (of_decide_eq_true e)))
 refine ⟨h1, ?_⟩
 have h2 : 0 <= p * wS gs.length (waN gs) (Zay T) := Int.mul_nonneg p0 (h.giv.w0 _)
 refine Int.le_of_mul_le_mul_left (a := q) ?_ q0
 rw [Int.mul_zero]
 show 0 <= q * (gvS y gs (fun k => Zay A k || Zay T k) - gvS y gs (Zay A))
 omega
theorem Zgr {y : Yd} {gs : List Gs} (h : Sml y gs) {A T : List Nat} {p q : Int} {f : Fr} (p0 : 0 <= p) (q0 : 0 < q) (hu : Up gs.length (waN gs) (gvS y gs) (Zay A) p q) (hT : NdS gs T) (hd : ∀ k ∈ T, k ∉ A) (ne : T ≠ []) (f1 : f.t <= f.b) (fb : 0 < f.b)
 (lt : (shF (Zby y gs A T).toNat (wS gs.length (waN gs) (Zay T)).toNat).t * f.b < f.t * (shF (Zby y gs A T).toNat (wS gs.length (waN gs) (Zay T)).toNat).b) :
 ∃ n : Fr, n = shF (Zby y gs A T).toNat (wS gs.length (waN gs) (Zay T)).toNat /\ FrB n /\ n.t < n.b /\ p * (n.b : Int) <= (n.t : Int) * q /\ (n.t : Int) * wS gs.length (waN gs) (Zay T) = (n.b : Int) * Zby y gs A T /\ (n.t : Int) * (f.b : Int) < (f.t : Int) * (n.b : Int) /\ (f.b : Int) * Zby y gs A T < (f.t : Int) * wS gs.length (waN gs) (Zay T) := by
 obtain ⟨l1, l2⟩ := ZgW h p0 q0 hu hd
 have hp := NdS.pos h hT ne
 have hm : 0 < (wS gs.length (waN gs) (Zay T)).toNat := by omega
 obtain ⟨a, b, c, d⟩ := ZhF (n := (Zby y gs A T).toNat) hm
 have eL : (((Zby y gs A T).toNat : Nat) : Int) = Zby y gs A T := Int.toNat_of_nonneg l2
 rw [Zfc h, eL] at c
 have hfb := fun hn => ZqH h (S := Zay T) (n := (Zby y gs A T).toNat) hp hn
 generalize hn : shF (Zby y gs A T).toNat (wS gs.length (waN gs) (Zay T)).toNat = n at a c d lt hfb
 generalize hW : wS gs.length (waN gs) (Zay T) = W at c l1 hp hfb
 generalize hL : Zby y gs A T = L at c l1 l2 eL hfb
 have b1 := a.1
 have lt' : (n.t : Int) * (f.b : Int) < (f.t : Int) * (n.b : Int) := by rw [<- Int.natCast_mul, <- Int.natCast_mul]; exact Int.ofNat_lt.mpr lt
 have tb : n.t < n.b := by
  refine Nat.lt_of_not_le fun z => ?_
  have h1 : f.t * n.b <= n.t * f.b := Nat.le_trans (Nat.mul_le_mul_right _ f1) (by rw [Nat.mul_comm]; exact Nat.mul_le_mul_right _ z)
  omega
 have s1 : (f.b : Int) * L < (f.t : Int) * W := by
  have h1 : (n.t : Int) * (f.b : Int) * W < (f.t : Int) * (n.b : Int) * W := Int.mul_lt_mul_of_pos_right lt' (by omega)
  have e1 : (n.t : Int) * (f.b : Int) * W = (n.b : Int) * ((f.b : Int) * L) := by
   rw [Int.mul_comm (n.t : Int), Int.mul_assoc, c, <- Int.mul_assoc, Int.mul_comm (f.b : Int), Int.mul_assoc]
  have e2 : (f.t : Int) * (n.b : Int) * W = (n.b : Int) * ((f.t : Int) * W) := by rw [Int.mul_comm (f.t : Int), Int.mul_assoc]
  rw [e1, e2] at h1
  exact Int.lt_of_mul_lt_mul_left h1 (by omega)
 have LW : L <= W := by
  have h2 : (f.t : Int) * W <= (f.b : Int) * W := Int.mul_le_mul_of_nonneg_right (by omega) (by omega)
  have h3 : (f.b : Int) * L < (f.b : Int) * W := by omega
  exact Int.le_of_lt (Int.lt_of_mul_lt_mul_left h3 (by omega))
 refine ⟨n, hn.symm ▸ rfl, hfb (by rw [eL]; exact LW), tb, ?_, c, lt', s1⟩
 have h1 : (n.b : Int) * (p * W) <= (n.b : Int) * (q * L) := Int.mul_le_mul_of_nonneg_left l1 (by omega)
 have e1 : (n.b : Int) * (q * L) = q * ((n.t : Int) * W) := by rw [c, <- Int.mul_assoc, Int.mul_comm (n.b : Int), Int.mul_assoc]
 rw [e1] at h1
 have h2 : p * (n.b : Int) * W <= (n.t : Int) * q * W := by
  have e2 : p * (n.b : Int) * W = (n.b : Int) * (p * W) := by rw [Int.mul_comm p, Int.mul_assoc]
  have e3 : (n.t : Int) * q * W = q * ((n.t : Int) * W) := by rw [Int.mul_comm (n.t : Int), Int.mul_assoc]
  omega
 exact Int.le_of_mul_le_mul_right h2 (by omega)
theorem Zqq : ∀ n : Nat, Za1 (fun _ => (10 : Int) ^ 30) n = 10 ^ 30 * (n : Int)
 | 0 => rfl
 | n + 1 => by
   simp only [Za1]
   rw [Zqq n, Int.natCast_add, Int.mul_add]
   omega
theorem Sml.gv8 {y : Yd} {gs : List Gs} (h : Sml y gs) (S : Nat -> Bool) : gvS y gs S <= 8 * 10 ^ 30 := by
 have h1 : gvS y gs S <= Za1 (fun _ => (10 : Int) ^ 30) y.T := by
  unfold gvS
  rw [ZaA, Zbi]
  refine Zbx fun t ht => ?_
  have hb : Zbc y 0 t < 10 ^ 30 := by
   have l1 := h.ok.l1
   have hb : Zbc y 0 t = (Zfk y 0).bs.getD t 0 := ZdS (by omega)
   rw [hb]
   have e : Zfk y 0 ∈ y.ls := by
    have : Zfk y 0 = y.ls[0] := by unfold Zfk; rw [List.getD, List.getElem?_eq_getElem (by omega)]; rfl
    rw [this]
    exact List.getElem_mem _
   have e2 : t < (Zfk y 0).bs.length := by rw [h.ok.bl _ e]; exact ht
   have e3 : (Zfk y 0).bs.getD t 0 = (Zfk y 0).bs[t] := by simp [List.getD, e2]
   rw [e3]
   exact h.b30 _ e _ (List.getElem_mem e2)
  unfold Zcf ZaJ
  dsimp only
  omega
 rw [Zqq] at h1
 have := h.ok.t8
 omega
theorem Zpk {y : Yd} {gs : List Gs} (h : Sml y gs) (A T : List Nat) : Zby y gs A T <= 8 * 10 ^ 30 := by
 have h1 := h.gv8 (fun k => Zay A k || Zay T k)
 have h2 := h.giv.nn (Zay A)
 unfold Zby
 omega
theorem Zo6 {y : Yd} {gs : List Gs} (h : Sml y gs) {S : Nat -> Bool} {n : Nat} (hp : 1 <= wS gs.length (waN gs) S) (hn : (n : Int) <= 8 * 10 ^ 30) : FrB (shF n (wS gs.length (waN gs) S).toNat) := by
 have hm : 0 < (wS gs.length (waN gs) S).toNat := by omega
 obtain ⟨a, b, c, d⟩ := ZhF (n := n) hm
 obtain ⟨g, g1, g2, e, et, eb, p0, cp⟩ := ZgE (n : Int) hm
 have h8 := h.want S
 have e110 : (8 * 10 ^ 30 : Nat) < 2 ^ 110 := by decide +kernel
 have h8' : (wS gs.length (waN gs) S).toNat <= 8 * 10 ^ 30 := by omega
 refine ⟨a, ?_, by omega⟩
 have : ((shF n (wS gs.length (waN gs) S).toNat).t : Int) <= (n : Int) := by
  rw [b]
  have x0 : 0 <= frT (n : Int) (wS gs.length (waN gs) S).toNat := by rw [<- b]; omega
  generalize frT (n : Int) (wS gs.length (waN gs) S).toNat = x at et x0
  have : 1 * x <= (g : Int) * x := Int.mul_le_mul_of_nonneg_right (by omega) x0
  omega
 omega
def Zp5 (gs : List Gs) (A : List Nat) : List Nat := (List.range gs.length).filter fun k => !decide (k ∈ A)
structure LoopN (y : Yd) (gs : List Gs) (A : List Nat) (p q : Int) (f : Fr) (L T : List Nat) : Prop where
 fr : FrB f
 le : f.t <= f.b
 low : p * (f.b : Int) <= (f.t : Int) * q
 nd : NdS gs L
 dis : ∀ k ∈ L, k ∉ A
 ne : L ≠ []
 tight : f.t < f.b -> (f.t : Int) * wS gs.length (waN gs) (Zay L) = (f.b : Int) * Zby y gs A L
 all : f.t = f.b -> ∀ k, k < gs.length -> k ∉ A -> k ∈ L
 tnd : NdS gs T
 tdis : ∀ k ∈ T, k ∉ A
 most : ZoL y gs A f T
def Zee (y : Yd) (gs : List Gs) (A : List Nat) (f : Fr) (T : List Nat) : Bool := !T.isEmpty && decide ((shF (Zby y gs A T).toNat (wS gs.length (waN gs) (Zay T)).toNat).t * f.b < f.t * (shF (Zby y gs A T).toNat (wS gs.length (waN gs) (Zay T)).toNat).b)
theorem Zne {y : Yd} {gs : List Gs} (h : Sml y gs) {A L T : List Nat} {p q : Int} {f : Fr} (p0 : 0 <= p) (q0 : 0 < q) (hu : Up gs.length (waN gs) (gvS y gs) (Zay A) p q) (I : LoopN y gs A p q f L T) (hg : Zee y gs A f T = false) : NextOk y gs A p q f L := by
 refine ⟨I.fr, I.le, I.low, ?_, I.nd, I.dis, I.ne, I.tight, I.all⟩
 refine ZjW (T := Zay T) I.most ?_
 by_cases ne : T = []
 ·subst ne
  have e1 : wS gs.length (waN gs) (Zay []) = 0 := Zp9 fun k _ => rfl
  have e2 : gvS y gs (fun k => Zay A k || Zay [] k) = gvS y gs (Zay A) := h.giv.ext _ _ fun k _ => by simp [Zay]
  rw [e1, e2]
  omega
 ·have ne' : T.isEmpty = false := by cases T with | nil => exact absurd rfl ne | cons _ _ => rfl
  unfold Zee at hg
  rw [ne'] at hg
  rw [Bool.not_false, Bool.true_and] at hg
  have hg := of_decide_eq_false hg
  obtain ⟨l1, l2⟩ := ZgW h p0 q0 hu I.tdis
  have hp := NdS.pos h I.tnd ne
  have hm : 0 < (wS gs.length (waN gs) (Zay T)).toNat := by omega
  obtain ⟨a, b, c, d⟩ := ZhF (n := (Zby y gs A T).toNat) hm
  rw [Zfc h, Int.toNat_of_nonneg l2] at c
  generalize shF (Zby y gs A T).toNat (wS gs.length (waN gs) (Zay T)).toNat = n at a c d hg
  have b1 := a.1
  have hg' : (f.t : Int) * (n.b : Int) <= (n.t : Int) * (f.b : Int) := by rw [<- Int.natCast_mul, <- Int.natCast_mul]; exact Int.ofNat_le.mpr (by omega)
  show (f.t : Int) * wS gs.length (waN gs) (Zay T) <= (f.b : Int) * Zby y gs A T
  generalize wS gs.length (waN gs) (Zay T) = W at c hp
  generalize Zby y gs A T = L at c
  have h1 : (f.t : Int) * (n.b : Int) * W <= (n.t : Int) * (f.b : Int) * W := Int.mul_le_mul_of_nonneg_right hg' (by omega)
  have e1 : (n.t : Int) * (f.b : Int) * W = (n.b : Int) * ((f.b : Int) * L) := by
   rw [Int.mul_comm (n.t : Int), Int.mul_assoc, c, <- Int.mul_assoc, Int.mul_comm (f.b : Int), Int.mul_assoc]
  have e2 : (f.t : Int) * (n.b : Int) * W = (n.b : Int) * ((f.t : Int) * W) := by rw [Int.mul_comm (f.t : Int), Int.mul_assoc]
  rw [e1, e2] at h1
  exact Int.le_of_mul_le_mul_left h1 (by omega)
def ZpU (y : Yd) (gs : List Gs) (A : List Nat) (f : Fr) (T : List Nat) : Nat := if Zee y gs A f T = true then (wS gs.length (waN gs) (Zay T)).toNat + 1 else 0
theorem ZkR {y : Yd} {gs : List Gs} (h : Sml y gs) {A T T' : List Nat} {p q : Int} {f n : Fr} (p0 : 0 <= p) (q0 : 0 < q) (hu : Up gs.length (waN gs) (gvS y gs) (Zay A) p q) (hT : NdS gs T) (hd' : ∀ k ∈ T', k ∉ A) (hT' : NdS gs T') (mo : ZoL y gs A f T) (fb : 0 < f.b) (nb : 0 < n.b) (nt : n.t <= n.b)
 (tight : (n.t : Int) * wS gs.length (waN gs) (Zay T) = (n.b : Int) * Zby y gs A T) (lt : (n.t : Int) * (f.b : Int) < (f.t : Int) * (n.b : Int)) (hg : Zee y gs A f T = true) : ZpU y gs A n T' < ZpU y gs A f T := by
 unfold ZpU
 rw [if_pos hg]
 by_cases c : Zee y gs A n T' = true
 ·rw [if_pos c]
  unfold Zee at c
  obtain ⟨c1, c2⟩ := Bool.and_eq_true_iff.mp c
  have ne : T' ≠ [] := fun z => by subst z; simp at c1
  obtain ⟨n', _, _, _, _, _, _, s2⟩ := Zgr h p0 q0 hu hT' hd' ne nt nb (of_decide_eq_true c2)
  have m1 := mo (Zay T') (fun k _ e => decide_eq_false (hd' k (of_decide_eq_true e)))
  have := ZlL (p := (f.t : Int)) (q := (f.b : Int)) (p' := (n.t : Int)) (q' := (n.b : Int)) (W := wS gs.length (waN gs) (Zay T)) (W' := wS gs.length (waN gs) (Zay T')) (x := Zby y gs A T) (x' := Zby y gs A T') (by omega) (by omega) lt tight m1 s2
  have := h.giv.w0 (Zay T')
  omega
 ·rw [if_neg c]
  omega
theorem Zb0 : FnScope ["yard", "guests", "ahead", "share", "level", "some"] ["yard", "guests", "ahead"] (Zab Zbo) := by walk_at "p"
theorem Zlc (T : Bl mg) (D : Df K mg "next_level" Zbo ["yard", "guests", "ahead"]) (c_most_short : Cal P w K mg base "most_short" ["yard", "guests", "ahead", "share"] 7 (spD K R_mshort)) (c_is_fairer : Cal P w K mg base "is_fairer" ["one", "other"] 3 (spO (K := K) R_fairer)) (c_share_left : Cal P w K mg base "share_left" ["yard", "guests", "ahead", "some"] 5 (spO (K := K) R_shleft)) : Cal P w K mg base "next_level" ["yard", "guests", "ahead"] 8 (spD K R_nlevel) := by
 refine D.evD Zb0 (fun ts Φ h => by cases h; rfl) (fun f cdv A outer s H E ts Φ hr h => ?_)
 cases h with
 | @mk y gs A p q h hA p0 pq q0 hl hu hm =>
   refine ⟨_, (Zad (Zaq (i := 3) Zb0.nd rfl (Or.inl rfl) (Zcy (Zaa Zai (Zaa Zai Zae))))
 (Zad (ZdU (i := 4) Zb0.nd rfl rfl (NX := ["yard", "guests", "ahead", "share", "level", "some"]) (sc := Zab Zbo) (N := ["number", "ahead"]) (f := [none, some 2]) rfl (by decide +kernel) rfl rfl (Zbl rfl T.range (Zaa (Za0 Zdu (by rfl) T.len Zdx (Zaa (pv 1) Zae)) Zae)) (fun _ => (Zam (i := 0) (show (["number", "ahead"] : List Str).Nodup by decide +kernel) rfl (Or.inl rfl))) (fun _ => Zbk) (fun _ => (Zi9 (ZbA ZeX (pv 0) (pv 1) rfl))) (fun _ => (pv 0)) rfl)
 (Zad (Zaq (i := 5) Zb0.nd rfl (Or.inl rfl) (Zap c_most_short hr (Zaa (pv 0) (Zaa (pv 1) (Zaa (pv 2) (Zaa (pv 3) Zae)))) (hj := by walk_at "j")))
 (Zad (Zd6 PassesOwn.never (PW.pt (ZnJ (Zjm (pv 5) (fun _ => rfl)) (ZlR (Zlh (Zap c_is_fairer hr (Zaa (Zct (Zaa (pv 3) Zae)) (Zaa (Zct (Zaa (Zap c_share_left hr (Zaa (pv 0) (Zaa (pv 1) (Zaa (pv 2) (Zaa (pv 5) Zae)))) (hj := by walk_at "j")) Zae)) Zae)) (hj := by walk_at "j")))))) (Zad (Zaq (i := 3) Zb0.nd rfl (Or.inl rfl) (Zap c_share_left hr (Zaa (pv 0) (Zaa (pv 1) (Zaa (pv 2) (Zaa (pv 5) Zae)))) (hj := by walk_at "j")))
 (Zad (Zaq (i := 4) Zb0.nd rfl (Or.inl rfl) (pv 5))
 (Zah (Zaq (i := 5) Zb0.nd rfl (Or.inl rfl) (Zap c_most_short hr (Zaa (pv 0) (Zaa (pv 1) (Zaa (pv 2) (Zaa (pv 3) Zae)))) (hj := by walk_at "j")))))))
 (Zah (Zaw (Zcy (Zaa (pv 3) (Zaa (pv 4) Zae))))))))), ?_⟩
   show EvS K _ [some _, some _, some _, none, none, none] _
   walk_at "x"
   have g8 := h.g8
   have gl : (gs.map eGs).length = gs.length := by simp
   have one : FrB ⟨1, 1⟩ := ⟨⟨by decide, by decide⟩, by decide, by decide⟩
   have hlow : ∀ {f : Fr}, 0 < f.b -> p * (f.b : Int) <= (f.t : Int) * q -> Low gs.length (waN gs) (gvS y gs) (Zay A) f.t f.b := fun b1 lo => hl.more h.giv q0 (by omega) lo
   refine Zar (ZbO (d := Zde ⟨1, 1⟩) (Zec (ZaS Zba (ZaS Zba ZaO)) ZpN) ?_)
   walk_at "d"
   refine Zar (ZcF (r := .ol (Zbf (Zp5 gs A))) (Zjn (xs := List.range gs.length) (enc := fun (k : Nat) => PyData.int (k : Int)) (h := fun (k : Nat) => PyData.int (k : Int)) (p := fun k => !decide (k ∈ A)) ?ei (by simp; omega) ?el) ?_)
   case ei =>
    refine EvI.cast (Zd1 (Zaf (ZgC (Zac rfl)) Zas) (by rw [z62, gl]; omega) (by rw [z62, gl]; omega)) ?_
    rw [gl, Int.toNat_natCast]
    unfold ZfO
    refine List.map_congr_left fun i _ => ?_
    rw [Int.zero_add]
   case el =>
    intro k hk c
    refine ⟨_, ZaN, ?_, fun _ => ?_⟩
    ·walk_at "e"
     exact Zd7 (Zif (Zac rfl) (Zac rfl))
    ·walk_at "e"
     exact Zac rfl
   walk_at "d"
   refine ZeI 4 rfl ?_
   walk_at "d"
   refine Zar (ZdL (Zem (Zaf (Zac rfl) (Zaf (Zac rfl) (Zaf (Zac rfl) (Zaf (Zac rfl) Zas)))) (R_mshort.mk h hA one (hlow (by decide) (by show p * 1 <= 1 * q; omega)))) (fun r hr' => ?_))
   obtain ⟨T1, t1, t2, t3, rfl⟩ := hr'
   walk_at "d"
   have I0 : LoopN y gs A p q ⟨1, 1⟩ (Zp5 gs A) T1 := ⟨one, Nat.le_refl _, by show p * 1 <= 1 * q; omega, ⟨fun k hk => List.mem_range.mp (List.mem_filter.mp hk).1, List.nodup_range.filter _⟩, fun k hk => by have := (List.mem_filter.mp hk).2; simpa using this, fun z => by
    have : ∀ k, k < gs.length -> k ∈ A := fun k hk => Decidable.byContradiction fun c => by
     have : k ∈ Zp5 gs A := List.mem_filter.mpr ⟨List.mem_range.mpr hk, by simp [c]⟩
     rw [z] at this
     cases this
    have l1 := hA.perm.length_eq
    have l2 : ZbF gs (Zay A) = List.range gs.length := List.filter_eq_self.mpr fun k hk => decide_eq_true (this k (List.mem_range.mp hk))
    rw [l2, List.length_range] at l1
    omega, fun c => absurd c (by decide), fun _ k hk c => List.mem_filter.mpr ⟨List.mem_range.mpr hk, by simp [c]⟩, t1, t2, t3⟩
   have esl : ∀ {ρ : Zbe} {E' : XK} {T' : List Nat}, ρ[0]? = some (some (.fz (eYd y))) -> ρ[1]? = some (some (.fz (.list (gs.map eGs)))) -> ρ[2]? = some (some (.fz (.list (Zbf A)))) -> ρ[5]? = some (some (.fz (.list (Zbf T')))) -> NdS gs T' -> (∀ k ∈ T', k ∉ A) -> T' ≠ [] ->
    EvE K (ZhP (spO (K := K) R_shleft) [] E' (Zbd (ZcP 0) (Zbd (ZcP 1) (Zbd (ZcP 2) (Zbd (ZcP 5) ZdF))))) ρ (Zde (shF (Zby y gs A T').toNat (wS gs.length (waN gs) (Zay T')).toNat)) := fun e0 e1 e2 e5 n1 n2 n3 => Za3 (Zaf (Zac e0) (Zaf (Zac e1) (Zaf (Zac e2) (Zaf (Zac e5) Zas)))) (R_shleft.mk h hA n1 n2 n3 (ZgW h p0 q0 hu n2).2)
   refine ZhC (fun ρ' => ∃ f' L' u, NextOk y gs A p q f' L' /\ ρ' = [some (.fz (eYd y)), some (.fz (.list (gs.map eGs))), some (.fz (.list (Zbf A))), some (.fz (Zde f')), some (.fz (.list (Zbf L'))), u]) ?wh ?rt
   case rt =>
    rintro _ ⟨f', L', u, hN, rfl⟩
    exact Zcl (Zec (ZaS (Zac rfl) (ZaS (Zac rfl) ZaO)) ZpN) ⟨f', L', hN, rfl⟩
   case wh =>
    refine Zd3 (fun m ρ' => ∃ f' L' T', m = ZpU y gs A f' T' /\ LoopN y gs A p q f' L' T' /\ ρ' = [some (.fz (eYd y)), some (.fz (.list (gs.map eGs))), some (.fz (.list (Zbf A))), some (.fz (Zde f')), some (.fz (.list (Zbf L'))), some (.ol (Zbf T'))]) _ ⟨_, _, _, rfl, I0, rfl⟩ ?_
    rintro m _ ⟨f', L', T', rfl, I, rfl⟩
    refine ⟨Zee y gs A f' T', ?tst, fun c => ?_, fun c => ⟨f', L', _, Zne h p0 q0 hu I c, rfl⟩⟩
    case tst =>
     refine ZmA 5 (r := .ol (Zbf T')) rfl rfl ?_
     walk_at "d"
     refine EvT.cast (Zoi (b := !(Zbf T').isEmpty) (c := Zee y gs A f' T') (ZlT (ds := Zbf T') (Zac rfl)) (fun c => ?_)) ?_
     ·have ne : T' ≠ [] := fun z => by subst z; simp [Zbf] at c
      have ne' : T'.isEmpty = false := by cases T' with | nil => exact absurd rfl ne | cons _ _ => rfl
      have hp := NdS.pos h I.tnd ne
      have l2 := (ZgW h p0 q0 hu I.tdis).2
      have hx := I.fr
      have hsh : FrB (shF (Zby y gs A T').toNat (wS gs.length (waN gs) (Zay T')).toNat) := Zo6 h hp (by rw [Int.toNat_of_nonneg l2]; exact Zpk h A T')
      refine EvT.cast (Zpw (Za3 (Zaf (EvO.fz (ZdA (ds := [Zde f']) (ZaS (Zac rfl) ZaO) ZpR)) (Zaf (EvO.fz (ZdA (ds := [Zde (shF (Zby y gs A T').toNat (wS gs.length (waN gs) (Zay T')).toNat)]) (ZaS (esl rfl rfl rfl rfl I.tnd I.tdis ne) ZaO) ZpR)) Zas)) (R_fairer.mk (as := [f']) (bs := [shF (Zby y gs A T').toNat (wS gs.length (waN gs) (Zay T')).toNat]) (fun x hx' => ?_) (fun x hx' => ?_) rfl (by show (1 : Nat) <= 8; decide)))) ?_
      ·exact (List.mem_singleton.mp hx').symm ▸ hx
      ·exact (List.mem_singleton.mp hx').symm ▸ hsh
      ·rw [ZoE]
       unfold Zee
       rw [ne', Bool.not_false, Bool.true_and]
     ·unfold Zee
      have : (Zbf T').isEmpty = T'.isEmpty := by cases T' <;> rfl
      rw [this]
      cases T'.isEmpty <;> simp
    ·obtain ⟨c1, c2⟩ := Bool.and_eq_true_iff.mp c
     have ne : T' ≠ [] := fun z => by subst z; simp at c1
     obtain ⟨n, en, n1, n2, n3, n4, n5, n6⟩ := Zgr h p0 q0 hu I.tnd I.tdis ne I.le I.fr.ok.1 (of_decide_eq_true c2)
     refine ZeI 5 rfl ?_
     walk_at "d"
     refine Zar (ZbO (d := Zde n) (EvE.cast (esl rfl rfl rfl rfl I.tnd I.tdis ne) (by rw [en])) ?_)
     walk_at "d"
     refine Zar (ZbO (Zac rfl) ?_)
     walk_at "d"
     refine ZdL (Zem (Zaf (Zac rfl) (Zaf (Zac rfl) (Zaf (Zac rfl) (Zaf (Zac rfl) Zas)))) (R_mshort.mk h hA n1 (hlow n1.ok.1 n3))) (fun r hr' => ?_)
     obtain ⟨T2, u1, u2, u3, rfl⟩ := hr'
     walk_at "d"
     refine ⟨ZpU y gs A n T2, ZkR h p0 q0 hu I.tnd u2 u1 I.most I.fr.ok.1 n1.ok.1 (Nat.le_of_lt n2) n4 n5 c, n, T', T2, rfl, ⟨n1, Nat.le_of_lt n2, n3, I.tnd, I.tdis, ne, fun _ => n4, fun e => absurd e (by omega), u1, u2, u3⟩, rfl⟩
def ZdY (l : Fr × List Nat) : PyData := .tuple [Zde l.1, .list (Zbf l.2)]
inductive Lev (y : Yd) (gs : List Gs) : List Nat -> Int -> Int -> List (Fr × List Nat) -> Prop
 | nil {A : List Nat} {p q : Int} (h : ∀ k, k < gs.length -> k ∈ A) : Lev y gs A p q []
 | cons {A : List Nat} {p q : Int} {f : Fr} {T : List Nat} {lv : List (Fr × List Nat)} (h : NextOk y gs A p q f T) (r : Lev y gs (A ++ T) f.t f.b lv) : Lev y gs A p q ((f, T) :: lv)
inductive R_levels : List OT -> (OT -> Prop) -> Prop
 | mk {y : Yd} {gs : List Gs} (h : Sml y gs) : R_levels [.fz (eYd y), .fz (.list (gs.map eGs))] (fun r => ∃ lv, Lev y gs [] 0 1 lv /\ lv.length <= 8 /\ r = .ol (lv.map ZdY))
theorem Zkr {gs : List Gs} {A : List Nat} (hA : NdS gs A) (h : ¬ A.length < gs.length) : ∀ k, k < gs.length -> k ∈ A := fun k hk => Decidable.byContradiction fun c => by
 have l1 := hA.perm.length_eq
 have l2 : (ZbF gs (Zay A)).length < (List.range gs.length).length := by
  unfold ZbF
  refine Nat.lt_of_le_of_ne (List.length_filter_le _ _) fun e => ?_
  have := List.length_filter_eq_length_iff.mp e k (List.mem_range.mpr hk)
  exact c (of_decide_eq_true this)
 rw [List.length_range] at l2
 omega
structure LoopL (y : Yd) (gs : List Gs) (lv : List (Fr × List Nat)) (A : List Nat) (p q : Int) : Prop where
 nd : NdS gs A
 len : lv.length <= A.length
 on : ∀ rest, Lev y gs A p q rest -> Lev y gs [] 0 1 (lv ++ rest)
 go : A.length < gs.length -> (0 <= p /\ p <= q /\ 0 < q) /\ Low gs.length (waN gs) (gvS y gs) (Zay A) p q /\ Up gs.length (waN gs) (gvS y gs) (Zay A) p q
theorem LoopL.step {y : Yd} {gs : List Gs} (h : Sml y gs) {lv : List (Fr × List Nat)} {A T : List Nat} {p q : Int} {f : Fr} (I : LoopL y gs lv A p q) (hm : A.length < gs.length) (N : NextOk y gs A p q f T) : LoopL y gs (lv ++ [(f, T)]) (A ++ T) f.t f.b := by
 have hAT := I.nd.app N.nd N.dis
 have tp : 0 < T.length := List.length_pos_iff.mpr N.ne
 refine ⟨hAT, ?_, fun rest r => ?_, fun hm' => ?_⟩
 ·have := I.len
  simp only [List.length_append, List.length_cons, List.length_nil]
  omega
 ·rw [List.append_assoc]
  exact I.on _ (.cons N r)
 ·obtain ⟨⟨p0, pq, q0⟩, hl, hu⟩ := I.go hm
  have b1 := N.fr.ok.1
  have lt : f.t < f.b := by
   refine Nat.lt_of_le_of_ne N.le fun e => ?_
   have ha := N.all e
   have hall : ∀ k, k < gs.length -> k ∈ A ++ T := fun k hk => by
    by_cases c : k ∈ A
    ·exact List.mem_append_left _ c
    ·exact List.mem_append_right _ (ha k hk c)
   have l1 := hAT.perm.length_eq
   have l2 : ZbF gs (Zay (A ++ T)) = List.range gs.length := List.filter_eq_self.mpr fun k hk => decide_eq_true (hall k (List.mem_range.mp hk))
   rw [l2, List.length_range] at l1
   omega
  have hT : ∀ k, k < gs.length -> Zay T k = true -> Zay A k = false := fun k _ e => decide_eq_false (N.dis k (of_decide_eq_true e))
  have ti := N.tight lt
  have e1 : gvS y gs (Zay (A ++ T)) = gvS y gs (fun k => Zay A k || Zay T k) := ZeM A T
  have l1 := Low.step h.giv hl N.up hT ti q0 (by omega) N.low
  have u1 := Up.step h.giv N.up hT ti
  have em : Zay (A ++ T) = fun k => Zay A k || Zay T k := funext fun k => Zek A T k
  rw [em]
  exact ⟨⟨by omega, by have := N.le; omega, by omega⟩, l1, u1⟩
theorem ZbS : FnScope ["yard", "guests", "levels", "ahead", "level"] ["yard", "guests"] (Zab Zbs) := by walk_at "p"
theorem ZkZ (T : Bl mg) (D : Df K mg "fair_levels" Zbs ["yard", "guests"]) (c_next_level : Cal P w K mg base "next_level" ["yard", "guests", "ahead"] 8 (spD K R_nlevel)) : Cal P w K mg base "fair_levels" ["yard", "guests"] 9 (spD K R_levels) := by
 refine D.evD ZbS (fun ts Φ h => by cases h; rfl) (fun f cdv A outer s H E ts Φ hr h => ?_)
 cases h with
 | @mk y gs h =>
   refine ⟨_, (Zad (Zaq (i := 2) ZbS.nd rfl (Or.inl rfl) (Zct Zae))
 (Zad (Zaq (i := 3) ZbS.nd rfl (Or.inl rfl) (Zct Zae))
 (Zad (Zd6 PassesOwn.never (ZbA Zn6 (Za0 Zdu (by rfl) T.len Zdx (Zaa (pv 3) Zae)) (Za0 Zdu (by rfl) T.len Zdx (Zaa (pv 1) Zae)) (ZcL _)) (Zad (Zaq (i := 4) ZbS.nd rfl (Or.inl rfl) (Zap c_next_level hr (Zaa (pv 0) (Zaa (pv 1) (Zaa (pv 3) Zae))) (hj := by walk_at "j")))
 (Zad (Zbj (ZfP PySem.F.plainAttrs_list PySem.F.slot_list_append PySem.F.type_list_append ZbW (pv 2) (Zaa (pv 4) Zae)))
 (Zah (Zaq (i := 3) ZbS.nd rfl (Or.inl rfl) (Zau Zgl (pv 3) (Zax Zan (pv 4) Zai (fun _ _ => rfl))))))))
 (Zah (Zaw (pv 2)))))), ?_⟩
   show EvS K _ [some _, some _, none, none, none] _
   walk_at "x"
   have g8 := h.g8
   have gl : (gs.map eGs).length = gs.length := by simp
   refine Zar (ZcF (ZdA (ds := []) ZaO (by decide)) ?_)
   walk_at "d"
   refine Zar (ZcF (ZdA (ds := []) ZaO (by decide)) ?_)
   walk_at "d"
   have I0 : LoopL y gs [] [] 0 1 := ⟨⟨(fun k hk => nomatch hk), List.nodup_nil⟩, Nat.le_refl _, fun rest r => r, fun _ => ⟨⟨by decide, by decide, by decide⟩, Low.nil h.giv fun k _ => rfl, Up.nn h.giv fun k _ => rfl⟩⟩
   refine ZhC (fun ρ' => ∃ lv a u, Lev y gs [] 0 1 lv /\ lv.length <= 8 /\ ρ' = [some (.fz (eYd y)), some (.fz (.list (gs.map eGs))), some (.ol (lv.map ZdY)), a, u]) ?wh ?rt
   case rt =>
    rintro _ ⟨lv, a, u, hN, l8, rfl⟩
    exact Zgx rfl ⟨lv, hN, l8, rfl⟩
   case wh =>
    refine Zd3 (fun m ρ' => ∃ lv A p q u, m = gs.length - A.length /\ LoopL y gs lv A p q /\ ρ' = [some (.fz (eYd y)), some (.fz (.list (gs.map eGs))), some (.ol (lv.map ZdY)), some (.ol (Zbf A)), u]) _ ⟨[], [], 0, 1, none, rfl, I0, rfl⟩ ?_
    rintro m _ ⟨lv, A, p, q, u, rfl, I, rfl⟩
    have lA := (I.nd.ok g8).len
    have lnA : (Zbf A).length = A.length := by simp [Zbf]
    refine ⟨decide (A.length < gs.length), ?tst, fun c => ?_, fun c => ?_⟩
    case tst =>
     refine EvT.cast (Zd7 (ZjH (ZoY rfl) (ZgC (Zac rfl)))) ?_
     rw [gl, lnA]
     exact decide_eq_decide.mpr Int.ofNat_lt
    ·have hm := of_decide_eq_true c
     obtain ⟨⟨p0, pq, q0⟩, hl, hu⟩ := I.go hm
     refine ZeI 3 rfl ?_
     walk_at "d"
     refine Zar (ZdL (Zem (Zaf (Zac rfl) (Zaf (Zac rfl) (Zaf (Zac rfl) Zas))) (R_nlevel.mk h I.nd p0 pq q0 hl hu hm)) (fun r hr' => ?_))
     obtain ⟨f', T', N, rfl⟩ := hr'
     walk_at "d"
     have J := I.step h hm N
     have lAT := (J.nd.ok g8).len
     have tp : 0 < T'.length := List.length_pos_iff.mpr N.ne
     rw [List.length_append] at lAT
     have lnT : (Zbf T').length = T'.length := by simp [Zbf]
     have ll := I.len
     refine Zar (Zeu rfl (Zac rfl) (by rw [List.length_map]; omega) ?_)
     walk_at "d"
     refine ZcF (r := .ol (Zbf (A ++ T'))) (EvO.cast (Zgm (Zac rfl) (Zdd (ds := [Zde f', .list (Zbf T')]) (Zac rfl) Zba rfl) (by omega)) (by rw [Zgv])) ?_
     walk_at "d"
     refine ⟨gs.length - (A ++ T').length, by rw [List.length_append]; omega, lv ++ [(f', T')], A ++ T', f'.t, f'.b, some (.fz (.tuple [Zde f', .list (Zbf T')])), rfl, J, ?_⟩
     rw [List.map_append]
     rfl
    ·have hm := of_decide_eq_false c
     have := I.len
     exact ⟨lv, _, u, by have := I.on [] (.nil (Zkr I.nd hm)); rwa [List.append_nil] at this, by omega, rfl⟩
theorem ZlQ {X : Cx} {pins : List (Addr × Obj)} {σ : St} {H : Hp} {s : Shared} (I : Inv X pins σ H s) : ∀ {xs : List V} {ds : List PyData} {us : List Value}, Reps H xs ds -> Zcj xs us -> ∀ w ∈ us, ∃ e ∈ ds, ∃ bs, Reads s.heap w e bs
 | _, _, _, .nil, r => by cases r; exact fun _ h => (nomatch h)
 | _, _, _, .cons q t, r => by
   cases r with
   | cons r1 r2 =>
     obtain ⟨as, ra⟩ := Rep.reads I q r1
     intro w hw
     rcases List.mem_cons.mp hw with rfl | hw
     ·exact ⟨_, List.mem_cons_self, _, ra⟩
     ·obtain ⟨e, he, b⟩ := ZlQ I t r2 w hw
      exact ⟨e, List.mem_cons_of_mem _ he, b⟩
def ZrX : R2 := fun x y H Q => ∃ d ds, Rep H x d /\ Rep H y (.list ds) /\ ZpQ d /\ (∀ e ∈ ds, ZpQ e) /\ (∀ e ∈ ds, PyData.eqv e d = false) /\ Q (.bl false) H
theorem Zql {X : Cx} (hu : X.A.units + 64 < cLine) : OpR X (compareOp .In) ZrX := by
 intro pins s σ H x y v u Q I rx ry h
 obtain ⟨d, ds, hd, he, fd, fe, hm, q⟩ := h
 obtain ⟨as, ra⟩ := hd.reads I rx
 cases he with
 | lst h q' =>
   cases ry
   obtain ⟨z, its, n, rv, e⟩ := I.hok _ _ h
   refine SeqAt.in_listAt (fun _ => false) ⟨_, e, rfl, n, rfl⟩ (fun w hw => ?_) ⟨.bl false, H, I, ?_, q⟩
   ·obtain ⟨e, he, bs, hr⟩ := ZlQ I q' rv w (by simpa using hw)
    have k : SeqAt.EqAt X.A.in1 s w v (PyData.eqv e d) := SeqAt.eqAt_reads e d _ s _ _ _ _ hr ra (fe _ he).1 fd.1 (by
     have h1 := fd.2
     have h2 := Nat.min_le_right e.depth d.depth
     rw [Around.in1_units]
     omega)
    rw [hm e he] at k
    exact k
   ·show Value.bool _ = Value.bool false
    congr 1
    simp
theorem ZpY {K : W.Frag} {ρ : Zbe} {ta tb : TE} {d : PyData} {ds : List PyData} (ha : EvE K ta ρ d) (hb : EvE K tb ρ (.list ds)) (fd : ZpQ d) (fe : ∀ e ∈ ds, ZpQ e) (hn : ∀ e ∈ ds, PyData.eqv e d = false) : EvE K (tOp ZrX ta tb) ρ (.bool false) := fun H0 F σ H Q S q =>
 ZdO ha hb S fun F' H' x y e r1 r2 => ⟨d, ds, r1.mono e.fh, r2.mono e.fh, fd, fe, hn, q _ _ _ e (.bl _)⟩
theorem NdS.sum {gs : List Gs} {sm : List Nat} (h : NdS gs sm) (f : Nat -> Int) : (sm.map f).sum = Za1 (Za5 (Zay sm) f) gs.length := by
 rw [Zjf f h.perm]
 exact Zdz f (Zay sm) gs.length
section
variable (Q : Int) (gs : List Gs)
def tkL (lv : List (Fr × List Nat)) (k : Nat) : Int := match lv with
 | [] => 0
 | (f, T) :: r => if k ∈ T then waN gs k * (f.t : Int) * (Q / (f.b : Int)) else tkL r k
end
theorem Lev.dis {y : Yd} {gs : List Gs} {A : List Nat} {p q : Int} {lv : List (Fr × List Nat)} (h : Lev y gs A p q lv) : ∀ l ∈ lv, ∀ k ∈ l.2, k ∉ A := by
 induction h with
 | nil _ => exact fun l hl => (nomatch hl)
 | cons N r ih =>
   intro l hl k hk
   rcases List.mem_cons.mp hl with rfl | hl
   ·exact N.dis k hk
   ·exact fun z => ih l hl k hk (List.mem_append_left _ z)
theorem Lev.fr {y : Yd} {gs : List Gs} {A : List Nat} {p q : Int} {lv : List (Fr × List Nat)} (h : Lev y gs A p q lv) : ∀ l ∈ lv, FrB l.1 /\ l.1.t <= l.1.b /\ NdS gs l.2 := by
 induction h with
 | nil _ => exact fun l hl => (nomatch hl)
 | cons N r ih =>
   intro l hl
   rcases List.mem_cons.mp hl with rfl | hl
   ·exact ⟨N.fr, N.le, N.nd⟩
   ·exact ih l hl
def shL (lv : List (Fr × List Nat)) (k : Nat) : PyData := lv.foldl (fun d l => if k ∈ l.2 then Zde l.1 else d) .none
theorem Zkm {lv : List (Fr × List Nat)} {k : Nat} (h : ∀ l ∈ lv, k ∉ l.2) : ∀ d : PyData, lv.foldl (fun d l => if k ∈ l.2 then Zde l.1 else d) d = d := by
 induction lv with
 | nil => exact fun d => rfl
 | cons l r ih =>
   intro d
   rw [List.foldl_cons, if_neg (h l List.mem_cons_self)]
   exact ih (fun x hx => h x (List.mem_cons_of_mem _ hx)) d
theorem Lev.share {y : Yd} {gs : List Gs} {Q : Int} {A : List Nat} {p q : Int} {lv : List (Fr × List Nat)} (h : Lev y gs A p q lv) : ∀ (k : Nat), k < gs.length -> k ∉ A -> ∀ d : PyData, ∃ l ∈ lv, k ∈ l.2 /\ lv.foldl (fun d l => if k ∈ l.2 then Zde l.1 else d) d = Zde l.1 /\ tkL Q gs lv k = waN gs k * (l.1.t : Int) * (Q / (l.1.b : Int)) := by
 induction h with
 | nil h => exact fun k hk c => absurd (h k hk) c
 | @cons A p q f T lv N r ih =>
   intro k hk c d
   by_cases z : k ∈ T
   ·refine ⟨(f, T), List.mem_cons_self, z, ?_, ?_⟩
    ·rw [List.foldl_cons, if_pos z]
     exact Zkm (fun l hl c' => r.dis l hl k c' (List.mem_append_right _ z)) _
    ·show (if k ∈ T then _ else _) = _
     rw [if_pos z]
   ·obtain ⟨l, hl, e1, e2, e3⟩ := ih k hk (fun c' => (List.mem_append.mp c').elim c z) d
    refine ⟨l, List.mem_cons_of_mem _ hl, e1, ?_, ?_⟩
    ·rw [List.foldl_cons, if_neg z]
     exact e2
    ·show (if k ∈ T then _ else _) = _
     rw [if_neg z]
     exact e3
theorem Zp1 {Q t b W x : Int} (hb : 0 < b) (hd : b ∣ Q) (hQ : 0 < Q) (h : t * W <= b * x) : W * t * (Q / b) <= Q * x := by
 obtain ⟨e, rfl⟩ := hd
 rw [Int.mul_ediv_cancel_left _ (by omega)]
 have e0 : 0 <= e := by
  refine Int.le_of_lt (Int.pos_of_mul_pos_right ?_ hb)
  exact hQ
 have h1 : t * W * e <= b * x * e := Int.mul_le_mul_of_nonneg_right h e0
 have e1 : W * t * e = t * W * e := by rw [Int.mul_comm W]
 have e2 : b * e * x = b * x * e := by rw [Int.mul_assoc, Int.mul_comm e, <- Int.mul_assoc]
 rw [e1, e2]
 exact h1
theorem Zpi {Q t b W x : Int} (hb : 0 < b) (hd : b ∣ Q) (h : t * W = b * x) : W * t * (Q / b) = Q * x := by
 obtain ⟨e, rfl⟩ := hd
 rw [Int.mul_ediv_cancel_left _ (by omega)]
 rw [Int.mul_comm W, h, Int.mul_assoc, Int.mul_comm x, <- Int.mul_assoc]
theorem Zih (S : Nat -> Bool) (w : Nat -> Int) (c d : Int) (n : Nat) : Za1 (Za5 S fun k => w k * c * d) n = Za1 (Za5 S w) n * c * d := by
 induction n with
 | zero => simp [Za1]
 | succ n ih =>
   simp only [Za1]
   rw [ih, Int.add_mul, Int.add_mul]
   congr 1
   unfold Za5
   split
   ·rfl
   ·simp
theorem Lev.within {y : Yd} {gs : List Gs} (h : Sml y gs) {Q : Int} (hQ : 0 < Q) {A : List Nat} {p q : Int} {lv : List (Fr × List Nat)} (hL : Lev y gs A p q lv) : (∀ l ∈ lv, (l.1.b : Int) ∣ Q) -> ∀ S : Nat -> Bool, Za1 (Za5 (fun k => S k && !Zay A k) (tkL Q gs lv)) gs.length <= Q * (gvS y gs (fun k => Zay A k || S k) - gvS y gs (Zay A)) := by
 induction hL with
 | @nil A p q hA =>
   intro _ S
   have e1 : Za1 (Za5 (fun k => S k && !Zay A k) (tkL Q gs [])) gs.length = 0 := by
    rw [Zaj (g := fun _ => 0) fun k _ => by unfold Za5 tkL; split <;> rfl]
    exact ZaB _
   have e2 : gvS y gs (fun k => Zay A k || S k) = gvS y gs (Zay A) := h.giv.ext _ _ fun k hk => by
    have : Zay A k = true := decide_eq_true (hA k hk)
    rw [this]
    rfl
   rw [e1, e2]
   simp
 | @cons A p q f T lv N r ih =>
   intro hd S
   have i1 := ih (fun l hl => hd l (List.mem_cons_of_mem _ hl)) S
   have b1 := N.fr.ok.1
   have em : Zay (A ++ T) = fun k => Zay A k || Zay T k := funext fun k => Zek A T k
   simp only [em] at i1
   have dis : ∀ k, Zay T k = true -> Zay A k = false := fun k e => decide_eq_false (N.dis k (of_decide_eq_true e))
   have u1 := N.up (fun k => S k && Zay T k) (fun k _ e => dis k (Bool.and_eq_true_iff.mp e).2)
   have u2 := Zp1 (Q := Q) (b := (f.b : Int)) (by omega) (hd (f, T) List.mem_cons_self) hQ u1
   have sb := h.giv.sub (fun k => Zay A k || S k) (fun k => Zay A k || Zay T k)
   have g1 : gvS y gs (fun k => (Zay A k || S k) || (Zay A k || Zay T k)) = gvS y gs (fun k => (Zay A k || Zay T k) || S k) := h.giv.ext _ _ fun k _ => by cases Zay A k <;> cases Zay T k <;> cases S k <;> rfl
   have g2 : gvS y gs (fun k => (Zay A k || S k) && (Zay A k || Zay T k)) = gvS y gs (fun k => Zay A k || (S k && Zay T k)) := h.giv.ext _ _ fun k _ => by cases Zay A k <;> cases Zay T k <;> cases S k <;> rfl
   rw [g1, g2] at sb
   have e1 : Za1 (Za5 (fun k => S k && !Zay A k) (tkL Q gs ((f, T) :: lv))) gs.length = wS gs.length (waN gs) (fun k => S k && Zay T k) * (f.t : Int) * (Q / (f.b : Int)) + Za1 (Za5 (fun k => S k && !(Zay A k || Zay T k)) (tkL Q gs lv)) gs.length := by
    unfold wS
    rw [<- Zih, <- Zcm]
    refine Zaj fun k _ => ?_
    unfold Za5
    dsimp only
    have tk : tkL Q gs ((f, T) :: lv) k = if k ∈ T then waN gs k * (f.t : Int) * (Q / (f.b : Int)) else tkL Q gs lv k := rfl
    rw [tk]
    by_cases c2 : k ∈ T
    ·have m2 : Zay T k = true := decide_eq_true c2
     have m1 := dis k m2
     rcases Bool.eq_false_or_eq_true (S k) with c3 | c3 <;> simp [c2, m2, m1, c3]
    ·have m2 : Zay T k = false := decide_eq_false c2
     rcases Bool.eq_false_or_eq_true (S k) with c3 | c3 <;> rcases Bool.eq_false_or_eq_true (Zay A k) with c4 | c4 <;> simp [c2, m2, c3, c4]
   rw [e1]
   have sb' : Q * (gvS y gs (fun k => (Zay A k || Zay T k) || S k) + gvS y gs (fun k => Zay A k || (S k && Zay T k))) <= Q * (gvS y gs (fun k => Zay A k || S k) + gvS y gs (fun k => Zay A k || Zay T k)) := Int.mul_le_mul_of_nonneg_left sb (by omega)
   simp only [Int.mul_sub, Int.mul_add] at *
   omega
def ZaR (lv : List (Fr × List Nat)) : List Nat := lv.flatMap (·.2)
theorem ZqN {gs : List Gs} {Q : Int} {f : Fr} {T : List Nat} {lv : List (Fr × List Nat)} (hT : NdS gs T) : (T.map (tkL Q gs ((f, T) :: lv))).sum = wS gs.length (waN gs) (Zay T) * (f.t : Int) * (Q / (f.b : Int)) := by
 have e : T.map (tkL Q gs ((f, T) :: lv)) = T.map fun k => waN gs k * (f.t : Int) * (Q / (f.b : Int)) := List.map_congr_left fun k hk => by
  show (if k ∈ T then _ else _) = _
  rw [if_pos hk]
 rw [e, hT.sum, Zih]
 rfl
theorem Lev.tight {y : Yd} {gs : List Gs} (h : Sml y gs) {Q : Int} {A : List Nat} {p q : Int} {lv : List (Fr × List Nat)} (hL : Lev y gs A p q lv) : (∀ l ∈ lv, (l.1.b : Int) ∣ Q) -> ∀ (i : Nat) (l : Fr × List Nat), lv[i]? = some l -> l.1.t < l.1.b ->
 ((ZaR (lv.take (i + 1))).map (tkL Q gs lv)).sum = Q * (gvS y gs (Zay (A ++ ZaR (lv.take (i + 1)))) - gvS y gs (Zay A)) := by
 induction hL with
 | nil _ => exact fun _ i l hl => by simp at hl
 | @cons A p q f T lv N r ih =>
   intro hd i l hl lt
   have b1 := N.fr.ok.1
   have dv : (f.b : Int) ∣ Q := hd (f, T) List.mem_cons_self
   have ea : ZaR (((f, T) :: lv).take (i + 1)) = T ++ ZaR (lv.take i) := by
    unfold ZaR
    rw [List.take_succ_cons, List.flatMap_cons]
   rw [ea, List.map_append, List.sum_append, ZqN N.nd]
   have base : f.t < f.b -> wS gs.length (waN gs) (Zay T) * (f.t : Int) * (Q / (f.b : Int)) = Q * (gvS y gs (Zay (A ++ T)) - gvS y gs (Zay A)) := fun lt' => by
    have ti := N.tight lt'
    rw [Zpi (by omega) dv ti, ZeM]
    rfl
   match i with
   | 0 =>
     have : l = (f, T) := by simpa using hl.symm
     subst this
     rw [base lt]
     have e0 : ZaR (lv.take 0) = [] := by simp [ZaR]
     rw [e0, List.append_nil]
     simp
   | i + 1 =>
     have hl' : lv[i]? = some l := by simpa using hl
     have lt0 : f.t < f.b := by
      refine Nat.lt_of_le_of_ne N.le fun e => ?_
      match lv, r, hl' with
      | _, .cons N' _, _ =>
        obtain ⟨k, hk⟩ := List.exists_mem_of_ne_nil _ N'.ne
        have hk' := N'.nd.mem k hk
        refine N'.dis k hk ?_
        by_cases c : k ∈ A
        ·exact List.mem_append_left _ c
        ·exact List.mem_append_right _ (N.all e k hk' c)
     have i1 := ih (fun l hl => hd l (List.mem_cons_of_mem _ hl)) i l hl' lt
     have e2 : (ZaR (lv.take (i + 1))).map (tkL Q gs ((f, T) :: lv)) = (ZaR (lv.take (i + 1))).map (tkL Q gs lv) := List.map_congr_left fun k hk => by
      show (if k ∈ T then _ else _) = _
      rw [if_neg]
      intro z
      obtain ⟨l', hl1, hl2⟩ := List.mem_flatMap.mp hk
      exact r.dis l' (List.mem_of_mem_take hl1) k hl2 (List.mem_append_right _ z)
     rw [base lt0, e2, i1, List.append_assoc]
     simp only [Int.mul_sub]
     omega
theorem Lev.ahead {y : Yd} {gs : List Gs} {A : List Nat} {p q : Int} {lv : List (Fr × List Nat)} (hL : Lev y gs A p q lv) : NdS gs A -> NdS gs (A ++ ZaR lv) := by
 induction hL with
 | nil _ => intro hA; simpa [ZaR] using hA
 | @cons A p q f T lv N r ih =>
   intro hA
   have := ih (hA.app N.nd N.dis)
   have e : ZaR ((f, T) :: lv) = T ++ ZaR lv := List.flatMap_cons
   rw [e, <- List.append_assoc]
   exact this
theorem NdS.left {gs : List Gs} {a b : List Nat} (h : NdS gs (a ++ b)) : NdS gs a := ⟨fun k hk => h.mem k (List.mem_append_left _ hk), (List.nodup_append.mp h.nd).1⟩
theorem Zgc {y : Yd} {gs : List Gs} {lv : List (Fr × List Nat)} (hL : Lev y gs [] 0 1 lv) (i : Nat) : NdS gs (ZaR (lv.take i)) := by
 have h1 := hL.ahead ⟨(fun k hk => nomatch hk), List.nodup_nil⟩
 rw [List.nil_append] at h1
 have e : ZaR lv = ZaR (lv.take i) ++ ZaR (lv.drop i) := by
  unfold ZaR
  rw [<- List.flatMap_append, List.take_append_drop]
 rw [e] at h1
 exact h1.left
inductive R_lparts : List OT -> OT -> Prop
 | mk {lv : List (Fr × List Nat)} (h : ∀ l ∈ lv, FrB l.1) (hl : lv.length <= 16) : R_lparts [.fz (.list (lv.map ZdY))] (.fz (.int (Ze1 1 (lv.map (·.1)) : Int)))
theorem Zcu : FnScope ["_law_levels", "_law_found", "_law_share", "_law_some"] ["_law_levels"] (Zab ZbJ) := by walk_at "p"
theorem ZkO (T : Bl mg) (D : Df K mg "_law_parts" ZbJ ["_law_levels"]) (c__law_divisor : Cal P w K mg base "_law_divisor" ["_law_one", "_law_other"] 1 (spO (K := K) R_ldiv)) : Cal P w K mg base "_law_parts" ["_law_levels"] 2 (spO (K := K) R_lparts) := by
 refine D.ev Zcu (fun ts r h => by cases h; rfl) (fun f cdv A outer s H E ts r hr h => ?_)
 cases h with
 | @mk lv h hl =>
   refine ⟨_, (Zad (Zaq (i := 1) Zcu.nd rfl (Or.inl rfl) Zai)
 (Zad (ZbB PassesOwn.never rfl (ZaV (pv 0)) (ZdR (n := 2) rfl (Za6 (Zam (i := 2) Zcu.nd rfl (Or.inl rfl)) (Za6 (Zam (i := 3) Zcu.nd rfl (Or.inl rfl)) Zdb))) (Zah (Zaq (i := 1) Zcu.nd rfl (Or.inl rfl) (Zau ZcV (pv 1) (Zau ZaL (Zax Zan (pv 2) Zai (fun _ _ => rfl)) (Zap c__law_divisor hr (Zaa (pv 1) (Zaa (Zax Zan (pv 2) Zai (fun _ _ => rfl)) Zae)) (hj := by walk_at "j")))))))
 (Zah (Zaw (pv 1))))), ?_⟩
   show EvS K _ [some _, none, none, none] _
   walk_at "x"
   refine Zar (ZbO (d := .int 1) Zba ?_)
   walk_at "d"
   have hf : ∀ f ∈ lv.map (·.1), FrB f := fun f hf => by
    obtain ⟨l, hl, rfl⟩ := List.mem_map.mp hf
    exact h l hl
   refine Zar (ZbC (ds := lv.map ZdY) (fun i => [some (.fz (.list (lv.map ZdY))), some (.fz (.int (Ze1 1 ((lv.map (·.1)).take i) : Int))), none, none]) ?ei ⟨rfl, rfl, trivial⟩ ?st ?fin)
   case ei => exact Zb9 (Zac rfl)
   case st =>
    intro i d hd
    have hi : i < lv.length := by
     have := (List.getElem?_eq_some_iff.mp hd).1
     simpa using this
    obtain rfl : d = ZdY lv[i] := by simpa [hi] using hd.symm
    have hi' : i < (lv.map (·.1)).length := by simpa using hi
    have ei' : (lv.map (·.1))[i]? = some lv[i].1 := by simp [hi]
    have hm := h lv[i] (List.getElem_mem hi)
    have hp : Ze1 1 ((lv.map (·.1)).take i) <= 2 ^ 1900 := Ze2 (fun f h' => hf f (List.mem_of_mem_take h')) (by rw [List.length_take]; omega)
    have hp0 : 0 < Ze1 1 ((lv.map (·.1)).take i) := Zf3 (by decide) (fun f h' => (hf f (List.mem_of_mem_take h')).ok.1)
    have et := Zjc ei'
    rw [et]
    generalize Ze1 1 ((lv.map (·.1)).take i) = B at hp hp0
    refine ⟨_, ZjR (ds := [Zde lv[i].1, .list (Zbf lv[i].2)]) (ZcH ZaN (ZcH ZaN Zgg)) rfl, ?_⟩
    walk_at "d"
    generalize lv[i].1 = f' at hm
    have g0 : 0 < Nat.gcd B f'.b := Nat.gcd_pos_of_pos_left _ hp0
    have g1 : Nat.gcd B f'.b <= 2 ^ 110 := Nat.le_trans (Nat.le_of_dvd hm.ok.1 (Nat.gcd_dvd_right _ _)) hm.b
    have cb : ZeY (f'.b : Int) ((Nat.gcd B f'.b : Nat) : Int) := ⟨by omega, by
     have : ((Nat.gcd B f'.b : Nat) : Int) <= ((2 ^ 110 : Nat) : Int) := Int.ofNat_le.mpr g1
     exact Int.lt_of_le_of_lt this (by decide +kernel)⟩
    have qb : f'.b / Nat.gcd B f'.b <= 2 ^ 110 := Nat.le_trans (Nat.div_le_self _ _) hm.b
    have ix : ∀ {ρ : Zbe}, ρ[2]? = some (some (.fz (Zde f'))) -> EvE K (tOp (rIx K) (ZcP 2) (tC (.int 1))) ρ (.int (f'.b : Int)) := fun e => Zdd (ds := [.int (f'.t : Int), .int (f'.b : Int)]) (Zac e) Zba rfl
    refine ZbO (d := .int ((B * (f'.b / Nat.gcd B f'.b) : Nat) : Int)) (EvE.cast (ZcC (Zac rfl) (EvE.cast (d' := .int ((f'.b / Nat.gcd B f'.b : Nat) : Int)) (ZcC (ix rfl) (Za3 (Zaf (Zac rfl) (Zaf (ix rfl) Zas)) R_ldiv.mk) cb) rfl) (Zl5 (Zga hp) (Zga (Zl0 qb)))) (by rw [Int.natCast_mul])) ?_
    walk_at "d"
    exact ⟨rfl, rfl, trivial⟩
   case fin =>
    intro ρ' hf
    refine ZcW hf ?_
    rw [List.length_map, <- List.length_map (f := (·.1)), List.take_length]
    exact Zcl (Zac rfl) rfl
theorem ZmT {lv : List (Fr × List Nat)} {i : Nat} (hi : i < lv.length) (k : Nat) : shL (lv.take (i + 1)) k = if k ∈ lv[i].2 then Zde lv[i].1 else shL (lv.take i) k := by
 unfold shL
 rw [List.take_succ, List.getElem?_eq_getElem hi, List.foldl_append]
 rfl
theorem Zn4 {m j : Nat} (hj : j < m) {f : Nat -> PyData} {d : PyData} : ((List.range m).map f).set j d = (List.range m).map fun k => if k = j then d else f k := by
 refine List.ext_getElem (by simp) fun i h1 h2 => ?_
 rw [List.getElem_set]
 have hi : i < m := by simpa using h2
 by_cases c : j = i
 ·subst c
  simp
 ·simp [c, Ne.symm c]
inductive R_lshares : List OT -> OT -> Prop
 | mk {lv : List (Fr × List Nat)} {m : Nat} (hm : m <= 8) (h : ∀ l ∈ lv, ∀ k ∈ l.2, k < m) : R_lshares [.fz (.list (lv.map ZdY)), .fz (.int (m : Int))] (.ol ((List.range m).map (shL lv)))
theorem ZbR : FnScope ["_law_levels", "_law_many", "_law_shares_here", "_law_share", "_law_some", "_law_k"] ["_law_levels", "_law_many"] (Zab ZaT) := by walk_at "p"
theorem Zkb (T : Bl mg) (D : Df K mg "_law_shares" ZaT ["_law_levels", "_law_many"]) : Cal P w K mg base "_law_shares" ["_law_levels", "_law_many"] 1 (spO (K := K) R_lshares) := by
 refine D.ev ZbR (fun ts r h => by cases h; rfl) (fun f cdv A outer s H E ts r hr h => ?_)
 cases h with
 | @mk lv m hm h =>
   refine ⟨_, (Zad (ZdU (i := 2) ZbR.nd rfl rfl (NX := ["_law_levels", "_law_many", "_law_shares_here", "_law_share", "_law_some", "_law_k"]) (sc := Zab ZaT) (N := ["_law_k"]) (f := [none]) rfl (by decide +kernel) rfl rfl (Zbl rfl T.range (Zaa (pv 1) Zae)) (fun _ => (Zam (i := 0) (show (["_law_k"] : List Str).Nodup by decide +kernel) rfl (Or.inl rfl))) (fun _ => Zbk) (fun _ => ZbQ) (fun _ => Zjb) rfl)
 (Zad (ZbB PassesOwn.never rfl (ZaV (pv 0)) (ZdR (n := 2) rfl (Za6 (Zam (i := 3) ZbR.nd rfl (Or.inl rfl)) (Za6 (Zam (i := 4) ZbR.nd rfl (Or.inl rfl)) Zdb))) (Zah (ZbB PassesOwn.never rfl (ZaV (pv 4)) (Zam (i := 5) ZbR.nd rfl (Or.inl rfl)) (Zah (ZeT (pv 3) (Zmw (pv 2) (pv 5) Zd4))))))
 (Zah (Zaw (pv 2))))), ?_⟩
   show EvS K _ [some _, some _, none, none, none, none] _
   walk_at "x"
   refine Zar (ZcF (Zel (xs := List.range m) (enc := fun (k : Nat) => PyData.int (k : Int)) (h := fun k => shL (lv.take 0) k) ?ei (by simp; omega) ?el) ?_)
   case ei =>
    refine EvI.cast (Zd1 (Zaf (Zac rfl) Zas) (by rw [z62]; omega) (by rw [z62]; omega)) ?_
    rw [Int.toNat_natCast]
    unfold ZfO
    refine List.map_congr_left fun i _ => ?_
    rw [Int.zero_add]
   case el =>
    intro k hk c
    exact ⟨_, ZaN, Zl1⟩
   walk_at "d"
   refine Zar (ZbC (ds := lv.map ZdY) (fun i => [some (.fz (.list (lv.map ZdY))), some (.fz (.int (m : Int))), some (.ol ((List.range m).map (shL (lv.take i)))), none, none, none]) (Zb9 (Zac rfl)) ⟨rfl, rfl, rfl, trivial⟩ ?st ?fin)
   case fin =>
    intro ρ' hf
    refine ZcW hf ?_
    rw [List.length_map, List.take_length]
    exact Zgx rfl rfl
   case st =>
    intro i d hd
    have hi : i < lv.length := by
     have := (List.getElem?_eq_some_iff.mp hd).1
     simpa using this
    obtain rfl : d = ZdY lv[i] := by simpa [hi] using hd.symm
    have hk := h lv[i] (List.getElem_mem hi)
    refine ⟨_, ZjR (ds := [Zde lv[i].1, .list (Zbf lv[i].2)]) (ZcH ZaN (ZcH ZaN Zgg)) rfl, ?_⟩
    walk_at "d"
    refine ZbC (ds := Zbf lv[i].2) (fun j => [some (.fz (.list (lv.map ZdY))), some (.fz (.int (m : Int))), some (.ol ((List.range m).map fun k => if k ∈ lv[i].2.take j then Zde lv[i].1 else shL (lv.take i) k)), some (.fz (Zde lv[i].1)), some (.fz (.list (Zbf lv[i].2))), none]) (Zb9 (Zac rfl)) ⟨rfl, rfl, ?z0, rfl, rfl, trivial⟩ ?st2 ?fin2
    case z0 => simp
    case st2 =>
     intro j d hd2
     have hj : j < lv[i].2.length := by
      have := (List.getElem?_eq_some_iff.mp hd2).1
      simpa [Zbf] using this
     obtain rfl : d = .int ((lv[i].2[j] : Nat) : Int) := by simpa [Zbf, hj] using hd2.symm
     have hkj := hk lv[i].2[j] (List.getElem_mem hj)
     refine ⟨_, ZaN, ?_⟩
     walk_at "d"
     refine Zna (j := lv[i].2[j]) rfl (Zac rfl) (Zac rfl) ?ix ?_
     case ix =>
      have := ZqF (n := ((List.range m).map fun k => if k ∈ lv[i].2.take j then Zde lv[i].1 else shL (lv.take i) k).length) (k := ((lv[i].2[j] : Nat) : Int)) (by omega) (by simp; omega)
      simpa using this
     walk_at "d"
     refine ⟨rfl, rfl, ?_, rfl, rfl, trivial⟩
     rw [Zn4 hkj]
     congr 2
     refine List.map_congr_left fun k _ => ?_
     have em : k ∈ lv[i].2.take (j + 1) ↔ k ∈ lv[i].2.take j \/ k = lv[i].2[j] := by
      rw [List.take_succ, List.getElem?_eq_getElem hj, List.mem_append]
      simp
     by_cases c : k = lv[i].2[j]
     ·rw [if_pos c, if_pos (em.mpr (.inr c))]
     ·by_cases c2 : k ∈ lv[i].2.take j
      ·rw [if_neg c, if_pos c2, if_pos (em.mpr (.inl c2))]
      ·rw [if_neg c, if_neg c2, if_neg (fun z => (em.mp z).elim c2 c)]
    case fin2 =>
     intro ρ' hf
     have ln : (Zbf lv[i].2).length = lv[i].2.length := by simp [Zbf]
     rw [ln, List.take_length] at hf
     refine hf.trans ⟨rfl, rfl, ?_, trivial⟩
     congr 2
     exact List.map_congr_left fun k _ => (ZmT hi k).symm
def ZeA : Nat -> List (List Nat)
 | 0 => [[]]
 | k + 1 => ZeA k ++ (ZeA k).map fun s => s ++ [k]
theorem Zia : ∀ k, (ZeA k).length = 2 ^ k
 | 0 => rfl
 | k + 1 => by
   show (ZeA k ++ (ZeA k).map fun s => s ++ [k]).length = _
   rw [List.length_append, List.length_map, Zia k, Nat.pow_succ]
   omega
theorem Zfd : ∀ k, ∀ s ∈ ZeA k, s.Nodup /\ (∀ j ∈ s, j < k) /\ s.length <= k
 | 0, s, h => by
   have : s = [] := by simpa [ZeA] using h
   subst this
   exact ⟨List.nodup_nil, fun j hj => (nomatch hj), Nat.le_refl _⟩
 | k + 1, s, h => by
   rcases List.mem_append.mp h with h | h
   ·obtain ⟨h1, h2, h3⟩ := Zfd k s h
    exact ⟨h1, fun j hj => Nat.lt_succ_of_lt (h2 j hj), by omega⟩
   ·obtain ⟨r, hr, rfl⟩ := List.mem_map.mp h
    obtain ⟨h1, h2, h3⟩ := Zfd k r hr
    refine ⟨?_, fun j hj => ?_, by simp; omega⟩
    ·rw [List.nodup_append]
     refine ⟨h1, by simp, fun a ha b hb => ?_⟩
     have : b = k := by simpa using hb
     have := h2 a ha
     omega
    ·rcases List.mem_append.mp hj with hj | hj
     ·exact Nat.lt_succ_of_lt (h2 j hj)
     ·have : j = k := by simpa using hj
      omega
def Zhz (k : Nat) : List PyData := (ZeA k).map fun s => .list (Zbf s)
inductive R_sets : List OT -> OT -> Prop
 | mk {m : Nat} (h : m <= 8) : R_sets [.fz (.int (m : Int))] (.ol (Zhz m))
theorem Zdf : FnScope ["_law_many", "_law_found", "_law_k"] ["_law_many"] (Zab ZbM) := by walk_at "p"
theorem ZoV (T : Bl mg) (D : Df K mg "_law_sets" ZbM ["_law_many"]) : Cal P w K mg base "_law_sets" ["_law_many"] 1 (spO (K := K) R_sets) := by
 refine D.ev Zdf (fun ts r h => by cases h; rfl) (fun f cdv A outer s H E ts r hr h => ?_)
 cases h with
 | @mk m h8 =>
   refine ⟨_, (Zad (Zaq (i := 1) Zdf.nd rfl (Or.inl rfl) (Zct (Zaa (Zct Zae) Zae)))
 (Zad (ZbB PassesOwn.never rfl (Zbl rfl T.range (Zaa (pv 0) Zae)) (Zam (i := 2) Zdf.nd rfl (Or.inr rfl)) (Zah (Zaq (i := 1) Zdf.nd rfl (Or.inl rfl) (Zau Zgl (pv 1) (ZeO (NX := ["_law_many", "_law_found", "_law_k"]) (sc := Zab ZbM) (N := ["_law_some", "_law_k"]) (f := [none, some 2]) rfl (by decide +kernel) rfl rfl (ZaV (pv 1)) (fun _ => (Zam (i := 0) (show (["_law_some", "_law_k"] : List Str).Nodup by decide +kernel) rfl (Or.inl rfl))) (fun _ => Zbk) (fun _ => ZbQ) (fun _ => (Zau Zgl (pv 0) (Zct (Zaa (pv 1) Zae)))))))))
 (Zah (Zaw (pv 1))))), ?_⟩
   show EvS K _ [some _, none, none] _
   walk_at "x"
   refine Zar (ZcF (ZdA (ds := Zhz 0) (ZaS (EvO.fz (ZdA ZaO (by decide))) ZaO) (by decide)) ?_)
   walk_at "d"
   refine Zar (ZbC (ds := ZfO 0 m) (fun i => [some (.fz (.int (m : Int))), some (.ol (Zhz i)), none]) ?ei ⟨rfl, rfl, trivial⟩ ?st ?fin)
   case ei => exact EvI.cast (Zd1 (Zaf (Zac rfl) Zas) (by rw [z62]; omega) (by rw [z62]; omega)) (ZdG rfl (by omega))
   case fin =>
    intro ρ' hf
    refine ZcW hf ?_
    rw [ZcB]
    exact Zgx rfl rfl
   case st =>
    intro i d hd
    obtain ⟨hi, rfl⟩ := Zc9 hd
    have ln : (ZeA i).length <= 256 := by
     rw [Zia]
     have : 2 ^ i <= 2 ^ 8 := Nat.pow_le_pow_right (by decide) (by omega)
     exact this
    refine ⟨_, by walk_at "g", ?_⟩
    walk_at "d"
    rw [Int.zero_add]
    refine ZeI 1 rfl ?_
    walk_at "d"
    refine ZcF (Zgm (as := Zhz i) (bs := (ZeA i).map fun s => .list (Zbf (s ++ [i]))) (Zac rfl) (EvO.fz (Zel (xs := ZeA i) (enc := fun s => .list (Zbf s)) (h := fun s => .list (Zbf (s ++ [i]))) ?ei2 (by omega) ?el2)) (by simp [Zhz]; omega)) ?_
    case ei2 => exact Zb9 (Zac rfl)
    case el2 =>
     intro x hx c
     have l3 := (Zfd i x hx).2.2
     refine ⟨_, by walk_at "g", ?_⟩
     walk_at "e"
     apply EvE.cast
     ·exact EvO.fz (Zgm (as := Zbf x) (bs := [.int (i : Int)]) (Zac rfl) (EvO.fz (ZdA (ZaS (Zac rfl) ZaO) ZpR)) (by simp [Zbf]; omega))
     ·unfold Zbf
      rw [List.map_append]
      rfl
    walk_at "d"
    refine ⟨rfl, ?_, trivial⟩
    unfold Zhz
    show _ = some (OT.ol ((ZeA i ++ (ZeA i).map fun s => s ++ [i]).map fun s => .list (Zbf s)))
    rw [List.map_append, List.map_map]
    rfl
inductive R_lgiven : List OT -> OT -> Prop
 | mk {y : Yd} {gs : List Gs} {sm : List Nat} (ok : y.Ok) (hg : ∀ g ∈ gs, g.Ok y) (hs : SetOk gs sm) :
  R_lgiven [.fz (eYd y), .fz (.list (gs.map eGs)), .fz (.list (Zbf sm))] (.fz (.int (ZaA y gs sm)))
theorem Za2 : FnScope ["_law_yard_here", "_law_guests_here", "_law_some", "_law_total", "_law_turn", "_law_reach", "_law_k", "_law_line", "_law_first", "_law_last", "_law_want", "_law_most", "_law_above", "_law_bounds"] ["_law_yard_here", "_law_guests_here", "_law_some"] (Zab Zbr) := by walk_at "p"
theorem Zmy (T : Bl mg) (D : Df K mg "_law_given" Zbr ["_law_yard_here", "_law_guests_here", "_law_some"]) : Cal P w K mg base "_law_given" ["_law_yard_here", "_law_guests_here", "_law_some"] 1 (spO (K := K) R_lgiven) := by
 refine D.ev Za2 (fun ts r h => by cases h; rfl) (fun f cdv A outer s H E ts r hr h => ?_)
 cases h with
 | @mk y gs sm ok hg hs =>
   refine ⟨_, (Zad (Zaq (i := 3) Za2.nd rfl (Or.inl rfl) Zai)
 (Zad (ZbB PassesOwn.never rfl (Zbl rfl T.range (Zaa (Zax Zan (pv 0) Zai (fun _ _ => rfl)) Zae)) (Zam (i := 4) Za2.nd rfl (Or.inl rfl)) (Zad (ZdU (i := 5) Za2.nd rfl rfl (NX := ["_law_yard_here", "_law_guests_here", "_law_some", "_law_total", "_law_turn", "_law_reach", "_law_k", "_law_line", "_law_first", "_law_last", "_law_want", "_law_most", "_law_above", "_law_bounds"]) (sc := Zab Zbr) (N := ["_law_line"]) (f := [none]) rfl (by decide +kernel) rfl rfl (ZlY (Zax Zan (pv 0) Zai (fun _ _ => rfl))) (fun _ => (Zam (i := 0) (show (["_law_line"] : List Str).Nodup by decide +kernel) rfl (Or.inl rfl))) (fun _ => Zbk) (fun _ => ZbQ) (fun _ => Zai) rfl)
 (Zad (ZbB PassesOwn.never rfl (ZaV (pv 2)) (Zam (i := 6) Za2.nd rfl (Or.inl rfl)) (Zad (ZeT (Zax Zan (pv 1) (pv 6) (fun _ _ => rfl)) (ZdR (n := 5) rfl (Za6 (Zam (i := 7) Za2.nd rfl (Or.inl rfl)) (Za6 (Zam (i := 8) Za2.nd rfl (Or.inl rfl)) (Za6 (Zam (i := 9) Za2.nd rfl (Or.inl rfl)) (Za6 (Zam (i := 10) Za2.nd rfl (Or.inl rfl)) (Za6 (Zam (i := 11) Za2.nd rfl (Or.inl rfl)) Zdb)))))))
 (Zah (Zea (Zj3 Zkt Zkt (pv 8) (pv 4) (pv 9)) (Zah (ZeT (Zau ZcJ (Zax Zan (pv 5) (pv 7) (fun _ _ => rfl)) (pv 11)) (Zmw (pv 5) (pv 7) Zd4))) ZbZ))))
 (Zah (ZbB PassesOwn.never rfl (Zhe rfl T.range (Zaa (Zau Zh0 (Za0 Zdu (by rfl) T.len Zdx (Zaa (pv 5) Zae)) Zai) (Zaa (Zoz ZlA Zai) (Zaa (Zoz ZlA Zai) Zae)))) (Zam (i := 7) Za2.nd rfl (Or.inl rfl)) (Zad (ZeT (Zax Zan (Zax Zan (pv 0) Zai (fun _ _ => rfl)) (pv 7) (fun _ _ => rfl)) (ZdR (n := 2) rfl (Za6 (Zam (i := 12) Za2.nd rfl (Or.inl rfl)) (Za6 (Zam (i := 13) Za2.nd rfl (Or.inl rfl)) Zdb))))
 (Zah (Zea (ZbA Zlg (pv 7) Zai (ZcL _)) (Zah (ZeT (Zau ZcJ (Zax Zan (pv 5) (pv 12) (fun _ _ => rfl)) (Za0 (Zj2 rfl) (by rfl) T.min ZhL (Zaa (Zax Zan (pv 13) (pv 4) (fun _ _ => rfl)) (Zaa (Zax Zan (pv 5) (pv 7) (fun _ _ => rfl)) Zae)))) (Zmw (pv 5) (pv 12) Zd4))) (Zah (Zaq (i := 3) Za2.nd rfl (Or.inl rfl) (Zau ZcJ (pv 3) (Za0 (Zj2 rfl) (by rfl) T.min ZhL (Zaa (Zax Zan (pv 13) (pv 4) (fun _ _ => rfl)) (Zaa (Zax Zan (pv 5) (pv 7) (fun _ _ => rfl)) Zae))))))))))))))
 (Zah (Zaw (pv 3))))), ?_⟩
   show EvS K _ [some _, some _, some _, none, none, none, none, none, none, none, none, none, none, none] _
   walk_at "x"
   have l1 := ok.l1
   have l5 := ok.l5
   have t8 := ok.t8
   have n8 := hs.len
   walk_at "s1"
   refine Zar (ZbC (ds := ZfO 0 y.T) (fun i => [some (.fz (eYd y)), some (.fz (.list (gs.map eGs))), some (.fz (.list (Zbf sm))), some (.fz (.int (ZjT (Zcf y gs sm) i))), none, none, none, none, none, none, none, none, none, none]) ?ei ⟨rfl, rfl, rfl, rfl, trivial⟩ ?st ?fin)
   case ei => walk_at "eir"
   case fin =>
    intro ρ' hf
    refine ZcW hf ?_
    walk_at "ret"
    rw [ZcB]
    rfl
   case st =>
    intro t d hd
    obtain ⟨ht, rfl⟩ := Zc9 hd
    refine ⟨_, by walk_at "g", ?_⟩
    walk_at "d"
    rw [Int.zero_add]
    refine Zar (ZcF (EvO.cast (Zel (xs := y.ls) (enc := eLn) (h := fun _ => .int 0) ?ei2 (by omega) ?el2) (congrArg OT.ol (ZkJ _ _))) ?_)
    case ei2 => walk_at "ei"
    case el2 =>
     intro x hx c
     exact ⟨_, by walk_at "g", by walk_at "ev"⟩
    walk_at "d"
    refine Zar (ZbC (fun i => [some (.fz (eYd y)), some (.fz (.list (gs.map eGs))), some (.fz (.list (Zbf sm))), some (.fz (.int (ZjT (Zcf y gs sm) t))), some (.fz (.int (t : Int))), some (.ol ((List.range y.ls.length).map fun l => PyData.int (Zb1 gs (t : Int) l (sm.take i)))), none, none, none, none, none, none, none, none]) (by walk_at "ei") ⟨rfl, rfl, rfl, rfl, rfl, rfl, trivial⟩ ?st3 ?fin3)
    case st3 =>
     intro i d hd
     have hi : i < sm.length := by
      have := (List.getElem?_eq_some_iff.mp hd).1
      simpa [Zbf] using this
     obtain rfl : d = .int ((sm[i] : Nat) : Int) := by simpa [Zbf, hi] using hd.symm
     have hk : sm[i] < gs.length := hs.mem _ (List.getElem_mem hi)
     refine ⟨_, by walk_at "g", ?_⟩
     walk_at "d"
     have tk : sm.take (i + 1) = sm.take i ++ [sm[i]] := by rw [List.take_succ]; simp [hi]
     have eg : gs.getD ((sm[i] : Nat) : Int).toNat default = gs[sm[i]] := by simp [hk]
     walk_at "s1"
     rw [eg]
     have gok := hg gs[sm[i]] (List.getElem_mem hk)
     have gl := gok.ln
     have ht : Zc7 gs[sm[i]] (t : Int) = (decide ((gs[sm[i]].first : Int) <= (t : Int)) && decide ((t : Int) <= (gs[sm[i]].last : Int))) := rfl
     walk_at "if"
     ·intro c
      rw [<- ht] at c
      walk_at "s1"
      refine ⟨rfl, rfl, rfl, rfl, rfl, ?_, trivial⟩
      rw [Int.toNat_natCast]
      refine congrArg (fun z => some (OT.ol z)) (ZgH gl (fun l hl hn => ?_) ?_)
      ·rw [tk, ZbL]
       simp [Zb1, hk, Ne.symm hn]
      ·rw [tk, ZbL]
       simp [Zb1, hk, c]
     ·intro c
      rw [<- ht] at c
      refine Zcd ⟨rfl, rfl, rfl, rfl, rfl, ?_, trivial⟩
      refine congrArg (fun z => some (OT.ol z)) (List.map_congr_left fun l _ => ?_)
      rw [tk, ZbL]
      simp [Zb1, hk, c]
    case fin3 =>
     intro ρ' hf
     refine ZcW hf ?_
     have el : (Zbf sm).length = sm.length := by simp [Zbf]
     rw [el, List.take_length]
     have len0 : ((List.range y.ls.length).map fun l => PyData.int (Zb1 gs (t : Int) l sm)).length = y.ls.length := by simp
     refine ZbC (ds := ZmS ((y.ls.length : Int) - 1) y.ls.length) (fun i => [some (.fz (eYd y)), some (.fz (.list (gs.map eGs))), some (.fz (.list (Zbf sm))), some (.fz (.int (ZjT (Zcf y gs sm) t + if i < y.ls.length then 0 else Zcf y gs sm t))), some (.fz (.int (t : Int))), some (.ol ((List.range y.ls.length).map fun l => PyData.int (ZaK y (fun k => Zbc y k t) (ZdN gs t sm) (min i (y.ls.length - 1)) l))), none, none, none, none, none, none, none, none]) ?ei4 ?h4 ?st4 ?fin4
     case ei4 => apply EvI.cast; walk_at "ei"; rw [len0]; exact ZhR rfl (by omega)
     case h4 =>
      refine ⟨rfl, rfl, rfl, ?_, rfl, ?_, trivial⟩
      ·rw [if_pos (by omega), Int.add_zero]
      ·rw [Nat.min_eq_left (by omega)]
       rfl
     case fin4 =>
      intro ρ' hf
      rw [ZgN, if_neg (by omega)] at hf
      exact hf.trans ⟨rfl, rfl, rfl, by rw [Zk4], trivial⟩
     case st4 =>
      intro i d hd
      obtain ⟨hi, rfl⟩ := Zg7 hd
      refine ⟨_, by walk_at "g", ?_⟩
      walk_at "d"
      have ej : (y.ls.length : Int) - 1 - (i : Int) = ((y.ls.length - 1 - i : Nat) : Int) := by omega
      rw [ej, Nat.min_eq_left (by omega), if_pos hi, Int.add_zero]
      generalize hj : y.ls.length - 1 - i = j
      have hjl : j < y.ls.length := by omega
      have hbl : (y.ls.getD ((j : Nat) : Int).toNat default).bs.length = y.T := by rw [Int.toNat_natCast]; exact Zgw ok hjl
      have hb : (y.ls.getD ((j : Nat) : Int).toNat default).bs.getD ((t : Nat) : Int).toNat 0 = Zbc y j t := by
       rw [Int.toNat_natCast, Int.toNat_natCast]; exact (ZdS hjl).symm
      walk_at "s1"
      walk_at "if"
      ·intro c
       have c : (0 : Int) < (j : Int) := of_decide_eq_true c
       obtain ⟨a, ea, la⟩ := ok.ups j (by omega) hjl
       have eu : upD (y.ls.getD ((j : Nat) : Int).toNat default).up = .int (a : Int) := by
        have : (Zfk y j).up = some a := by rw [<- Zfm hjl]; exact ea
        rw [Int.toNat_natCast]
        show upD (Zfk y j).up = _
        rw [this]
        rfl
       rw [eu]
       walk_at "s1"
       refine ⟨rfl, rfl, rfl, ?_, rfl, ?_, trivial⟩
       ·rw [if_pos (by omega), Int.add_zero]
       ·rw [Int.toNat_natCast, Nat.min_eq_left (by omega)]
        refine congrArg (fun z => some (OT.ol z)) (ZgH (by omega) (fun l hl hn => ?_) ?_)
        ·simp only [ZaK, ZeJ, hj]
         rw [ea, if_neg (by simpa using fun z => hn z.symm)]
         omega
        ·simp only [ZaK, ZeJ, hj]
         rw [ea, if_pos rfl, hb, Int.toNat_natCast, Int.min_comm]
      ·intro c
       have c : ¬ (0 : Int) < (j : Int) := of_decide_eq_false c
       have j0 : j = 0 := by omega
       subst j0
       walk_at "s1"
       refine ⟨rfl, rfl, rfl, ?_, rfl, ?_, trivial⟩
       ·rw [if_neg (by omega), hb]
        unfold Zcf ZaJ Zd2
        rw [show i = y.ls.length - 1 by omega, Int.min_comm]
        rfl
       ·rw [Nat.min_eq_right (by omega), show i = y.ls.length - 1 by omega]
theorem ZoG {y : Yd} {gs : List Gs} (h : Sml y gs) {Q : Int} (hQ : 0 < Q) {lv : List (Fr × List Nat)} (hL : Lev y gs [] 0 1 lv) (hd : ∀ l ∈ lv, (l.1.b : Int) ∣ Q) {s : List Nat} (hs : NdS gs s) : (s.map (tkL Q gs lv)).sum <= Q * ZaA y gs s := by
 have h1 := hL.within h hQ hd (Zay s)
 have e1 : Za1 (Za5 (fun k => Zay s k && !Zay [] k) (tkL Q gs lv)) gs.length = Za1 (Za5 (Zay s) (tkL Q gs lv)) gs.length := Zaj fun k _ => by
  have : Zay [] k = false := rfl
  simp only [Za5, this, Bool.not_false, Bool.and_true]
 have e2 : gvS y gs (fun k => Zay [] k || Zay s k) = gvS y gs (Zay s) := h.giv.ext _ _ fun k _ => rfl
 have e3 : gvS y gs (Zay []) = 0 := h.giv.g0 _ fun k _ => rfl
 rw [e1, e2, e3, Int.sub_zero] at h1
 rw [hs.sum, hs.given]
 exact h1
theorem Zqu {y : Yd} {gs : List Gs} (h : Sml y gs) {Q : Int} {lv : List (Fr × List Nat)} (hL : Lev y gs [] 0 1 lv) (hd : ∀ l ∈ lv, (l.1.b : Int) ∣ Q) {i : Nat} {l : Fr × List Nat} (hl : lv[i]? = some l) (lt : l.1.t < l.1.b) :
 ((ZaR (lv.take (i + 1))).map (tkL Q gs lv)).sum = Q * ZaA y gs (ZbF gs (Zay (ZaR (lv.take (i + 1))))) := by
 have h1 := hL.tight h hd i l hl lt
 have e3 : gvS y gs (Zay []) = 0 := h.giv.g0 _ fun k _ => rfl
 rw [List.nil_append, e3, Int.sub_zero] at h1
 exact h1
theorem ZjP {lv : List (Fr × List Nat)} {i : Nat} {l : Fr × List Nat} (hl : lv[i]? = some l) : ZaR (lv.take (i + 1)) = ZaR (lv.take i) ++ l.2 := by
 unfold ZaR
 rw [List.take_succ, hl, List.flatMap_append]
 simp
theorem Zdi : FnScope ["_law_script", "_law_yard_here", "_law_guests_here", "_law_levels", "_law_parts_here", "_law_shares_here", "_law_takes", "_law_guest", "_law_share", "_law_some", "_law_ahead"] ["_law_script"] (Zab ZeZ) := by walk_at "p"
theorem ZqP {f : Addr} {fd : FuncData} (T : Bl mg) (F : Fun K "law" "law" ZeZ f fd) (c__law_yard : Cal P w K mg base "_law_yard" ["_law_script"] 3 (spO (K := K) R_yard)) (c__law_guests : Cal P w K mg base "_law_guests" ["_law_script", "_law_yard_here"] 3 (spO (K := K) R_guests)) (c_fair_levels : Cal P w K mg base "fair_levels" ["yard", "guests"] 9 (spD K R_levels))
 (c__law_parts : Cal P w K mg base "_law_parts" ["_law_levels"] 2 (spO (K := K) R_lparts)) (c__law_shares : Cal P w K mg base "_law_shares" ["_law_levels", "_law_many"] 1 (spO (K := K) R_lshares)) (c__law_sets : Cal P w K mg base "_law_sets" ["_law_many"] 1 (spO (K := K) R_sets)) (c__law_given : Cal P w K mg base "_law_given" ["_law_yard_here", "_law_guests_here", "_law_some"] 1 (spO (K := K) R_lgiven)) :
 FnOk P w K mg base CX0 10 f fd ["_law_script"] (Zj6 K) := by
 refine F.evLaw Zdi (fun cdv A outer s H E ns hr hl hb => ?_)
 have hs : ScrOk ns := ⟨hl, hb⟩
 have hu := hr.units
 refine ⟨_, (Zad (Zaq (i := 1) Zdi.nd rfl (Or.inl rfl) (Zap c__law_yard hr (Zaa (pv 0) Zae) (hj := by walk_at "j")))
 (Zad (Zaq (i := 2) Zdi.nd rfl (Or.inl rfl) (Zap c__law_guests hr (Zaa (pv 0) (Zaa (pv 1) Zae)) (hj := by walk_at "j")))
 (Zad (Zaq (i := 3) Zdi.nd rfl (Or.inl rfl) (Zap c_fair_levels hr (Zaa (pv 1) (Zaa (ZdI Zpa (by rfl) T.list Zpt (Zaa (pv 2) Zae)) Zae)) (hj := by walk_at "j")))
 (Zad (Zaq (i := 4) Zdi.nd rfl (Or.inl rfl) (Zap c__law_parts hr (Zaa (pv 3) Zae) (hj := by walk_at "j")))
 (Zad (Zaq (i := 5) Zdi.nd rfl (Or.inl rfl) (Zap c__law_shares hr (Zaa (pv 3) (Zaa (Za0 Zdu (by rfl) T.len Zdx (Zaa (pv 2) Zae)) Zae)) (hj := by walk_at "j")))
 (Zad (Zea (ZbA (Zql hu) Zjb (pv 5) rfl) (Zah (Zaw Zmz)) ZbZ)
 (Zad (Zaq (i := 6) Zdi.nd rfl (Or.inr rfl) (Zct Zae))
 (Zad (ZbB PassesOwn.never rfl (Zom rfl T.zip (Zaa (pv 2) (Zaa (pv 5) Zae))) (ZdR (n := 2) rfl (Za6 (Zam (i := 7) Zdi.nd rfl (Or.inl rfl)) (Za6 (Zam (i := 8) Zdi.nd rfl (Or.inl rfl)) Zdb))) (Zad (Zea (PW.pt (ZrJ (ZbA ZoH (Zau Zcr (pv 4) (Zax Zan (pv 8) Zai (fun _ _ => rfl))) Zai (ZcL _)) (ZqB (Zq3 (Zj3 Zkt Zkt Zai (Zax Zan (pv 8) Zai (fun _ _ => rfl)) (Zax Zan (pv 8) Zai (fun _ _ => rfl))))))) (Zah (Zaw Zmz)) ZbZ)
 (Zah (Zbj (ZfP PySem.F.plainAttrs_list PySem.F.slot_list_append PySem.F.type_list_append ZbW (pv 6) (Zaa (Zau ZcV (Zau ZcV (Zax Zan (pv 7) Zai (fun _ _ => rfl)) (Zax Zan (pv 8) Zai (fun _ _ => rfl))) (Zau ZaL (pv 4) (Zax Zan (pv 8) Zai (fun _ _ => rfl)))) Zae))))))
 (Zad (ZbB PassesOwn.never rfl (ZaV (Zap c__law_sets hr (Zaa (Za0 Zdu (by rfl) T.len Zdx (Zaa (pv 2) Zae)) Zae) (hj := by walk_at "j"))) (Zam (i := 9) Zdi.nd rfl (Or.inl rfl)) (Zah (Zea (ZbA Zlg (Za0 Zjt (by rfl) T.sum Zja (Zaa (ZeO (NX := ["_law_script", "_law_yard_here", "_law_guests_here", "_law_levels", "_law_parts_here", "_law_shares_here", "_law_takes", "_law_guest", "_law_share", "_law_some", "_law_ahead"]) (sc := Zab ZeZ) (N := ["_law_k", "_law_takes"]) (f := [none, some 6]) rfl (by decide +kernel) rfl rfl (ZaV (pv 9)) (fun _ => (Zam (i := 0) (show (["_law_k", "_law_takes"] : List Str).Nodup by decide +kernel) rfl (Or.inl rfl))) (fun _ => Zbk) (fun _ => ZbQ) (fun _ => (Zax Zan (pv 1) (pv 0) (fun _ _ => rfl)))) Zae)) (Zau ZcV (pv 4) (Zap c__law_given hr (Zaa (pv 1) (Zaa (pv 2) (Zaa (pv 9) Zae))) (hj := by walk_at "j"))) (ZcL _)) (Zah (Zaw Zmz)) ZbZ)))
 (Zad (Zaq (i := 10) Zdi.nd rfl (Or.inl rfl) (Zct Zae))
 (Zad (ZbB PassesOwn.never rfl (ZaV (pv 3)) (ZdR (n := 2) rfl (Za6 (Zam (i := 8) Zdi.nd rfl (Or.inl rfl)) (Za6 (Zam (i := 9) Zdi.nd rfl (Or.inl rfl)) Zdb))) (Zad (Zaq (i := 10) Zdi.nd rfl (Or.inl rfl) (Zau Zgl (pv 10) (pv 9)))
 (Zah (Zea (ZbA Zn6 (Zax Zan (pv 8) Zai (fun _ _ => rfl)) (Zax Zan (pv 8) Zai (fun _ _ => rfl)) (ZcL _)) (Zah (Zea (ZbA ZoH (Za0 Zjt (by rfl) T.sum Zja (Zaa (ZeO (NX := ["_law_script", "_law_yard_here", "_law_guests_here", "_law_levels", "_law_parts_here", "_law_shares_here", "_law_takes", "_law_guest", "_law_share", "_law_some", "_law_ahead"]) (sc := Zab ZeZ) (N := ["_law_k", "_law_takes"]) (f := [none, some 6]) rfl (by decide +kernel) rfl rfl (ZaV (pv 10)) (fun _ => (Zam (i := 0) (show (["_law_k", "_law_takes"] : List Str).Nodup by decide +kernel) rfl (Or.inl rfl))) (fun _ => Zbk) (fun _ => ZbQ) (fun _ => (Zax Zan (pv 1) (pv 0) (fun _ _ => rfl)))) Zae)) (Zau ZcV (pv 4) (Zap c__law_given hr (Zaa (pv 1) (Zaa (pv 2) (Zaa (Za0 Zib (by rfl) T.sorted Zh3 (Zaa (pv 10) Zae)) Zae))) (hj := by walk_at "j"))) (ZcL _)) (Zah (Zaw Zmz)) ZbZ)) ZbZ))))
 (Zah (Zaw Zmz))))))))))))), ?_⟩
 show EvS K _ [some _, none, none, none, none, none, none, none, none, none, none] _
 walk_at "x"
 have ok := Zm0 ns
 have y30 := ZlM ns
 generalize hy : Zd9 ns = y at ok y30
 have hg := Zi7 ok ns
 have g8 := Zhm ns y
 have g30 := Zi3 ok ns
 generalize hgs : Zdk ns y = gs at hg g8 g30
 have gl : (gs.map eGs).length = gs.length := by simp
 have sm : Sml y gs := ⟨ok, hg, g8, fun l hl b hb => y30 l hl b hb, g30⟩
 walk_at "s1"
 rw [hy]
 walk_at "s1"
 rw [hgs]
 refine ZeI 2 rfl ?_
 walk_at "d"
 have lg : ∀ {ρ : Zbe}, ρ[2]? = some (some (.fz (.list (gs.map eGs)))) -> EvE K (tCB (ZiJ K) (Zbd (ZcP 2) ZdF)) ρ (.list (gs.map eGs)) := fun e => EvO.fz (ZmB (Zac e))
 have ln : ∀ {ρ : Zbe}, ρ[2]? = some (some (.fz (.list (gs.map eGs)))) -> EvE K (tCB (ZoB K) (Zbd (ZcP 2) ZdF)) ρ (.int (gs.length : Int)) := fun e => EvE.cast (ZgC (Zac e)) (by rw [gl])
 refine Zar (ZdL (Zem (Zaf (Zac rfl) (Zaf (lg rfl) Zas)) (R_levels.mk sm)) (fun r hr' => ?_))
 obtain ⟨lv, hL, l8, rfl⟩ := hr'
 walk_at "d"
 refine ZeI 3 rfl ?_
 walk_at "d"
 have lf := hL.fr
 have ffr : ∀ f ∈ lv.map (·.1), FrB f := fun f hf => by
  obtain ⟨l, hl, rfl⟩ := List.mem_map.mp hf
  exact (lf l hl).1
 refine Zar (ZbO (Za3 (Zaf (Zac rfl) Zas) (R_lparts.mk (fun l hl => (lf l hl).1) (by omega))) ?_)
 walk_at "d"
 have q1 : 0 < Ze1 1 (lv.map (·.1)) := Zf3 (by decide) fun f hf => (ffr f hf).ok.1
 have q2 : Ze1 1 (lv.map (·.1)) <= 2 ^ 1900 := Ze2 ffr (by rw [List.length_map]; omega)
 have qd : ∀ l ∈ lv, l.1.b ∣ Ze1 1 (lv.map (·.1)) := fun l hl => ZgG (List.mem_map_of_mem hl)
 generalize Ze1 1 (lv.map (·.1)) = Q at q1 q2 qd
 have qdI : ∀ l ∈ lv, (l.1.b : Int) ∣ (Q : Int) := fun l hl => Int.ofNat_dvd.mpr (qd l hl)
 refine Zar (ZcF (ZiD (Zaf (Zac rfl) (Zaf (ln rfl) Zas)) (R_lshares.mk g8 fun l hl k hk => (lf l hl).2.2.mem k hk)) ?_)
 walk_at "d"
 refine ZeI 5 rfl ?_
 walk_at "d"
 have shr : ∀ k, k < gs.length -> ∃ l ∈ lv, shL lv k = Zde l.1 /\ tkL (Q : Int) gs lv k = waN gs k * (l.1.t : Int) * ((Q : Int) / (l.1.b : Int)) := fun k hk => by
  obtain ⟨l, h1, h2, h3, h4⟩ := hL.share (Q := (Q : Int)) k hk (fun z => nomatch z) .none
  exact ⟨l, h1, h3, h4⟩
 have fsh : ∀ e ∈ (List.range gs.length).map (shL lv), ∃ f : Fr, e = Zde f := fun e he => by
  obtain ⟨k, hk, rfl⟩ := List.mem_map.mp he
  obtain ⟨l, _, h, _⟩ := shr k (List.mem_range.mp hk)
  exact ⟨l.1, h⟩
 refine Zar (ZhD (b := false) (Zd7 (ZpY Zl1 (Zac rfl) ((Zp4 0).fine (by decide)) (fun e he => by obtain ⟨f, rfl⟩ := fsh e he; exact Zqd f) (fun e he => by obtain ⟨f, rfl⟩ := fsh e he; rfl))) (fun c => nomatch c) (fun _ => Zcd ?_))
 refine Zar (ZcF (ZdA (ds := []) ZaO (by decide)) ?_)
 walk_at "d"
 have zl : (Zm9 (gs.map eGs) ((List.range gs.length).map (shL lv))).length = gs.length := by rw [Zjp]; simp
 refine Zar (ZbC (ds := Zm9 (gs.map eGs) ((List.range gs.length).map (shL lv))) (fun i => [some (.scr ns), some (.fz (eYd y)), some (.fz (.list (gs.map eGs))), some (.fz (.list (lv.map ZdY))), some (.fz (.int (Q : Int))), some (.fz (.list ((List.range gs.length).map (shL lv)))), some (.ol ((List.range i).map fun k => .int (tkL (Q : Int) gs lv k))), none, none, none, none]) ?ei ⟨rfl, rfl, rfl, rfl, rfl, rfl, rfl, trivial⟩ ?st ?fin)
 case ei => exact Zog (Zaf (Zac rfl) (Zaf (Zac rfl) Zas))
 case st =>
  intro i d hd
  have hi : i < gs.length := by
   have := (List.getElem?_eq_some_iff.mp hd).1
   omega
  obtain ⟨a, b, ha, hb', rfl⟩ := ZjF hd
  obtain ⟨l, hl', e1, e2⟩ := shr i hi
  obtain rfl : a = eGs (gs.getD i default) := by
   have : (gs.map eGs)[i]? = some (eGs gs[i]) := by simp [hi]
   rw [this] at ha
   rw [Zdm hi]
   exact (Option.some.inj ha).symm
  obtain rfl : b = Zde l.1 := by
   have : ((List.range gs.length).map (shL lv))[i]? = some (shL lv i) := by simp [hi]
   rw [this, e1] at hb'
   exact (Option.some.inj hb').symm
  obtain ⟨fb, fle, _⟩ := lf l hl'
  have b1 := fb.ok.1
  have gm : gs.getD i default ∈ gs := by rw [Zdm hi]; exact List.getElem_mem hi
  have w30 := (g30 _ gm).1
  have w1 := (hg _ gm).w1
  refine ⟨_, ZjR (ds := [eGs (gs.getD i default), Zde l.1]) (ZcH ZaN (ZcH ZaN Zgg)) rfl, ?_⟩
  walk_at "d"
  have ix0 : ∀ {ρ : Zbe}, ρ[8]? = some (some (.fz (Zde l.1))) -> EvE K (tOp (rIx K) (ZcP 8) (tC (.int 0))) ρ (.int (l.1.t : Int)) := fun e => Zdd (ds := [.int (l.1.t : Int), .int (l.1.b : Int)]) (Zac e) Zba rfl
  have ix1 : ∀ {ρ : Zbe}, ρ[8]? = some (some (.fz (Zde l.1))) -> EvE K (tOp (rIx K) (ZcP 8) (tC (.int 1))) ρ (.int (l.1.b : Int)) := fun e => Zdd (ds := [.int (l.1.t : Int), .int (l.1.b : Int)]) (Zac e) Zba rfl
  have bI : (0 : Int) < (l.1.b : Int) := by omega
  have mz : (Q : Int) % (l.1.b : Int) = 0 := Int.emod_eq_zero_of_dvd (qdI l hl')
  refine Zar (ZhD (b := false) (EvT.cast (Zrs (Zd7 (Zon (ZcC (Zac rfl) (ix1 rfl) bI) Zba)) (fun _ => Zq1 (Zpw (ZmI Zba (ix0 rfl) (ix1 rfl))))) ?tc) (fun c => nomatch c) (fun _ => Zcd ?_))
  case tc =>
   rw [mz, decide_eq_true rfl, decide_eq_true (show (0 : Int) <= (l.1.t : Int) by omega), decide_eq_true (show (l.1.t : Int) <= (l.1.b : Int) by omega)]
   rfl
  have cb : ZeY (Q : Int) (l.1.b : Int) := ⟨bI, by
   have : (l.1.b : Int) <= ((2 ^ 110 : Nat) : Int) := Int.ofNat_le.mpr fb.b
   exact Int.lt_of_le_of_lt this (by decide +kernel)⟩
  have t100 : (l.1.t : Int) < 10 ^ 100 := by
   have : (l.1.t : Int) < ((2 ^ 110 : Nat) : Int) := Int.ofNat_lt.mpr fb.t
   exact Int.lt_trans this (by decide +kernel)
  have w100 : (gs.getD i default).want < 10 ^ 100 := Int.lt_trans w30 (by decide +kernel)
  have m2 := Zmj (a := (gs.getD i default).want) (b := (l.1.t : Int)) (by omega) w100 (by omega) t100
  have qb : ((Q : Int) / (l.1.b : Int)) < 2 ^ 2000 := by
   have e : (Q : Int) / (l.1.b : Int) = ((Q / l.1.b : Nat) : Int) := rfl
   rw [e]
   have : ((Q / l.1.b : Nat) : Int) <= ((2 ^ 1900 : Nat) : Int) := Int.ofNat_le.mpr (Nat.le_trans (Nat.div_le_self _ _) q2)
   exact Int.lt_of_le_of_lt this (by decide +kernel)
  refine Zeu rfl (EvE.cast (d' := .int (tkL (Q : Int) gs lv i)) (ZcC (ZcC (Zdd (ds := [.int ((gs.getD i default).line : Int), .int ((gs.getD i default).first : Int), .int ((gs.getD i default).last : Int), .int (gs.getD i default).want, .int (gs.getD i default).most]) (Zac rfl) Zba rfl) (ix0 rfl) (Zgi (by omega) (Zcp w100) (by omega) (Zcp t100))) (ZcC (Zac rfl) (ix1 rfl) cb) (ZmC (m := 1000) (n := 2000) m2.1 (Int.lt_trans m2.2 (by decide +kernel)) (Int.ediv_nonneg (by omega) (by omega)) qb (by decide))) (by rw [e2]; rfl)) (by simp; omega) ?_
  walk_at "d"
  refine ⟨rfl, rfl, rfl, rfl, rfl, rfl, ?_, trivial⟩
  rw [List.range_succ, List.map_append]
  rfl
 case fin =>
  intro ρ' hf
  refine ZcW hf ?_
  rw [zl]
  refine ZeI 6 rfl ?_
  walk_at "d"
  have qI : (Q : Int) < 2 ^ 2000 := by
   have : (Q : Int) <= ((2 ^ 1900 : Nat) : Int) := Int.ofNat_le.mpr q2
   exact Int.lt_of_le_of_lt this (by decide +kernel)
  have gim : ∀ S : Nat -> Bool, IntMulOk (Q : Int) (gvS y gs S) := fun S => ZmC (m := 2000) (n := 1000) (by omega) qI (sm.giv.nn S) (Int.lt_of_le_of_lt (sm.gv8 S) (by decide +kernel)) (by decide)
  have ix : ∀ {ρ : Zbe} {k : Nat}, k < gs.length -> ρ[1]? = some (some (.fz (.list ((List.range gs.length).map fun k => .int (tkL (Q : Int) gs lv k))))) -> ρ[0]? = some (some (.fz (.int (k : Int)))) -> EvE K (tOp (rIx K) (ZcP 1) (ZcP 0)) ρ (.int (tkL (Q : Int) gs lv k)) := fun hk e1 e0 => ZnV (Zac e1) (Zac e0) (Zd8 (by simp [hk]))
  refine Zar (ZbC (ds := Zhz gs.length) (fun _ => [some (.scr ns), some (.fz (eYd y)), some (.fz (.list (gs.map eGs))), some (.fz (.list (lv.map ZdY))), some (.fz (.int (Q : Int))), some (.fz (.list ((List.range gs.length).map (shL lv)))), some (.fz (.list ((List.range gs.length).map fun k => .int (tkL (Q : Int) gs lv k)))), none, none, none, none]) ?ei2 ⟨rfl, rfl, rfl, rfl, rfl, rfl, rfl, trivial⟩ ?st2 ?fin2)
  case ei2 => exact Zb9 (Zez (Zaf (ln rfl) Zas) (R_sets.mk g8))
  case st2 =>
   intro i d hd
   unfold Zhz at hd
   rw [List.getElem?_map] at hd
   obtain ⟨sx, hsx, rfl⟩ := Option.map_eq_some_iff.mp hd
   obtain ⟨n1, n2, n3⟩ := Zfd gs.length sx (List.mem_of_getElem? hsx)
   have hn : NdS gs sx := ⟨n2, n1⟩
   have wi := ZoG sm (show (0 : Int) < (Q : Int) by omega) hL qdI hn
   refine ⟨_, ZaN, ?_⟩
   walk_at "d"
   refine ZhD (b := false) (EvT.cast (Zd7 (ZjH (Zjh (ns := sx.map (tkL (Q : Int) gs lv)) (EvE.cast (EvO.fz (Zel (xs := sx) (enc := fun (k : Nat) => PyData.int (k : Int)) (h := fun k => .int (tkL (Q : Int) gs lv k)) ?ei3 (by omega) ?el3)) (by rw [List.map_map]; rfl)) rfl) (ZcC (Zac rfl) (Za3 (Zaf (Zac rfl) (Zaf (Zac rfl) (Zaf (Zac rfl) Zas))) (R_lgiven.mk ok hg (hn.ok g8))) (by rw [hn.given]; exact gim _)))) ?tc2) (fun c => nomatch c) (fun _ => Zcd ⟨rfl, rfl, rfl, rfl, rfl, rfl, rfl, trivial⟩)
   case ei3 => exact Zb9 (Zac rfl)
   case el3 =>
    intro k hk c
    refine ⟨_, ZaN, ?_⟩
    walk_at "e"
    exact ix (hn.mem k hk) rfl rfl
   case tc2 => exact decide_eq_false (by omega)
  case fin2 =>
   intro ρ' hf
   refine ZcW hf ?_
   refine Zar (ZbO (d := .list (Zbf (ZaR (lv.take 0)))) (EvO.fz (ZdA (ds := []) ZaO (by decide))) ?_)
   walk_at "d"
   refine Zar (ZbC (ds := lv.map ZdY) (fun i => [some (.scr ns), some (.fz (eYd y)), some (.fz (.list (gs.map eGs))), some (.fz (.list (lv.map ZdY))), some (.fz (.int (Q : Int))), some (.fz (.list ((List.range gs.length).map (shL lv)))), some (.fz (.list ((List.range gs.length).map fun k => .int (tkL (Q : Int) gs lv k)))), none, none, none, some (.fz (.list (Zbf (ZaR (lv.take i)))))]) (Zb9 (Zac rfl)) ⟨rfl, rfl, rfl, rfl, rfl, rfl, rfl, rfl, trivial⟩ ?st4 ?fin4)
   case fin4 =>
    intro ρ' hf
    refine ZcW hf ?_
    exact Zcl Zr9 rfl
   case st4 =>
    intro i d hd
    rw [List.getElem?_map] at hd
    obtain ⟨l, hl', rfl⟩ := Option.map_eq_some_iff.mp hd
    have lm := List.mem_of_getElem? hl'
    obtain ⟨fb, fle, lnd⟩ := lf l lm
    have ea := ZjP hl'
    have hA := Zgc hL i
    have hA' := Zgc hL (i + 1)
    have lA := (hA.ok g8).len
    have lT := (lnd.ok g8).len
    have lA' := (hA'.ok g8).len
    have nA : (Zbf (ZaR (lv.take i))).length = (ZaR (lv.take i)).length := by simp [Zbf]
    have nT : (Zbf l.2).length = l.2.length := by simp [Zbf]
    refine ⟨_, ZjR (ds := [Zde l.1, .list (Zbf l.2)]) (ZcH ZaN (ZcH ZaN Zgg)) rfl, ?_⟩
    walk_at "d"
    refine Zar (ZbO (d := .list (Zbf (ZaR (lv.take (i + 1))))) (EvE.cast (EvO.fz (Zgm (Zac rfl) (Zac rfl) (by omega))) (by rw [ea, Zgv])) ?_)
    walk_at "d"
    refine ZhD (b := decide ((l.1.t : Int) < (l.1.b : Int))) (Zd7 (ZjH (Zdd (ds := [.int (l.1.t : Int), .int (l.1.b : Int)]) (Zac rfl) Zba rfl) (Zdd (ds := [.int (l.1.t : Int), .int (l.1.b : Int)]) (Zac rfl) Zba rfl))) (fun c => ?_) (fun _ => Zcd ⟨rfl, rfl, rfl, rfl, rfl, rfl, rfl, rfl, trivial⟩)
    have lt : l.1.t < l.1.b := by
     have := of_decide_eq_true c
     omega
    have ti := Zqu sm hL qdI hl' lt
    generalize ZaR (lv.take (i + 1)) = ah at hA' lA' ti
    refine ZhD (b := false) (EvT.cast (Zd7 (Zon (Zjh (ns := ah.map (tkL (Q : Int) gs lv)) (EvE.cast (EvO.fz (Zel (xs := ah) (enc := fun (k : Nat) => PyData.int (k : Int)) (h := fun k => .int (tkL (Q : Int) gs lv k)) ?ei5 (by omega) ?el5)) (by rw [List.map_map]; rfl)) rfl) (ZcC (Zac rfl) (Za3 (Zaf (Zac rfl) (Zaf (Zac rfl) (Zaf (EvE.cast (d' := .list (Zbf (ZbF gs (Zay ah)))) (EvO.fz (Zhh (ns := ah.map fun (k : Nat) => (k : Int)) (ms := (ZbF gs (Zay ah)).map fun (k : Nat) => (k : Int)) (EvE.cast (Zac rfl) (by rw [Zg0])) (hA'.perm.symm.map _) ?srt (by rw [List.length_map]; omega))) (by rw [Zg0])) Zas))) (R_lgiven.mk ok hg (Zg6 g8 (Zay ah)))) (gim _)))) ?tc6) (fun c => nomatch c) (fun _ => Zcd ⟨rfl, rfl, rfl, rfl, rfl, rfl, rfl, rfl, trivial⟩)
    case ei5 => exact Zb9 (Zac rfl)
    case el5 =>
     intro k hk c
     refine ⟨_, ZaN, ?_⟩
     walk_at "e"
     exact ix (hA'.mem k hk) rfl rfl
    case srt =>
     rw [List.pairwise_map]
     exact (List.pairwise_lt_range.filter _).imp fun {a b} z => Int.ofNat_le.mpr (Nat.le_of_lt z)
    case tc6 =>
     rw [ti, decide_eq_true rfl]
     rfl
end
@[elab_as_elim] theorem ln1 {α : Type} {p : List α -> Prop} {us : List α} (h : us.length = 1) (k : ∀ a0, p [a0]) : p us := by
 match us, h with
 | [a0], _ => exact k a0
@[elab_as_elim] theorem ln2 {α : Type} {p : List α -> Prop} {us : List α} (h : us.length = 2) (k : ∀ a0 a1, p [a0, a1]) : p us := by
 match us, h with
 | [a0, a1], _ => exact k a0 a1
@[elab_as_elim] theorem ln3 {α : Type} {p : List α -> Prop} {us : List α} (h : us.length = 3) (k : ∀ a0 a1 a2, p [a0, a1, a2]) : p us := by
 match us, h with
 | [a0, a1, a2], _ => exact k a0 a1 a2
@[elab_as_elim] theorem ln4 {α : Type} {p : List α -> Prop} {us : List α} (h : us.length = 4) (k : ∀ a0 a1 a2 a3, p [a0, a1, a2, a3]) : p us := by
 match us, h with
 | [a0, a1, a2, a3], _ => exact k a0 a1 a2 a3
theorem Zqb {P : Program} {w : World} {K : W.Frag} {h : Heap} {mg : Str -> Option Value} {fa C gS gE : Addr} (X : K.In h) (G : h.Ns mainGlobals mg) (hfa : mg "law" = some (.ref fa))
 {f0 f1 f2 f3 f4 f5 f6 f7 f8 f9 f10 f11 f12 f13 f14 f15 f16 f17 f18 f19 f20 f21 f22 f23 f24 f25 f26 f27 f28 f29 f30 f31 f32 f33 f34 f35 f36 f37 f38 f39 f40 f41 f42 f43 f44 f45 f46 f47 f48 f49 f50 : Addr} {od0 an0 od1 an1 od2 an2 od3 an3 od4 an4 od5 an5 od6 an6 od7 an7 od8 an8 od9 an9 od10 an10 od11 an11 od12 an12 od13 an13 od14 an14 od15 an15 od16 an16 od17 an17 od18 an18 od19 an19 od20 an20 od21 an21 od22 an22 od23 an23 od24 an24 od25 an25 od26 an26 od27 an27 od28 an28 od29 an29 od30 an30 od31 an31 od32 an32 od33 an33 od34 an34 od35 an35 od36 an36 od37 an37 od38 an38 od39 an39 od40 an40 od41 an41 od42 an42 od43 an43 od44 an44 od45 an45 od46 an46 od47 an47 od48 an48 od49 an49 od50 an50 dS dE : Option Addr} {sl0 sl1 sl2 sl3 sl4 sl5 sl6 sl7 sl8 sl9 sl10 sl11 sl12 sl13 sl14 sl15 sl16 sl17 sl18 sl19 sl20 sl21 sl22 sl23 sl24 sl25 sl26 sl27 sl28 sl29 sl30 sl31 sl32 sl33 sl34 sl35 sl36 sl37 sl38 sl39 sl40 sl41 sl42 sl43 sl44 sl45 sl46 sl47 sl48 sl49 sl50 slS slE : Array (Option Value)} {oc0 kV0 dc0 pm0 cd0 ct0 oc1 kV1 dc1 pm1 cd1 ct1 oc2 kV2 dc2 pm2 cd2 ct2 oc3 kV3 dc3 pm3 cd3 ct3 oc4 kV4 dc4 pm4 cd4 ct4 oc5 kV5 dc5 pm5 cd5 ct5 oc6 kV6 dc6 pm6 cd6 ct6 oc7 kV7 dc7 pm7 cd7 ct7 oc8 kV8 dc8 pm8 cd8 ct8 oc9 kV9 dc9 pm9 cd9 ct9 oc10 kV10 dc10 pm10 cd10 ct10 oc11 kV11 dc11 pm11 cd11 ct11 oc12 kV12 dc12 pm12 cd12 ct12 oc13 kV13 dc13 pm13 cd13 ct13 oc14 kV14 dc14 pm14 cd14 ct14 oc15 kV15 dc15 pm15 cd15 ct15 oc16 kV16 dc16 pm16 cd16 ct16 oc17 kV17 dc17 pm17 cd17 ct17 oc18 kV18 dc18 pm18 cd18 ct18 oc19 kV19 dc19 pm19 cd19 ct19 oc20 kV20 dc20 pm20 cd20 ct20 oc21 kV21 dc21 pm21 cd21 ct21 oc22 kV22 dc22 pm22 cd22 ct22 oc23 kV23 dc23 pm23 cd23 ct23 oc24 kV24 dc24 pm24 cd24 ct24 oc25 kV25 dc25 pm25 cd25 ct25 oc26 kV26 dc26 pm26 cd26 ct26 oc27 kV27 dc27 pm27 cd27 ct27 oc28 kV28 dc28 pm28 cd28 ct28 oc29 kV29 dc29 pm29 cd29 ct29 oc30 kV30 dc30 pm30 cd30 ct30 oc31 kV31 dc31 pm31 cd31 ct31 oc32 kV32 dc32 pm32 cd32 ct32 oc33 kV33 dc33 pm33 cd33 ct33 oc34 kV34 dc34 pm34 cd34 ct34 oc35 kV35 dc35 pm35 cd35 ct35 oc36 kV36 dc36 pm36 cd36 ct36 oc37 kV37 dc37 pm37 cd37 ct37 oc38 kV38 dc38 pm38 cd38 ct38 oc39 kV39 dc39 pm39 cd39 ct39 oc40 kV40 dc40 pm40 cd40 ct40 oc41 kV41 dc41 pm41 cd41 ct41 oc42 kV42 dc42 pm42 cd42 ct42 oc43 kV43 dc43 pm43 cd43 ct43 oc44 kV44 dc44 pm44 cd44 ct44 oc45 kV45 dc45 pm45 cd45 ct45 oc46 kV46 dc46 pm46 cd46 ct46 oc47 kV47 dc47 pm47 cd47 ct47 oc48 kV48 dc48 pm48 cd48 ct48 oc49 kV49 dc49 pm49 cd49 ct49 oc50 kV50 dc50 pm50 cd50 ct50 : Value} {tS tE nS nE : Nat}
 (aC : W.nsIn K mainGlobals "Net" = some (some (.ref C)))
 (a0 : W.nsIn K mainGlobals "turns_of" = some (some (.ref f0)))
 (l0 : K.lookup f0 = some ⟨oc0, od0, .func (W.fnOf "turns_of" "turns_of" (Zao Zc1) (Zal Zc1) (Zab Zc1) .none kV0 dc0 pm0 an0 cd0 ct0), sl0⟩)
 (c0 : W.codeIn K cd0 "turns_of" = true)
 (k0 : W.keepIn K (.ref f0) = true)
 (a1 : W.nsIn K mainGlobals "line_count" = some (some (.ref f1)))
 (l1 : K.lookup f1 = some ⟨oc1, od1, .func (W.fnOf "line_count" "line_count" (Zao ZbG) (Zal ZbG) (Zab ZbG) .none kV1 dc1 pm1 an1 cd1 ct1), sl1⟩)
 (c1 : W.codeIn K cd1 "line_count" = true)
 (k1 : W.keepIn K (.ref f1) = true)
 (a2 : W.nsIn K mainGlobals "above_of" = some (some (.ref f2)))
 (l2 : K.lookup f2 = some ⟨oc2, od2, .func (W.fnOf "above_of" "above_of" (Zao Zc0) (Zal Zc0) (Zab Zc0) .none kV2 dc2 pm2 an2 cd2 ct2), sl2⟩)
 (c2 : W.codeIn K cd2 "above_of" = true)
 (k2 : W.keepIn K (.ref f2) = true)
 (a3 : W.nsIn K mainGlobals "bound_at" = some (some (.ref f3)))
 (l3 : K.lookup f3 = some ⟨oc3, od3, .func (W.fnOf "bound_at" "bound_at" (Zao Zc5) (Zal Zc5) (Zab Zc5) .none kV3 dc3 pm3 an3 cd3 ct3), sl3⟩)
 (c3 : W.codeIn K cd3 "bound_at" = true)
 (k3 : W.keepIn K (.ref f3) = true)
 (a4 : W.nsIn K mainGlobals "line_of" = some (some (.ref f4)))
 (l4 : K.lookup f4 = some ⟨oc4, od4, .func (W.fnOf "line_of" "line_of" (Zao ZcT) (Zal ZcT) (Zab ZcT) .none kV4 dc4 pm4 an4 cd4 ct4), sl4⟩)
 (c4 : W.codeIn K cd4 "line_of" = true)
 (k4 : W.keepIn K (.ref f4) = true)
 (a5 : W.nsIn K mainGlobals "is_there" = some (some (.ref f5)))
 (l5 : K.lookup f5 = some ⟨oc5, od5, .func (W.fnOf "is_there" "is_there" (Zao Zc4) (Zal Zc4) (Zab Zc4) .none kV5 dc5 pm5 an5 cd5 ct5), sl5⟩)
 (c5 : W.codeIn K cd5 "is_there" = true)
 (k5 : W.keepIn K (.ref f5) = true)
 (a6 : W.nsIn K mainGlobals "want_of" = some (some (.ref f6)))
 (l6 : K.lookup f6 = some ⟨oc6, od6, .func (W.fnOf "want_of" "want_of" (Zao ZcY) (Zal ZcY) (Zab ZcY) .none kV6 dc6 pm6 an6 cd6 ct6), sl6⟩)
 (c6 : W.codeIn K cd6 "want_of" = true)
 (k6 : W.keepIn K (.ref f6) = true)
 (a7 : W.nsIn K mainGlobals "most_of" = some (some (.ref f7)))
 (l7 : K.lookup f7 = some ⟨oc7, od7, .func (W.fnOf "most_of" "most_of" (Zao Zdc) (Zal Zdc) (Zab Zdc) .none kV7 dc7 pm7 an7 cd7 ct7), sl7⟩)
 (c7 : W.codeIn K cd7 "most_of" = true)
 (k7 : W.keepIn K (.ref f7) = true)
 (a8 : W.nsIn K mainGlobals "with_want" = some (some (.ref f8)))
 (l8 : K.lookup f8 = some ⟨oc8, od8, .func (W.fnOf "with_want" "with_want" (Zao Zca) (Zal Zca) (Zab Zca) .none kV8 dc8 pm8 an8 cd8 ct8), sl8⟩)
 (c8 : W.codeIn K cd8 "with_want" = true)
 (k8 : W.keepIn K (.ref f8) = true)
 (a9 : W.nsIn K mainGlobals "line_times" = some (some (.ref f9)))
 (l9 : K.lookup f9 = some ⟨oc9, od9, .func (W.fnOf "line_times" "line_times" (Zao Zbq) (Zal Zbq) (Zab Zbq) .none kV9 dc9 pm9 an9 cd9 ct9), sl9⟩)
 (c9 : W.codeIn K cd9 "line_times" = true)
 (k9 : W.keepIn K (.ref f9) = true)
 (a10 : W.nsIn K mainGlobals "yard_times" = some (some (.ref f10)))
 (l10 : K.lookup f10 = some ⟨oc10, od10, .func (W.fnOf "yard_times" "yard_times" (Zao Zbp) (Zal Zbp) (Zab Zbp) .none kV10 dc10 pm10 an10 cd10 ct10), sl10⟩)
 (c10 : W.codeIn K cd10 "yard_times" = true)
 (k10 : W.keepIn K (.ref f10) = true)
 (a11 : W.nsIn K mainGlobals "guest_times" = some (some (.ref f11)))
 (l11 : K.lookup f11 = some ⟨oc11, od11, .func (W.fnOf "guest_times" "guest_times" (Zao Zb4) (Zal Zb4) (Zab Zb4) .none kV11 dc11 pm11 an11 cd11 ct11), sl11⟩)
 (c11 : W.codeIn K cd11 "guest_times" = true)
 (k11 : W.keepIn K (.ref f11) = true)
 (a12 : W.nsIn K mainGlobals "guests_times" = some (some (.ref f12)))
 (l12 : K.lookup f12 = some ⟨oc12, od12, .func (W.fnOf "guests_times" "guests_times" (Zao ZaG) (Zal ZaG) (Zab ZaG) .none kV12 dc12 pm12 an12 cd12 ct12), sl12⟩)
 (c12 : W.codeIn K cd12 "guests_times" = true)
 (k12 : W.keepIn K (.ref f12) = true)
 (a13 : W.nsIn K mainGlobals "guest_node" = some (some (.ref f13)))
 (l13 : K.lookup f13 = some ⟨oc13, od13, .func (W.fnOf "guest_node" "guest_node" (Zao ZbI) (Zal ZbI) (Zab ZbI) .none kV13 dc13 pm13 an13 cd13 ct13), sl13⟩)
 (c13 : W.codeIn K cd13 "guest_node" = true)
 (k13 : W.keepIn K (.ref f13) = true)
 (a14 : W.nsIn K mainGlobals "line_node" = some (some (.ref f14)))
 (l14 : K.lookup f14 = some ⟨oc14, od14, .func (W.fnOf "line_node" "line_node" (Zao ZbY) (Zal ZbY) (Zab ZbY) .none kV14 dc14 pm14 an14 cd14 ct14), sl14⟩)
 (c14 : W.codeIn K cd14 "line_node" = true)
 (k14 : W.keepIn K (.ref f14) = true)
 (a15 : W.nsIn K mainGlobals "lay_guest" = some (some (.ref f15)))
 (l15 : K.lookup f15 = some ⟨oc15, od15, .func (W.fnOf "lay_guest" "lay_guest" (Zao Zcb) (Zal Zcb) (Zab Zcb) .none kV15 dc15 pm15 an15 cd15 ct15), sl15⟩)
 (c15 : W.codeIn K cd15 "lay_guest" = true)
 (k15 : W.keepIn K (.ref f15) = true)
 (a16 : W.nsIn K mainGlobals "lay_turn" = some (some (.ref f16)))
 (l16 : K.lookup f16 = some ⟨oc16, od16, .func (W.fnOf "lay_turn" "lay_turn" (Zao Zc8) (Zal Zc8) (Zab Zc8) .none kV16 dc16 pm16 an16 cd16 ct16), sl16⟩)
 (c16 : W.codeIn K cd16 "lay_turn" = true)
 (k16 : W.keepIn K (.ref f16) = true)
 (a17 : W.nsIn K mainGlobals "filled_net" = some (some (.ref f17)))
 (l17 : K.lookup f17 = some ⟨oc17, od17, .func (W.fnOf "filled_net" "filled_net" (Zao ZbD) (Zal ZbD) (Zab ZbD) .none kV17 dc17 pm17 an17 cd17 ct17), sl17⟩)
 (c17 : W.codeIn K cd17 "filled_net" = true)
 (k17 : W.keepIn K (.ref f17) = true)
 (a18 : W.nsIn K mainGlobals "guests_reached" = some (some (.ref f18)))
 (l18 : K.lookup f18 = some ⟨oc18, od18, .func (W.fnOf "guests_reached" "guests_reached" (Zao ZaC) (Zal ZaC) (Zab ZaC) .none kV18 dc18 pm18 an18 cd18 ct18), sl18⟩)
 (c18 : W.codeIn K cd18 "guests_reached" = true)
 (k18 : W.keepIn K (.ref f18) = true)
 (a19 : W.nsIn K mainGlobals "reaching_at" = some (some (.ref f19)))
 (l19 : K.lookup f19 = some ⟨oc19, od19, .func (W.fnOf "reaching_at" "reaching_at" (Zao ZaU) (Zal ZaU) (Zab ZaU) .none kV19 dc19 pm19 an19 cd19 ct19), sl19⟩)
 (c19 : W.codeIn K cd19 "reaching_at" = true)
 (k19 : W.keepIn K (.ref f19) = true)
 (a20 : W.nsIn K mainGlobals "given_at" = some (some (.ref f20)))
 (l20 : K.lookup f20 = some ⟨oc20, od20, .func (W.fnOf "given_at" "given_at" (Zao Zc3) (Zal Zc3) (Zab Zc3) .none kV20 dc20 pm20 an20 cd20 ct20), sl20⟩)
 (c20 : W.codeIn K cd20 "given_at" = true)
 (k20 : W.keepIn K (.ref f20) = true)
 (a21 : W.nsIn K mainGlobals "given_most" = some (some (.ref f21)))
 (l21 : K.lookup f21 = some ⟨oc21, od21, .func (W.fnOf "given_most" "given_most" (Zao Zbm) (Zal Zbm) (Zab Zbm) .none kV21 dc21 pm21 an21 cd21 ct21), sl21⟩)
 (c21 : W.codeIn K cd21 "given_most" = true)
 (k21 : W.keepIn K (.ref f21) = true)
 (a22 : W.nsIn K mainGlobals "lacking_set" = some (some (.ref f22)))
 (l22 : K.lookup f22 = some ⟨oc22, od22, .func (W.fnOf "lacking_set" "lacking_set" (Zao Zb5) (Zal Zb5) (Zab Zb5) .none kV22 dc22 pm22 an22 cd22 ct22), sl22⟩)
 (c22 : W.codeIn K cd22 "lacking_set" = true)
 (k22 : W.keepIn K (.ref f22) = true)
 (a23 : W.nsIn K mainGlobals "greatest_divisor" = some (some (.ref f23)))
 (l23 : K.lookup f23 = some ⟨oc23, od23, .func (W.fnOf "greatest_divisor" "greatest_divisor" (Zao Za9) (Zal Za9) (Zab Za9) .none kV23 dc23 pm23 an23 cd23 ct23), sl23⟩)
 (c23 : W.codeIn K cd23 "greatest_divisor" = true)
 (k23 : W.keepIn K (.ref f23) = true)
 (a24 : W.nsIn K mainGlobals "fraction" = some (some (.ref f24)))
 (l24 : K.lookup f24 = some ⟨oc24, od24, .func (W.fnOf "fraction" "fraction" (Zao Zc2) (Zal Zc2) (Zab Zc2) .none kV24 dc24 pm24 an24 cd24 ct24), sl24⟩)
 (c24 : W.codeIn K cd24 "fraction" = true)
 (k24 : W.keepIn K (.ref f24) = true)
 (a25 : W.nsIn K mainGlobals "common_bottom" = some (some (.ref f25)))
 (l25 : K.lookup f25 = some ⟨oc25, od25, .func (W.fnOf "common_bottom" "common_bottom" (Zao ZaI) (Zal ZaI) (Zab ZaI) .none kV25 dc25 pm25 an25 cd25 ct25), sl25⟩)
 (c25 : W.codeIn K cd25 "common_bottom" = true)
 (k25 : W.keepIn K (.ref f25) = true)
 (a26 : W.nsIn K mainGlobals "tops_over" = some (some (.ref f26)))
 (l26 : K.lookup f26 = some ⟨oc26, od26, .func (W.fnOf "tops_over" "tops_over" (Zao ZbH) (Zal ZbH) (Zab ZbH) .none kV26 dc26 pm26 an26 cd26 ct26), sl26⟩)
 (c26 : W.codeIn K cd26 "tops_over" = true)
 (k26 : W.keepIn K (.ref f26) = true)
 (a27 : W.nsIn K mainGlobals "is_fairer" = some (some (.ref f27)))
 (l27 : K.lookup f27 = some ⟨oc27, od27, .func (W.fnOf "is_fairer" "is_fairer" (Zao Zcc) (Zal Zcc) (Zab Zcc) .none kV27 dc27 pm27 an27 cd27 ct27), sl27⟩)
 (c27 : W.codeIn K cd27 "is_fairer" = true)
 (k27 : W.keepIn K (.ref f27) = true)
 (a28 : W.nsIn K mainGlobals "asking" = some (some (.ref f28)))
 (l28 : K.lookup f28 = some ⟨oc28, od28, .func (W.fnOf "asking" "asking" (Zao ZcO) (Zal ZcO) (Zab ZcO) .none kV28 dc28 pm28 an28 cd28 ct28), sl28⟩)
 (c28 : W.codeIn K cd28 "asking" = true)
 (k28 : W.keepIn K (.ref f28) = true)
 (a29 : W.nsIn K mainGlobals "share_left" = some (some (.ref f29)))
 (l29 : K.lookup f29 = some ⟨oc29, od29, .func (W.fnOf "share_left" "share_left" (Zao Zbn) (Zal Zbn) (Zab Zbn) .none kV29 dc29 pm29 an29 cd29 ct29), sl29⟩)
 (c29 : W.codeIn K cd29 "share_left" = true)
 (k29 : W.keepIn K (.ref f29) = true)
 (a30 : W.nsIn K mainGlobals "most_short" = some (some (.ref f30)))
 (l30 : K.lookup f30 = some ⟨oc30, od30, .func (W.fnOf "most_short" "most_short" (Zao ZaQ) (Zal ZaQ) (Zab ZaQ) .none kV30 dc30 pm30 an30 cd30 ct30), sl30⟩)
 (c30 : W.codeIn K cd30 "most_short" = true)
 (k30 : W.keepIn K (.ref f30) = true)
 (a31 : W.nsIn K mainGlobals "next_level" = some (some (.ref f31)))
 (l31 : K.lookup f31 = some ⟨oc31, od31, .func (W.fnOf "next_level" "next_level" (Zao Zbo) (Zal Zbo) (Zab Zbo) .none kV31 dc31 pm31 an31 cd31 ct31), sl31⟩)
 (c31 : W.codeIn K cd31 "next_level" = true)
 (k31 : W.keepIn K (.ref f31) = true)
 (a32 : W.nsIn K mainGlobals "fair_levels" = some (some (.ref f32)))
 (l32 : K.lookup f32 = some ⟨oc32, od32, .func (W.fnOf "fair_levels" "fair_levels" (Zao Zbs) (Zal Zbs) (Zab Zbs) .none kV32 dc32 pm32 an32 cd32 ct32), sl32⟩)
 (c32 : W.codeIn K cd32 "fair_levels" = true)
 (k32 : W.keepIn K (.ref f32) = true)
 (a33 : W.nsIn K mainGlobals "_law_cell_at" = some (some (.ref f33)))
 (l33 : K.lookup f33 = some ⟨oc33, od33, .func (W.fnOf "_law_cell_at" "_law_cell_at" (Zao ZaW) (Zal ZaW) (Zab ZaW) .none kV33 dc33 pm33 an33 cd33 ct33), sl33⟩)
 (c33 : W.codeIn K cd33 "_law_cell_at" = true)
 (k33 : W.keepIn K (.ref f33) = true)
 (a34 : W.nsIn K mainGlobals "_law_number" = some (some (.ref f34)))
 (l34 : K.lookup f34 = some ⟨oc34, od34, .func (W.fnOf "_law_number" "_law_number" (Zao Zbz) (Zal Zbz) (Zab Zbz) .none kV34 dc34 pm34 an34 cd34 ct34), sl34⟩)
 (c34 : W.codeIn K cd34 "_law_number" = true)
 (k34 : W.keepIn K (.ref f34) = true)
 (a35 : W.nsIn K mainGlobals "_law_amount" = some (some (.ref f35)))
 (l35 : K.lookup f35 = some ⟨oc35, od35, .func (W.fnOf "_law_amount" "_law_amount" (Zao Zbv) (Zal Zbv) (Zab Zbv) .none kV35 dc35 pm35 an35 cd35 ct35), sl35⟩)
 (c35 : W.codeIn K cd35 "_law_amount" = true)
 (k35 : W.keepIn K (.ref f35) = true)
 (a36 : W.nsIn K mainGlobals "_law_yard" = some (some (.ref f36)))
 (l36 : K.lookup f36 = some ⟨oc36, od36, .func (W.fnOf "_law_yard" "_law_yard" (Zao Zce) (Zal Zce) (Zab Zce) .none kV36 dc36 pm36 an36 cd36 ct36), sl36⟩)
 (c36 : W.codeIn K cd36 "_law_yard" = true)
 (k36 : W.keepIn K (.ref f36) = true)
 (a37 : W.nsIn K mainGlobals "_law_guests" = some (some (.ref f37)))
 (l37 : K.lookup f37 = some ⟨oc37, od37, .func (W.fnOf "_law_guests" "_law_guests" (Zao Zbw) (Zal Zbw) (Zab Zbw) .none kV37 dc37 pm37 an37 cd37 ct37), sl37⟩)
 (c37 : W.codeIn K cd37 "_law_guests" = true)
 (k37 : W.keepIn K (.ref f37) = true)
 (a38 : W.nsIn K mainGlobals "_law_given" = some (some (.ref f38)))
 (l38 : K.lookup f38 = some ⟨oc38, od38, .func (W.fnOf "_law_given" "_law_given" (Zao Zbr) (Zal Zbr) (Zab Zbr) .none kV38 dc38 pm38 an38 cd38 ct38), sl38⟩)
 (c38 : W.codeIn K cd38 "_law_given" = true)
 (k38 : W.keepIn K (.ref f38) = true)
 (a39 : W.nsIn K mainGlobals "_law_sets" = some (some (.ref f39)))
 (l39 : K.lookup f39 = some ⟨oc39, od39, .func (W.fnOf "_law_sets" "_law_sets" (Zao ZbM) (Zal ZbM) (Zab ZbM) .none kV39 dc39 pm39 an39 cd39 ct39), sl39⟩)
 (c39 : W.codeIn K cd39 "_law_sets" = true)
 (k39 : W.keepIn K (.ref f39) = true)
 (a40 : W.nsIn K mainGlobals "_law_shares" = some (some (.ref f40)))
 (l40 : K.lookup f40 = some ⟨oc40, od40, .func (W.fnOf "_law_shares" "_law_shares" (Zao ZaT) (Zal ZaT) (Zab ZaT) .none kV40 dc40 pm40 an40 cd40 ct40), sl40⟩)
 (c40 : W.codeIn K cd40 "_law_shares" = true)
 (k40 : W.keepIn K (.ref f40) = true)
 (a41 : W.nsIn K mainGlobals "_law_divisor" = some (some (.ref f41)))
 (l41 : K.lookup f41 = some ⟨oc41, od41, .func (W.fnOf "_law_divisor" "_law_divisor" (Zao ZaY) (Zal ZaY) (Zab ZaY) .none kV41 dc41 pm41 an41 cd41 ct41), sl41⟩)
 (c41 : W.codeIn K cd41 "_law_divisor" = true)
 (k41 : W.keepIn K (.ref f41) = true)
 (a42 : W.nsIn K mainGlobals "_law_parts" = some (some (.ref f42)))
 (l42 : K.lookup f42 = some ⟨oc42, od42, .func (W.fnOf "_law_parts" "_law_parts" (Zao ZbJ) (Zal ZbJ) (Zab ZbJ) .none kV42 dc42 pm42 an42 cd42 ct42), sl42⟩)
 (c42 : W.codeIn K cd42 "_law_parts" = true)
 (k42 : W.keepIn K (.ref f42) = true)
 (a43 : W.nsIn K mainGlobals "law" = some (some (.ref f43)))
 (l43 : K.lookup f43 = some ⟨oc43, od43, .func (W.fnOf "law" "law" (Zao ZeZ) (Zal ZeZ) (Zab ZeZ) .none kV43 dc43 pm43 an43 cd43 ct43), sl43⟩)
 (c43 : W.codeIn K cd43 "law" = true)
 (k43 : W.keepIn K (.ref f43) = true)
 (a44 : W.findIn K (.ref C) "lay" = some (some (.ref f44)))
 (i44 : W.isFn K (.ref f44) = true)
 (l44 : K.lookup f44 = some ⟨oc44, od44, .func (W.fnOf "lay" "Net.lay" (Zao ZcZ) (Zal ZcZ) (Zab ZcZ) .none kV44 dc44 pm44 an44 cd44 ct44), sl44⟩)
 (c44 : W.codeIn K cd44 "Net.lay" = true)
 (k44 : W.keepIn K (.ref f44) = true)
 (a45 : W.findIn K (.ref C) "lay_one" = some (some (.ref f45)))
 (i45 : W.isFn K (.ref f45) = true)
 (l45 : K.lookup f45 = some ⟨oc45, od45, .func (W.fnOf "lay_one" "Net.lay_one" (Zao Zbu) (Zal Zbu) (Zab Zbu) .none kV45 dc45 pm45 an45 cd45 ct45), sl45⟩)
 (c45 : W.codeIn K cd45 "Net.lay_one" = true)
 (k45 : W.keepIn K (.ref f45) = true)
 (a46 : W.findIn K (.ref C) "reached" = some (some (.ref f46)))
 (i46 : W.isFn K (.ref f46) = true)
 (l46 : K.lookup f46 = some ⟨oc46, od46, .func (W.fnOf "reached" "Net.reached" (Zao Zbt) (Zal Zbt) (Zab Zbt) .none kV46 dc46 pm46 an46 cd46 ct46), sl46⟩)
 (c46 : W.codeIn K cd46 "Net.reached" = true)
 (k46 : W.keepIn K (.ref f46) = true)
 (a47 : W.findIn K (.ref C) "push" = some (some (.ref f47)))
 (i47 : W.isFn K (.ref f47) = true)
 (l47 : K.lookup f47 = some ⟨oc47, od47, .func (W.fnOf "push" "Net.push" (Zao Zch) (Zal Zch) (Zab Zch) .none kV47 dc47 pm47 an47 cd47 ct47), sl47⟩)
 (c47 : W.codeIn K cd47 "Net.push" = true)
 (k47 : W.keepIn K (.ref f47) = true)
 (a48 : W.findIn K (.ref C) "fill" = some (some (.ref f48)))
 (i48 : W.isFn K (.ref f48) = true)
 (l48 : K.lookup f48 = some ⟨oc48, od48, .func (W.fnOf "fill" "Net.fill" (Zao Zc6) (Zal Zc6) (Zab Zc6) .none kV48 dc48 pm48 an48 cd48 ct48), sl48⟩)
 (c48 : W.codeIn K cd48 "Net.fill" = true)
 (k48 : W.keepIn K (.ref f48) = true)
 (a49 : W.findIn K (.ref C) "way_to" = some (some (.ref f49)))
 (i49 : W.isFn K (.ref f49) = true)
 (l49 : K.lookup f49 = some ⟨oc49, od49, .func (W.fnOf "way_to" "Net.way_to" (Zao ZbK) (Zal ZbK) (Zab ZbK) .none kV49 dc49 pm49 an49 cd49 ct49), sl49⟩)
 (c49 : W.codeIn K cd49 "Net.way_to" = true)
 (k49 : W.keepIn K (.ref f49) = true)
 (a50 : W.findIn K (.ref C) "__init__" = some (some (.ref f50)))
 (i50 : W.isFn K (.ref f50) = true)
 (l50 : K.lookup f50 = some ⟨oc50, od50, .func (W.fnOf "__init__" "Net.__init__" (Zao Zb8) (Zal Zb8) (Zab Zb8) .none kV50 dc50 pm50 an50 cd50 ct50), sl50⟩)
 (c50 : W.codeIn K cd50 "Net.__init__" = true)
 (k50 : W.keepIn K (.ref f50) = true)
 (pg : W.plainGet K C Str.empty = true)
 (hd : W.hasDictIn K C = true)
 (po : W.plainOver K C = true)
 (sa : W.findIn K (.ref C) "__setattr__" = some (some (.builtin "object.__setattr__")))
 (mk : W.makesIn K C = true)
 (kc : W.keepIn K (.ref C) = true)
 (n0 : W.findIn K (.ref C) "ends" = some none)
 (n1 : W.findIn K (.ref C) "rooms" = some none)
 (n2 : W.findIn K (.ref C) "leaving" = some none)
 (n3 : W.findIn K (.ref C) "laid" = some none)
 (aS : W.nsIn K mainGlobals "START" = some (some (.ref gS)))
 (lS : K.lookup gS = some ⟨.type "tuple", dS, .seq #[.str "start" tS] nS, slS⟩)
 (aE : W.nsIn K mainGlobals "END" = some (some (.ref gE)))
 (lE : K.lookup gE = some ⟨.type "tuple", dE, .seq #[.str "end" tE] nE, slE⟩)
 (z0 : W.nsIn K mainGlobals "abs" = some none)
 (z1 : W.nsIn K mainGlobals "len" = some none)
 (z2 : W.nsIn K mainGlobals "max" = some none)
 (z3 : W.nsIn K mainGlobals "min" = some none)
 (z4 : W.nsIn K mainGlobals "sum" = some none)
 (z5 : W.nsIn K mainGlobals "any" = some none)
 (z6 : W.nsIn K mainGlobals "all" = some none)
 (z7 : W.nsIn K mainGlobals "isinstance" = some none)
 (z8 : W.nsIn K mainGlobals "int" = some none)
 (z9 : W.nsIn K mainGlobals "bool" = some none)
 (z10 : W.nsIn K mainGlobals "list" = some none)
 (z11 : W.nsIn K mainGlobals "tuple" = some none)
 (z12 : W.nsIn K mainGlobals "range" = some none)
 (z13 : W.nsIn K mainGlobals "zip" = some none)
 (z14 : W.nsIn K mainGlobals "enumerate" = some none)
 (z15 : W.nsIn K mainGlobals "sorted" = some none)
 : (∃ gS gE, W.nsIn K mainGlobals "START" = some (some (.ref gS)) /\ W.nsIn K mainGlobals "END" = some (some (.ref gE)) /\ KTup K gS "start" /\ KTup K gE "end") /\ ∃ fd : FuncData, (∀ (s : Shared) (v : Value), BindsTo s fd ⟨[v], []⟩ [("_law_script", v)]) /\ ∀ base : Heap, K.In base -> base.Ns mainGlobals mg -> FnOk P w K mg base CX0 10 fa fd ["_law_script"] (Zj6 K) := by
 have e := hfa.symm.trans (W.mg_of X G a43)
 cases e
 have T : Bl mg := ⟨W.mg_none_of X G z0, W.mg_none_of X G z1, W.mg_none_of X G z2, W.mg_none_of X G z3, W.mg_none_of X G z4, W.mg_none_of X G z5, W.mg_none_of X G z6, W.mg_none_of X G z7, W.mg_none_of X G z8, W.mg_none_of X G z9, W.mg_none_of X G z10, W.mg_none_of X G z11, W.mg_none_of X G z12, W.mg_none_of X G z13, W.mg_none_of X G z14, W.mg_none_of X G z15⟩
 have U : Tx K mg C gS gE := ⟨⟨⟨pg, hd, po, sa⟩, n0, n1, n2, n3⟩, W.mg_of X G aS, W.mg_of X G aE, aS, aE⟩
 have F_turns_of := Zaz (st := Zc1) l0 c0 k0
 have D_turns_of : Df K mg "turns_of" Zc1 ["yard"] := ⟨_, _, F_turns_of, W.mg_of X G a0, F_turns_of.binds (ps := ["yard"]) fun _ _ _ _ _ _ us hl => ln1 hl fun _ => rfl⟩
 have F_line_count := Zaz (st := ZbG) l1 c1 k1
 have D_line_count : Df K mg "line_count" ZbG ["yard"] := ⟨_, _, F_line_count, W.mg_of X G a1, F_line_count.binds (ps := ["yard"]) fun _ _ _ _ _ _ us hl => ln1 hl fun _ => rfl⟩
 have F_above_of := Zaz (st := Zc0) l2 c2 k2
 have D_above_of : Df K mg "above_of" Zc0 ["yard", "line"] := ⟨_, _, F_above_of, W.mg_of X G a2, F_above_of.binds (ps := ["yard", "line"]) fun _ _ _ _ _ _ us hl => ln2 hl fun _ _ => rfl⟩
 have F_bound_at := Zaz (st := Zc5) l3 c3 k3
 have D_bound_at : Df K mg "bound_at" Zc5 ["yard", "line", "turn"] := ⟨_, _, F_bound_at, W.mg_of X G a3, F_bound_at.binds (ps := ["yard", "line", "turn"]) fun _ _ _ _ _ _ us hl => ln3 hl fun _ _ _ => rfl⟩
 have F_line_of := Zaz (st := ZcT) l4 c4 k4
 have D_line_of : Df K mg "line_of" ZcT ["guest"] := ⟨_, _, F_line_of, W.mg_of X G a4, F_line_of.binds (ps := ["guest"]) fun _ _ _ _ _ _ us hl => ln1 hl fun _ => rfl⟩
 have F_is_there := Zaz (st := Zc4) l5 c5 k5
 have D_is_there : Df K mg "is_there" Zc4 ["guest", "turn"] := ⟨_, _, F_is_there, W.mg_of X G a5, F_is_there.binds (ps := ["guest", "turn"]) fun _ _ _ _ _ _ us hl => ln2 hl fun _ _ => rfl⟩
 have F_want_of := Zaz (st := ZcY) l6 c6 k6
 have D_want_of : Df K mg "want_of" ZcY ["guest"] := ⟨_, _, F_want_of, W.mg_of X G a6, F_want_of.binds (ps := ["guest"]) fun _ _ _ _ _ _ us hl => ln1 hl fun _ => rfl⟩
 have F_most_of := Zaz (st := Zdc) l7 c7 k7
 have D_most_of : Df K mg "most_of" Zdc ["guest"] := ⟨_, _, F_most_of, W.mg_of X G a7, F_most_of.binds (ps := ["guest"]) fun _ _ _ _ _ _ us hl => ln1 hl fun _ => rfl⟩
 have F_with_want := Zaz (st := Zca) l8 c8 k8
 have D_with_want : Df K mg "with_want" Zca ["guest", "want"] := ⟨_, _, F_with_want, W.mg_of X G a8, F_with_want.binds (ps := ["guest", "want"]) fun _ _ _ _ _ _ us hl => ln2 hl fun _ _ => rfl⟩
 have F_line_times := Zaz (st := Zbq) l9 c9 k9
 have D_line_times : Df K mg "line_times" Zbq ["line", "k"] := ⟨_, _, F_line_times, W.mg_of X G a9, F_line_times.binds (ps := ["line", "k"]) fun _ _ _ _ _ _ us hl => ln2 hl fun _ _ => rfl⟩
 have F_yard_times := Zaz (st := Zbp) l10 c10 k10
 have D_yard_times : Df K mg "yard_times" Zbp ["yard", "k"] := ⟨_, _, F_yard_times, W.mg_of X G a10, F_yard_times.binds (ps := ["yard", "k"]) fun _ _ _ _ _ _ us hl => ln2 hl fun _ _ => rfl⟩
 have F_guest_times := Zaz (st := Zb4) l11 c11 k11
 have D_guest_times : Df K mg "guest_times" Zb4 ["guest", "k"] := ⟨_, _, F_guest_times, W.mg_of X G a11, F_guest_times.binds (ps := ["guest", "k"]) fun _ _ _ _ _ _ us hl => ln2 hl fun _ _ => rfl⟩
 have F_guests_times := Zaz (st := ZaG) l12 c12 k12
 have D_guests_times : Df K mg "guests_times" ZaG ["guests", "k"] := ⟨_, _, F_guests_times, W.mg_of X G a12, F_guests_times.binds (ps := ["guests", "k"]) fun _ _ _ _ _ _ us hl => ln2 hl fun _ _ => rfl⟩
 have F_guest_node := Zaz (st := ZbI) l13 c13 k13
 have D_guest_node : Df K mg "guest_node" ZbI ["number"] := ⟨_, _, F_guest_node, W.mg_of X G a13, F_guest_node.binds (ps := ["number"]) fun _ _ _ _ _ _ us hl => ln1 hl fun _ => rfl⟩
 have F_line_node := Zaz (st := ZbY) l14 c14 k14
 have D_line_node : Df K mg "line_node" ZbY ["line", "turn"] := ⟨_, _, F_line_node, W.mg_of X G a14, F_line_node.binds (ps := ["line", "turn"]) fun _ _ _ _ _ _ us hl => ln2 hl fun _ _ => rfl⟩
 have F_lay_guest := Zaz (st := Zcb) l15 c15 k15
 have D_lay_guest : Df K mg "lay_guest" Zcb ["net", "yard", "number", "guest"] := ⟨_, _, F_lay_guest, W.mg_of X G a15, F_lay_guest.binds (ps := ["net", "yard", "number", "guest"]) fun _ _ _ _ _ _ us hl => ln4 hl fun _ _ _ _ => rfl⟩
 have F_lay_turn := Zaz (st := Zc8) l16 c16 k16
 have D_lay_turn : Df K mg "lay_turn" Zc8 ["net", "yard", "turn"] := ⟨_, _, F_lay_turn, W.mg_of X G a16, F_lay_turn.binds (ps := ["net", "yard", "turn"]) fun _ _ _ _ _ _ us hl => ln3 hl fun _ _ _ => rfl⟩
 have F_filled_net := Zaz (st := ZbD) l17 c17 k17
 have D_filled_net : Df K mg "filled_net" ZbD ["yard", "guests"] := ⟨_, _, F_filled_net, W.mg_of X G a17, F_filled_net.binds (ps := ["yard", "guests"]) fun _ _ _ _ _ _ us hl => ln2 hl fun _ _ => rfl⟩
 have F_guests_reached := Zaz (st := ZaC) l18 c18 k18
 have D_guests_reached : Df K mg "guests_reached" ZaC ["yard", "guests"] := ⟨_, _, F_guests_reached, W.mg_of X G a18, F_guests_reached.binds (ps := ["yard", "guests"]) fun _ _ _ _ _ _ us hl => ln2 hl fun _ _ => rfl⟩
 have F_reaching_at := Zaz (st := ZaU) l19 c19 k19
 have D_reaching_at : Df K mg "reaching_at" ZaU ["yard", "guests", "some", "turn"] := ⟨_, _, F_reaching_at, W.mg_of X G a19, F_reaching_at.binds (ps := ["yard", "guests", "some", "turn"]) fun _ _ _ _ _ _ us hl => ln4 hl fun _ _ _ _ => rfl⟩
 have F_given_at := Zaz (st := Zc3) l20 c20 k20
 have D_given_at : Df K mg "given_at" Zc3 ["yard", "guests", "some", "turn"] := ⟨_, _, F_given_at, W.mg_of X G a20, F_given_at.binds (ps := ["yard", "guests", "some", "turn"]) fun _ _ _ _ _ _ us hl => ln4 hl fun _ _ _ _ => rfl⟩
 have F_given_most := Zaz (st := Zbm) l21 c21 k21
 have D_given_most : Df K mg "given_most" Zbm ["yard", "guests", "some"] := ⟨_, _, F_given_most, W.mg_of X G a21, F_given_most.binds (ps := ["yard", "guests", "some"]) fun _ _ _ _ _ _ us hl => ln3 hl fun _ _ _ => rfl⟩
 have F_lacking_set := Zaz (st := Zb5) l22 c22 k22
 have D_lacking_set : Df K mg "lacking_set" Zb5 ["yard", "guests"] := ⟨_, _, F_lacking_set, W.mg_of X G a22, F_lacking_set.binds (ps := ["yard", "guests"]) fun _ _ _ _ _ _ us hl => ln2 hl fun _ _ => rfl⟩
 have F_greatest_divisor := Zaz (st := Za9) l23 c23 k23
 have D_greatest_divisor : Df K mg "greatest_divisor" Za9 ["one", "other"] := ⟨_, _, F_greatest_divisor, W.mg_of X G a23, F_greatest_divisor.binds (ps := ["one", "other"]) fun _ _ _ _ _ _ us hl => ln2 hl fun _ _ => rfl⟩
 have F_fraction := Zaz (st := Zc2) l24 c24 k24
 have D_fraction : Df K mg "fraction" Zc2 ["top", "bottom"] := ⟨_, _, F_fraction, W.mg_of X G a24, F_fraction.binds (ps := ["top", "bottom"]) fun _ _ _ _ _ _ us hl => ln2 hl fun _ _ => rfl⟩
 have F_common_bottom := Zaz (st := ZaI) l25 c25 k25
 have D_common_bottom : Df K mg "common_bottom" ZaI ["parts"] := ⟨_, _, F_common_bottom, W.mg_of X G a25, F_common_bottom.binds (ps := ["parts"]) fun _ _ _ _ _ _ us hl => ln1 hl fun _ => rfl⟩
 have F_tops_over := Zaz (st := ZbH) l26 c26 k26
 have D_tops_over : Df K mg "tops_over" ZbH ["parts", "bottom"] := ⟨_, _, F_tops_over, W.mg_of X G a26, F_tops_over.binds (ps := ["parts", "bottom"]) fun _ _ _ _ _ _ us hl => ln2 hl fun _ _ => rfl⟩
 have F_is_fairer := Zaz (st := Zcc) l27 c27 k27
 have D_is_fairer : Df K mg "is_fairer" Zcc ["one", "other"] := ⟨_, _, F_is_fairer, W.mg_of X G a27, F_is_fairer.binds (ps := ["one", "other"]) fun _ _ _ _ _ _ us hl => ln2 hl fun _ _ => rfl⟩
 have F_asking := Zaz (st := ZcO) l28 c28 k28
 have D_asking : Df K mg "asking" ZcO ["guests", "totals", "k"] := ⟨_, _, F_asking, W.mg_of X G a28, F_asking.binds (ps := ["guests", "totals", "k"]) fun _ _ _ _ _ _ us hl => ln3 hl fun _ _ _ => rfl⟩
 have F_share_left := Zaz (st := Zbn) l29 c29 k29
 have D_share_left : Df K mg "share_left" Zbn ["yard", "guests", "ahead", "some"] := ⟨_, _, F_share_left, W.mg_of X G a29, F_share_left.binds (ps := ["yard", "guests", "ahead", "some"]) fun _ _ _ _ _ _ us hl => ln4 hl fun _ _ _ _ => rfl⟩
 have F_most_short := Zaz (st := ZaQ) l30 c30 k30
 have D_most_short : Df K mg "most_short" ZaQ ["yard", "guests", "ahead", "share"] := ⟨_, _, F_most_short, W.mg_of X G a30, F_most_short.binds (ps := ["yard", "guests", "ahead", "share"]) fun _ _ _ _ _ _ us hl => ln4 hl fun _ _ _ _ => rfl⟩
 have F_next_level := Zaz (st := Zbo) l31 c31 k31
 have D_next_level : Df K mg "next_level" Zbo ["yard", "guests", "ahead"] := ⟨_, _, F_next_level, W.mg_of X G a31, F_next_level.binds (ps := ["yard", "guests", "ahead"]) fun _ _ _ _ _ _ us hl => ln3 hl fun _ _ _ => rfl⟩
 have F_fair_levels := Zaz (st := Zbs) l32 c32 k32
 have D_fair_levels : Df K mg "fair_levels" Zbs ["yard", "guests"] := ⟨_, _, F_fair_levels, W.mg_of X G a32, F_fair_levels.binds (ps := ["yard", "guests"]) fun _ _ _ _ _ _ us hl => ln2 hl fun _ _ => rfl⟩
 have F__law_cell_at := Zaz (st := ZaW) l33 c33 k33
 have D__law_cell_at : Df K mg "_law_cell_at" ZaW ["_law_script", "_law_k"] := ⟨_, _, F__law_cell_at, W.mg_of X G a33, F__law_cell_at.binds (ps := ["_law_script", "_law_k"]) fun _ _ _ _ _ _ us hl => ln2 hl fun _ _ => rfl⟩
 have F__law_number := Zaz (st := Zbz) l34 c34 k34
 have D__law_number : Df K mg "_law_number" Zbz ["_law_script", "_law_k"] := ⟨_, _, F__law_number, W.mg_of X G a34, F__law_number.binds (ps := ["_law_script", "_law_k"]) fun _ _ _ _ _ _ us hl => ln2 hl fun _ _ => rfl⟩
 have F__law_amount := Zaz (st := Zbv) l35 c35 k35
 have D__law_amount : Df K mg "_law_amount" Zbv ["_law_number_here"] := ⟨_, _, F__law_amount, W.mg_of X G a35, F__law_amount.binds (ps := ["_law_number_here"]) fun _ _ _ _ _ _ us hl => ln1 hl fun _ => rfl⟩
 have F__law_yard := Zaz (st := Zce) l36 c36 k36
 have D__law_yard : Df K mg "_law_yard" Zce ["_law_script"] := ⟨_, _, F__law_yard, W.mg_of X G a36, F__law_yard.binds (ps := ["_law_script"]) fun _ _ _ _ _ _ us hl => ln1 hl fun _ => rfl⟩
 have F__law_guests := Zaz (st := Zbw) l37 c37 k37
 have D__law_guests : Df K mg "_law_guests" Zbw ["_law_script", "_law_yard_here"] := ⟨_, _, F__law_guests, W.mg_of X G a37, F__law_guests.binds (ps := ["_law_script", "_law_yard_here"]) fun _ _ _ _ _ _ us hl => ln2 hl fun _ _ => rfl⟩
 have F__law_given := Zaz (st := Zbr) l38 c38 k38
 have D__law_given : Df K mg "_law_given" Zbr ["_law_yard_here", "_law_guests_here", "_law_some"] := ⟨_, _, F__law_given, W.mg_of X G a38, F__law_given.binds (ps := ["_law_yard_here", "_law_guests_here", "_law_some"]) fun _ _ _ _ _ _ us hl => ln3 hl fun _ _ _ => rfl⟩
 have F__law_sets := Zaz (st := ZbM) l39 c39 k39
 have D__law_sets : Df K mg "_law_sets" ZbM ["_law_many"] := ⟨_, _, F__law_sets, W.mg_of X G a39, F__law_sets.binds (ps := ["_law_many"]) fun _ _ _ _ _ _ us hl => ln1 hl fun _ => rfl⟩
 have F__law_shares := Zaz (st := ZaT) l40 c40 k40
 have D__law_shares : Df K mg "_law_shares" ZaT ["_law_levels", "_law_many"] := ⟨_, _, F__law_shares, W.mg_of X G a40, F__law_shares.binds (ps := ["_law_levels", "_law_many"]) fun _ _ _ _ _ _ us hl => ln2 hl fun _ _ => rfl⟩
 have F__law_divisor := Zaz (st := ZaY) l41 c41 k41
 have D__law_divisor : Df K mg "_law_divisor" ZaY ["_law_one", "_law_other"] := ⟨_, _, F__law_divisor, W.mg_of X G a41, F__law_divisor.binds (ps := ["_law_one", "_law_other"]) fun _ _ _ _ _ _ us hl => ln2 hl fun _ _ => rfl⟩
 have F__law_parts := Zaz (st := ZbJ) l42 c42 k42
 have D__law_parts : Df K mg "_law_parts" ZbJ ["_law_levels"] := ⟨_, _, F__law_parts, W.mg_of X G a42, F__law_parts.binds (ps := ["_law_levels"]) fun _ _ _ _ _ _ us hl => ln1 hl fun _ => rfl⟩
 have F_law := Zaz (st := ZeZ) l43 c43 k43
 have D_law : Df K mg "law" ZeZ ["_law_script"] := ⟨_, _, F_law, W.mg_of X G a43, F_law.binds (ps := ["_law_script"]) fun _ _ _ _ _ _ us hl => ln1 hl fun _ => rfl⟩
 have F_Net_lay := Zaz (st := ZcZ) l44 c44 k44
 have D_Net_lay : Mf K C "lay" "Net.lay" ZcZ ["self", "start", "end", "room"] := ⟨_, _, F_Net_lay, ⟨a44, i44, k44⟩, F_Net_lay.binds (ps := ["self", "start", "end", "room"]) fun _ _ _ _ _ _ us hl => ln4 hl fun _ _ _ _ => rfl⟩
 have F_Net_lay_one := Zaz (st := Zbu) l45 c45 k45
 have D_Net_lay_one : Mf K C "lay_one" "Net.lay_one" Zbu ["self", "start", "end", "room"] := ⟨_, _, F_Net_lay_one, ⟨a45, i45, k45⟩, F_Net_lay_one.binds (ps := ["self", "start", "end", "room"]) fun _ _ _ _ _ _ us hl => ln4 hl fun _ _ _ _ => rfl⟩
 have F_Net_reached := Zaz (st := Zbt) l46 c46 k46
 have D_Net_reached : Mf K C "reached" "Net.reached" Zbt ["self", "start"] := ⟨_, _, F_Net_reached, ⟨a46, i46, k46⟩, F_Net_reached.binds (ps := ["self", "start"]) fun _ _ _ _ _ _ us hl => ln2 hl fun _ _ => rfl⟩
 have F_Net_push := Zaz (st := Zch) l47 c47 k47
 have D_Net_push : Mf K C "push" "Net.push" Zch ["self", "way"] := ⟨_, _, F_Net_push, ⟨a47, i47, k47⟩, F_Net_push.binds (ps := ["self", "way"]) fun _ _ _ _ _ _ us hl => ln2 hl fun _ _ => rfl⟩
 have F_Net_fill := Zaz (st := Zc6) l48 c48 k48
 have D_Net_fill : Mf K C "fill" "Net.fill" Zc6 ["self", "start", "end"] := ⟨_, _, F_Net_fill, ⟨a48, i48, k48⟩, F_Net_fill.binds (ps := ["self", "start", "end"]) fun _ _ _ _ _ _ us hl => ln3 hl fun _ _ _ => rfl⟩
 have F_Net_way_to := Zaz (st := ZbK) l49 c49 k49
 have D_Net_way_to : Mf K C "way_to" "Net.way_to" ZbK ["self", "edges", "end"] := ⟨_, _, F_Net_way_to, ⟨a49, i49, k49⟩, F_Net_way_to.binds (ps := ["self", "edges", "end"]) fun _ _ _ _ _ _ us hl => ln3 hl fun _ _ _ => rfl⟩
 have F_Net := Zaz (st := Zb8) l50 c50 k50
 have B_Net := F_Net.binds (ps := ["self"]) fun _ _ _ _ _ _ us hl => ln1 hl fun _ => rfl
 refine ⟨⟨gS, gE, aS, aE, ⟨_, _, _, _, lS⟩, ⟨_, _, _, _, lE⟩⟩, W.fnOf "law" "law" (Zao ZeZ) (Zal ZeZ) (Zab ZeZ) .none kV43 dc43 pm43 an43 cd43 ct43, fun s v => .of_eq rfl, fun base _ _ => ?_⟩
 have c__law_cell_at := ZoZ (P := P) (w := w) (base := base) T D__law_cell_at
 have c__law_number := Zmv (P := P) (w := w) (base := base) T D__law_number (c__law_cell_at := c__law_cell_at)
 have c__law_amount := ZlF (P := P) (w := w) (base := base) T D__law_amount
 have c__law_yard := Zp3 (P := P) (w := w) (base := base) T D__law_yard (c__law_cell_at := c__law_cell_at) (c__law_number := c__law_number) (c__law_amount := c__law_amount)
 have c__law_guests := Zmh (P := P) (w := w) (base := base) T D__law_guests (c__law_cell_at := c__law_cell_at) (c__law_number := c__law_number) (c__law_amount := c__law_amount)
 have c_want_of := Zpp (P := P) (w := w) (base := base) T D_want_of
 have c_Net : ZrL P w K mg base "Net" C 1 := ⟨_, _, ⟨mk, a50, i50, kc⟩, W.mg_of X G aC, B_Net, Zqj (P := P) (w := w) (base := base) T U F_Net⟩
 have c_Net_lay_one := Zo9 (P := P) (w := w) (base := base) T U D_Net_lay_one
 have c_Net_lay := Zqk (P := P) (w := w) (base := base) T U D_Net_lay (c_Net_lay_one := c_Net_lay_one)
 have c_guest_node := ZmF (P := P) (w := w) (base := base) T D_guest_node
 have c_turns_of := Zm4 (P := P) (w := w) (base := base) T D_turns_of
 have c_is_there := Znx (P := P) (w := w) (base := base) T D_is_there
 have c_most_of := Zps (P := P) (w := w) (base := base) T D_most_of
 have c_line_node := Znk (P := P) (w := w) (base := base) T D_line_node
 have c_line_of := Zmt (P := P) (w := w) (base := base) T D_line_of
 have c_lay_guest := Zln (P := P) (w := w) (base := base) T U D_lay_guest (c_Net_lay := c_Net_lay) (c_want_of := c_want_of) (c_guest_node := c_guest_node) (c_turns_of := c_turns_of) (c_is_there := c_is_there) (c_most_of := c_most_of) (c_line_node := c_line_node) (c_line_of := c_line_of)
 have c_bound_at := ZnB (P := P) (w := w) (base := base) T D_bound_at
 have c_line_count := ZmL (P := P) (w := w) (base := base) T D_line_count
 have c_above_of := Zn1 (P := P) (w := w) (base := base) T D_above_of
 have c_lay_turn := ZnC (P := P) (w := w) (base := base) T U D_lay_turn (c_Net_lay := c_Net_lay) (c_bound_at := c_bound_at) (c_line_node := c_line_node) (c_line_count := c_line_count) (c_above_of := c_above_of)
 have c_Net_reached := Zkc (P := P) (w := w) (base := base) T U D_Net_reached
 have c_Net_push := Zo0 (P := P) (w := w) (base := base) T U D_Net_push
 have c_Net_way_to := ZqQ (P := P) (w := w) (base := base) T U D_Net_way_to
 have c_Net_fill := Zp2 (P := P) (w := w) (base := base) T U D_Net_fill (c_Net_reached := c_Net_reached) (c_Net_push := c_Net_push) (c_Net_way_to := c_Net_way_to)
 have c_filled_net := Zlo (P := P) (w := w) (base := base) T U D_filled_net (c_Net := c_Net) (c_lay_guest := c_lay_guest) (c_turns_of := c_turns_of) (c_lay_turn := c_lay_turn) (c_Net_fill := c_Net_fill)
 have c_guests_reached := ZiP (P := P) (w := w) (base := base) T U D_guests_reached (c_filled_net := c_filled_net) (c_Net_reached := c_Net_reached) (c_guest_node := c_guest_node)
 have c_lacking_set := Zo8 (P := P) (w := w) (base := base) T D_lacking_set (c_guests_reached := c_guests_reached)
 have c_line_times := Zkg (P := P) (w := w) (base := base) T D_line_times
 have c_yard_times := Zkl (P := P) (w := w) (base := base) T D_yard_times (c_line_times := c_line_times)
 have c_guest_times := Zk1 (P := P) (w := w) (base := base) T D_guest_times
 have c_guests_times := ZiC (P := P) (w := w) (base := base) T D_guests_times (c_guest_times := c_guest_times)
 have c_with_want := ZmO (P := P) (w := w) (base := base) T D_with_want
 have c_asking := Zlz (P := P) (w := w) (base := base) T D_asking (c_guests_times := c_guests_times) (c_with_want := c_with_want)
 have c_most_short := Zlr (P := P) (w := w) (base := base) T D_most_short (c_want_of := c_want_of) (c_lacking_set := c_lacking_set) (c_yard_times := c_yard_times) (c_asking := c_asking)
 have c_greatest_divisor := Zou (P := P) (w := w) (base := base) T D_greatest_divisor
 have c_common_bottom := Zox (P := P) (w := w) (base := base) T D_common_bottom (c_greatest_divisor := c_greatest_divisor)
 have c_tops_over := Zpm (P := P) (w := w) (base := base) T D_tops_over
 have c_is_fairer := Zml (P := P) (w := w) (base := base) T D_is_fairer (c_common_bottom := c_common_bottom) (c_tops_over := c_tops_over)
 have c_reaching_at := ZiN (P := P) (w := w) (base := base) T D_reaching_at (c_line_count := c_line_count) (c_is_there := c_is_there) (c_line_of := c_line_of) (c_most_of := c_most_of) (c_above_of := c_above_of) (c_bound_at := c_bound_at)
 have c_given_at := Znj (P := P) (w := w) (base := base) T D_given_at (c_reaching_at := c_reaching_at) (c_bound_at := c_bound_at)
 have c_given_most := ZlI (P := P) (w := w) (base := base) T D_given_most (c_turns_of := c_turns_of) (c_given_at := c_given_at)
 have c_fraction := Zpq (P := P) (w := w) (base := base) T D_fraction (c_greatest_divisor := c_greatest_divisor)
 have c_share_left := Zlu (P := P) (w := w) (base := base) T D_share_left (c_given_most := c_given_most) (c_fraction := c_fraction) (c_want_of := c_want_of)
 have c_next_level := Zlc (P := P) (w := w) (base := base) T D_next_level (c_most_short := c_most_short) (c_is_fairer := c_is_fairer) (c_share_left := c_share_left)
 have c_fair_levels := ZkZ (P := P) (w := w) (base := base) T D_fair_levels (c_next_level := c_next_level)
 have c__law_divisor := ZoU (P := P) (w := w) (base := base) T D__law_divisor
 have c__law_parts := ZkO (P := P) (w := w) (base := base) T D__law_parts (c__law_divisor := c__law_divisor)
 have c__law_shares := Zkb (P := P) (w := w) (base := base) T D__law_shares
 have c__law_sets := ZoV (P := P) (w := w) (base := base) T D__law_sets
 have c__law_given := Zmy (P := P) (w := w) (base := base) T D__law_given
 exact ZqP T F_law (c__law_yard := c__law_yard) (c__law_guests := c__law_guests) (c_fair_levels := c_fair_levels) (c__law_parts := c__law_parts) (c__law_shares := c__law_shares) (c__law_sets := c__law_sets) (c__law_given := c__law_given)
end My
noncomputable def PySem.W.Fast.tw5502143448869769636 : Unit := ()
noncomputable def PySem.W.Fast.tw1253927754332962231 : Unit := ()
noncomputable def PySem.W.Fast.tw10927822297302947136 : Unit := ()
noncomputable def PySem.W.Fast.tw3347085327312829639 : Unit := ()
noncomputable def PySem.W.Fast.tw8966066730374298226 : Unit := ()
noncomputable def PySem.W.Fast.tw989710186164326233 : Unit := ()
noncomputable def PySem.W.Fast.tw5935517989193553112 : Unit := ()
noncomputable def PySem.W.Fast.tw6837927322185431977 : Unit := ()
open PySem PySem.W PyProof.Rows
set_option maxRecDepth 100000 in
set_option maxHeartbeats 0 in
theorem PySem.Challenge.cw_chargeyard_k53_whole_levels_are_the_fair_holds : PySem.Challenge.rw_chargeyard_k53_whole_levels_are_the_fair.Holds := by
 w_on; o_law; k_head; (case hw => w_witness2)
 k_fill
 refine L2.ZlC (l := PySem.Challenge.rw_chargeyard_k53_whole_levels_are_the_fair) (k := 10) (x := "_law_script") rfl rfl ⟨rfl, by decide, by decide⟩ (fun w h Y => W.kIn_of Y) ?F
 case F =>
  intro w mg fa h KX G hmg
  refine' My.Zqb KX G hmg ?aC ?a0 ?l0 ?c0 ?k0 ?a1 ?l1 ?c1 ?k1 ?a2 ?l2 ?c2 ?k2 ?a3 ?l3 ?c3 ?k3 ?a4 ?l4 ?c4 ?k4 ?a5 ?l5 ?c5 ?k5 ?a6 ?l6 ?c6 ?k6 ?a7 ?l7 ?c7 ?k7 ?a8 ?l8 ?c8 ?k8 ?a9 ?l9 ?c9 ?k9 ?a10 ?l10 ?c10 ?k10 ?a11 ?l11 ?c11 ?k11 ?a12 ?l12 ?c12 ?k12 ?a13 ?l13 ?c13 ?k13 ?a14 ?l14 ?c14 ?k14 ?a15 ?l15 ?c15 ?k15 ?a16 ?l16 ?c16 ?k16 ?a17 ?l17 ?c17 ?k17 ?a18 ?l18 ?c18 ?k18 ?a19 ?l19 ?c19 ?k19 ?a20 ?l20 ?c20 ?k20 ?a21 ?l21 ?c21 ?k21 ?a22 ?l22 ?c22 ?k22 ?a23 ?l23 ?c23 ?k23 ?a24 ?l24 ?c24 ?k24 ?a25 ?l25 ?c25 ?k25 ?a26 ?l26 ?c26 ?k26 ?a27 ?l27 ?c27 ?k27 ?a28 ?l28 ?c28 ?k28 ?a29 ?l29 ?c29 ?k29 ?a30 ?l30 ?c30 ?k30 ?a31 ?l31 ?c31 ?k31 ?a32 ?l32 ?c32 ?k32 ?a33 ?l33 ?c33 ?k33 ?a34 ?l34 ?c34 ?k34 ?a35 ?l35 ?c35 ?k35 ?a36 ?l36 ?c36 ?k36 ?a37 ?l37 ?c37 ?k37 ?a38 ?l38 ?c38 ?k38 ?a39 ?l39 ?c39 ?k39 ?a40 ?l40 ?c40 ?k40 ?a41 ?l41 ?c41 ?k41 ?a42 ?l42 ?c42 ?k42 ?a43 ?l43 ?c43 ?k43 ?a44 ?i44 ?l44 ?c44 ?k44 ?a45 ?i45 ?l45 ?c45 ?k45 ?a46 ?i46 ?l46 ?c46 ?k46 ?a47 ?i47 ?l47 ?c47 ?k47 ?a48 ?i48 ?l48 ?c48 ?k48 ?a49 ?i49 ?l49 ?c49 ?k49 ?a50 ?i50 ?l50 ?c50 ?k50 ?pg ?hd ?po ?sa ?mk ?kc ?n0 ?n1 ?n2 ?n3 ?aS ?lS ?aE ?lE ?z0 ?z1 ?z2 ?z3 ?z4 ?z5 ?z6 ?z7 ?z8 ?z9 ?z10 ?z11 ?z12 ?z13 ?z14 ?z15
  case aC | a0 | l0 | c0 | k0 | a1 | l1 | c1 | k1 | a2 | l2 | c2 | k2 | a3 | l3 | c3 | k3 | a4 | l4 | c4 | k4 | a5 | l5 | c5 | k5 | a6 | l6 | c6 | k6 | a7 | l7 | c7 | k7 | a8 | l8 | c8 | k8 | a9 | l9 | c9 | k9 | a10 | l10 | c10 | k10 | a11 | l11 | c11 | k11 | a12 | l12 | c12 | k12 | a13 | l13 | c13 | k13 | a14 | l14 | c14 | k14 | a15 | l15 | c15 | k15 | a16 | l16 | c16 | k16 | a17 | l17 | c17 | k17 | a18 | l18 | c18 | k18 | a19 | l19 | c19 | k19 | a20 | l20 | c20 | k20 | a21 | l21 | c21 | k21 | a22 | l22 | c22 | k22 | a23 | l23 | c23 | k23 | a24 | l24 | c24 | k24 | a25 | l25 | c25 | k25 | a26 | l26 | c26 | k26 | a27 | l27 | c27 | k27 | a28 | l28 | c28 | k28 | a29 | l29 | c29 | k29 | a30 | l30 | c30 | k30 | a31 | l31 | c31 | k31 | a32 | l32 | c32 | k32 | a33 | l33 | c33 | k33 | a34 | l34 | c34 | k34 | a35 | l35 | c35 | k35 | a36 | l36 | c36 | k36 | a37 | l37 | c37 | k37 | a38 | l38 | c38 | k38 | a39 | l39 | c39 | k39 | a40 | l40 | c40 | k40 | a41 | l41 | c41 | k41 | a42 | l42 | c42 | k42 | a43 | l43 | c43 | k43 | a44 | i44 | l44 | c44 | k44 | a45 | i45 | l45 | c45 | k45 | a46 | i46 | l46 | c46 | k46 | a47 | i47 | l47 | c47 | k47 | a48 | i48 | l48 | c48 | k48 | a49 | i49 | l49 | c49 | k49 | a50 | i50 | l50 | c50 | k50 | pg | hd | po | sa | mk | kc | n0 | n1 | n2 | n3 | aS | lS | aE | lE | z0 | z1 | z2 | z3 | z4 | z5 | z6 | z7 | z8 | z9 | z10 | z11 | z12 | z13 | z14 | z15 => k_is
end
