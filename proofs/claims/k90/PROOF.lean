import PyProof.Rows.All
import Wide.All
import OpenK.AllK
import Wide.FinOn
import Lean
import PyProof.EqAt
import PyProof.EqKinds
import PyProof.TupleCall
import PyProof.EqLayable
import PyProof.SumAny
import PyProof.ListRange
import PyProof.WalksEnum
import PyProof.ZipIter
import PyProof.EnumMake
import PyProof.ConsumeS
import PyProof.SeqI3
import PyProof.MaxThree
import PyProof.Rows.TupAdd
import PyProof.DictRoadsH
import PyProof.MeetsDict
import PyProof.FactsAll.dict
import PyProof.Rows.TupDisplay
import PySem.Challenge.RW_chargeyard_k90_whole_lack_of_all_sets
set_option Elab.async false
set_option linter.all false
set_option maxRecDepth 100000
set_option maxHeartbeats 4000000
set_option compiler.extract_closed false
set_option genSizeOf false
namespace L2
open PySem PySem.Spec PyProof.Rows
noncomputable abbrev Key := Sum Int Str
noncomputable def Zkg : Key -> Value -> Bool
  | .inl k, v => Value.isInt k v
  | .inr x, v => Value.isStrOf x v
noncomputable def Zsc (w : World) : Key -> Int
  | .inl k => hashInt k
  | .inr x => hashStr w x
theorem Zbm : ∀ {k : Key} {v : Value}, Zkg k v = true -> (∃ i t, k = Sum.inl i /\ v = Value.int i t) \/ (∃ x t, k = Sum.inr x /\ v = Value.str x t)
  | .inl i, v, h => by
    obtain ⟨t, e⟩ := Value.isInt_shape (k := i) (v := v) h
    exact .inl ⟨i, t, rfl, e⟩
  | .inr x, v, h => by
    obtain ⟨t, e⟩ := Value.isStrOf_shape (x := x) (v := v) h
    exact .inr ⟨x, t, rfl, e⟩
theorem Zk6 (i : Int) (t : Tok) : Zkg (.inl i) (.int i t) = true := by simp [Zkg, Value.isInt]
theorem ZlH (x : Str) (t : Tok) : Zkg (.inr x) (.str x t) = true := by simp [Zkg, Value.isStrOf]
theorem Zq3 (a b : Int) : decide ((Sum.inl a : Key) = Sum.inl b) = (a == b) := by
  by_cases e : a = b
  · subst e; simp
  · have h : ¬ (Sum.inl a : Key) = Sum.inl b := fun q => e (Sum.inl.inj q)
    rw [decide_eq_false h]
    exact (beq_eq_false_iff_ne.mpr e).symm
theorem ZqM (a b : Str) : decide ((Sum.inr a : Key) = Sum.inr b) = decide (a = b) := by
  by_cases e : a = b
  · subst e; simp
  · have h : ¬ (Sum.inr a : Key) = Sum.inr b := fun q => e (Sum.inr.inj q)
    rw [decide_eq_false h, decide_eq_false e]
theorem Zq0 (a : Int) (b : Str) : decide ((Sum.inl a : Key) = Sum.inr b) = false := decide_eq_false (fun q => nomatch q)
theorem ZqN (a : Str) (b : Int) : decide ((Sum.inr a : Key) = Sum.inl b) = false := decide_eq_false (fun q => nomatch q)
noncomputable def ZaZ (prog : Program) (w : World) : PySem.KeyKind prog w Key where
  is := Zkg
  hash := Zsc w
  inj := fun v a b ha hb => by
    rcases Zbm ha with ⟨i, t, rfl, rfl⟩ | ⟨x, t, rfl, rfl⟩
    · rcases Zbm hb with ⟨j, u, rfl, e⟩ | ⟨y, u, rfl, e⟩
      · injection e with e1 _; rw [e1]
      · exact nomatch e
    · rcases Zbm hb with ⟨j, u, rfl, e⟩ | ⟨y, u, rfl, e⟩
      · exact nomatch e
      · injection e with e1 _; rw [e1]
  byValue := fun k v h => by
    rcases Zbm h with ⟨i, t, rfl, rfl⟩ | ⟨x, t, rfl, rfl⟩ <;> rfl
  pyHash := fun hv h => by
    rcases Zbm hv with ⟨i, t, rfl, rfl⟩ | ⟨x, t, rfl, rfl⟩
    · exact wpAny_pyHash_int h
    · exact wpAny_pyHash_str h
  eqBool := fun hu hv h => by
    rcases Zbm hu with ⟨i, t, rfl, rfl⟩ | ⟨x, t, rfl, rfl⟩
    · rcases Zbm hv with ⟨j, u, rfl, rfl⟩ | ⟨y, u, rfl, rfl⟩
      · rw [Zq3] at h; exact wpAny_eqBool_int h
      · rw [Zq0] at h; exact SeqAt.EqAt.int_str i t y u _ _ _ _ h
    · rcases Zbm hv with ⟨j, u, rfl, rfl⟩ | ⟨y, u, rfl, rfl⟩
      · rw [ZqN] at h; exact SeqAt.EqAt.str_int x t j u _ _ _ _ h
      · rw [ZqM] at h; exact wpAny_eqBool_str h
  «strs» := fun k x t v h => by
    rcases Zbm h with ⟨i, u, rfl, e⟩ | ⟨y, u, rfl, e⟩
    · exact nomatch e
    · injection e with e1 _
      subst e1
      cases v <;> rfl
theorem Zir (prog : Program) (w : World) (i : Int) (t : Tok) : (ZaZ prog w).is (.inl i) (.int i t) = true := Zk6 i t
theorem Zix (prog : Program) (w : World) (x : Str) (t : Tok) : (ZaZ prog w).is (.inr x) (.str x t) = true := ZlH x t
end L2
namespace L2
open PySem PySem.Spec PyProof.Rows
inductive V where
  | non | bl (b : Bool) | int (i : Int) | str (x : Str) | byt (b : Array UInt8) | flt (b : UInt64) | ref (a : Addr) | ty (n : String)
  deriving DecidableEq
noncomputable def Zbc : V -> Value -> Prop
  | .non, u => u = Value.none
  | .bl b, u => u = Value.bool b
  | .int i, u => ∃ t, u = Value.int i t
  | .str x, u => ∃ t, u = Value.str x t
  | .byt b, u => ∃ t, u = Value.bytes b t
  | .flt b, u => ∃ t, u = Value.float b t
  | .ref a, u => u = Value.ref a
  | .ty n, u => u = Value.type n
noncomputable abbrev ZbE : List V -> List Value -> Prop := Paired Zbc
theorem ZbE.length {xs : List V} {us : List Value} (r : ZbE xs us) : xs.length = us.length := Paired.length r
theorem ZbE.get : ∀ {xs : List V} {us : List Value} {i : Nat} {x : V}, ZbE xs us -> xs[i]? = some x -> ∃ u, us[i]? = some u /\ Zbc x u
  | _, _, _, _, .nil, e => by simp at e
  | _, _, 0, _, .cons r _, e => by simp at e; subst e; exact ⟨_, rfl, r⟩
  | _, _, i + 1, x, .cons _ t, e => by
    obtain ⟨u, h1, h2⟩ := ZbE.get (i := i) (x := x) t (by simpa using e)
    exact ⟨u, by simpa using h1, h2⟩
theorem ZbE.set {x : V} {u : Value} (r : Zbc x u) : ∀ {xs : List V} {us : List Value} (i : Nat), ZbE xs us -> ZbE (xs.set i x) (us.set i u)
  | _, _, _, .nil => .nil
  | _, _, 0, .cons _ t => .cons r t
  | _, _, i + 1, .cons q t => .cons q (ZbE.set r i t)
theorem ZbE.append : ∀ {xs ys : List V} {us ws : List Value}, ZbE xs us -> ZbE ys ws -> ZbE (xs ++ ys) (us ++ ws)
  | _, _, _, _, .nil, s => s
  | _, _, _, _, .cons r t, s => .cons r (ZbE.append t s)
noncomputable def Zff : Option V -> Option Value -> Prop
  | some v, some u => Zbc v u
  | none, none => True
  | _, _ => False
noncomputable def KV {κ : Type} : List (κ × V) -> List (κ × Value) -> Prop := Paired fun (p : κ × V) (q : κ × Value) => p.1 = q.1 /\ Zbc p.2 q.2
noncomputable def kV : Key -> V
  | .inl i => .int i
  | .inr x => .str x
inductive HO where
  /-- a list -/
  | lst (xs : List V)
  /-- a tuple (never changes) -/
  | tup (xs : List V)
  /-- a dict whose keys are ints and texts; one whose keys are tuples of ints and texts (the empty one is both) -/
  | dK (kvs : List (Key × V)) | dT (kvs : List (List Key × V))
  /-- a set of ints: its members, its size -/
  | set (S : Int -> Bool) (n : Nat)
  /-- an instance of the class at C, its dict at dx, its attributes -/
  | ins (C dx : Addr) (fs : List (Str × V))
  /-- the dict of the instance at x -/
  | own (x : Addr)
  /-- the dict of an exception -/
  | xd (fs : List (Str × V))
  /-- a bound method, f of x -/
  | met (f x : Addr)
  /-- a range object lo, lo + 1, .. below hi -/
  | rng (lo hi : Int)
  /-- a thing that is known to the object (the script; a dict while a loop walks it): read, never written while it is so -/
  | frz (o : Obj) (u : HO)
  /-- a code object's table -/
  | tbl (ps : Array Value)
  /-- any other thing, by what is true of its one object (a def of one's own: SetO a S n := HO.ext fun h => ..) -/
  | ext (φ : Heap -> Prop)
noncomputable abbrev Hp := Addr -> Option HO
noncomputable def upd (H : Hp) (a : Addr) (o : HO) : Hp := fun b => if b = a then some o else H b
theorem Zaj {H : Hp} {a : Addr} {o : HO} : upd H a o a = some o := by unfold upd; rw [if_pos rfl]
theorem Zah {H : Hp} {a b : Addr} {o : HO} (h : b ≠ a) : upd H a o b = H b := by unfold upd; rw [if_neg h]
theorem Zqf {H : Hp} {a b : Addr} {o u : HO} (h : H a = some o) (h' : H b = some u) (d : o ≠ u) : a ≠ b := by
  intro e; subst e; rw [h] at h'; exact d (Option.some.inj h')
theorem Zau {H : Hp} {a b : Addr} {o : HO} (h : H a = some o) (h' : H b = none) : a ≠ b := by
  intro e; subst e; rw [h] at h'; cases h'
section
variable (P : Program) (w : World)
noncomputable def Zct (H : Hp) (h : Heap) (a : Addr) : HO -> Prop
  | .lst xs => xs.length <= sizeLine /\ ∃ (its : List Value) (n : Nat), ZbE xs its /\ h.get? a = some { cls := .type "list", data := .seq its.toArray n }
  | .tup xs => xs.length <= sizeLine /\ ∃ its : List Value, ZbE xs its /\ IsTup h a its.toArray
  | .dK kvs => kvs.length <= sizeLine /\ (a == sysModules) = false /\ ∃ vs, KV kvs vs /\ h.DictOf (ZaZ P w) a vs
  | .dT kvs => kvs.length <= sizeLine /\ (a == sysModules) = false /\ ∃ xs : List (List Key × Addr × Value),
      Paired (fun (p : List Key × V) (q : List Key × Addr × Value) => p.1 = q.1 /\ H q.2.1 = some (.tup (p.1.map kV)) /\ Zbc p.2 q.2.2) kvs xs /\
      ∃ o es ep, h.get? a = some o /\ o.ExactDict /\ o.data = .dict es ep /\ es.toList = xs.map (entryOfKey (tupleKind (ZaZ P w))) /\ (xs.map (·.1)).Nodup
  | .set S n => h.SetOf (intKind P w) a S n
  | .ins C dx fs => H dx = some (.own a) /\ fs.length <= 1000 /\ dx ≠ a /\ h.get? a = some (PySem.W.instObj C dx) /\
      ∃ mA, h.Ns1 dx mA /\ (∀ f, Zff (fs.lookup f) (mA f)) /\ PySem.Within mA (fs.map (·.1))
  | .own _ => ∃ o, h.get? a = some o
  | .xd fs => ∃ mA, h.Ns1 a mA /\ ∀ f, Zff (fs.lookup f) (mA f)
  | .rng lo hi => ∃ t u v, h.get? a = some { cls := .type "range", data := .fields #[.int lo t, .int hi u, .int 1 v] }
  | .frz o u => h.get? a = some o /\ Zct H h a u
  | .tbl ps => h.get? a = some { cls := .none, data := .fields ps }
  | .met f x => h.get? a = some (PySem.W.methodObj (.ref f) (.ref x))
  | .ext φ => φ h /\ (∃ o, h.get? a = some o) /\ ∀ h1 h2 : Heap, φ h1 -> (∀ o, h1.get? a = some o -> h2.get? a = some o) -> φ h2
noncomputable def HOk (H : Hp) (h : Heap) : Prop := ∀ a o, H a = some o -> Zct P w H h a o
end
section
variable {P : Program} {w : World} {H H' : Hp} {h h' : Heap} {a : Addr} {o : HO}
theorem Zct.lt (x : Zct P w H h a o) : a < h.objs.size := by
  cases o with
  | lst xs => obtain ⟨_, _, _, _, e⟩ := x; exact Heap.lt_size e
  | tup xs => obtain ⟨_, _, _, p⟩ := x; exact p.lt
  | dK kvs => obtain ⟨_, _, _, _, o, _, _, e, _⟩ := x; exact Heap.lt_size e
  | dT kvs => obtain ⟨_, _, _, _, o, _, _, e, _⟩ := x; exact Heap.lt_size e
  | set S n => obtain ⟨o, _, _, _, e, _⟩ := x; exact Heap.lt_size e
  | ins C dx fs => obtain ⟨_, _, _, e, _⟩ := x; exact Heap.lt_size e
  | own y => obtain ⟨_, e⟩ := x; exact Heap.lt_size e
  | xd fs => obtain ⟨_, ⟨_, _, _, e, _⟩, _⟩ := x; exact Heap.lt_size e
  | rng lo hi => obtain ⟨_, _, _, e⟩ := x; exact Heap.lt_size e
  | frz ob u => obtain ⟨e, _⟩ := x; exact Heap.lt_size e
  | tbl ps => exact Heap.lt_size (show h.get? a = some _ from x)
  | met f y => exact Heap.lt_size (show h.get? a = some _ from x)
  | ext φ => obtain ⟨_, ⟨_, e⟩, _⟩ := x; exact Heap.lt_size e
theorem Paired.mapP {α β : Type} {F G : α -> β -> Prop} : ∀ {l₁ : List α} {l₂ : List β}, Paired F l₁ l₂ -> (∀ a b, F a b -> G a b) -> Paired G l₁ l₂
  | _, _, .nil, _ => .nil
  | _, _, .cons r t, f => .cons (f _ _ r) (Paired.mapP t f)
theorem Zct.stay (x : Zct P w H h a o) (k : ∀ b u, (b = a \/ H b = some (.own a)) -> h.get? b = some u -> h'.get? b = some u)
    (ho : ∀ b, H b = some (.own a) -> H' b = some (.own a)) (ht : ∀ b xs, H b = some (.tup xs) -> H' b = some (.tup xs)) : Zct P w H' h' a o := by
  induction o with
  | lst xs => obtain ⟨z, its, n, r, e⟩ := x; exact ⟨z, its, n, r, k _ _ (.inl rfl) e⟩
  | tup xs => obtain ⟨z, its, r, ob, e, c⟩ := x; exact ⟨z, its, r, ob, k _ _ (.inl rfl) e, c⟩
  | dK kvs => obtain ⟨z, y, vs, r, ob, es, ep, e, c⟩ := x; exact ⟨z, y, vs, r, ob, es, ep, k _ _ (.inl rfl) e, c⟩
  | dT kvs =>
    obtain ⟨z, y, xs, r, ob, es, ep, e, c⟩ := x
    exact ⟨z, y, xs, Paired.mapP r fun p q z => ⟨z.1, ht _ _ z.2.1, z.2.2⟩, ob, es, ep, k _ _ (.inl rfl) e, c⟩
  | set S n => obtain ⟨ob, es, ep, t, e, c⟩ := x; exact ⟨ob, es, ep, t, k _ _ (.inl rfl) e, c⟩
  | ins C dx fs =>
    obtain ⟨d, z, ne, e, mA, ⟨od, es, ep, e2, c⟩, r⟩ := x
    exact ⟨ho _ d, z, ne, k _ _ (.inl rfl) e, mA, ⟨od, es, ep, k _ _ (.inr d) e2, c⟩, r⟩
  | own y => obtain ⟨ob, e⟩ := x; exact ⟨ob, k _ _ (.inl rfl) e⟩
  | xd fs => obtain ⟨mA, ⟨od, es, ep, e, c⟩, r⟩ := x; exact ⟨mA, ⟨od, es, ep, k _ _ (.inl rfl) e, c⟩, r⟩
  | rng lo hi => obtain ⟨t, u, v, e⟩ := x; exact ⟨t, u, v, k _ _ (.inl rfl) e⟩
  | frz ob u ih => obtain ⟨e, q⟩ := x; exact ⟨k _ _ (.inl rfl) e, ih q⟩
  | tbl ps =>
    have e : h.get? a = some { cls := .none, data := .fields ps } := x
    show h'.get? a = some { cls := .none, data := .fields ps }
    exact k a _ (.inl rfl) e
  | met f y =>
    have e : h.get? a = some (PySem.W.methodObj (.ref f) (.ref y)) := x
    show h'.get? a = some (PySem.W.methodObj (.ref f) (.ref y))
    exact k a _ (.inl rfl) e
  | ext φ => obtain ⟨p, ⟨o, e⟩, st⟩ := x; exact ⟨st _ _ p fun o q => k _ _ (.inl rfl) q, ⟨o, k _ _ (.inl rfl) e⟩, st⟩
theorem HOk.lt (x : HOk P w H h) (e : H a = some o) : a < h.objs.size := (x a o e).lt
theorem HOk.fresh (x : HOk P w H h) (e : h.objs.size <= a) : H a = none := by
  cases q : H a with
  | none => rfl
  | some u => exact absurd (Nat.lt_of_lt_of_le (x.lt q) e) (Nat.lt_irrefl _)
theorem HOk.kept (x : HOk P w H h) (k : ∀ b u, h.get? b = some u -> h'.get? b = some u) : HOk P w H h' := fun a o e =>
  (x a o e).stay (fun b u _ q => k b u q) (fun _ q => q) fun _ _ q => q
theorem HOk.laid (x : HOk P w H h) (k : ∀ b u, h.get? b = some u -> h'.get? b = some u) (hp : h.objs.size <= a) (new : Zct P w (upd H a o) h' a o) : HOk P w (upd H a o) h' := fun b u e => by
  have hn := x.fresh hp
  by_cases hb : b = a
  · subst hb; rw [Zaj] at e; cases e; exact new
  · rw [Zah hb] at e
    exact (x b u e).stay (fun c v _ q => k c v q) (fun c q => by rw [Zah (Zau q hn)]; exact q) fun c xs q => by rw [Zah (Zau q hn)]; exact q
end
noncomputable def Rd (H : Hp) (a : Addr) (u : HO) : Prop := H a = some u \/ ∃ o, H a = some (.frz o u)
theorem Rd.of {H : Hp} {a : Addr} {u : HO} (h : H a = some u) : Rd H a u := .inl h
theorem Rd.ok {P : Program} {w : World} {H : Hp} {h : Heap} {a : Addr} {u : HO} (r : Rd H a u) (x : HOk P w H h) : Zct P w H h a u := by
  rcases r with r | ⟨o, r⟩
  · exact x a u r
  · obtain ⟨_, q⟩ := x a _ r
    exact q
noncomputable def Mut : Option HO -> Prop
  | some (.lst _) => True
  | some (.dK _) => True
  | some (.dT _) => True
  | some (.set _ _) => True
  | some (.ins _ _ _) => True
  | some (.ext _) => True
  | _ => False
section
variable {P : Program} {w : World} {H : Hp} {h h' : Heap} {x e : Addr} {o' : HO}
theorem HOk.write (ok : HOk P w H h) (mu : Mut (H x)) (he : e = x \/ H e = some (.own x)) (k : ∀ b u, b ≠ e -> h.get? b = some u -> h'.get? b = some u) (heo : ∃ u, h'.get? e = some u)
    (new : Zct P w (upd H x o') h' x o') : HOk P w (upd H x o') h' := fun b u q => by
  have nown : ∀ c y, H c = some (.own y) -> c ≠ x := fun c y r z => by subst z; rw [r] at mu; exact mu
  have ntup : ∀ c xs, H c = some (.tup xs) -> c ≠ x := fun c xs r z => by subst z; rw [r] at mu; exact mu
  by_cases hb : b = x
  · subst hb; rw [Zaj] at q; cases q; exact new
  · rw [Zah hb] at q
    by_cases hbe : b = e
    · have q' : H b = some (.own x) := by
        rcases he with z | z
        · exact absurd (hbe.trans z) hb
        · rw [hbe]; exact z
      rw [q] at q'; cases q'
      obtain ⟨v, hv⟩ := heo
      exact ⟨v, by rw [hbe]; exact hv⟩
    · refine (ok b u q).stay (fun c v hc r => k c v ?_ r) (fun c r => by rw [Zah (nown c b r)]; exact r) fun c xs r => by rw [Zah (ntup c xs r)]; exact r
      rcases hc with rfl | hc
      · exact hbe
      · rintro rfl
        rcases he with z | z
        · exact nown c b hc z
        · rw [hc] at z; cases z; exact hb rfl
end
structure Un (fs ex : List Addr) (H H' : Hp) (h h' : Heap) : Prop where
  keep : ∀ b o, h.get? b = some o -> H b = none -> b ∉ fs -> b ∉ ex -> h'.get? b = some o
  slot : ∀ b o, h.get? b = some o -> H b = none -> b ∈ fs -> b ∉ ex -> ∃ sl, h'.get? b = some { o with slots := sl }
  free : ∀ b o, h.get? b = some o -> H b = none -> b ∉ ex -> H' b = none
  there : ∀ b o, h.get? b = some o -> b ∉ ex -> ∃ o', h'.get? b = some o'
  tups : ∀ b xs, H b = some (.tup xs) -> H' b = some (.tup xs)
  frzs : ∀ b o u, H b = some (.frz o u) -> H' b = some (.frz o u)
  tupo : ∀ b xs o, H b = some (.tup xs) -> h.get? b = some o -> b ∉ ex -> h'.get? b = some o
  tbls : ∀ b ps, H b = some (.tbl ps) -> ∃ more, H' b = some (.tbl (ps ++ more))
section
variable {fs fs' ex ex' : List Addr} {H H1 H2 : Hp} {h h1 h2 h' : Heap} {a x e : Addr} {o : HO}
theorem Un.any (u : Un fs ex H H1 h h1) {b : Addr} {ob : Obj} (q : h.get? b = some ob) (n : H b = none) (hx : b ∉ ex) : ∃ sl, h1.get? b = some { ob with slots := sl } := by
  by_cases hb : b ∈ fs
  · exact u.slot b ob q n hb hx
  · exact ⟨ob.slots, u.keep b ob q n hb hx⟩
theorem Un.kept (k : ∀ b u, h.get? b = some u -> h'.get? b = some u) : Un fs ex H H h h' :=
  ⟨fun b ob q _ _ _ => k b ob q, fun b ob q _ _ _ => ⟨ob.slots, k b ob q⟩, fun _ _ _ n _ => n, fun b ob q _ => ⟨ob, k b ob q⟩, fun _ _ q => q, fun _ _ _ q => q, fun b _ ob _ e _ => k b ob e, fun _ ps q => ⟨#[], by rw [q]; simp⟩⟩
theorem Un.refl : Un fs ex H H h h := Un.kept fun _ _ q => q
theorem Un.laid (k : ∀ b u, h.get? b = some u -> h'.get? b = some u) (hp : h.objs.size <= a) (hn : H a = none) : Un fs ex H (upd H a o) h h' where
  keep := fun b u q _ _ _ => k b u q
  slot := fun b u q _ _ _ => ⟨u.slots, k b u q⟩
  free := fun b u q n _ => by rw [Zah (Nat.ne_of_lt (Nat.lt_of_lt_of_le (Heap.lt_size q) hp))]; exact n
  there := fun b u q _ => ⟨u, k b u q⟩
  tups := fun b xs q => by rw [Zah (Zau q hn)]; exact q
  frzs := fun b u xs q => by rw [Zah (Zau q hn)]; exact q
  tupo := fun b _ ob _ e _ => k b ob e
  tbls := fun b ps q => ⟨#[], by rw [Zah (Zau q hn), q]; simp⟩
theorem Un.write (mu : Mut (H x)) (he : e = x \/ H e = some (.own x)) (k : ∀ b u, b ≠ e -> h.get? b = some u -> h'.get? b = some u) (heo : ∃ u, h'.get? e = some u) : Un fs ex H (upd H x o) h h' := by
  have hx : ∀ b, H b = none -> b ≠ x := fun b n z => by subst z; rw [n] at mu; exact mu
  have hb : ∀ b, H b = none -> b ≠ e := fun b n z => by
    subst z
    rcases he with r | r
    · exact hx b n r
    · rw [n] at r; cases r
  have hm : ∀ b u, H b = some u -> ¬ Mut (some u) -> b ≠ x := fun b u q nm z => by subst z; rw [q] at mu; exact nm mu
  refine ⟨fun b u q n _ _ => k b u (hb b n) q, fun b u q n _ _ => ⟨u.slots, k b u (hb b n) q⟩, fun b u q n _ => by rw [Zah (hx b n)]; exact n, fun b u q _ => ?_,
    fun b xs q => by rw [Zah (hm b _ q fun z => z)]; exact q, fun b u xs q => by rw [Zah (hm b _ q fun z => z)]; exact q, fun b xs u q e' _ => k b u (fun z => by
      rcases he with r | r
      · exact hm b _ q (fun y => y) (z.trans r)
      · rw [<- z, q] at r; cases r) e', fun b ps q => ⟨#[], by rw [Zah (hm b _ q fun z => z), q]; simp⟩⟩
  by_cases hbe : b = e
  · subst hbe; exact heo
  · exact ⟨u, k b u hbe q⟩
end
noncomputable def trk (h : Heap) (H : Hp) : List Addr := (List.range h.objs.size).filter fun a => (H a).isSome
noncomputable def Znz (h : Heap) (H : Hp) : Heap := PySem.W.hideAll h (trk h H)
theorem ZkC (h : Heap) (H : Hp) : (Znz h H).objs.size = h.objs.size := PySem.W.hideAll_size _ _
theorem Znj {h : Heap} {H : Hp} {b : Addr} {o : Obj} (e : h.get? b = some o) (n : H b = none) : (Znz h H).get? b = some o :=
  PySem.W.hideAll_get _ e fun hm => by
    have q : (H b).isSome = true := (List.mem_filter.mp hm).2
    rw [n] at q; simp at q
theorem Zps {h : Heap} {H : Hp} {b : Addr} {o : Obj} (e : (Znz h H).get? b = some o) : h.get? b = some o /\ H b = none := by
  have e' : h.get? b = some o := PySem.W.of_hideAll (trk h H) e
  refine ⟨e', ?_⟩
  cases q : H b with
  | none => rfl
  | some x =>
    have hm : b ∈ trk h H := List.mem_filter.mpr ⟨List.mem_range.mpr (Heap.lt_size e'), by simp [q]⟩
    have z : (Znz h H).get? b = none := PySem.W.hideAll_none (trk h H) hm
    rw [z] at e; cases e
end L2
namespace L2
open PySem PySem.Spec PyProof.Rows
structure Mod (K : PySem.W.Frag) (mg : Str -> Option Value) (base : Heap) : Prop where
  kin : K.In base
  glob : base.Ns mainGlobals mg
  blt : ∃ mb, base.Ns builtinsNs mb /\ ∀ x : Str, x ≠ "__name__" -> mb x = bootBuiltins x
  nolimit : base.NoLimit
structure Cx where
  prog : Program
  w : World
  K : PySem.W.Frag
  mg : Str -> Option Value
  base : Heap
  A : Around
  N : List Str
  s₀ : Shared
  H₀ : Hp
  env : Env
  outer : List Env
  stack : List Env
  ex : List Addr
  fn : Str -> Bool
  calm : Bool
  pn : List (Addr × Obj)
  xe : Value -> Shared -> Prop
noncomputable def frs (l : List Env) : List Addr := l.filterMap (·.frame)
noncomputable abbrev Cx.fs (X : Cx) : List Addr := frs X.outer
noncomputable def Vis (sc : Scope) (x : Str) : Prop := sc.names.lookup x = some .local \/ sc.names.lookup x = some .cell \/ sc.names.lookup x = some .free
noncomputable def Loc (sc : Scope) (x : Str) : Prop := sc.names.lookup x = some .local \/ sc.names.lookup x = some .cell
noncomputable def Zsd (env : Env) (h : Heap) (m : Str -> Option Value) (x : Str) (u : Value) : Prop :=
  (env.kindOf x = some .local /\ m x = some u) \/ ((env.kindOf x = some .cell \/ env.kindOf x = some .free) /\ ∃ c, env.cells.lookup x = some c /\ h.IsCell c (some u))
structure Cx.Ok (X : Cx) : Prop where
  mod : Mod X.K X.mg X.base
  kind : X.env.scope.kind = .function
  glob : X.env.globals = mainGlobals
  blt : X.env.builtins = builtinsNs
  above : X.s₀.heap.objs.size <= X.env.locals
  inj : ∀ x y c, X.env.cells.lookup x = some c -> X.env.cells.lookup y = some c -> x = y
  has : ∀ x, (X.env.kindOf x = some .cell \/ X.env.kindOf x = some .free) -> ∃ c, X.env.cells.lookup x = some c
  cab : ∀ x c, X.fn x = true -> X.env.cells.lookup x = some c -> X.s₀.heap.objs.size <= c
  hd : X.calm = true -> X.A.handled = none
  frames : X.A.frames = some X.stack
  stk : X.stack = X.outer \/ (X.stack = X.env :: X.outer /\ X.env.frame = some X.env.locals)
  exf : ∀ b ∈ X.ex, b ≠ X.env.locals /\ ∀ x c, X.env.cells.lookup x = some c -> c ≠ b
  bs : ∀ b o, X.base.get? b = some o -> X.s₀.heap.get? b = some o /\ (X.H₀ b = none \/ ∃ xs, X.H₀ b = some (.tup xs))
  bsz : X.base.objs.size <= X.s₀.heap.objs.size
  noex : ∀ b o, X.base.get? b = some o -> b ∉ X.ex
  exfs : ∀ b ∈ X.ex, b ∉ X.fs
  funs : X.s₀.heap.FunFrames X.base X.outer
  frf : ∀ b ∈ X.fs, X.H₀ b = none
structure Inv (X : Cx) (pins : List (Addr × Obj)) (σ : List (Option V)) (H : Hp) (s : Shared) : Prop where
  ok : X.Ok
  os : s.os = X.s₀.os
  bare : AllBare s.gens
  base : Un X.fs X.ex X.H₀ H X.s₀.heap s.heap
  loc : ∃ m, s.heap.Ns X.env.locals m /\ ∀ (i : Nat) (x : Str) (v : V), X.N[i]? = some x -> σ[i]? = some (some v) -> Vis X.env.scope x -> ∃ u, Zbc v u /\ Zsd X.env s.heap m x u
  cell : ∀ x c, X.env.cells.lookup x = some c -> ∃ v, s.heap.IsCell c v
  free : H X.env.locals = none
  freeC : ∀ x c, X.env.cells.lookup x = some c -> H c = none
  pin : ∀ p ∈ X.pn ++ pins, s.heap.get? p.1 = some p.2 /\ H p.1 = none /\ p.1 ≠ X.env.locals /\ p.1 ∉ X.fs /\ ∀ v, p.2.data ≠ .cell v
  hok : HOk X.prog X.w H s.heap
  len : σ.length = X.N.length
section
variable {X : Cx} {pins : List (Addr × Obj)} {σ : List (Option V)} {H H' : Hp} {s : Shared} {h' : Heap}
theorem Cx.Ok.nofr (ok : X.Ok) {b : Addr} {o : Obj} (e : X.base.get? b = some o) : b ∉ X.fs := fun hb => by
  have := (ok.funs.mem hb).1
  rw [e] at this; cases this
theorem Inv.bs (I : Inv X pins σ H s) : ∀ b o, X.base.get? b = some o -> s.heap.get? b = some o /\ (H b = none \/ ∃ xs, H b = some (.tup xs)) := fun b o e => by
  obtain ⟨e1, e2⟩ := I.ok.bs b o e
  rcases e2 with e2 | ⟨xs, e2⟩
  · exact ⟨I.base.keep b o e1 e2 (I.ok.nofr e) (I.ok.noex b o e), .inl (I.base.free b o e1 e2 (I.ok.noex b o e))⟩
  · exact ⟨I.base.tupo b xs o e2 e1 (I.ok.noex b o e), .inr ⟨xs, I.base.tups b xs e2⟩⟩
theorem Inv.bk (I : Inv X pins σ H s) : ∀ b o, X.base.get? b = some o -> s.heap.get? b = some o := fun b o e => (I.bs b o e).1
theorem Inv.mod (I : Inv X pins σ H s) : Mod X.K X.mg X.base := I.ok.mod
theorem Inv.kIn (I : Inv X pins σ H s) : X.K.In s.heap := I.ok.mod.kin.keeps I.bk
theorem Inv.lt (I : Inv X pins σ H s) : X.env.locals < s.heap.objs.size := let ⟨_, hn, _⟩ := I.loc; hn.lt
theorem Inv.sz (I : Inv X pins σ H s) : X.s₀.heap.objs.size <= s.heap.objs.size := Nat.le_trans I.ok.above (Nat.le_of_lt I.lt)
theorem Inv.nofs (I : Inv X pins σ H s) {a : Addr} (h : s.heap.objs.size <= a) : a ∉ X.fs := fun hb => by
  obtain ⟨_, o, ho, _⟩ := I.ok.funs.mem hb
  exact absurd (Nat.lt_of_lt_of_le (Heap.lt_size ho) (Nat.le_trans I.sz h)) (Nat.lt_irrefl _)
theorem Inv.cne (I : Inv X pins σ H s) : ∀ x c, X.env.cells.lookup x = some c -> c ≠ X.env.locals := fun x c e z => by
  obtain ⟨v, o, ho, hd⟩ := I.cell x c e
  obtain ⟨m, ⟨o', es, ep, ho', hd', _⟩, _⟩ := I.loc
  rw [z, ho'] at ho; cases ho; rw [hd'] at hd; cases hd
theorem Inv.funs (I : Inv X pins σ H s) : s.heap.FunFrames X.base X.outer := by
  have all : ∀ (l : List Env), (∀ b ∈ frs l, b ∈ X.fs) -> X.s₀.heap.FunFrames X.base l -> s.heap.FunFrames X.base l := by
    intro l
    induction l with
    | nil => intro _ _; trivial
    | cons env r ih =>
      intro hs hl
      obtain ⟨hk, ⟨L, o, hf, hn, ho, hd⟩, hr⟩ := hl
      have hL : L ∈ X.fs := hs L (by unfold frs; rw [List.filterMap_cons, hf]; exact List.mem_cons_self)
      obtain ⟨sl, e⟩ := I.base.slot L o ho (I.ok.frf L hL) hL fun z => I.ok.exfs L z hL
      exact ⟨hk, ⟨L, _, hf, hn, e, hd⟩, ih (fun b hb => hs b (by unfold frs; rw [List.filterMap_cons, hf]; exact List.mem_cons_of_mem _ hb)) hr⟩
  exact all X.outer (fun _ hb => hb) I.ok.funs
theorem Inv.stack (I : Inv X pins σ H s) : s.heap.FunFrames X.base X.stack := by
  rcases I.ok.stk with e | ⟨e, hf⟩
  · rw [e]; exact I.funs
  · rw [e]
    obtain ⟨m, hn, _⟩ := I.loc
    refine .cons (by rw [I.ok.kind]; decide) hf hn ?_ I.funs
    exact Heap.get?_none_of_le (Nat.le_trans I.ok.bsz I.ok.above)
theorem Inv.stkSub (I : Inv X pins σ H s) : ∀ b ∈ frs X.stack, b ∈ X.env.locals :: X.fs := fun b hb => by
  rcases I.ok.stk with e | ⟨e, hf⟩
  · rw [e] at hb; exact List.mem_cons_of_mem _ hb
  · rw [e] at hb
    unfold frs at hb
    rw [List.filterMap_cons, hf] at hb
    exact hb
theorem Inv.stkFree (I : Inv X pins σ H s) : ∀ b ∈ frs X.stack, H b = none := fun b hb => by
  rcases List.mem_cons.mp (I.stkSub b hb) with e | hb
  · rw [e]; exact I.free
  · obtain ⟨_, o, ho, _⟩ := I.ok.funs.mem hb
    exact I.base.free b o ho (I.ok.frf b hb) fun z => I.ok.exfs b z hb
theorem Inv.step {g' : Array GenState} {t' : Nat} {d' : Drawn} {ch : List Addr} (I : Inv X pins σ H s)
    (hch : ∀ b ∈ ch, (b ∈ X.ex \/ X.s₀.heap.objs.size <= b) /\ b ≠ X.env.locals /\ (∀ x c, X.env.cells.lookup x = some c -> c ≠ b) /\ ∀ p ∈ X.pn ++ pins, p.1 ≠ b)
    (keep : ∀ b o, b ≠ X.env.locals -> b ∉ X.fs -> b ∉ ch -> s.heap.get? b = some o -> H b = none -> h'.get? b = some o)
    (slot : ∀ b o, b ≠ X.env.locals -> b ∈ X.fs -> b ∉ ch -> s.heap.get? b = some o -> H b = none -> ∃ sl, h'.get? b = some { o with slots := sl }) (free : ∀ b o, b ∉ ch -> s.heap.get? b = some o -> H b = none -> H' b = none)
    (there : ∀ b o, b ∉ ch -> s.heap.get? b = some o -> ∃ o', h'.get? b = some o')
    (tups : ∀ b xs, H b = some (.tup xs) -> H' b = some (.tup xs)) (frzs : ∀ b o u, H b = some (.frz o u) -> H' b = some (.frz o u)) (tbls : ∀ b ps, H b = some (.tbl ps) -> ∃ more, H' b = some (.tbl (ps ++ more)))
    (ns : ∀ m, s.heap.Ns X.env.locals m -> h'.Ns X.env.locals m) (hok : HOk X.prog X.w H' h') (hg : AllBare g') (tupo : ∀ b xs o, b ∉ ch -> H b = some (.tup xs) -> s.heap.get? b = some o -> h'.get? b = some o) :
    Inv X pins σ H' { s with heap := h', gens := g', drawn := d', toks := t' } := by
  have neL : ∀ b o, X.s₀.heap.get? b = some o -> b ≠ X.env.locals := fun b o e => Nat.ne_of_lt (Nat.lt_of_lt_of_le (Heap.lt_size e) I.ok.above)
  have neC : ∀ b o, X.s₀.heap.get? b = some o -> b ∉ X.ex -> b ∉ ch := fun b o e hx hb => by
    rcases (hch b hb).1 with z | z
    · exact hx z
    · exact absurd (Nat.lt_of_lt_of_le (Heap.lt_size e) z) (Nat.lt_irrefl _)
  have cellK : ∀ x c, X.env.cells.lookup x = some c -> ∀ v, s.heap.IsCell c v -> h'.IsCell c v := fun x c e v ⟨o, ho, hd⟩ => by
    have nch : c ∉ ch := fun z => (hch c z).2.2.1 x c e rfl
    by_cases hc : c ∈ X.fs
    · obtain ⟨sl, q⟩ := slot c o (I.cne x c e) hc nch ho (I.freeC x c e)
      exact ⟨_, q, hd⟩
    · exact ⟨o, keep c o (I.cne x c e) hc nch ho (I.freeC x c e), hd⟩
  refine ⟨I.ok, I.os, hg, ⟨fun b o e n hb hx => ?_, fun b o e n hb hx => ?_, fun b o e n hx => ?_, fun b o e hx => ?_, fun b xs e => tups b xs (I.base.tups b xs e), fun b o xs e => frzs b o xs (I.base.frzs b o xs e), fun b xs o q e hx => tupo b xs o (neC b o e hx) (I.base.tups b xs q) (I.base.tupo b xs o q e hx), fun b ps e => ?_⟩, ?_, fun x c e => ?_, ?_, fun x c e => ?_, fun p hp => ?_, hok, I.len⟩
  · exact keep b o (neL b o e) hb (neC b o e hx) (I.base.keep b o e n hb hx) (I.base.free b o e n hx)
  · obtain ⟨sl, e1⟩ := I.base.slot b o e n hb hx
    obtain ⟨sl', e2⟩ := slot b _ (neL b o e) hb (neC b o e hx) e1 (I.base.free b o e n hx)
    exact ⟨sl', e2⟩
  · obtain ⟨o', e1⟩ := I.base.there b o e hx
    exact free b o' (neC b o e hx) e1 (I.base.free b o e n hx)
  · obtain ⟨o', e1⟩ := I.base.there b o e hx
    exact there b o' (neC b o e hx) e1
  · obtain ⟨m1, e1⟩ := I.base.tbls b ps e
    obtain ⟨m2, e2⟩ := tbls b _ e1
    exact ⟨m1 ++ m2, by rw [e2, Array.append_assoc]⟩
  · obtain ⟨m, hn, hl⟩ := I.loc
    refine ⟨m, ns m hn, fun i x v e1 e2 e3 => ?_⟩
    obtain ⟨u, r, l⟩ := hl i x v e1 e2 e3
    refine ⟨u, r, ?_⟩
    rcases l with l | ⟨k, c, e, z⟩
    · exact .inl l
    · exact .inr ⟨k, c, e, cellK x c e _ z⟩
  · obtain ⟨v, z⟩ := I.cell x c e
    exact ⟨v, cellK x c e v z⟩
  · obtain ⟨m, ⟨o, _, _, ho, _⟩, _⟩ := I.loc
    exact free _ o (fun z => (hch _ z).2.1 rfl) ho I.free
  · obtain ⟨v, o, ho, hd⟩ := I.cell x c e
    exact free c o (fun z => (hch c z).2.2.1 x c e rfl) ho (I.freeC x c e)
  · obtain ⟨e, n, ne, nf, d⟩ := I.pin p hp
    have nch : p.1 ∉ ch := fun z => (hch p.1 z).2.2.2 p hp rfl
    exact ⟨keep p.1 p.2 ne nf nch e n, free p.1 p.2 nch e n, ne, nf, d⟩
theorem Inv.un {t' : Nat} (I : Inv X pins σ H s) (u : Un X.fs [] H H' s.heap h') (hok : HOk X.prog X.w H' h') : Inv X pins σ H' { s with heap := h', toks := t' } := by
  obtain ⟨m, ⟨o, es, ep, ho, r⟩, _⟩ := id I.loc
  obtain ⟨sl, hL⟩ := u.any ho I.free (by simp)
  exact I.step (g' := s.gens) (d' := s.drawn) (ch := []) (fun _ z => nomatch z) (fun b o _ hb _ e n => u.keep b o e n hb (by simp)) (fun b o _ hb _ e n => u.slot b o e n hb (by simp)) (fun b o _ e n => u.free b o e n (by simp)) (fun b o _ e => u.there b o e (by simp)) u.tups u.frzs u.tbls (fun m' hm => by
    obtain ⟨o', es', ep', ho', r'⟩ := hm
    rw [ho] at ho'; cases ho'
    exact ⟨_, es', ep', hL, r'⟩) hok I.bare (fun b xs o _ q e => u.tupo b xs o q e (by simp))
theorem Inv.call {g' : Array GenState} {t' : Nat} {d' : Drawn} {ch : List Addr} (I : Inv X pins σ H s) (u : Un (frs X.stack) ch H H' s.heap h') (hok : HOk X.prog X.w H' h') (hg : AllBare g')
    (hch : ∀ b ∈ ch, (b ∈ X.ex \/ X.s₀.heap.objs.size <= b) /\ b ≠ X.env.locals /\ (∀ x c, X.env.cells.lookup x = some c -> c ≠ b) /\ ∀ p ∈ X.pn ++ pins, p.1 ≠ b) :
    Inv X pins σ H' { s with heap := h', gens := g', drawn := d', toks := t' } := by
  obtain ⟨m, ⟨o, es, ep, ho, r⟩, _⟩ := id I.loc
  obtain ⟨sl, hL⟩ := u.any ho I.free fun z => (hch _ z).2.1 rfl
  exact I.step (ch := ch) hch (fun b o hL hb hc e n => u.keep b o e n (fun z => (List.mem_cons.mp (I.stkSub b z)).elim hL hb) hc) (fun b o _ _ hc e n => u.any e n hc) (fun b o hc e n => u.free b o e n hc) (fun b o hc e => u.there b o e hc) u.tups u.frzs u.tbls (fun m' hm => by
    obtain ⟨o', es', ep', ho', r'⟩ := hm
    rw [ho] at ho'; cases ho'
    exact ⟨_, es', ep', hL, r'⟩) hok hg (fun b xs o hc q e => u.tupo b xs o q e hc)
theorem Inv.turned {t' : Nat} {it : Addr} (I : Inv X pins σ H s) (k : ∀ b o, b ≠ it -> s.heap.get? b = some o -> h'.get? b = some o) (hn : H it = none) (hL : it ≠ X.env.locals)
    (h1 : it ∈ X.ex \/ X.s₀.heap.objs.size <= it) (h2 : ∀ x c, X.env.cells.lookup x = some c -> c ≠ it) (h3 : ∀ p ∈ X.pn ++ pins, p.1 ≠ it) : Inv X pins σ H { s with heap := h', toks := t' } := by
  have nit : ∀ b u, H b = some u -> b ≠ it := fun b u e z => by rw [z, hn] at e; cases e
  refine I.step (g' := s.gens) (d' := s.drawn) (ch := [it]) (fun b hb => ?_) (fun b o _ _ hc e _ => k b o (fun z => hc (by simp [z])) e) (fun b o _ _ hc e _ => ⟨o.slots, k b o (fun z => hc (by simp [z])) e⟩) (fun _ _ _ _ n => n)
    (fun b o hc e => ⟨o, k b o (fun z => hc (by simp [z])) e⟩) (fun _ _ e => e) (fun _ _ _ e => e) (fun b ps e => ⟨#[], by rw [e]; simp⟩) (fun m hm => ?_) (fun b u e => ?_) I.bare (fun b _ o hc _ e => k b o (fun z => hc (by simp [z])) e)
  · have e : b = it := by simpa using hb
    subst e
    exact ⟨h1, hL, h2, h3⟩
  · obtain ⟨o, es, ep, ho, r⟩ := hm
    exact ⟨o, es, ep, k _ o (Ne.symm hL) ho, r⟩
  · refine (I.hok b u e).stay (fun c v hc q => k c v ?_ q) (fun _ q => q) fun _ _ q => q
    rcases hc with z | z
    · rw [z]; exact nit b u e
    · exact nit c _ z
theorem Inv.tok (I : Inv X pins σ H s) (t : Nat) : Inv X pins σ H { s with toks := t } := I.un (h' := s.heap) (t' := t) Un.refl I.hok
theorem Inv.kept {t' : Nat} (I : Inv X pins σ H s) (k : ∀ b u, s.heap.get? b = some u -> h'.get? b = some u) : Inv X pins σ H { s with heap := h', toks := t' } := I.un (Un.kept k) (I.hok.kept k)
theorem Inv.laid {a : Addr} {o : HO} {t' : Nat} (I : Inv X pins σ H s) (k : ∀ b u, s.heap.get? b = some u -> h'.get? b = some u) (hp : s.heap.objs.size <= a) (new : Zct X.prog X.w (upd H a o) h' a o) :
    Inv X pins σ (upd H a o) { s with heap := h', toks := t' } := I.un (Un.laid k hp (I.hok.fresh hp)) (I.hok.laid k hp new)
theorem Inv.write {x e : Addr} {o : HO} {t' : Nat} (I : Inv X pins σ H s) (mu : Mut (H x)) (he : e = x \/ H e = some (.own x)) (k : ∀ b u, b ≠ e -> s.heap.get? b = some u -> h'.get? b = some u) (heo : ∃ u, h'.get? e = some u)
    (new : Zct X.prog X.w (upd H x o) h' x o) : Inv X pins σ (upd H x o) { s with heap := h', toks := t' } := I.un (Un.write mu he k heo) (I.hok.write mu he k heo new)
theorem Inv.weak {σ' : List (Option V)} (I : Inv X pins σ H s) (hl : σ'.length = σ.length) (w : ∀ (i : Nat) v, σ'[i]? = some (some v) -> σ[i]? = some (some v)) : Inv X pins σ' H s :=
  ⟨I.ok, I.os, I.bare, I.base, let ⟨m, hn, hl'⟩ := I.loc; ⟨m, hn, fun i x v e1 e2 e3 => hl' i x v e1 (w i v e2) e3⟩, I.cell, I.free, I.freeC, I.pin, I.hok, hl.trans I.len⟩
theorem Inv.pins_of {pins' : List (Addr × Obj)} (I : Inv X pins σ H s) (h : ∀ p ∈ pins', s.heap.get? p.1 = some p.2 /\ H p.1 = none /\ p.1 ≠ X.env.locals /\ p.1 ∉ X.fs /\ ∀ v, p.2.data ≠ .cell v) : Inv X pins' σ H s :=
  ⟨I.ok, I.os, I.bare, I.base, I.loc, I.cell, I.free, I.freeC, fun p hp => (List.mem_append.mp hp).elim (fun z => I.pin p (List.mem_append_left _ z)) (h p), I.hok, I.len⟩
theorem ZiU {N : List Str} (hN : N.Nodup) {i j : Nat} {x : Str} (a : N[i]? = some x) (b : N[j]? = some x) : i = j := by
  obtain ⟨h1, e1⟩ := List.getElem?_eq_some_iff.mp a
  obtain ⟨h2, e2⟩ := List.getElem?_eq_some_iff.mp b
  exact (List.getElem_inj hN).mp (e1.trans e2.symm)
theorem Zh2 {M : Model} {A : Around} {E : Value -> Shared -> Prop} {i : Nat} {x : Str} {v : V} {u : Value} {Q : Unit -> Shared -> Prop} (I : Inv X pins σ H s) (hN : X.N.Nodup) (hi : X.N[i]? = some x) (hx : Loc X.env.scope x) (r : Zbc v u)
    (h : ∀ s', Inv X pins (σ.set i (some v)) H s' -> (∃ a, Heap.SameBut a s.heap s'.heap /\ (a = X.env.locals \/ X.env.cells.lookup x = some a)) -> Q () s') (hf : X.fn x = true \/ X.env.scope.names.lookup x = some .local := by first | exact .inl rfl | exact .inr rfl | assumption) : wpAny M A (storeName X.env x u) Q E s := by
  obtain ⟨m, hn, hl⟩ := id I.loc
  have hcls : (X.env.scope.kind == .class || (X.env.scope.kind == .module && X.env.locals != X.env.globals)) = false := by rw [I.ok.kind]; rfl
  have hiσ : i < σ.length := by rw [I.len]; exact (List.getElem?_eq_some_iff.mp hi).1
  have cne := I.cne
  have tracked : ∀ {a : Addr} {h' : Heap}, (∃ o, s.heap.get? a = some o /\ H a = none) -> Heap.SameBut a s.heap h' -> HOk X.prog X.w H h' := fun {a h'} ha hs b ob e => by
    obtain ⟨_, _, hfree⟩ := ha
    refine (I.hok b ob e).stay (fun c w' hc q => (hs.2 c ?_).trans q) (fun _ q => q) fun _ _ q => q
    rintro rfl
    rcases hc with rfl | hc
    · rw [hfree] at e; cases e
    · rw [hfree] at hc; cases hc
  rcases hx with hk | hk
  · refine wpAny_storeName_local hk hn (fun h' hn' hs => ?_) hcls
    obtain ⟨oL, _, _, hoL, _⟩ := id hn
    refine h _ ⟨I.ok, I.os, I.bare, ⟨fun b o e n hb hx => ?_, fun b o e n hb hx => ?_, I.base.free, fun b o e hx => ?_, I.base.tups, I.base.frzs, fun b xs o q e hx => (hs.2 b (Nat.ne_of_lt (Nat.lt_of_lt_of_le (Heap.lt_size e) I.ok.above))).trans (I.base.tupo b xs o q e hx), I.base.tbls⟩, ⟨_, hn', fun j y v' e1 e2 e3 => ?_⟩, fun y c e => ?_, I.free, I.freeC, fun p hp => ?_, tracked ⟨oL, hoL, I.free⟩ hs, by simpa using I.len⟩ ⟨_, hs, .inl rfl⟩
    · exact (hs.2 b (Nat.ne_of_lt (Nat.lt_of_lt_of_le (Heap.lt_size e) I.ok.above))).trans (I.base.keep b o e n hb hx)
    · obtain ⟨sl, e1⟩ := I.base.slot b o e n hb hx
      exact ⟨sl, (hs.2 b (Nat.ne_of_lt (Nat.lt_of_lt_of_le (Heap.lt_size e) I.ok.above))).trans e1⟩
    · obtain ⟨o', e1⟩ := I.base.there b o e hx
      exact ⟨o', (hs.2 b (Nat.ne_of_lt (Nat.lt_of_lt_of_le (Heap.lt_size e) I.ok.above))).trans e1⟩
    · by_cases hj : j = i
      · subst hj
        rw [hi] at e1; cases e1
        rw [List.getElem?_set_self hiσ] at e2
        cases e2
        exact ⟨u, r, .inl ⟨hk, by simp⟩⟩
      · rw [List.getElem?_set_ne (Ne.symm hj)] at e2
        obtain ⟨u', r', q⟩ := hl j y v' e1 e2 e3
        refine ⟨u', r', ?_⟩
        rcases q with ⟨k, e⟩ | ⟨k, c, e, z⟩
        · refine .inl ⟨k, ?_⟩
          have : y ≠ x := fun e => hj (ZiU hN e1 (e ▸ hi))
          simp [this, e]
        · exact .inr ⟨k, c, e, z.sameBut hs (cne y c e)⟩
    · obtain ⟨w', z⟩ := I.cell y c e
      exact ⟨w', z.sameBut hs (cne y c e)⟩
    · obtain ⟨e, n, ne, nf, d⟩ := I.pin p hp
      exact ⟨(hs.2 p.1 ne).trans e, n, ne, nf, d⟩
  · have hfn : X.fn x = true := by
      rcases hf with z | z
      · exact z
      · rw [z] at hk; cases hk
    obtain ⟨c, hc⟩ := I.ok.has x (.inl hk)
    obtain ⟨w', z⟩ := I.cell x c hc
    refine wpAny_storeName_cell I.ok.kind hk hc z (fun h' hc' hs => ?_)
    obtain ⟨oc, hoc, hocd⟩ := id z
    refine h { s with heap := h' } ⟨I.ok, I.os, I.bare, ⟨fun b o e n hb hx => ?_, fun b o e n hb hx => ?_, I.base.free, fun b o e hx => ?_, I.base.tups, I.base.frzs, fun b xs o q e hx => (hs.2 b (Nat.ne_of_lt (Nat.lt_of_lt_of_le (Heap.lt_size e) (I.ok.cab x c hfn hc)))).trans (I.base.tupo b xs o q e hx), I.base.tbls⟩, ⟨m, hn.sameBut hs (Ne.symm (cne x c hc)), fun j y v' e1 e2 e3 => ?_⟩, fun y c' e => ?_, I.free, I.freeC, fun p hp => ?_, tracked ⟨oc, hoc, I.freeC x c hc⟩ hs, by simpa using I.len⟩ ⟨c, hs, .inr hc⟩
    · exact (hs.2 b (Nat.ne_of_lt (Nat.lt_of_lt_of_le (Heap.lt_size e) (I.ok.cab x c hfn hc)))).trans (I.base.keep b o e n hb hx)
    · obtain ⟨sl, e1⟩ := I.base.slot b o e n hb hx
      exact ⟨sl, (hs.2 b (Nat.ne_of_lt (Nat.lt_of_lt_of_le (Heap.lt_size e) (I.ok.cab x c hfn hc)))).trans e1⟩
    · obtain ⟨o', e1⟩ := I.base.there b o e hx
      exact ⟨o', (hs.2 b (Nat.ne_of_lt (Nat.lt_of_lt_of_le (Heap.lt_size e) (I.ok.cab x c hfn hc)))).trans e1⟩
    · by_cases hj : j = i
      · subst hj
        rw [hi] at e1; cases e1
        rw [List.getElem?_set_self hiσ] at e2
        cases e2
        exact ⟨u, r, .inr ⟨.inl hk, c, hc, hc'⟩⟩
      · rw [List.getElem?_set_ne (Ne.symm hj)] at e2
        obtain ⟨u', r', q⟩ := hl j y v' e1 e2 e3
        refine ⟨u', r', ?_⟩
        rcases q with q | ⟨k, c', e, z'⟩
        · exact .inl q
        · refine .inr ⟨k, c', e, z'.sameBut hs ?_⟩
          rintro rfl
          exact hj (ZiU hN e1 (I.ok.inj _ _ _ e hc ▸ hi))
    · by_cases hcc : c' = c
      · subst hcc; exact ⟨_, hc'⟩
      · obtain ⟨w2, z2⟩ := I.cell y c' e
        exact ⟨w2, z2.sameBut hs hcc⟩
    · obtain ⟨e, n, ne, nf, d⟩ := I.pin p hp
      refine ⟨(hs.2 p.1 ?_).trans e, n, ne, nf, d⟩
      intro q
      rw [q, hoc] at e
      have q' : oc = p.2 := Option.some.inj e
      exact d w' (by rw [<- q']; exact hocd)
theorem Zjw {M : Model} {A : Around} {E : Value -> Shared -> Prop} {i : Nat} {x : Str} {v : V} {u : Value} {Q : Unit -> Shared -> Prop} (I : Inv X pins σ H s) (hN : X.N.Nodup) (hi : X.N[i]? = some x) (hx : Loc X.env.scope x) (r : Zbc v u)
    (h : ∀ s', Inv X pins (σ.set i (some v)) H s' -> Q () s') (hf : X.fn x = true \/ X.env.scope.names.lookup x = some .local := by first | exact .inl rfl | exact .inr rfl | assumption) : wpAny M A (storeName X.env x u) Q E s :=
  Zh2 I hN hi hx r (fun s' I' _ => h s' I') hf
theorem Inv.call' {s' : Shared} {ch : List Addr} (I : Inv X pins σ H s) (ho : s'.os = s.os) (u : Un (frs X.stack) ch H H' s.heap s'.heap) (hok : HOk X.prog X.w H' s'.heap) (hg : AllBare s'.gens)
    (hch : ∀ b ∈ ch, (b ∈ X.ex \/ X.s₀.heap.objs.size <= b) /\ b ≠ X.env.locals /\ (∀ x c, X.env.cells.lookup x = some c -> c ≠ b) /\ ∀ p ∈ X.pn ++ pins, p.1 ≠ b) : Inv X pins σ H' s' := by
  obtain ⟨h', g', d', t', o'⟩ := s'
  have e : o' = s.os := ho
  subst e
  exact I.call (g' := g') (t' := t') (d' := d') u hok hg hch
end
noncomputable abbrev XK := Value -> Option Addr -> Hp -> Prop
noncomputable abbrev St := List (Option V)
noncomputable abbrev VK := V -> Hp -> Prop
noncomputable abbrev TE := St -> Hp -> VK -> Prop
noncomputable abbrev TT := St -> Hp -> (Bool -> Hp -> Prop) -> Prop
noncomputable abbrev TA := St -> Hp -> (List V -> Hp -> Prop) -> Prop
structure Ends where
  nx : St -> Hp -> Prop
  rt : VK
  bk : St -> Hp -> Prop := fun _ _ => False
  ct : St -> Hp -> Prop := fun _ _ => False
noncomputable abbrev TS := Ends -> St -> Hp -> Prop
noncomputable def EP (X : Cx) (pins : List (Addr × Obj)) (σ : St) (Q : VK) (u : Value) (s' : Shared) : Prop := ∃ v H', Inv X pins σ H' s' /\ Zbc v u /\ Q v H'
noncomputable def TP (X : Cx) (pins : List (Addr × Obj)) (σ : St) (Q : Bool -> Hp -> Prop) (b : Bool) (s' : Shared) : Prop := ∃ H', Inv X pins σ H' s' /\ Q b H'
noncomputable def AP (X : Cx) (pins : List (Addr × Obj)) (σ : St) (Q : List V -> Hp -> Prop) (us : List Value) (s' : Shared) : Prop := ∃ vs H', Inv X pins σ H' s' /\ ZbE vs us /\ Q vs H'
noncomputable def SP (X : Cx) (pins : List (Addr × Obj)) (D : Ends) (f : Flow) (s' : Shared) : Prop :=
  match f with
  | .next => ∃ σ' H', Inv X pins σ' H' s' /\ D.nx σ' H'
  | .brk => ∃ σ' H', Inv X pins σ' H' s' /\ D.bk σ' H'
  | .cont => ∃ σ' H', Inv X pins σ' H' s' /\ D.ct σ' H'
  | .ret u => ∃ v σ' H', Inv X pins σ' H' s' /\ Zbc v u /\ D.rt v H'
noncomputable def PE (X : Cx) (e : Expr) (t : TE) : Prop :=
  ∀ (pins : List (Addr × Obj)) (s : Shared) (σ : St) (H : Hp) (Q : VK), Inv X pins σ H s -> t σ H Q -> wpAny (model X.prog X.w) X.A (eval e X.env) (EP X pins σ Q) X.xe s
noncomputable def PT (X : Cx) (e : Expr) (t : TT) : Prop :=
  ∀ (pins : List (Addr × Obj)) (s : Shared) (σ : St) (H : Hp) (Q : Bool -> Hp -> Prop), Inv X pins σ H s -> t σ H Q -> wpAny (model X.prog X.w) X.A (isTrue e X.env (eval e X.env)) (TP X pins σ Q) X.xe s
noncomputable def PW (X : Cx) (e : Expr) (t : TT) : Prop :=
  ∀ (whole : Sem Value) (pins : List (Addr × Obj)) (s : Shared) (σ : St) (H : Hp) (Q : Bool -> Hp -> Prop), Inv X pins σ H s -> t σ H Q -> wpAny (model X.prog X.w) X.A (isTrue e X.env whole) (TP X pins σ Q) X.xe s
theorem PW.pt {X : Cx} {e : Expr} {t : TT} (h : PW X e t) : PT X e t := h _
noncomputable def PA (X : Cx) (es : List Expr) (t : TA) : Prop :=
  ∀ (pos : Pos) (pins : List (Addr × Obj)) (s : Shared) (σ : St) (H : Hp) (Q : List V -> Hp -> Prop), Inv X pins σ H s -> t σ H Q -> wpAny (model X.prog X.w) X.A (spliced (backTo pos (starEach es X.env))) (AP X pins σ Q) X.xe s
noncomputable def PS (X : Cx) (st : Stmt) (t : TS) : Prop :=
  ∀ (pins : List (Addr × Obj)) (s : Shared) (σ : St) (H : Hp) (D : Ends), Inv X pins σ H s -> t D σ H -> wpAny (model X.prog X.w) X.A (exec st X.env) (SP X pins D) X.xe s
noncomputable def PSs (X : Cx) (st : List Stmt) (t : TS) : Prop :=
  ∀ (pins : List (Addr × Obj)) (s : Shared) (σ : St) (H : Hp) (D : Ends), Inv X pins σ H s -> t D σ H -> wpAny (model X.prog X.w) X.A (execs st X.env) (SP X pins D) X.xe s
theorem thn {α : Type} {t : Sem α} {Q Q' : α -> Shared -> Prop} {M : Model} {A : Around} {E : Value -> Shared -> Prop} {s : Shared} (h : wpAny M A t Q E s) (hQ : ∀ a s, Q a s -> Q' a s) : wpAny M A t Q' E s := wpAny_mono h hQ fun _ _ x => x
end L2
namespace L2
open PySem PySem.Spec PyProof.Rows
section
variable {X : Cx}
noncomputable def ZcR (i : Nat) : TE := fun σ H Q => ∃ v, σ[i]? = some (some v) /\ Q v H
noncomputable def tC (v : V) : TE := fun _ H Q => Q v H
theorem ZqZ {i : Nat} {x : Str} {pos : Pos} (hN : X.N[i]? = some x) (hv : Vis X.env.scope x) (hd : (x == ("__debug__" : Str)) = false := by decide) (hcd : (x == ("__classdict__" : Str)) = false := by decide) : PE X (.Name x pos) (ZcR i) := by
  intro pins s σ H Q I h
  obtain ⟨v, e, h⟩ := h
  obtain ⟨m, hn, hl⟩ := I.loc
  obtain ⟨u, r, l⟩ := hl i x v hN e hv
  have fin : EP X pins σ Q u s := ⟨v, H, I, r, h⟩
  rcases l with ⟨hk, hm⟩ | ⟨hk, c, hc, hcell⟩
  · exact wpAny_Name (wpAny_loadName_local I.ok.kind hk hn hm fin) hd
  · rcases hk with hk | hk
    · exact wpAny_Name (wpAny_loadName_cell I.ok.kind hk hc hcell fin) hd
    · exact wpAny_Name (wpAny_loadName_free I.ok.kind hk hc hcell fin hcd) hd
theorem Zai {i j pos} : PE X (.Constant (.int i) j pos) (tC (.int i)) := fun _ _ _ H _ I h => wpAny_Constant_int ⟨.int i, H, I.tok _, ⟨_, rfl⟩, h⟩
theorem ZiA {b j pos} : PE X (.Constant (.bool b) j pos) (tC (.bl b)) := fun _ _ _ H _ I h => Constant_bool ⟨.bl b, H, I, rfl, h⟩
theorem ZhE {j pos} : PE X (.Constant .none j pos) (tC .non) := fun _ _ _ H _ I h => Constant_none ⟨.non, H, I, rfl, h⟩
theorem ZfA {x j pos} : PE X (.Constant (.str x) j pos) (tC (.str x)) := fun _ _ _ H _ I h => Calls.Constant_str ⟨.str x, H, I.tok _, ⟨_, rfl⟩, h⟩
noncomputable def Gl (X : Cx) (x : Str) : Prop := X.env.kindOf x = some .globalImplicit
theorem Zin {E : Value -> Shared -> Prop} {pins : List (Addr × Obj)} {s : Shared} {σ : St} {H : Hp} {x : Str} {u : Value} {pos : Pos} {Q : Value -> Shared -> Prop} (I : Inv X pins σ H s) (hg : Gl X x) (hm : X.mg x = some u) (h : Q u s)
    (hd : (x == ("__debug__" : Str)) = false := by decide) : wpAny (model X.prog X.w) X.A (eval (.Name x pos) X.env) Q E s :=
  Calls.Name_function_global I.ok.kind hg (Calls.loadGlobal_global (by rw [I.ok.glob]; exact I.mod.glob.keeps I.bk) hm h) hd
theorem ZeA {E : Value -> Shared -> Prop} {pins : List (Addr × Obj)} {s : Shared} {σ : St} {H : Hp} {x : Str} {u : Value} {pos : Pos} {Q : Value -> Shared -> Prop} (I : Inv X pins σ H s) (hg : Gl X x) (hm : X.mg x = none) (hv : bootBuiltins x = some u) (h : Q u s)
    (hn : x ≠ "__name__" := by decide) (hd : (x == ("__debug__" : Str)) = false := by decide) : wpAny (model X.prog X.w) X.A (eval (.Name x pos) X.env) Q E s := by
  obtain ⟨mb, h1, h2⟩ := I.mod.blt
  exact Calls.Name_function_global I.ok.kind hg (Calls.loadGlobal_builtin (by rw [I.ok.glob]; exact I.mod.glob.keeps I.bk) hm (by rw [I.ok.blt]; exact h1.keeps I.bk) ((h2 x hn).trans hv) h) hd
theorem Zfx {x : Str} {v : V} {u : Value} {pos : Pos} (hg : Gl X x) (hm : X.mg x = some u) (r : Zbc v u) (hd : (x == ("__debug__" : Str)) = false := by decide) : PE X (.Name x pos) (tC v) :=
  fun _ _ _ H _ I h => Zin I hg hm ⟨v, H, I, r, h⟩ hd
theorem ZlS {x : Str} {v : V} {u : Value} {pos : Pos} (hg : Gl X x) (hm : X.mg x = none) (hv : bootBuiltins x = some u) (r : Zbc v u) (hn : x ≠ "__name__" := by decide) (hd : (x == ("__debug__" : Str)) = false := by decide) : PE X (.Name x pos) (tC v) :=
  fun _ _ _ H _ I h => ZeA I hg hm hv ⟨v, H, I, r, h⟩ hn hd
variable {a b : Expr} {ta tb : TE} {pos : Pos}
noncomputable def PC (X : Cx) (op : CmpOp) (a b : Expr) (t : TE) : Prop :=
  ∀ (pins : List (Addr × Obj)) (s : Shared) (σ : St) (H : Hp) (Q : VK), Inv X pins σ H s -> t σ H Q ->
    wpAny (model X.prog X.w) X.A (eval a X.env) (fun v s₁ => wpAny (model X.prog X.w) X.A (eval b X.env) (fun u s₂ => wpAny (model X.prog X.w) X.A (compareOp op v u) (EP X pins σ Q) X.xe s₂) X.xe s₁) X.xe s
theorem Zjm (b : Expr) {op : CmpOp} (h : op ≠ .In) (h2 : op ≠ .NotIn) : behindInMarks op b = false := by
  have e1 : (op == CmpOp.In) = false := by cases op <;> first | rfl | exact absurd rfl h
  have e2 : (op == CmpOp.NotIn) = false := by cases op <;> first | rfl | exact absurd rfl h2
  cases b <;> simp [behindInMarks, e1, e2]
noncomputable def ZrY (ta : TE) : TE := fun σ H Q => ta σ H fun x H1 => Q (.bl (decide (x = .non))) H1
noncomputable def Zqt (ta : TE) : TE := fun σ H Q => ta σ H fun x H1 => Q (.bl (!decide (x = .non))) H1
theorem Zbc.none_iff {x : V} {v : Value} (r : Zbc x v) : (v == Value.none) = decide (x = .non) := by
  cases x with
  | non => cases r; rfl
  | bl _ => cases r; rfl
  | int _ => obtain ⟨t, rfl⟩ := r; rfl
  | str _ => obtain ⟨t, rfl⟩ := r; rfl
  | byt _ => obtain ⟨t, rfl⟩ := r; rfl
  | flt _ => obtain ⟨t, rfl⟩ := r; rfl
  | ref _ => cases r; rfl
  | ty _ => cases r; rfl
theorem ZpJ {j pos'} (ha : PE X a ta) : PC X .Is a (.Constant .none j pos') (ZrY ta) := by
  intro pins s σ H Q I h
  refine thn (ha pins s σ H _ I h) fun v s1 ⟨x, H1, I1, r1, q1⟩ => ?_
  exact Constant_none (is_none_gen ⟨.bl _, H1, I1, by rw [r1.none_iff]; rfl, q1⟩)
theorem ZgK {j pos'} (ha : PE X a ta) : PC X .IsNot a (.Constant .none j pos') (Zqt ta) := by
  intro pins s σ H Q I h
  refine thn (ha pins s σ H _ I h) fun v s1 ⟨x, H1, I1, r1, q1⟩ => ?_
  exact Constant_none (isnot_none_gen ⟨.bl _, H1, I1, by rw [r1.none_iff]; rfl, q1⟩)
noncomputable def tB (t : TE) : TT := fun σ H Q => t σ H fun x H1 => ∃ c, x = .bl c /\ Q c H1
theorem ZpH {op : CmpOp} {t : TE} (h : PC X op a b t) (h1 : behindInMarks op b = false := by first | exact Zjm _ (by decide) (by decide) | rfl) : PE X (.Compare a [op] [b] pos) t := fun pins s σ H Q I hw => wpAny_Compare1 (h pins s σ H Q I hw) h1
theorem ZeC {op : CmpOp} {t : TE} (h : PC X op a b t) (h1 : behindInMarks op b = false := by first | exact Zjm _ (by decide) (by decide) | rfl) : PT X (.Compare a [op] [b] pos) (tB t) := by
  intro pins s σ H Q I hw
  refine wpAny_isTrue_Compare1 (thn (h pins s σ H _ I hw) fun v s1 h1 => thn h1 fun u s2 h2 => thn h2 fun c s3 ⟨x, H1, I1, r1, q1⟩ => ?_) h1
  obtain ⟨d, rfl, q⟩ := q1
  cases r1
  exact wpAny_truthy_bool ⟨H1, I1, q⟩
theorem Zjb {e : Expr} {t : TE} (h : PE X e t) (he : ∀ whole, isTrue e X.env whole = (do let v <- whole; standAt e.pos; holding [v] (truthy v)) := by intro _; rfl) : PT X e (tB t) := by
  intro pins s σ H Q I hw
  refine isTrue_plain (thn (h pins s σ H _ I hw) fun v s1 ⟨x, H1, I1, r1, q1⟩ => ?_) (he _)
  obtain ⟨d, rfl, q⟩ := q1
  cases r1
  exact wpAny_truthy_bool ⟨H1, I1, q⟩
variable {tA tB' : TT} {rest : List Expr}
noncomputable def ZrQ (t u : TT) : TT := fun σ H Q => t σ H fun c H1 => if c = true then u σ H1 Q else Q false H1
noncomputable def tOr (t u : TT) : TT := fun σ H Q => t σ H fun c H1 => if c = true then Q true H1 else u σ H1 Q
noncomputable def ZrV (t : TT) : TT := fun σ H Q => t σ H fun c H1 => Q (!c) H1
theorem Zkz (ha : PT X a tA) : PW X (.BoolOp .And [a] pos) tA := by
  intro wh pins s σ H Q I h
  refine isTrue_and (thn (ha pins s σ H Q I h) fun c s1 e => ?_)
  cases c with
  | true => exact isTrue_and_nil e
  | false => exact e
theorem ZnD (ha : PT X a tA) : PW X (.BoolOp .Or [a] pos) tA := by
  intro wh pins s σ H Q I h
  refine isTrue_or (thn (ha pins s σ H Q I h) fun c s1 e => ?_)
  cases c with
  | false => exact isTrue_or_nil e
  | true => exact e
theorem ZnP (ha : PT X a tA) (hb : PW X (.BoolOp .And (b :: rest) pos) tB') : PW X (.BoolOp .And (a :: b :: rest) pos) (ZrQ tA tB') := by
  intro wh pins s σ H Q I h
  refine isTrue_and (thn (ha pins s σ H _ I h) fun c s1 ⟨H1, I1, q1⟩ => ?_)
  cases c with
  | true => exact hb wh pins s1 σ H1 Q I1 q1
  | false => exact ⟨H1, I1, q1⟩
theorem Zpa (ha : PT X a tA) (hb : PW X (.BoolOp .Or (b :: rest) pos) tB') : PW X (.BoolOp .Or (a :: b :: rest) pos) (tOr tA tB') := by
  intro wh pins s σ H Q I h
  refine isTrue_or (thn (ha pins s σ H _ I h) fun c s1 ⟨H1, I1, q1⟩ => ?_)
  cases c with
  | true => exact ⟨H1, I1, q1⟩
  | false => exact hb wh pins s1 σ H1 Q I1 q1
theorem Zj1 (ha : PT X a tA) : PT X (.UnaryOp .Not a pos) (ZrV tA) := by
  intro pins s σ H Q I h
  exact isTrue_not (ha pins s σ H (fun c H1 => Q (!c) H1) I h)
noncomputable def Zqw (ta tb : TE) : TE := fun σ H Q => ta σ H fun x H1 => ∃ c, x = .bl c /\ if c = true then tb σ H1 Q else Q (.bl false) H1
noncomputable def ZqT (ta : TE) : TE := fun σ H Q => ta σ H fun x H1 => ∃ c, x = .bl c /\ Q (.bl (!c)) H1
theorem ZnR {op} {t : TE} (h : PE X a t) : PE X (.BoolOp op [a] pos) t := fun pins s σ H Q I hw => BoolOp_one (h pins s σ H Q I hw)
theorem Zob (ha : PE X a ta) (hb : PE X (.BoolOp .And (b :: rest) pos) tb) : PE X (.BoolOp .And (a :: b :: rest) pos) (Zqw ta tb) := by
  intro pins s σ H Q I h
  refine BoolOp_and (thn (ha pins s σ H _ I h) fun v s1 ⟨x, H1, I1, r1, q1⟩ => ?_)
  obtain ⟨c, rfl, q1⟩ := q1
  cases r1
  refine wpAny_truthy_bool ?_
  cases c with
  | true => exact hb pins s1 σ H1 Q I1 q1
  | false => exact ⟨.bl false, H1, I1, rfl, q1⟩
theorem ZqF (ha : PE X a ta) : PE X (.UnaryOp .Not a pos) (ZqT ta) := by
  intro pins s σ H Q I h
  refine UnaryOp_ (thn (ha pins s σ H _ I h) fun v s1 ⟨x, H1, I1, r1, q1⟩ => ?_)
  obtain ⟨c, rfl, q1⟩ := q1
  cases r1
  exact not_of (wpAny_truthy_bool ⟨.bl (!c), H1, I1, rfl, q1⟩)
end
end L2
namespace L2
open PySem PySem.Spec PyProof.Rows
noncomputable def SqL (K : PySem.W.Frag) (H : Hp) (a : Addr) (xs : List V) : Prop :=
  Rd H a (.lst xs) \/
    ∃ (o : Obj) (its : Array Value) (n : Nat), K.lookup a = some o /\ o.cls = .type "list" /\ o.dict = none /\ o.data = .seq its n /\ its.size <= sizeLine /\ ZbE xs its.toList
noncomputable def SqT (K : PySem.W.Frag) (H : Hp) (a : Addr) (xs : List V) : Prop :=
  Rd H a (.tup xs) \/
    ∃ (o : Obj) (its : Array Value) (n : Nat), K.lookup a = some o /\ o.cls = .type "tuple" /\ o.data = .seq its n /\ its.size <= sizeLine /\ ZbE xs its.toList
noncomputable def Zsl : Value -> Option V
  | .none => some .non
  | .bool b => some (.bl b)
  | .int i _ => some (.int i)
  | .str x _ => some (.str x)
  | .bytes b _ => some (.byt b)
  | .float b _ => some (.flt b)
  | .ref a => some (.ref a)
  | .type n => some (.ty n)
  | _ => none
theorem Zbc.abs {x : V} {u : Value} (r : Zbc x u) : Zsl u = some x := by
  cases x with
  | non => cases r; rfl
  | bl _ => cases r; rfl
  | int _ => obtain ⟨t, rfl⟩ := r; rfl
  | str _ => obtain ⟨t, rfl⟩ := r; rfl
  | byt _ => obtain ⟨t, rfl⟩ := r; rfl
  | flt _ => obtain ⟨t, rfl⟩ := r; rfl
  | ref _ => cases r; rfl
  | ty _ => cases r; rfl
theorem Zbc.inj {x y : V} {u : Value} (r : Zbc x u) (q : Zbc y u) : x = y := Option.some.inj (r.abs.symm.trans q.abs)
theorem ZbE.inj : ∀ {xs ys : List V} {us : List Value}, ZbE xs us -> ZbE ys us -> xs = ys
  | _, _, _, .nil, .nil => rfl
  | _, _, _, .cons r t, .cons r' t' => by rw [r.inj r', ZbE.inj t t']
section
variable {X : Cx} {pins : List (Addr × Obj)} {σ : St} {H : Hp} {s : Shared} {a : Addr} {xs ys : List V}
theorem SqL.of {K : PySem.W.Frag} (h : H a = some (.lst xs)) : SqL K H a xs := .inl (.inl h)
theorem SqT.of {K : PySem.W.Frag} (h : H a = some (.tup xs)) : SqT K H a xs := .inl (.inl h)
theorem Inv.list (I : Inv X pins σ H s) (h : SqL X.K H a xs) : ∃ its : List Value, ZbE xs its /\ PlainL s.heap a its.toArray /\ xs.length <= sizeLine := by
  rcases h with h | ⟨o, its, n, hk, hc, hd, hs, hz, r⟩
  · obtain ⟨z, its, n, r, e⟩ := h.ok I.hok
    exact ⟨its, r, ⟨_, n, e, rfl, rfl, rfl⟩, z⟩
  · refine ⟨its.toList, r, ⟨o, n, I.kIn a o hk, hc, hd, by simpa using hs⟩, ?_⟩
    have e := r.length
    simp only [Array.length_toList] at e
    omega
theorem Inv.tuple (I : Inv X pins σ H s) (h : SqT X.K H a xs) : ∃ its : List Value, ZbE xs its /\ IsTup s.heap a its.toArray /\ xs.length <= sizeLine := by
  rcases h with h | ⟨o, its, n, hk, hc, hs, hz, r⟩
  · obtain ⟨z, its, r, p⟩ := h.ok I.hok
    exact ⟨its, r, p, z⟩
  · refine ⟨its.toList, r, ⟨o, I.kIn a o hk, hc, n, by simpa using hs⟩, ?_⟩
    have e := r.length
    simp only [Array.length_toList] at e
    omega
theorem Inv.list_inj (I : Inv X pins σ H s) (h : SqL X.K H a xs) (h' : SqL X.K H a ys) : xs = ys := by
  obtain ⟨its, r, ⟨o, n, e, _, _, d⟩, _⟩ := I.list h
  obtain ⟨its', r', ⟨o', n', e', _, _, d'⟩, _⟩ := I.list h'
  rw [e] at e'; cases e'
  rw [d] at d'
  injection d' with d1 _
  have : its = its' := by simpa using congrArg Array.toList d1
  subst this
  exact r.inj r'
theorem Inv.tuple_inj (I : Inv X pins σ H s) (h : SqT X.K H a xs) (h' : SqT X.K H a ys) : xs = ys := by
  obtain ⟨its, r, ⟨o, e, _, n, d⟩, _⟩ := I.tuple h
  obtain ⟨its', r', ⟨o', e', _, n', d'⟩, _⟩ := I.tuple h'
  rw [e] at e'; cases e'
  rw [d] at d'
  injection d' with d1 _
  have : its = its' := by simpa using congrArg Array.toList d1
  subst this
  exact r.inj r'
end
noncomputable abbrev Cx.wish (X : Cx) (E : Value -> Shared -> Prop) : Cx := { X with xe := E }
noncomputable abbrev Cx.nox (X : Cx) : Cx := X.wish fun _ _ => False
theorem Cx.Ok.wish {X : Cx} (ok : X.Ok) (E : Value -> Shared -> Prop) : (X.wish E).Ok :=
  ⟨ok.mod, ok.kind, ok.glob, ok.blt, ok.above, ok.inj, ok.has, ok.cab, ok.hd, ok.frames, ok.stk, ok.exf, ok.bs, ok.bsz, ok.noex, ok.exfs, ok.funs, ok.frf⟩
theorem Cx.Ok.unwish {X : Cx} {E : Value -> Shared -> Prop} (ok : (X.wish E).Ok) : X.Ok :=
  ⟨ok.mod, ok.kind, ok.glob, ok.blt, ok.above, ok.inj, ok.has, ok.cab, ok.hd, ok.frames, ok.stk, ok.exf, ok.bs, ok.bsz, ok.noex, ok.exfs, ok.funs, ok.frf⟩
section
variable {X : Cx} {pins : List (Addr × Obj)} {σ : St} {H : Hp} {s : Shared} {E : Value -> Shared -> Prop}
theorem Inv.wish (I : Inv X pins σ H s) (E : Value -> Shared -> Prop) : Inv (X.wish E) pins σ H s := ⟨I.ok.wish E, I.os, I.bare, I.base, I.loc, I.cell, I.free, I.freeC, I.pin, I.hok, I.len⟩
theorem Inv.unwish (I : Inv (X.wish E) pins σ H s) : Inv X pins σ H s := ⟨I.ok.unwish, I.os, I.bare, I.base, I.loc, I.cell, I.free, I.freeC, I.pin, I.hok, I.len⟩
theorem SP.unwish {D : Ends} {f : Flow} {s' : Shared} (h : SP (X.wish E) pins D f s') : SP X pins D f s' := by
  cases f with
  | next => obtain ⟨σ', H', I, q⟩ := h; exact ⟨σ', H', I.unwish, q⟩
  | brk => obtain ⟨σ', H', I, q⟩ := h; exact ⟨σ', H', I.unwish, q⟩
  | cont => obtain ⟨σ', H', I, q⟩ := h; exact ⟨σ', H', I.unwish, q⟩
  | ret u => obtain ⟨v, σ', H', I, r, q⟩ := h; exact ⟨v, σ', H', I.unwish, r, q⟩
theorem PSs.nox {st : List Stmt} {t : TS} (h : PSs X.nox st t) : PSs X st t := fun pins s σ H D I hw =>
  wpAny_mono (h pins s σ H D (I.wish _) hw) (fun _ _ q => q.unwish) fun _ _ z => False.elim z
end
section
variable {X : Cx} {st : Stmt} {rest : List Stmt} {t u : TS} {e : Expr} {te : TE} {pos : Pos}
noncomputable def Zqp : TS := fun D σ H => D.nx σ H
noncomputable def ZrA (t u : TS) : TS := fun D σ H => t { D with nx := u D } σ H
theorem ZaE : PSs X [] Zqp := fun _ _ σ H _ I h => wpAny_execs_nil ⟨σ, H, I, h⟩
theorem Zaf (h1 : PS X st t) (h2 : PSs X rest u) : PSs X (st :: rest) (ZrA t u) := by
  intro pins s σ H D I h
  refine wpAny_execs_cons (thn (h1 pins s σ H { D with nx := u D } I h) fun f s1 q => ?_)
  cases f with
  | next =>
    obtain ⟨σ', H', I', q⟩ := q
    exact h2 pins s1 σ' H' D I' q
  | ret v => exact q
  | brk => exact q
  | cont => exact q
theorem Zag (h1 : PS X st t) : PSs X [st] t := by
  intro pins s σ H D I h
  refine wpAny_execs_cons (thn (h1 pins s σ H D I h) fun f s1 q => ?_)
  cases f with
  | next => exact wpAny_execs_nil q
  | ret v => exact q
  | brk => exact q
  | cont => exact q
theorem Inv.quiet {pins : List (Addr × Obj)} {σ : St} {H : Hp} {s : Shared} (I : Inv X pins σ H s) : interactive X.env = false := by simp [interactive, I.ok.kind]
noncomputable def Zit (te : TE) : TS := fun D σ H => te σ H fun _ H1 => D.nx σ H1
theorem Zbe (he : PE X e te) (hs : swapsWith e none pos.line X.env = pure false := by rfl) : PS X (.Expr e pos) (Zit te) := by
  intro pins s σ H D I h
  exact wpAny_Expr_any (thn (he pins s σ H _ I h) fun v s1 ⟨x, H1, I1, r1, q1⟩ => ⟨σ, H1, I1, q1⟩) I.quiet hs
noncomputable def ZpB (te : TE) : TS := fun D σ H => te σ H D.rt
theorem Zav (he : PE X e te) : PS X (.Return (some e) pos) (ZpB te) := by
  intro pins s σ H D I h
  exact wpAny_Return_some (thn (he pins s σ H _ I h) fun v s1 ⟨x, H1, I1, r1, q1⟩ => ⟨x, σ, H1, I1, r1, q1⟩)
noncomputable def ZrH (c : TT) (t u : TS) : TS := fun D σ H => c σ H fun b H1 => if b = true then t D σ H1 else u D σ H1
theorem Zcj {c : Expr} {a b : List Stmt} {tc : TT} (hc : PT X c tc) (ha : PSs X a t) (hb : PSs X b u) : PS X (.If c a b pos) (ZrH tc t u) := by
  intro pins s σ H D I h
  refine wpAny_If (thn (hc pins s σ H _ I h) fun d s1 ⟨H1, I1, q1⟩ => ?_)
  cases d with
  | true => exact ha pins s1 σ H1 D I1 q1
  | false => exact hb pins s1 σ H1 D I1 q1
end
noncomputable abbrev TG := V -> St -> Hp -> (St -> Hp -> Prop) -> Prop
noncomputable abbrev TGs := List V -> St -> Hp -> (St -> Hp -> Prop) -> Prop
noncomputable def PG (X : Cx) (target : Expr) (t : TG) : Prop :=
  ∀ (pins : List (Addr × Obj)) (s : Shared) (σ : St) (H : Hp) (v : V) (u : Value) (Q : St -> Hp -> Prop), Inv X pins σ H s -> Zbc v u -> t v σ H Q ->
    wpAny (model X.prog X.w) X.A (assign target X.env u) (fun _ s' => ∃ σ' H', Inv X pins σ' H' s' /\ Q σ' H') X.xe s
noncomputable def PGs (X : Cx) (ts : List Expr) (t : TGs) : Prop :=
  ∀ (pins : List (Addr × Obj)) (s : Shared) (σ : St) (H : Hp) (vs : List V) (us : List Value) (Q : St -> Hp -> Prop), Inv X pins σ H s -> ZbE vs us -> t vs σ H Q ->
    wpAny (model X.prog X.w) X.A (assignInOrder ((assignEach ts X.env).map (·.2)) us) (fun _ s' => ∃ σ' H', Inv X pins σ' H' s' /\ Q σ' H') X.xe s
noncomputable abbrev Zqs := V -> V -> V -> Hp -> (Hp -> Prop) -> Prop
noncomputable def Zr3 (X : Cx) (t : Zqs) : Prop :=
  ∀ (pins : List (Addr × Obj)) (s : Shared) (σ : St) (H : Hp) (o i v : V) (ov iv u : Value) (Q : Hp -> Prop), Inv X pins σ H s -> Zbc o ov -> Zbc i iv -> Zbc v u -> t o i v H Q ->
    wpAny (model X.prog X.w) X.A (setItem ov iv u) (fun _ s' => ∃ H', Inv X pins σ H' s' /\ Q H') X.xe s
noncomputable abbrev TIp := V -> V -> Hp -> VK -> Prop
noncomputable def PIp (X : Cx) (op : Operator) (t : TIp) : Prop :=
  ∀ (pins : List (Addr × Obj)) (s : Shared) (σ : St) (H : Hp) (x y : V) (v u : Value) (Q : VK), Inv X pins σ H s -> Zbc x v -> Zbc y u -> t x y H Q ->
    wpAny (model X.prog X.w) X.A (inplaceOp op v u) (EP X pins σ Q) X.xe s
section
variable {X : Cx} {pos : Pos}
noncomputable def Zg7 (i : Nat) : TG := fun v σ H Q => Q (σ.set i (some v)) H
theorem Zal {i : Nat} {x : Str} (hN : X.N.Nodup) (hi : X.N[i]? = some x) (hx : Loc X.env.scope x) (hf : X.fn x = true \/ X.env.scope.names.lookup x = some .local := by first | exact .inl rfl | exact .inr rfl | assumption) : PG X (.Name x pos) (Zg7 i) := by
  intro pins s σ H v u Q I r h
  exact wpAny_assign_Name (Zjw I hN hi hx r (fun s' I' => ⟨_, H, I', h⟩) hf)
noncomputable def Zrn : TGs := fun vs σ H Q => vs = [] /\ Q σ H
noncomputable def Zp6 (t : TG) (u : TGs) : TGs := fun vs σ H Q => ∃ v r, vs = v :: r /\ t v σ H fun σ' H' => u r σ' H' Q
theorem Zb5 : PGs X [] Zrn := by
  intro pins s σ H vs us Q I r h
  obtain ⟨e, h⟩ := h
  subst e
  cases r
  exact assignInOrder_nil ⟨σ, H, I, h⟩
theorem Zaq {e : Expr} {es : List Expr} {t : TG} {u : TGs} (h1 : PG X e t) (h2 : PGs X es u)
    (hs : (assignEach (e :: es) X.env).map (·.2) = assign e X.env :: (assignEach es X.env).map (·.2) := by rfl) : PGs X (e :: es) (Zp6 t u) := by
  intro pins s σ H vs us Q I r h
  obtain ⟨v, vr, e1, h⟩ := h
  subst e1
  cases r with
  | cons r rr =>
    rw [hs]
    refine assignInOrder_cons (thn (h1 pins s σ H _ _ _ I r h) fun _ s1 ⟨σ1, H1, I1, q1⟩ => ?_)
    exact h2 pins s1 σ1 H1 _ _ Q I1 rr q1
noncomputable def Zr9 (K : PySem.W.Frag) (n : Nat) (t : TGs) : TG := fun v σ H Q => ∃ a xs, v = .ref a /\ SqT K H a xs /\ xs.length = n /\ t xs σ H Q
theorem Zc6 {es : List Expr} {k : Nat} {t : TGs} {n : Nat} (hc : X.calm = true) (h : PGs X es t)
    (hn : (assignEach es X.env).length = n := by rfl) (hst : (assignEach es X.env).findIdx? (·.1) = none := by rfl) : PG X (.Tuple es k pos) (Zr9 X.K n t) := by
  intro pins s σ H v u Q I r hw
  obtain ⟨a, xs, e1, hq, hl, hw⟩ := hw
  subst e1
  cases r
  obtain ⟨its, rv, ht, hz⟩ := I.tuple hq
  refine assign_Tuple_tuple (I.ok.hd hc) ht (by simp [hn, <- hl, rv.length]) hst fun h' hx => ?_
  have I1 : Inv X pins σ H { s with heap := h' } := I.kept (t' := s.toks) fun b o e => hx b o (Nat.ne_of_lt (Heap.lt_size e)) e
  exact h pins _ σ H xs _ Q I1 (by simpa using rv) hw
noncomputable def ZrC (to ti : TE) (t : Zqs) : TG := fun v σ H Q => to σ H fun o H1 => ti σ H1 fun i H2 => t o i v H2 fun H3 => Q σ H3
theorem Zl5 {o i : Expr} {to ti : TE} {t : Zqs} (ho : PE X o to) (hi : PE X i ti) (hs : Zr3 X t)
    (ha : ∀ v, assign (.Subscript o i pos) X.env v = (do
      let ov <- holding [v] (eval o X.env)
      let iv <- holding [v, ov] (eval i X.env)
      standAt pos
      holding [v, ov, iv] (setItem ov iv v)
      release [v, ov, iv] []) := by intro _; rfl) : PG X (.Subscript o i pos) (ZrC to ti t) := by
  intro pins s σ H v u Q I r h
  rw [ha]
  refine wpAny_bind (wpAny_holding (thn (ho pins s σ H _ I h) fun ov s1 ⟨x, H1, I1, r1, q1⟩ => ?_))
  refine wpAny_bind (wpAny_holding (thn (hi pins s1 σ H1 _ I1 q1) fun iv s2 ⟨y, H2, I2, r2, q2⟩ => ?_))
  refine wpAny_bind (wpAny_standAt (wpAny_bind (wpAny_holding (thn (hs pins s2 σ H2 x y v ov iv u _ I2 r1 r2 r q2) fun _ s3 ⟨H3, I3, q3⟩ => ?_))))
  exact wpAny_release ⟨σ, H3, I3, q3⟩
noncomputable def Zmc (te : TE) (g : TG) : TS := fun D σ H => te σ H fun x H1 => g x σ H1 D.nx
theorem Zek {tg e : Expr} {te : TE} {g : TG} (he : PE X e te) (hg : PG X tg g) (hs : swapsWithSole [tg] e pos.line X.env = pure false := by rfl) (hw : swappedStores [tg] e X.env = pure none := by rfl)
    (h1 : (assignEach [tg] X.env).map (·.2) = [assign tg X.env] := by rfl) : PS X (.Assign [tg] e pos) (Zmc te g) := by
  intro pins s σ H D I h
  refine wpAny_Assign_stores (thn (he pins s σ H _ I h) fun v s1 ⟨x, H1, I1, r1, q1⟩ => ?_) hs hw
  rw [h1]
  exact thn (hg pins s1 σ H1 x v _ I1 r1 q1) fun _ s2 q => q
theorem Zaw {i : Nat} {x : Str} {e : Expr} {te : TE} {pos' : Pos} (hN : X.N.Nodup) (hi : X.N[i]? = some x) (hx : Loc X.env.scope x) (he : PE X e te) (hs : swapsWith e (some (.Name x pos')) pos.line X.env = pure false := by rfl) (hf : X.fn x = true \/ X.env.scope.names.lookup x = some .local := by first | exact .inl rfl | exact .inr rfl | assumption) :
    PS X (.Assign [.Name x pos'] e pos) (Zmc te (Zg7 i)) := by
  intro pins s σ H D I h
  refine wpAny_Assign_Name (thn (he pins s σ H _ I h) fun v s1 ⟨y, H1, I1, r1, q1⟩ => ?_) hs
  exact Zjw I1 hN hi hx r1 (fun s2 I2 => ⟨_, H1, I2, q1⟩) hf
noncomputable def Zq6 (to ti te : TE) (tget : V -> V -> Hp -> VK -> Prop) (tip : TIp) (tset : Zqs) : TS := fun D σ H => to σ H fun o H1 => ti σ H1 fun i H2 => tget o i H2 fun x H3 => te σ H3 fun y H4 => tip x y H4 fun z H5 => tset o i z H5 fun H6 => D.nx σ H6
noncomputable def ZrO (X : Cx) (t : V -> V -> Hp -> VK -> Prop) : Prop :=
  ∀ (pins : List (Addr × Obj)) (s : Shared) (σ : St) (H : Hp) (o i : V) (ov iv : Value) (Q : VK), Inv X pins σ H s -> Zbc o ov -> Zbc i iv -> t o i H Q ->
    wpAny (model X.prog X.w) X.A (getItem ov iv) (EP X pins σ Q) X.xe s
theorem Zl9 {o i e : Expr} {to ti te : TE} {tget : V -> V -> Hp -> VK -> Prop} {tip : TIp} {tset : Zqs} {op : Operator} {tpos : Pos} (ho : PE X o to) (hi : PE X i ti) (hg : ZrO X tget) (he : PE X e te) (hp : PIp X op tip) (hs : Zr3 X tset)
    (ha : ∀ ov iv new, augStore i ov iv new = (do holding [new, ov, iv] (setItem ov iv new); release [new, ov, iv] []; pure .next) := by intros; rfl) : PS X (.AugAssign (.Subscript o i tpos) op e pos) (Zq6 to ti te tget tip tset) := by
  intro pins s σ H D I h
  refine wpAny_AugAssign_SubscriptAny (thn (ho pins s σ H _ I h) fun ov s1 ⟨x1, H1, I1, r1, q1⟩ => ?_) ha
  refine thn (hi pins s1 σ H1 _ I1 q1) fun iv s2 ⟨x2, H2, I2, r2, q2⟩ => ?_
  refine thn (hg pins s2 σ H2 x1 x2 ov iv _ I2 r1 r2 q2) fun old s3 ⟨x3, H3, I3, r3, q3⟩ => ?_
  refine thn (he pins s3 σ H3 _ I3 q3) fun v s4 ⟨x4, H4, I4, r4, q4⟩ => ?_
  refine thn (hp pins s4 σ H4 x3 x4 old v _ I4 r3 r4 q4) fun new s5 ⟨x5, H5, I5, r5, q5⟩ => ?_
  exact thn (hs pins s5 σ H5 x1 x2 x5 ov iv new _ I5 r1 r2 r5 q5) fun _ s6 ⟨H6, I6, q6⟩ => ⟨σ, H6, I6, q6⟩
noncomputable def ipI (f : Int -> Int -> Int) : TIp := fun x y H Q => ∃ i j, x = .int i /\ y = .int j /\ Q (.int (f i j)) H
theorem ZpN : PIp X .Add (ipI fun i j => i + j) := by
  intro pins s σ H x y v u Q I r1 r2 h
  obtain ⟨i, j, e1, e2, q⟩ := h
  subst e1; subst e2
  obtain ⟨t, rfl⟩ := r1
  obtain ⟨t', rfl⟩ := r2
  exact iadd_int ⟨.int _, H, I.tok _, ⟨_, rfl⟩, q⟩
theorem ZpV : PIp X .Sub (ipI fun i j => i - j) := by
  intro pins s σ H x y v u Q I r1 r2 h
  obtain ⟨i, j, e1, e2, q⟩ := h
  subst e1; subst e2
  obtain ⟨t, rfl⟩ := r1
  obtain ⟨t', rfl⟩ := r2
  exact isub_int ⟨.int _, H, I.tok _, ⟨_, rfl⟩, q⟩
end
section
variable {X : Cx} {pos : Pos}
noncomputable def ZnZ (c : TT) (tb : TS) : TS := fun D σ H => ∃ W : Nat -> St -> Hp -> Prop, (∃ m, W m σ H) /\ ∀ m σ H, W m σ H ->
  c σ H fun b H1 => if b = true then ∃ N : St -> Hp -> Prop, (∀ σ' H', N σ' H' -> ∃ m', m' < m /\ W m' σ' H') /\ tb { D with nx := N, ct := N, bk := D.nx } σ H1 else D.nx σ H1
theorem ZeZ {c : Expr} {body : List Stmt} {tc : TT} {tb : TS} (hp : PassesOwn (model X.prog X.w) X.A X.env X.xe) (hc : PT X c tc) (hb : PSs X body tb) : PS X (.While c body [] pos) (ZnZ tc tb) := by
  intro pins s σ H D I h
  obtain ⟨W, ⟨m0, w0⟩, turn⟩ := h
  refine wpAny_While (codeAny_whileLoop (fun n s' => ∃ σ' H', Inv X pins σ' H' s' /\ W n σ' H') ?_ m0 ⟨σ, H, I, w0⟩)
  rintro n s1 ⟨σ1, H1, I1, w1⟩
  refine wpAny_passesOwn hp (thn (hc pins s1 σ1 H1 _ I1 (turn n σ1 H1 w1)) fun b s2 ⟨H2, I2, q2⟩ => ?_)
  cases b with
  | true =>
    obtain ⟨N, hN, q2⟩ := q2
    rw [if_pos rfl]
    refine wpAny_passesOwn hp (thn (hb pins s2 σ1 H2 _ I2 q2) fun f s3 q3 => ?_)
    cases f with
    | next =>
      obtain ⟨σ3, H3, I3, n3⟩ := q3
      obtain ⟨m', hm, w3⟩ := hN σ3 H3 n3
      exact ⟨m', hm, σ3, H3, I3, w3⟩
    | cont =>
      obtain ⟨σ3, H3, I3, n3⟩ := q3
      obtain ⟨m', hm, w3⟩ := hN σ3 H3 n3
      exact ⟨m', hm, σ3, H3, I3, w3⟩
    | brk => exact q3
    | ret v => exact q3
  | false =>
    rw [if_neg Bool.false_ne_true]
    exact wpAny_execs_nil ⟨σ1, H2, I2, q2⟩
end
structure It where
  go : Nat -> Hp -> Prop
  yld : Nat -> Hp -> V -> Hp -> Prop
  stop : Nat -> Hp -> Prop
noncomputable def Zkp (X : Cx) (pins : List (Addr × Obj)) (H : Hp) (b : Addr) : Prop :=
  H b = none /\ b ≠ X.env.locals /\ b ∉ X.fs /\ (b ∈ X.ex \/ X.s₀.heap.objs.size <= b) /\ (∀ x c, X.env.cells.lookup x = some c -> c ≠ b) /\ ∀ p ∈ X.pn ++ pins, p.1 ≠ b
theorem Inv.fpOk {X : Cx} {pins : List (Addr × Obj)} {σ : St} {H H' : Hp} {s : Shared} {b : Addr} (I : Inv X pins σ H s) (hb : s.heap.objs.size <= b) (hn : H' b = none) : Zkp X pins H' b := by
  refine ⟨hn, Nat.ne_of_gt (Nat.lt_of_lt_of_le I.lt hb), I.nofs hb, .inr (Nat.le_trans I.sz hb), fun x c e z => ?_, fun p hp z => ?_⟩
  · obtain ⟨v, q⟩ := I.cell x c e
    exact absurd (Nat.lt_of_lt_of_le q.lt (by rw [z]; exact hb)) (Nat.lt_irrefl _)
  · exact absurd (Nat.lt_of_lt_of_le (Heap.lt_size (I.pin p hp).1) (by rw [z]; exact hb)) (Nat.lt_irrefl _)
structure Turn (P : Program) (w : World) (K : PySem.W.Frag) (tg : Expr) (J : It) (fp : List Addr) (it : Addr) (tn : Nat -> Heap -> Prop) : Prop where
  mem : it ∈ fp
  obj : ∀ i h, tn i h -> ∀ b ∈ fp, ∃ o, h.get? b = some o /\ ∀ v, o.data ≠ .cell v
  keep : ∀ i h h', tn i h -> (∀ b ∈ fp, ∀ o, h.get? b = some o -> h'.get? b = some o) -> tn i h'
  item : ∀ (X : Cx), X.prog = P -> X.w = w -> X.K = K -> X.calm = true -> ∀ (i : Nat) (pins : List (Addr × Obj)) (s : Shared) (σ : St) (H : Hp) (E : Value -> Shared -> Prop), Inv X pins σ H s -> (∀ b ∈ fp, Zkp X pins H b) -> tn i s.heap -> J.go i H ->
    wpAny (model P w) X.A (pyNext (.ref it)) (fun r s1 => ∃ u, r = some u /\
      wpAny (model P w) X.A (letOwnedTupleGo tg (.ref it) u) (fun _ s2 => ∃ x H', Inv X pins σ H' s2 /\ Zbc x u /\ J.yld i H x H' /\ tn (i + 1) s2.heap /\ ∀ b ∈ fp, H' b = none) E s1) E s
  done : ∀ (X : Cx), X.prog = P -> X.w = w -> X.K = K -> X.calm = true -> ∀ (i : Nat) (pins : List (Addr × Obj)) (s : Shared) (σ : St) (H : Hp) (E : Value -> Shared -> Prop), Inv X pins σ H s -> (∀ b ∈ fp, Zkp X pins H b) -> tn i s.heap -> J.stop i H ->
    wpAny (model P w) X.A (pyNext (.ref it)) (fun r s1 => r = none /\ Inv X pins σ H s1) E s
  self : ∀ (A : Around) (i : Nat) (s : Shared) (Q : Value -> Shared -> Prop) (E : Value -> Shared -> Prop), tn i s.heap -> Q (.ref it) s -> wpAny (model P w) A (pyIter (.ref it)) Q E s
noncomputable abbrev TI := St -> Hp -> (It -> Hp -> Prop) -> Prop
noncomputable def PIE (X : Cx) (pins : List (Addr × Obj)) (σ : St) (tg : Expr) (R : It -> Hp -> Prop) (itv : Value) (s2 : Shared) : Prop :=
  ∃ (it : Addr) (fp : List Addr) (tn : Nat -> Heap -> Prop) (J : It) (H' : Hp), itv = .ref it /\ Inv X pins σ H' s2 /\ Turn X.prog X.w X.K tg J fp it tn /\ tn 0 s2.heap /\ (∀ b ∈ fp, Zkp X pins H' b) /\ R J H'
noncomputable def PI (X : Cx) (tg iter : Expr) (wi : TI) : Prop :=
  ∀ (pins : List (Addr × Obj)) (s : Shared) (σ : St) (H : Hp) (R : It -> Hp -> Prop), Inv X pins σ H s -> wi σ H R ->
    wpAny (model X.prog X.w) X.A (eval iter X.env) (fun v s1 => wpAny (model X.prog X.w) X.A (pyIter v) (PIE X pins σ tg R) X.xe s1) X.xe s
theorem Znf {M : Model} {A : Around} {E : Value -> Shared -> Prop} {s : Shared} {tg : Expr} {it : Addr} {u : Value} {o : Obj} {n : String} {vs : Array Value} {Q : Unit -> Shared -> Prop} (ho : s.heap.get? it = some o) (hc : o.cls = .type n) (hd : o.data = .fields vs)
    (hn : ["enumerate", "zip", "dict_itemiterator", "dict_reverseitemiterator", "odict_iterator", "itertools.zip_longest", "itertools.pairwise"].contains n = false) (hQ : Q () s) : wpAny M A (letOwnedTupleGo tg (.ref it) u) Q E s := by
  unfold letOwnedTupleGo
  cases tg <;> first
    | exact wpAny_pure hQ
    | (cases u <;> first
        | exact wpAny_pure hQ
        | (refine wpAny_bind (wpAny_load ho ?_)
           rw [hc, hd]
           show wpAny M A (if (["enumerate", "zip", "dict_itemiterator", "dict_reverseitemiterator", "odict_iterator", "itertools.zip_longest", "itertools.pairwise"].contains n && vs[0]? == some (rawInt _)) = true then _ else _) Q E s
           rw [if_neg (by intro h; rw [hn, Bool.false_and] at h; cases h)]
           exact wpAny_pure hQ))
noncomputable def Itl (K : PySem.W.Frag) (a : Addr) : It :=
  ⟨fun i H => ∃ xs x, SqL K H a xs /\ xs[i]? = some x, fun i H x H' => H' = H /\ ∀ xs, SqL K H a xs -> xs[i]? = some x, fun i H => ∃ xs, SqL K H a xs /\ xs.length <= i⟩
noncomputable def Itt (K : PySem.W.Frag) (a : Addr) : It :=
  ⟨fun i H => ∃ xs x, SqT K H a xs /\ xs[i]? = some x, fun i H x H' => H' = H /\ ∀ xs, SqT K H a xs -> xs[i]? = some x, fun i H => ∃ xs, SqT K H a xs /\ xs.length <= i⟩
noncomputable def Itr (lo : Int) (n : Nat) : It := ⟨fun i _ => i < n, fun i H x H' => H' = H /\ x = .int (lo + i), fun i _ => n <= i⟩
theorem Zku {P : Program} {w : World} {K : PySem.W.Frag} {tg : Expr} (a it : Addr) : Turn P w K tg (Itl K a) [it] it (fun i h => h.IsListIter it a i) where
  mem := by simp
  obj := fun i h st b hb => by
    have e : b = it := by simpa using hb
    subst e
    obtain ⟨o, e, c, d⟩ := st
    exact ⟨o, e, fun v z => by rw [d] at z; cases z⟩
  keep := fun i h h' st k => st.at fun o e => k it (by simp) o e
  item := by
    intro X hP hw hK hc i pins s σ H E I hf st hg
    subst hP hw hK
    obtain ⟨xs, x, hq, hx⟩ := hg
    obtain ⟨its, rv, p, hz⟩ := I.list hq
    obtain ⟨u, hu, ru⟩ := rv.get hx
    obtain ⟨f0, f1, f2, f3, f4, f5⟩ := hf it (by simp)
    refine wpAny_pyNext_list_item st p.isList (x := u) (by simpa using hu) fun h' st' sb => ?_
    have I1 : Inv X pins σ H { s with heap := h' } := I.turned (t' := s.toks) (fun b o hb e => (sb.2 b hb).trans e) f0 f1 f3 f4 f5
    obtain ⟨o, e, c, d⟩ := id st'
    exact ⟨u, rfl, Znf (s := { s with heap := h' }) e c d (by decide) ⟨x, H, I1, ru, ⟨rfl, fun ys hy => by rw [I.list_inj hy hq]; exact hx⟩, st', fun b hb => (hf b hb).1⟩⟩
  done := by
    intro X hP hw hK hc i pins s σ H E I hf st hg
    subst hP hw hK
    obtain ⟨xs, hq, hx⟩ := hg
    obtain ⟨its, rv, p, hz⟩ := I.list hq
    obtain ⟨f0, f1, f2, f3, f4, f5⟩ := hf it (by simp)
    have hl := rv.length
    exact wpAny_pyNext_list_end (I.ok.hd hc) st p.isList (by simp; omega) fun h' eb => ⟨rfl, I.turned (t' := s.toks) (fun b o hb e => eb b o hb e) f0 f1 f3 f4 f5⟩
  self := fun _ _ _ _ _ st h => wpAny_pyIter_listiter st h
theorem Zkh {P : Program} {w : World} {K : PySem.W.Frag} {tg : Expr} (a it : Addr) : Turn P w K tg (Itt K a) [it] it (fun i h => h.IsTupleIter it a i) where
  mem := by simp
  obj := fun i h st b hb => by
    have e : b = it := by simpa using hb
    subst e
    obtain ⟨o, e, c, d⟩ := st
    exact ⟨o, e, fun v z => by rw [d] at z; cases z⟩
  keep := fun i h h' st k => st.at fun o e => k it (by simp) o e
  item := by
    intro X hP hw hK hc i pins s σ H E I hf st hg
    subst hP hw hK
    obtain ⟨xs, x, hq, hx⟩ := hg
    obtain ⟨its, rv, p, hz⟩ := I.tuple hq
    obtain ⟨u, hu, ru⟩ := rv.get hx
    obtain ⟨f0, f1, f2, f3, f4, f5⟩ := hf it (by simp)
    refine wpAny_pyNext_tuple_item st (show s.heap.IsTuple a its.toArray from p) (x := u) (by simpa using hu) fun h' st' sb => ?_
    have I1 : Inv X pins σ H { s with heap := h' } := I.turned (t' := s.toks) (fun b o hb e => (sb.2 b hb).trans e) f0 f1 f3 f4 f5
    obtain ⟨o, e, c, d⟩ := id st'
    exact ⟨u, rfl, Znf (s := { s with heap := h' }) e c d (by decide) ⟨x, H, I1, ru, ⟨rfl, fun ys hy => by rw [I.tuple_inj hy hq]; exact hx⟩, st', fun b hb => (hf b hb).1⟩⟩
  done := by
    intro X hP hw hK hc i pins s σ H E I hf st hg
    subst hP hw hK
    obtain ⟨xs, hq, hx⟩ := hg
    obtain ⟨its, rv, p, hz⟩ := I.tuple hq
    obtain ⟨f0, f1, f2, f3, f4, f5⟩ := hf it (by simp)
    have hl := rv.length
    exact wpAny_pyNext_tuple_end (I.ok.hd hc) st (show s.heap.IsTuple a its.toArray from p) (by simp; omega) fun h' eb => ⟨rfl, I.turned (t' := s.toks) (fun b o hb e => eb b o hb e) f0 f1 f3 f4 f5⟩
  self := fun _ _ _ _ _ st h => wpAny_pyIter_tupleiter st h
theorem Zko {P : Program} {w : World} {K : PySem.W.Frag} {tg : Expr} (it : Addr) (lo : Int) (n : Nat) : Turn P w K tg (Itr lo n) [it] it (fun i h => IsRangeIter h it (lo + (i : Nat) * 1) ((n : Int) - (i : Nat)) 1) where
  mem := by simp
  obj := fun i h st b hb => by
    have e : b = it := by simpa using hb
    subst e
    exact ⟨_, st, fun v z => by
      have z' : Data.fields _ = Data.cell v := z
      cases z'⟩
  keep := fun i h h' st k => k it (by simp) _ st
  item := by
    intro X hP hw hK hc i pins s σ H E I hf st hg
    subst hP hw hK
    obtain ⟨f0, f1, f2, f3, f4, f5⟩ := hf it (by simp)
    have W := Walks.range (prog := X.prog) (w := X.w) (I.ok.hd hc) it lo 1 n
    refine W.item i s _ _ hg st fun v h' tk hv st' kk => ?_
    obtain ⟨t, rfl⟩ := hv
    have I1 : Inv X pins σ H { s with heap := h', toks := tk } := I.turned (fun b o hb e => kk b o (by simpa using hb) e) f0 f1 f3 f4 f5
    refine ⟨_, rfl, Znf (s := { s with heap := h', toks := tk }) (n := "range_iterator") st' rfl rfl (by decide) ⟨.int (lo + i), H, I1, ⟨t, ?_⟩, ⟨rfl, rfl⟩, st', fun b hb => (hf b hb).1⟩⟩
    rw [Int.mul_one]
  done := by
    intro X hP hw hK hc i pins s σ H E I hf st hg
    subst hP hw hK
    obtain ⟨f0, f1, f2, f3, f4, f5⟩ := hf it (by simp)
    exact wpAny_pyNext_range_end (I.ok.hd hc) st (by have : n <= i := hg; omega) fun h' eb => ⟨rfl, I.turned (t' := s.toks) (fun b o hb e => eb b o hb e) f0 f1 f3 f4 f5⟩
  self := fun _ _ _ _ _ st h => wpAny_pyIter_rangeiter st h
end L2
namespace L2
open PySem PySem.Spec PyProof.Rows
section
variable {X : Cx} {tg : Expr}
noncomputable def ZpM (K : PySem.W.Frag) (tl : TE) : TI := fun σ H R => tl σ H fun x H1 => ∃ a, x = .ref a /\ (∃ xs, SqL K H1 a xs) /\ R (Itl K a) H1
noncomputable def ZrZ (K : PySem.W.Frag) (tl : TE) : TI := fun σ H R => tl σ H fun x H1 => ∃ a, x = .ref a /\ (∃ xs, SqT K H1 a xs) /\ R (Itt K a) H1
theorem Zdn {l : Expr} {tl : TE} (hl : PE X l tl) : PI X tg l (ZpM X.K tl) := by
  intro pins s σ H R I h
  refine thn (hl pins s σ H _ I h) fun v s1 ⟨x, H1, I1, r1, q1⟩ => ?_
  obtain ⟨a, e, ⟨xs, hq⟩, q⟩ := q1
  subst e
  cases r1
  obtain ⟨its, rv, p, hz⟩ := I1.list hq
  refine wpAny_pyIter_list p.isList ?_
  refine ⟨s1.heap.objs.size, [s1.heap.objs.size], _, _, H1, rfl, I1.kept (t' := s1.toks) fun b o e => Heap.get?_push_of_some _ e, Zku a _, ⟨_, Heap.get?_push_size _ rfl, rfl, rfl⟩, fun b hb => ?_, q⟩
  have e : b = s1.heap.objs.size := by simpa using hb
  subst e
  exact I1.fpOk (Nat.le_refl _) (I1.hok.fresh (Nat.le_refl _))
theorem Zoh {l : Expr} {tl : TE} (hl : PE X l tl) : PI X tg l (ZrZ X.K tl) := by
  intro pins s σ H R I h
  refine thn (hl pins s σ H _ I h) fun v s1 ⟨x, H1, I1, r1, q1⟩ => ?_
  obtain ⟨a, e, ⟨xs, hq⟩, q⟩ := q1
  subst e
  cases r1
  obtain ⟨its, rv, p, hz⟩ := I1.tuple hq
  refine wpAny_pyIter_tuple (show s1.heap.IsTuple a its.toArray from p) ?_
  refine ⟨s1.heap.objs.size, [s1.heap.objs.size], _, _, H1, rfl, I1.kept (t' := s1.toks) fun b o e => Heap.get?_push_of_some _ e, Zkh a _, ⟨_, Heap.get?_push_size _ rfl, rfl, rfl⟩, fun b hb => ?_, q⟩
  have e : b = s1.heap.objs.size := by simpa using hb
  subst e
  exact I1.fpOk (Nat.le_refl _) (I1.hok.fresh (Nat.le_refl _))
theorem Zjy {pins : List (Addr × Obj)} {σ : St} {H : Hp} {s : Shared} {R : It -> Hp -> Prop} {E : Value -> Shared -> Prop} {lo hi : Int} {t u v : Tok} {tk : Nat} (I : Inv X pins σ H s) (h1 : -(2 ^ 62) <= lo) (h2 : lo < 2 ^ 62) (h3 : -(2 ^ 62) <= hi) (h4 : hi < 2 ^ 62)
    (q : R (Itr lo (hi - lo).toNat) H) : wpAny (model X.prog X.w) X.A (pyIter (.ref s.heap.objs.size)) (PIE X pins σ tg R) E { s with heap := s.heap.push { cls := .type "range", data := .fields #[.int lo t, .int hi u, .int 1 v] }, toks := tk } := by
  refine wpAny_pyIter_range (IsRange.new ..) (small_one h1 h2 h3 h4) ?_
  have I1 : Inv X pins σ H { s with heap := s.heap.push { cls := .type "range", data := .fields #[.int lo t, .int hi u, .int 1 v] }, toks := tk } := I.kept fun b o e => Heap.get?_push_of_some _ e
  refine ⟨(s.heap.push { cls := .type "range", data := .fields #[.int lo t, .int hi u, .int 1 v] }).objs.size, [(s.heap.push { cls := .type "range", data := .fields #[.int lo t, .int hi u, .int 1 v] }).objs.size], _, _, H, rfl,
    I1.kept (t' := tk) fun b o e => Heap.get?_push_of_some _ e, Zko _ lo (hi - lo).toNat, ?_, fun b hb => ?_, q⟩
  · have e1 : lo + ((0 : Nat) : Int) * 1 = lo := by simp
    have e2 : (((hi - lo).toNat : Nat) : Int) - ((0 : Nat) : Int) = Builtin.Range.rangeSize lo hi 1 := by rw [rangeSize_one]; split <;> omega
    show IsRangeIter _ _ (lo + ((0 : Nat) : Int) * 1) ((((hi - lo).toNat : Nat) : Int) - ((0 : Nat) : Int)) 1
    rw [e1, e2]
    exact Heap.get?_push_size _ rfl
  · have e : b = (s.heap.push { cls := .type "range", data := .fields #[.int lo t, .int hi u, .int 1 v] }).objs.size := by simpa using hb
    subst e
    exact I1.fpOk (Nat.le_refl _) (I1.hok.fresh (Nat.le_refl _))
noncomputable def ZqH (ta : TA) : TI := fun σ H R => ta σ H fun vs H1 => ∃ j : Int, vs = [.int j] /\ -(2 ^ 62) <= j /\ j < 2 ^ 62 /\ R (Itr 0 j.toNat) H1
noncomputable def ZqV (ta : TA) : TI := fun σ H R => ta σ H fun vs H1 => ∃ i j : Int, vs = [.int i, .int j] /\ (-(2 ^ 62) <= i /\ i < 2 ^ 62 /\ -(2 ^ 62) <= j /\ j < 2 ^ 62) /\ R (Itr i (j - i).toNat) H1
theorem ZaM {a : Expr} {ta : TA} {p pos : Pos} (hg : Gl X "range") (hm : X.mg "range" = none) (ha : PA X [a] ta) (hs : starEach [a] X.env = [(false, eval a X.env)] := by rfl) : PI X tg (.Call (.Name "range" p) [a] [] pos) (ZqH ta) := by
  intro pins s σ H R I h
  refine Call_ (ZeA I hg hm boot_range (PyProof.Rows.callWith_type1 (thn (ha pos pins s σ H _ I h) fun us s1 ⟨vs, H1, I1, r1, q1⟩ => ?_) hs rfl))
  obtain ⟨j, e, q1, q2, q⟩ := q1
  subst e
  cases r1 with
  | cons r rr =>
    cases rr
    obtain ⟨t, rfl⟩ := r
    exact call_range_1 (Zjy I1 (by omega) (by omega) q1 q2 (by simpa using q))
theorem Zhb {a b : Expr} {ta : TA} {p pos : Pos} (hg : Gl X "range") (hm : X.mg "range" = none) (ha : PA X [a, b] ta) (hs : starEach [a, b] X.env = [(false, eval a X.env), (false, eval b X.env)] := by rfl) (hs2 : starEach [b] X.env = [(false, eval b X.env)] := by rfl) :
    PI X tg (.Call (.Name "range" p) [a, b] [] pos) (ZqV ta) := by
  intro pins s σ H R I h
  refine Call_ (ZeA I hg hm boot_range (PyProof.Rows.callWith_type1 (thn (ha pos pins s σ H _ I h) fun us s1 ⟨vs, H1, I1, r1, q1⟩ => ?_) (by rw [hs, hs2]) (by rw [hs2]; rfl)))
  obtain ⟨i, j, e, ⟨q1, q2, q3, q4⟩, q⟩ := q1
  subst e
  cases r1 with
  | cons r rr =>
    cases rr with
    | cons r' rr =>
      cases rr
      obtain ⟨t, rfl⟩ := r
      obtain ⟨t', rfl⟩ := r'
      exact call_range_2 (Zjy I1 q1 q2 q3 q4 q)
noncomputable def Zrd (wi : TI) (g : TG) (tb : TS) : TS := fun D σ H => wi σ H fun J H1 => ∃ W : Nat -> Nat -> St -> Hp -> Prop, (∃ m, W 0 m σ H1) /\ ∀ i m σ H, W i m σ H ->
  (J.stop i H /\ D.nx σ H) \/ (J.go i H /\ ∃ N : St -> Hp -> Prop, (∀ σ' H', N σ' H' -> ∃ m', m' < m /\ W (i + 1) m' σ' H') /\ ∀ x H', J.yld i H x H' -> g x σ H' fun σ2 H2 => tb { D with nx := N, ct := N, bk := D.nx } σ2 H2)
noncomputable def Zhr (fp : List Addr) (h : Heap) : List (Addr × Obj) := fp.filterMap fun b => (h.get? b).map fun o => (b, o)
theorem ZdC {fp : List Addr} {h : Heap} {b : Addr} {o : Obj} (hb : b ∈ fp) (e : h.get? b = some o) : (b, o) ∈ Zhr fp h := List.mem_filterMap.mpr ⟨b, hb, by rw [e]; rfl⟩
theorem Zk8 {fp : List Addr} {h : Heap} {p : Addr × Obj} (hp : p ∈ Zhr fp h) : p.1 ∈ fp /\ h.get? p.1 = some p.2 := by
  obtain ⟨b, hb, e⟩ := List.mem_filterMap.mp hp
  cases q : h.get? b with
  | none => rw [q] at e; cases e
  | some o =>
    rw [q] at e
    have e' : (b, o) = p := Option.some.inj e
    subst e'
    exact ⟨hb, q⟩
theorem Inv.pinned {pins : List (Addr × Obj)} {σ : St} {H : Hp} {s : Shared} {fp : List Addr} (I : Inv X pins σ H s) (hf : ∀ b ∈ fp, Zkp X pins H b) (ho : ∀ b ∈ fp, ∃ o, s.heap.get? b = some o /\ ∀ v, o.data ≠ .cell v) : Inv X (pins ++ Zhr fp s.heap) σ H s :=
  I.pins_of fun p hp => (List.mem_append.mp hp).elim (fun z => I.pin p (List.mem_append_right _ z)) fun z => by
    obtain ⟨hb, e⟩ := Zk8 z
    obtain ⟨f0, f1, f2, _⟩ := hf p.1 hb
    obtain ⟨o, e', d⟩ := ho p.1 hb
    rw [e] at e'; cases e'
    exact ⟨e, f0, f1, f2, d⟩
theorem Inv.unpinned {pins pl : List (Addr × Obj)} {σ : St} {H : Hp} {s : Shared} (I : Inv X (pins ++ pl) σ H s) : Inv X pins σ H s := I.pins_of fun p hp => I.pin p (List.mem_append_right _ (List.mem_append_left _ hp))
theorem Zbh {iter : Expr} {body : List Stmt} {wi : TI} {g : TG} {tb : TS} {pos : Pos} (hp : PassesOwn (model X.prog X.w) X.A X.env X.xe) (hc : X.calm = true) (hi : PI X tg iter wi) (hg : PG X tg g) (hb : PSs X body tb)
    (hs : ∀ x, foldedSetIterable iter X.env x = pure x := by intro _; rfl) : PS X (.For tg iter body [] pos) (Zrd wi g tb) := by
  intro pins s σ H D I h
  refine wpAny_For (thn (hi pins s σ H _ I h) fun v s1 h1 => thn h1 fun itv s2 h2 => ?_) hs
  obtain ⟨it, fp, tn, J, H2, e, I2, T, st2, f2, W, ⟨m0, w0⟩, turn⟩ := h2
  subst e
  have stat : ∀ {H' : Hp}, (∀ b ∈ fp, H' b = none) -> ∀ b ∈ fp, Zkp X pins H' b := fun hn b hb => ⟨hn b hb, (f2 b hb).2⟩
  refine codeAny_forLoop_any (fun n s' => ∃ i σ' H', Inv X pins σ' H' s' /\ tn i s'.heap /\ (∀ b ∈ fp, H' b = none) /\ W i n σ' H') ?_ m0 ⟨0, σ, H2, I2, st2, fun b hb => (f2 b hb).1, w0⟩
  rintro n s3 ⟨i, σ3, H3, I3, st3, fr3, w3⟩
  rcases turn i n σ3 H3 w3 with ⟨stop, qn⟩ | ⟨go, N, hN, step⟩
  · refine wpAny_passesOwn hp (thn (T.done X rfl rfl rfl hc i pins s3 σ3 H3 X.xe I3 (stat fr3) st3 stop) fun r s4 ⟨hr, I4⟩ => ?_)
    subst hr
    exact wpAny_execs_nil ⟨σ3, H3, I4, qn⟩
  · refine wpAny_passesOwn hp (thn (T.item X rfl rfl rfl hc i pins s3 σ3 H3 X.xe I3 (stat fr3) st3 go) fun r s4 ⟨u, hr, h4⟩ => ?_)
    subst hr
    refine wpAny_passesOwn hp (thn h4 fun _ s5 ⟨x, H5, I5, r5, y5, st5, fr5⟩ => ?_)
    have I5' := I5.pinned (stat fr5) (T.obj _ _ st5)
    refine wpAny_passesOwn hp (thn (hg _ s5 σ3 H5 x u _ I5' r5 (step x H5 y5)) fun _ s6 ⟨σ6, H6, I6, q6⟩ => ?_)
    refine wpAny_passesOwn hp (thn (hb _ s6 σ6 H6 _ I6 q6) fun f s7 q7 => ?_)
    have again : ∀ {σ7 : St} {H7 : Hp}, Inv X (pins ++ Zhr fp s5.heap) σ7 H7 s7 -> N σ7 H7 -> ∃ m, m < n /\ ∃ i σ' H', Inv X pins σ' H' s7 /\ tn i s7.heap /\ (∀ b ∈ fp, H' b = none) /\ W i m σ' H' := fun {σ7 H7} I7 n7 => by
      obtain ⟨m', hm, w7⟩ := hN σ7 H7 n7
      refine ⟨m', hm, i + 1, σ7, H7, I7.unpinned, T.keep _ _ _ st5 fun b hb o e => (I7.pin (b, o) (List.mem_append_right _ (List.mem_append_right _ (ZdC hb e)))).1, fun b hb => ?_, w7⟩
      obtain ⟨o, e, d⟩ := T.obj _ _ st5 b hb
      exact (I7.pin (b, o) (List.mem_append_right _ (List.mem_append_right _ (ZdC hb e)))).2.1
    cases f with
    | next => obtain ⟨σ7, H7, I7, n7⟩ := q7; exact again I7 n7
    | cont => obtain ⟨σ7, H7, I7, n7⟩ := q7; exact again I7 n7
    | brk => obtain ⟨σ7, H7, I7, q7⟩ := q7; exact ⟨σ7, H7, I7.unpinned, q7⟩
    | ret v => obtain ⟨x7, σ7, H7, I7, r7, q7⟩ := q7; exact ⟨x7, σ7, H7, I7.unpinned, r7, q7⟩
end
end L2
namespace L2
open PySem PySem.Spec PyProof.Rows
noncomputable abbrev R2 := V -> V -> Hp -> VK -> Prop
noncomputable def OpR (X : Cx) (f : Value -> Value -> Sem Value) (r : R2) : Prop :=
  ∀ (pins : List (Addr × Obj)) (s : Shared) (σ : St) (H : Hp) (x y : V) (v u : Value) (Q : VK), Inv X pins σ H s -> Zbc x v -> Zbc y u -> r x y H Q ->
    wpAny (model X.prog X.w) X.A (f v u) (EP X pins σ Q) X.xe s
noncomputable def UnR (X : Cx) (f : Value -> Sem Value) (r : V -> Hp -> VK -> Prop) : Prop :=
  ∀ (pins : List (Addr × Obj)) (s : Shared) (σ : St) (H : Hp) (x : V) (v : Value) (Q : VK), Inv X pins σ H s -> Zbc x v -> r x H Q ->
    wpAny (model X.prog X.w) X.A (f v) (EP X pins σ Q) X.xe s
noncomputable def Zde (X : Cx) (f : Value) (r : List V -> Hp -> VK -> Prop) : Prop :=
  ∀ (pins : List (Addr × Obj)) (s : Shared) (σ : St) (H : Hp) (xs : List V) (us : List Value) (Q : VK), Inv X pins σ H s -> ZbE xs us -> r xs H Q ->
    wpAny (model X.prog X.w) X.A (call f us) (EP X pins σ Q) X.xe s
noncomputable def Zsf (X : Cx) (r : V -> Hp -> (Bool -> Hp -> Prop) -> Prop) : Prop :=
  ∀ (pins : List (Addr × Obj)) (s : Shared) (σ : St) (H : Hp) (x : V) (v : Value) (Q : Bool -> Hp -> Prop), Inv X pins σ H s -> Zbc x v -> r x H Q ->
    wpAny (model X.prog X.w) X.A (truthy v) (TP X pins σ Q) X.xe s
noncomputable def tOp (r : R2) (ta tb : TE) : TE := fun σ H Q => ta σ H fun x H1 => tb σ H1 fun y H2 => r x y H2 Q
noncomputable def tUn (r : V -> Hp -> VK -> Prop) (ta : TE) : TE := fun σ H Q => ta σ H fun x H1 => r x H1 Q
noncomputable def rI (C : Int -> Int -> Prop) (g : Int -> Int -> V) : R2 := fun x y H Q => ∃ i j, x = .int i /\ y = .int j /\ C i j /\ Q (g i j) H
noncomputable def rI0 (g : Int -> Int -> V) : R2 := fun x y H Q => ∃ i j, x = .int i /\ y = .int j /\ Q (g i j) H
noncomputable def rU (g : Int -> V) : V -> Hp -> VK -> Prop := fun x H Q => ∃ i, x = .int i /\ Q (g i) H
section
variable {X : Cx} {a b c : Expr} {ta tb tc : TE} {pos : Pos}
theorem Zr1 (ha : PE X a ta) (hb : PE X b tb) {pins : List (Addr × Obj)} {s : Shared} {σ : St} {H : Hp} {R : V -> V -> Hp -> Prop} (I : Inv X pins σ H s)
    (h : ta σ H fun x H1 => tb σ H1 fun y H2 => R x y H2) {Q : Value -> Shared -> Prop} {f : Value -> Value -> Sem Value}
    (hf : ∀ v u s2 x y H2, Inv X pins σ H2 s2 -> Zbc x v -> Zbc y u -> R x y H2 -> wpAny (model X.prog X.w) X.A (f v u) Q X.xe s2) :
    wpAny (model X.prog X.w) X.A (eval a X.env) (fun v s₁ => wpAny (model X.prog X.w) X.A (eval b X.env) (fun u s₂ => wpAny (model X.prog X.w) X.A (f v u) Q X.xe s₂) X.xe s₁) X.xe s := by
  refine thn (ha pins s σ H _ I h) fun v s1 ⟨x, H1, I1, r1, q1⟩ => ?_
  refine thn (hb pins s1 σ H1 _ I1 q1) fun u s2 ⟨y, H2, I2, r2, q2⟩ => ?_
  exact hf v u s2 x y H2 I2 r1 r2 q2
theorem Za0 {op : Operator} {r : R2} (ho : OpR X (binaryOp op) r) (ha : PE X a ta) (hb : PE X b tb) : PE X (.BinOp a op b pos) (tOp r ta tb) := by
  intro pins s σ H Q I h
  exact wpAny_BinOp (Zr1 ha hb I h fun v u s2 x y H2 I2 rx ry q => ho pins s2 σ H2 x y v u Q I2 rx ry q)
theorem ZpW {op : UnaryOp} {r : V -> Hp -> VK -> Prop} (ho : UnR X (unaryOp op) r) (ha : PE X a ta) : PE X (.UnaryOp op a pos) (tUn r ta) := by
  intro pins s σ H Q I h
  exact UnaryOp_ (thn (ha pins s σ H _ I h) fun v s1 ⟨x, H1, I1, r1, q1⟩ => ho pins s1 σ H1 x v Q I1 r1 q1)
theorem opI {f : Value -> Value -> Sem Value} {C : Int -> Int -> Prop} {g : Int -> Int -> Int}
    (rule : ∀ (i j : Int) (t u : Tok) (s : Shared) (Q : Value -> Shared -> Prop) (E : Value -> Shared -> Prop), C i j -> Q (.int (g i j) s.toks) { s with toks := s.toks + 1 } -> wpAny (model X.prog X.w) X.A (f (.int i t) (.int j u)) Q E s) :
    OpR X f (rI C fun i j => .int (g i j)) := by
  intro pins s σ H x y v u Q I rx ry h
  obtain ⟨i, j, rfl, rfl, hc, q⟩ := h
  obtain ⟨t, rfl⟩ := rx
  obtain ⟨t', rfl⟩ := ry
  exact rule i j t t' s _ _ hc ⟨.int (g i j), H, I.tok _, ⟨_, rfl⟩, q⟩
theorem Zry {f : Value -> Value -> Sem Value} {g : Int -> Int -> Int}
    (rule : ∀ (i j : Int) (t u : Tok) (s : Shared) (Q : Value -> Shared -> Prop) (E : Value -> Shared -> Prop), Q (.int (g i j) s.toks) { s with toks := s.toks + 1 } -> wpAny (model X.prog X.w) X.A (f (.int i t) (.int j u)) Q E s) :
    OpR X f (rI0 fun i j => .int (g i j)) := by
  intro pins s σ H x y v u Q I rx ry h
  obtain ⟨i, j, rfl, rfl, q⟩ := h
  obtain ⟨t, rfl⟩ := rx
  obtain ⟨t', rfl⟩ := ry
  exact rule i j t t' s _ _ ⟨.int (g i j), H, I.tok _, ⟨_, rfl⟩, q⟩
theorem Zrr {f : Value -> Value -> Sem Value} {g : Int -> Int -> Bool}
    (rule : ∀ (i j : Int) (t u : Tok) (s : Shared) (Q : Value -> Shared -> Prop) (E : Value -> Shared -> Prop), Q (.bool (g i j)) s -> wpAny (model X.prog X.w) X.A (f (.int i t) (.int j u)) Q E s) :
    OpR X f (rI0 fun i j => .bl (g i j)) := by
  intro pins s σ H x y v u Q I rx ry h
  obtain ⟨i, j, rfl, rfl, q⟩ := h
  obtain ⟨t, rfl⟩ := rx
  obtain ⟨t', rfl⟩ := ry
  exact rule i j t t' s _ _ ⟨.bl (g i j), H, I, rfl, q⟩
noncomputable def ZrW (i j : Int) : Prop := 0 <= j /\ j <= 1000000 /\ i.natAbs < 2 ^ 64
noncomputable def Zrh (i j : Int) : Prop := (-(2 ^ 64) < i /\ i < 2 ^ 64) \/ (-(2 ^ 64) < j /\ j < 2 ^ 64)
theorem Zrh.ok {i j : Int} (h : Zrh i j) : IntMulOk i j := by
  rcases h with ⟨h1, h2⟩ | ⟨h1, h2⟩
  · exact .of_left (intBits_le_64 h1 h2)
  · exact .of_right (intBits_le_64 h1 h2)
theorem Zcd : OpR X (binaryOp .Add) (rI0 fun i j => .int (i + j)) := Zry fun _ _ _ _ _ _ _ q => add_int q
theorem ZfS : OpR X (binaryOp .Sub) (rI0 fun i j => .int (i - j)) := Zry fun _ _ _ _ _ _ _ q => sub_int q
theorem Zf9 : OpR X (binaryOp .Mult) (rI Zrh fun i j => .int (i * j)) := opI fun _ _ _ _ _ _ _ hc q => mul_int q hc.ok
theorem ZcA : OpR X (binaryOp .Mod) (rI (fun _ j => 0 < j) fun i j => .int (i % j)) := opI fun i j _ _ _ _ _ hc q => by
  have h1 : (0 : Int) < j := hc
  exact mod_int' (by omega) (by rw [Int.fmod_eq_emod_of_nonneg i (by omega)]; exact q)
theorem Zog : OpR X (binaryOp .Pow) (rI ZrW fun i j => .int (i ^ j.toNat)) := opI fun _ _ _ _ _ _ _ hc q => pow_int_small hc.1 hc.2.1 hc.2.2 q
theorem Zk4 : OpR X (binaryOp .BitXor) (rI0 fun i j => .int (Builtin.bitXor i j)) := Zry fun _ _ _ _ _ _ _ q => xor_int q
theorem unI {f : Value -> Sem Value} {g : Int -> Int}
    (rule : ∀ (i : Int) (t : Tok) (s : Shared) (Q : Value -> Shared -> Prop) (E : Value -> Shared -> Prop), Q (.int (g i) s.toks) { s with toks := s.toks + 1 } -> wpAny (model X.prog X.w) X.A (f (.int i t)) Q E s) :
    UnR X f (rU fun i => .int (g i)) := by
  intro pins s σ H x v Q I rx h
  obtain ⟨i, rfl, q⟩ := h
  obtain ⟨t, rfl⟩ := rx
  exact rule i t s _ _ ⟨.int (g i), H, I.tok _, ⟨_, rfl⟩, q⟩
theorem ZnW : UnR X (unaryOp .USub) (rU fun i => .int (-i)) := unI fun _ _ _ _ _ q => neg_int q
end
noncomputable def ZrD : V -> V -> Bool
  | .non, .non => true | .non, .int _ => true | .int _, .non => true | .non, .bl _ => true | .bl _, .non => true | .non, .str _ => true | .str _, .non => true
  | .int _, .int _ => true | .bl _, .bl _ => true | .str _, .str _ => true | .byt _, .byt _ => true
  | .int _, .str _ => true | .str _, .int _ => true | .bl _, .str _ => true | .str _, .bl _ => true
  | _, _ => false
noncomputable def rEq : R2 := fun x y H Q => ZrD x y = true /\ Q (.bl (decide (x = y))) H
noncomputable def rNe : R2 := fun x y H Q => ZrD x y = true /\ Q (.bl (!decide (x = y))) H
theorem ZlD {i j : Int} : decide (V.int i = V.int j) = (i == j) := by
  rw [Bool.eq_iff_iff]
  simp
theorem Zon {i j : Bool} : decide (V.bl i = V.bl j) = (i == j) := by
  rw [Bool.eq_iff_iff]
  simp
theorem ZlP {i j : Str} : decide (V.str i = V.str j) = (i == j) := by
  rw [Bool.eq_iff_iff]
  simp
theorem ZkJ {i j : Array UInt8} : decide (V.byt i = V.byt j) = (i.toList == j.toList) := by
  rw [Bool.eq_iff_iff]
  cases i
  cases j
  simp
section
variable {X : Cx} {a b c : Expr} {ta tb tc : TE} {pos : Pos}
theorem ZaR {pins : List (Addr × Obj)} {σ : St} {H : Hp} {s : Shared} {Q : VK} {k k' : Bool} (I : Inv X pins σ H s) (q : Q (.bl k) H) (e : k = k') : EP X pins σ Q (.bool k') s := by
  subst e
  exact ⟨.bl k, H, I, rfl, q⟩
theorem ZkU : OpR X (compareOp .Eq) rEq := by
  intro pins s σ H x y v u Q I rx ry h
  obtain ⟨hs, q⟩ := h
  cases x with
  | non =>
    cases rx
    cases y with
    | non => cases ry; exact PySem.EqNone.eq_none_none (ZaR I q (by simp))
    | bl j => cases ry; exact PySem.EqNone.eq_none_bool (ZaR I q (by simp))
    | int j => obtain ⟨t', rfl⟩ := ry; exact PySem.EqNone.eq_none_int (ZaR I q (by simp))
    | str j => obtain ⟨t', rfl⟩ := ry; exact PySem.EqNone.eq_none_str (ZaR I q (by simp))
    | _ => exact absurd (show false = true from hs) Bool.false_ne_true
  | bl i =>
    cases rx
    cases y with
    | non => cases ry; exact PySem.EqNone.eq_bool_none (ZaR I q (by simp))
    | bl j => cases ry; exact eq_bool (ZaR I q Zon)
    | str j => obtain ⟨t', rfl⟩ := ry; exact PySem.EqMixed.eq_bool_str (ZaR I q (by simp))
    | _ => exact absurd (show false = true from hs) Bool.false_ne_true
  | int i =>
    obtain ⟨t, rfl⟩ := rx
    cases y with
    | non => cases ry; exact PySem.EqNone.eq_int_none (ZaR I q (by simp))
    | int j => obtain ⟨t', rfl⟩ := ry; exact eq_int (ZaR I q ZlD)
    | str j => obtain ⟨t', rfl⟩ := ry; exact PySem.EqMixed.eq_int_str (ZaR I q (by simp))
    | _ => exact absurd (show false = true from hs) Bool.false_ne_true
  | str i =>
    obtain ⟨t, rfl⟩ := rx
    cases y with
    | non => cases ry; exact PySem.EqNone.eq_str_none (ZaR I q (by simp))
    | bl j => cases ry; exact PySem.EqMixed.eq_str_bool (ZaR I q (by simp))
    | int j => obtain ⟨t', rfl⟩ := ry; exact PySem.EqMixed.eq_str_int (ZaR I q (by simp))
    | str j => obtain ⟨t', rfl⟩ := ry; exact eq_str (ZaR I q ZlP)
    | _ => exact absurd (show false = true from hs) Bool.false_ne_true
  | byt i =>
    obtain ⟨t, rfl⟩ := rx
    cases y with
    | byt j => obtain ⟨t', rfl⟩ := ry; exact PySem.W.eq_bytes (ZaR I q ZkJ)
    | _ => exact absurd (show false = true from hs) Bool.false_ne_true
  | _ => cases y <;> exact absurd (show false = true from hs) Bool.false_ne_true
theorem Zor : OpR X (compareOp .NotEq) rNe := by
  intro pins s σ H x y v u Q I rx ry h
  obtain ⟨hs, q⟩ := h
  cases x with
  | non =>
    cases rx
    cases y with
    | non => cases ry; exact PySem.EqNone.ne_none_none (ZaR I q (by simp))
    | bl j => cases ry; exact PySem.EqNone.ne_none_bool (ZaR I q (by simp))
    | int j => obtain ⟨t', rfl⟩ := ry; exact PySem.EqNone.ne_none_int (ZaR I q (by simp))
    | str j => obtain ⟨t', rfl⟩ := ry; exact PySem.EqNone.ne_none_str (ZaR I q (by simp))
    | _ => exact absurd (show false = true from hs) Bool.false_ne_true
  | bl i =>
    cases rx
    cases y with
    | non => cases ry; exact PySem.EqNone.ne_bool_none (ZaR I q (by simp))
    | bl j => cases ry; exact ne_bool (ZaR I q (congrArg not Zon))
    | str j => obtain ⟨t', rfl⟩ := ry; exact PySem.EqMixed.ne_bool_str (ZaR I q (by simp))
    | _ => exact absurd (show false = true from hs) Bool.false_ne_true
  | int i =>
    obtain ⟨t, rfl⟩ := rx
    cases y with
    | non => cases ry; exact PySem.EqNone.ne_int_none (ZaR I q (by simp))
    | int j => obtain ⟨t', rfl⟩ := ry; exact ne_int (ZaR I q (congrArg not ZlD))
    | str j => obtain ⟨t', rfl⟩ := ry; exact PySem.EqMixed.ne_int_str (ZaR I q (by simp))
    | _ => exact absurd (show false = true from hs) Bool.false_ne_true
  | str i =>
    obtain ⟨t, rfl⟩ := rx
    cases y with
    | non => cases ry; exact PySem.EqNone.ne_str_none (ZaR I q (by simp))
    | bl j => cases ry; exact PySem.EqMixed.ne_str_bool (ZaR I q (by simp))
    | int j => obtain ⟨t', rfl⟩ := ry; exact PySem.EqMixed.ne_str_int (ZaR I q (by simp))
    | str j => obtain ⟨t', rfl⟩ := ry; exact ne_str (ZaR I q (congrArg not ZlP))
    | _ => exact absurd (show false = true from hs) Bool.false_ne_true
  | byt i =>
    obtain ⟨t, rfl⟩ := rx
    cases y with
    | byt j => obtain ⟨t', rfl⟩ := ry; exact PySem.W.ne_bytes (ZaR I q (congrArg not ZkJ))
    | _ => exact absurd (show false = true from hs) Bool.false_ne_true
  | _ => cases y <;> exact absurd (show false = true from hs) Bool.false_ne_true
theorem Zpf : OpR X (compareOp .Lt) (rI0 fun i j => .bl (decide (i < j))) := Zrr fun _ _ _ _ _ _ _ q => lt_int q
theorem ZhI : OpR X (compareOp .LtE) (rI0 fun i j => .bl (decide (i <= j))) := Zrr fun _ _ _ _ _ _ _ q => le_int q
theorem ZfG : OpR X (compareOp .Gt) (rI0 fun i j => .bl (decide (j < i))) := Zrr fun _ _ _ _ _ _ _ q => gt_int q
theorem ZbG (b : Expr) {op : CmpOp} (h : op ≠ .In := by decide) (h2 : op ≠ .NotIn := by decide) : behindInMarks op b = false := by
  have e1 : (op == CmpOp.In) = false := by cases op <;> first | rfl | exact absurd rfl h
  have e2 : (op == CmpOp.NotIn) = false := by cases op <;> first | rfl | exact absurd rfl h2
  cases b <;> simp [behindInMarks, e1, e2]
theorem Zo8 {op : CmpOp} {r : R2} (ho : OpR X (compareOp op) r) (ha : PE X a ta) (hb : PE X b tb) (hm : behindInMarks op b = false) : PE X (.Compare a [op] [b] pos) (tOp r ta tb) := by
  intro pins s σ H Q I h
  exact wpAny_Compare1 (Zr1 ha hb I h fun v u s2 x y H2 I2 rx ry q => ho pins s2 σ H2 x y v u Q I2 rx ry q) hm
noncomputable def Zou (t : TE) : TT := fun σ H Q => t σ H fun x H' => ∃ k, x = .bl k /\ Q k H'
theorem ZaL {op : CmpOp} {r : R2} (ho : OpR X (compareOp op) r) (ha : PE X a ta) (hb : PE X b tb) (hm : behindInMarks op b = false) : PT X (.Compare a [op] [b] pos) (Zou (tOp r ta tb)) := by
  intro pins s σ H Q I h
  refine wpAny_isTrue_Compare1 (thn (ha pins s σ H _ I h) fun v s1 ⟨x, H1, I1, r1, q1⟩ => thn (hb pins s1 σ H1 _ I1 q1) fun u s2 ⟨y, H2, I2, r2, q2⟩ =>
    thn (ho pins s2 σ H2 x y v u _ I2 r1 r2 q2) fun c s3 ⟨z, H3, I3, r3, k, e, q3⟩ => ?_) hm
  subst e
  cases r3
  exact wpAny_truthy_bool ⟨H3, I3, q3⟩
noncomputable def ZlR (r r' : R2) (ta tb tc : TE) : TE := fun σ H Q => ta σ H fun x H1 => tb σ H1 fun y H2 => r x y H2 fun z H3 => ∃ k, z = .bl k /\
  (if k = true then tc σ H3 fun w' H4 => r' y w' H4 Q else Q (.bl false) H3)
theorem Zjn {op op' : CmpOp} {r r' : R2} (ho : OpR X (compareOp op) r) (ho' : OpR X (compareOp op') r') (ha : PE X a ta) (hb : PE X b tb) (hc : PE X c tc)
    (hm : lastMarks [op, op'] [b, c] = false := by with_unfolding_all rfl) : PE X (.Compare a [op, op'] [b, c] pos) (ZlR r r' ta tb tc) := by
  intro pins s σ H Q I h
  refine Compare_chain (thn (ha pins s σ H _ I h) fun v s1 ⟨x, H1, I1, r1, q1⟩ => chain_link (thn (hb pins s1 σ H1 _ I1 q1) fun u s2 ⟨y, H2, I2, r2, q2⟩ =>
    thn (ho pins s2 σ H2 x y v u _ I2 r1 r2 q2) fun d s3 ⟨z, H3, I3, r3, k, e, q3⟩ => ?_)) hm
  subst e
  cases r3
  refine wpAny_truthy_bool ?_
  cases k with
  | false => exact ite_ff ⟨.bl false, H3, I3, rfl, q3⟩
  | true => exact ite_tt (chain_last (thn (hc pins s3 σ H3 _ I3 q3) fun w' s4 ⟨z', H4, I4, r4, q4⟩ => ho' pins s4 σ H4 y z' u w' Q I4 r2 r4 q4))
theorem Zjp {op op' : CmpOp} {r r' : R2} (ho : OpR X (compareOp op) r) (ho' : OpR X (compareOp op') r') (ha : PE X a ta) (hb : PE X b tb) (hc : PE X c tc)
    (hm : lastMarks [op, op'] [b, c] = false := by with_unfolding_all rfl) : PT X (.Compare a [op, op'] [b, c] pos) (Zou (ZlR r r' ta tb tc)) := by
  intro pins s σ H Q I h
  refine isTrue_chain (thn (ha pins s σ H _ I h) fun v s1 ⟨x, H1, I1, r1, q1⟩ => test_link (thn (hb pins s1 σ H1 _ I1 q1) fun u s2 ⟨y, H2, I2, r2, q2⟩ =>
    thn (ho pins s2 σ H2 x y v u _ I2 r1 r2 q2) fun d s3 ⟨z, H3, I3, r3, k, e, q3⟩ => ?_)) hm
  subst e
  cases r3
  refine wpAny_truthy_bool ?_
  cases k with
  | false =>
    obtain ⟨k', e', q'⟩ := q3
    cases e'
    exact ite_ff ⟨H3, I3, q'⟩
  | true =>
    refine ite_tt (test_last (thn (hc pins s3 σ H3 _ I3 q3) fun w' s4 ⟨z', H4, I4, r4, q4⟩ => thn (ho' pins s4 σ H4 y z' u w' _ I4 r2 r4 q4) fun d' s5 ⟨z2, H5, I5, r5, k2, e2, q5⟩ => ?_))
    subst e2
    cases r5
    exact wpAny_truthy_bool ⟨H5, I5, q5⟩
noncomputable def Zrz (K : PySem.W.Frag) (x : V) (H : Hp) (k : Bool) : Prop :=
  match x with
  | .non => k = false
  | .bl b => k = b
  | .int i => k = (i != 0)
  | .str y => y.length <= sizeLine /\ k = ((y.length : Int) != 0)
  | .byt y => y.size <= sizeLine /\ k = ((y.size : Int) != 0)
  | .ref p => (∃ xs, SqL K H p xs /\ k = !xs.isEmpty) \/ (∃ xs, SqT K H p xs /\ k = !xs.isEmpty) \/ ∃ kvs, H p = some (.dK kvs) /\ k = !kvs.isEmpty
  | _ => False
theorem Zka {κ : Type} {kvs : List (κ × V)} {vs : List (κ × Value)} (r : KV kvs vs) : (!vs.isEmpty) = !kvs.isEmpty := by
  cases r <;> rfl
theorem ZfQ {xs : List V} {its : List Value} (r : ZbE xs its) : (!its.toArray.isEmpty) = !xs.isEmpty := by
  cases r <;> simp
theorem Zfn : (sizeLine : Nat) < 2 ^ 63 := by rw [sizeLine_eq]; decide
theorem ZpX : Zsf X (fun x H Q => ∃ k, Zrz X.K x H k /\ Q k H) := by
  intro pins s σ H x v Q I rx h
  obtain ⟨k, e, q⟩ := h
  have hl := Zfn
  have hs : sizeLine = 16777216 := sizeLine_eq
  cases x with
  | non =>
    cases rx
    have e' : k = false := e
    subst e'
    exact truthy_none ⟨H, I, q⟩
  | bl b =>
    cases rx
    have e' : k = b := e
    subst e'
    exact wpAny_truthy_bool ⟨H, I, q⟩
  | int i =>
    obtain ⟨t, rfl⟩ := rx
    have e' : k = (i != 0) := e
    subst e'
    exact PySem.P.truthy_int ⟨H, I, q⟩
  | str y =>
    obtain ⟨t, rfl⟩ := rx
    obtain ⟨hy, e'⟩ : y.length <= sizeLine /\ k = ((y.length : Int) != 0) := e
    subst e'
    exact PySem.P.truthy_str (by omega) ⟨H, I.tok _, q⟩
  | byt y =>
    obtain ⟨t, rfl⟩ := rx
    obtain ⟨hy, e'⟩ : y.size <= sizeLine /\ k = ((y.size : Int) != 0) := e
    subst e'
    exact PySem.W.truthy_bytes (by omega) ⟨H, I.tok _, q⟩
  | ref p =>
    cases rx
    have e' : (∃ xs, SqL X.K H p xs /\ k = !xs.isEmpty) \/ (∃ xs, SqT X.K H p xs /\ k = !xs.isEmpty) \/ ∃ kvs, H p = some (.dK kvs) /\ k = !kvs.isEmpty := e
    rcases e' with ⟨xs, hx, e'⟩ | ⟨xs, hx, e'⟩ | ⟨kvs, hx, e'⟩
    · subst e'
      obtain ⟨its, r, pl, hz⟩ := I.list hx
      have hlen := r.length
      exact wpAny_truthy_list pl.isList (by simp only [List.size_toArray]; omega) ⟨H, I.tok _, by rw [ZfQ r]; exact q⟩
    · subst e'
      obtain ⟨its, r, pl, hz⟩ := I.tuple hx
      have hlen := r.length
      exact truthy_tuple pl (by simp only [List.size_toArray]; omega) ⟨H, I.tok _, by rw [ZfQ r]; exact q⟩
    · subst e'
      obtain ⟨hz, hS, vs, r, m⟩ : kvs.length <= sizeLine /\ (p == sysModules) = false /\ ∃ vs, KV kvs vs /\ s.heap.DictOf (ZaZ X.prog X.w) p vs := I.hok p _ hx
      have hlen : kvs.length = vs.length := Paired.length r
      exact wpAny_truthy_dict hS m (by omega) ⟨H, I.tok _, by rw [Zka r]; exact q⟩
  | _ => exact (show False from e).elim
theorem Zna (ha : PE X a ta) (he : ∀ whole, isTrue a X.env whole = (do let v <- whole; standAt a.pos; holding [v] (truthy v))) :
    PT X a (fun σ H Q => ta σ H fun x H' => ∃ k, Zrz X.K x H' k /\ Q k H') := by
  intro pins s σ H Q I h
  exact isTrue_plain (thn (ha pins s σ H _ I h) fun v s1 ⟨x, H1, I1, r1, q1⟩ => ZpX pins s1 σ H1 x v Q I1 r1 q1) (he _)
theorem ZgA {x : V} {us : List Value} (r : ZbE [x] us) : ∃ u, us = [u] /\ Zbc x u := by
  cases r with
  | cons r1 r2 => cases r2; exact ⟨_, rfl, r1⟩
theorem Znh {x y : V} {us : List Value} (r : ZbE [x, y] us) : ∃ u w', us = [u, w'] /\ Zbc x u /\ Zbc y w' := by
  cases r with
  | cons r1 r2 =>
    cases r2 with
    | cons r3 r4 => cases r4; exact ⟨_, _, rfl, r1, r3⟩
theorem ZmO : Zde X (.builtin "abs") (fun xs H Q => ∃ i, xs = [.int i] /\ Q (.int (if i < 0 then -i else i)) H) := by
  intro pins s σ H xs us Q I r h
  obtain ⟨i, rfl, q⟩ := h
  obtain ⟨u, rfl, t, rfl⟩ := ZgA r
  exact call_abs_int fun u tk => ⟨.int (if i < 0 then -i else i), H, I.tok _, ⟨_, rfl⟩, q⟩
theorem ZlF (hc : X.calm = true) : Zde X (.builtin "max") (fun xs H Q => ∃ i j, xs = [.int i, .int j] /\ Q (.int (if j > i then j else i)) H) := by
  intro pins s σ H xs us Q I r h
  obtain ⟨i, j, rfl, q⟩ := h
  obtain ⟨u, w', rfl, ⟨t, rfl⟩, ⟨t', rfl⟩⟩ := Znh r
  refine max_two_ints (I.ok.hd hc) fun h' tk k => ⟨_, H, I.kept k, ?_, q⟩
  by_cases hj : j > i
  · rw [if_pos hj, if_pos hj]; exact ⟨_, rfl⟩
  · rw [if_neg hj, if_neg hj]; exact ⟨_, rfl⟩
theorem ZlG (hc : X.calm = true) : Zde X (.builtin "min") (fun xs H Q => ∃ i j, xs = [.int i, .int j] /\ Q (.int (if j < i then j else i)) H) := by
  intro pins s σ H xs us Q I r h
  obtain ⟨i, j, rfl, q⟩ := h
  obtain ⟨u, w', rfl, ⟨t, rfl⟩, ⟨t', rfl⟩⟩ := Znh r
  refine min_two_ints (I.ok.hd hc) fun h' tk k => ⟨_, H, I.kept k, ?_, q⟩
  by_cases hj : j < i
  · rw [if_pos hj, if_pos hj]; exact ⟨_, rfl⟩
  · rw [if_neg hj, if_neg hj]; exact ⟨_, rfl⟩
theorem Zlb : Zde X (.type "int") (fun xs H Q => (∃ i, xs = [.int i] /\ Q (.int i) H) \/ ∃ k, xs = [.bl k] /\ Q (.int (if k then 1 else 0)) H) := by
  intro pins s σ H xs us Q I r h
  rcases h with ⟨i, rfl, q⟩ | ⟨k, rfl, q⟩
  · obtain ⟨u, rfl, t, rfl⟩ := ZgA r
    exact call_int_int ⟨.int i, H, I, ⟨_, rfl⟩, q⟩
  · obtain ⟨u, rfl, r1⟩ := ZgA r
    cases r1
    exact call_int_bool ⟨.int (if k then 1 else 0), H, I.tok _, ⟨_, rfl⟩, q⟩
end
end L2
namespace L2
open PySem PySem.Spec PyProof.Rows
structure ObjM (h : Heap) (x dx C : Addr) (mA : Str -> Option Value) : Prop where
  obj : h.get? x = some (PySem.W.instObj C dx)
  ns : h.Ns1 dx mA
  ne : dx ≠ x
theorem ZlJ {h : Heap} {dx : Addr} {mA : Str -> Option Value} (n : h.Ns1 dx mA) : ∃ od, h.get? dx = some od /\ ∀ name, PySem.W.lookIn name od = some (mA name) := by
  obtain ⟨o, es, ep, ho, hd, hk, _, hm⟩ := n
  refine ⟨o, ho, fun name => ?_⟩
  have e := hm name
  unfold nsFind findBy at e
  rw [<- Array.find?_toList] at e
  unfold PySem.W.lookIn
  rw [hd]
  dsimp only
  split
  · rename_i y q
    rw [q] at e
    exact congrArg some e
  · rename_i q
    rw [q] at e
    have a : es.toList.any (·.refKey) = false := by
      rw [List.any_eq_false]
      intro y hy
      obtain ⟨z, t, hkey⟩ := hk y (Array.mem_toList_iff.mp hy)
      simp [DictEntry.refKey, hkey]
    have a' : ¬ es.toList.any (·.refKey) = true := by rw [a]; exact Bool.false_ne_true
    rw [if_neg a']
    exact congrArg some e
theorem ObjM.look {h : Heap} {x dx C : Addr} {mA : Str -> Option Value} (I : ObjM h x dx C mA) : ∃ od, PySem.W.InstAt h x (PySem.W.instObj C dx) C (some od) /\ ∀ name, PySem.W.lookIn name od = some (mA name) :=
  let ⟨od, ho, hl⟩ := ZlJ I.ns
  ⟨od, ⟨I.obj, rfl, rfl, ho⟩, hl⟩
section
variable {prog : Program} {w : World} {A : Around} {E : Value -> Shared -> Prop} {s : Shared} {K : PySem.W.Frag} {x dx C f : Addr} {mA : Str -> Option Value} {name : Str} {v : Value}
theorem ZoZ {expr : Bool} {Q : Value -> Shared -> Prop} (X : K.In s.heap) (I : ObjM s.heap x dx C mA) (hg : PySem.W.plainGet K C name = true) (hh : PySem.W.hasDictIn K C = true)
    (ha : PySem.W.findIn K (.ref C) name = some none) (hv : mA name = some v) (hv' : PySem.W.handedIn v = true) (h : Q v { s with toks := s.toks + 1 }) :
    wpAny (model prog w) A (getAttr (.ref x) name expr) Q E s := by
  obtain ⟨od, J, hl⟩ := I.look
  exact PySem.W.get_value X J (PySem.W.plainGet_of hg).1 (PySem.W.findObj_own hh ha rfl (by rw [hl, hv])) hv' h
theorem Zmu {pl : Sem Bool} {Q : Value × List Value -> Shared -> Prop} (X : K.In s.heap) (I : ObjM s.heap x dx C mA) (hg : PySem.W.plainGet K C name = true)
    (hf : PySem.W.findIn K (.ref C) name = some (some (.ref f))) (ht : PySem.W.isFn K (.ref f) = true) (hv : mA name = none) (h : Q (.ref f, [.ref x]) s) :
    wpAny (model prog w) A (getMethod (.ref x) name pl) Q E s := by
  obtain ⟨od, J, hl⟩ := I.look
  exact PySem.W.method_fn X J (PySem.W.plainGet_of hg).1 (PySem.W.plainGet_of hg).2 hf (beq_iff_eq.mp ht) (by show (PySem.W.lookIn name od).map (·.isSome) = some false; rw [hl, hv]; rfl) h
theorem Zpz {ns : List Str} {Q : Unit -> Shared -> Prop} (X : K.In s.heap) (I : ObjM s.heap x dx C mA)
    (hs : PySem.W.findIn K (.ref C) "__setattr__" = some (some (.builtin "object.__setattr__"))) (hp : PySem.W.plainOver K C = true) (ht : PySem.W.takerIn K C name = some none) (hh : PySem.W.hasDictIn K C = true)
    (hw : PySem.Within mA ns) (hsz : ns.length <= sizeLine)
    (h : ∀ h', ObjM h' x dx C (fun y => if y = name then some v else mA y) -> Heap.SameBut dx s.heap h' -> Q () { s with heap := h', toks := s.toks + 2 }) :
    wpAny (model prog w) A (setAttr (.ref x) name v) Q E s := by
  obtain ⟨od, J, hl⟩ := I.look
  refine PySem.W.set_plain X J hs (PySem.W.osa_open (s := { s with toks := s.toks + 1 }) (r := none) X J hp ht fun b => ?_)
  obtain ⟨cd, hc, hd'⟩ := PySem.W.any_some hh
  have hx : s.heap.get? x = some ⟨.ref C, some dx, .plain, #[]⟩ := I.obj
  refine wpAny_bind (wpAny_pure (wpAny_bind (wpAny_bind (wpAny_loadPart hx (wpAny_bind (PySem.W.Looks.here (s := { s with toks := s.toks + 1 }) (PySem.W.looks_clsIn X hc) ?_))))))
  rw [hd']
  refine wpAny_pure (a := some dx) (wpAny_bind (wpAny_pure (wpAny_bind ?_)))
  refine wpAny_nsSet1 (s := { s with toks := s.toks + 1 }) I.ns fun h' hn2 hs2 => ?_
  obtain ⟨oD, esD, epD, hoD, hdD, hcD⟩ := hn2.count (PySem.Within.cons name v hw)
  refine wpAny_bind (wpAny_lookBehind hoD (by rw [hdD]; exact pastItsLine_dict (Nat.le_trans hcD (by rw [List.length_cons]; omega))) ?_)
  exact wpAny_pure (h _ ⟨(hs2.2 _ (Ne.symm I.ne)).trans I.obj, hn2, I.ne⟩ hs2)
theorem Zn1 {R : Result -> Shared -> Prop} {vs : List Value} {kw : List (Str × Value)} (X : K.In s.heap) (hm : PySem.W.makesIn K C = true)
    (hi : PySem.W.findIn K (.ref C) "__init__" = some (some (.ref f))) (hf : PySem.W.typeIn K (.ref f) = some (.type "function"))
    (h : codeAny (model prog w) (A.under (.builtin "type.__call__" ⟨.ref C :: vs, kw⟩)) (.call (.ref f) ⟨.ref (s.heap.objs.size + 1) :: vs, kw⟩) (PySem.W.InitBack (s.heap.objs.size + 1) R)
      { s with heap := (s.heap.push PySem.W.emptyDict).push (PySem.W.instObj C s.heap.objs.size) }) :
    codeAny (model prog w) A (.call (.ref C) ⟨vs, kw⟩) R s := by
  obtain ⟨hh, g, d, t, os⟩ := s
  exact PySem.W.make_core (PySem.W.makes_of X hm) (PySem.W.looks_findIn X hi) (fun self => PySem.W.bind_fn X self hf) (.inl rfl) h
end
noncomputable def ZhW (f : Str) (v : V) : List (Str × V) -> List (Str × V)
  | [] => [(f, v)]
  | (g, x) :: r => if g = f then (g, v) :: r else (g, x) :: ZhW f v r
theorem Zfm (f g : Str) (v : V) : ∀ fs : List (Str × V), (ZhW f v fs).lookup g = if g = f then some v else fs.lookup g
  | [] => by
    show List.lookup g [(f, v)] = _
    by_cases h : g = f
    · have hb : (g == f) = true := beq_iff_eq.mpr h
      simp only [List.lookup, hb, if_pos h]
    · have hb : (g == f) = false := beq_eq_false_iff_ne.mpr h
      simp only [List.lookup, hb, if_neg h]
  | (k, x) :: r => by
    have ih := Zfm f g v r
    rw [show ZhW f v ((k, x) :: r) = (if k = f then (k, v) :: r else (k, x) :: ZhW f v r) from rfl]
    by_cases hk : k = f
    · rw [if_pos hk]
      by_cases h : g = k
      · have hb : (g == k) = true := beq_iff_eq.mpr h
        simp only [List.lookup, hb, if_pos (h.trans hk)]
      · have hb : (g == k) = false := beq_eq_false_iff_ne.mpr h
        simp only [List.lookup, hb, if_neg (fun e : g = f => h (e.trans hk.symm))]
    · rw [if_neg hk]
      by_cases h : g = k
      · have hb : (g == k) = true := beq_iff_eq.mpr h
        simp only [List.lookup, hb, if_neg (fun e : g = f => hk (h.symm.trans e))]
      · have hb : (g == k) = false := beq_eq_false_iff_ne.mpr h
        simp only [List.lookup, hb]
        exact ih
theorem Zfd (f : Str) (v : V) : ∀ fs : List (Str × V), f ∈ (ZhW f v fs).map (·.1) /\ ∀ g, g ∈ fs.map (·.1) -> g ∈ (ZhW f v fs).map (·.1)
  | [] => ⟨by simp [ZhW], fun g h => by simp at h⟩
  | (k, x) :: r => by
    obtain ⟨i1, i2⟩ := Zfd f v r
    rw [show ZhW f v ((k, x) :: r) = (if k = f then (k, v) :: r else (k, x) :: ZhW f v r) from rfl]
    by_cases hk : k = f
    · rw [if_pos hk]
      subst hk
      exact ⟨by simp, fun g h => by simpa using h⟩
    · rw [if_neg hk]
      refine ⟨?_, fun g h => ?_⟩
      · rw [List.map_cons]
        exact List.mem_cons_of_mem _ i1
      · rw [List.map_cons] at h ⊢
        rcases List.mem_cons.mp h with e | e
        · exact List.mem_cons.mpr (.inl e)
        · exact List.mem_cons_of_mem _ (i2 g e)
theorem Zfq (f : Str) (v : V) : ∀ fs : List (Str × V), (ZhW f v fs).length <= fs.length + 1
  | [] => by simp [ZhW]
  | (k, x) :: r => by
    have ih := Zfq f v r
    rw [show ZhW f v ((k, x) :: r) = (if k = f then (k, v) :: r else (k, x) :: ZhW f v r) from rfl]
    by_cases hk : k = f
    · rw [if_pos hk, List.length_cons, List.length_cons]; omega
    · rw [if_neg hk, List.length_cons, List.length_cons]; omega
theorem Zff.some_of {v : V} {o : Option Value} (r : Zff (some v) o) : ∃ u, o = some u /\ Zbc v u := by
  cases o with
  | none => exact (show False from r).elim
  | some u => exact ⟨u, rfl, r⟩
theorem Zff.none_of {o : Option Value} (r : Zff none o) : o = none := by
  cases o with
  | none => rfl
  | some u => exact (show False from r).elim
theorem Zlv {v : V} {u : Value} (r : Zbc v u) : PySem.W.handedIn u = true := by
  cases v with
  | non => cases (show u = Value.none from r); rfl
  | bl b => cases (show u = Value.bool b from r); rfl
  | int i => obtain ⟨t, e⟩ := (show ∃ t, u = Value.int i t from r); cases e; rfl
  | str x => obtain ⟨t, e⟩ := (show ∃ t, u = Value.str x t from r); cases e; rfl
  | byt b => obtain ⟨t, e⟩ := (show ∃ t, u = Value.bytes b t from r); cases e; rfl
  | flt b => obtain ⟨t, e⟩ := (show ∃ t, u = Value.float b t from r); cases e; rfl
  | ref a => cases (show u = Value.ref a from r); rfl
  | ty n => cases (show u = Value.type n from r); rfl
section
variable {P : Program} {w : World} {H H' : Hp} {h h' : Heap} {a C dx : Addr} {fs fs' : List (Str × V)}
theorem Zi1 (hok : HOk P w H h) (e : H a = some (.ins C dx fs)) : ∃ mA, ObjM h a dx C mA /\ (∀ f, Zff (fs.lookup f) (mA f)) /\ PySem.Within mA (fs.map (·.1)) /\ fs.length <= 1000 /\ H dx = some (.own a) := by
  obtain ⟨d, z, ne, ob, mA, n, r, q⟩ := (show Zct P w H h a (.ins C dx fs) from hok a _ e)
  exact ⟨mA, ⟨ob, n, ne⟩, r, q, z, d⟩
end
structure Cls (K : PySem.W.Frag) (C : Addr) : Prop where
  pg : PySem.W.plainGet K C Str.empty = true
  hd : PySem.W.hasDictIn K C = true
  po : PySem.W.plainOver K C = true
  sa : PySem.W.findIn K (.ref C) "__setattr__" = some (some (.builtin "object.__setattr__"))
theorem Cls.get {K : PySem.W.Frag} {C : Addr} (c : Cls K C) (f : Str) : PySem.W.plainGet K C f = true := c.pg
noncomputable def ZdJ (K : PySem.W.Frag) (C : Addr) (f : Str) : Prop := PySem.W.findIn K (.ref C) f = some none
theorem ZdJ.taker {K : PySem.W.Frag} {C : Addr} {f : Str} (n : ZdJ K C f) : PySem.W.takerIn K C f = some none := by
  unfold PySem.W.takerIn
  rw [show PySem.W.findIn K (.ref C) f = some none from n]
  rfl
structure Meth (K : PySem.W.Frag) (C : Addr) (m : Str) (f : Addr) : Prop where
  at_ : PySem.W.findIn K (.ref C) m = some (some (.ref f))
  fn : PySem.W.isFn K (.ref f) = true
  kp : PySem.W.keepIn K (.ref f) = true
section
variable {X : Cx} {pins : List (Addr × Obj)} {σ : St} {H : Hp} {s : Shared} {a C dx : Addr} {fs : List (Str × V)} {f : Str} {v : V} {A : Around} {E : Value -> Shared -> Prop}
theorem Zkn {b : Bool} {Q : Value -> Shared -> Prop} (I : Inv X pins σ H s) (e : H a = some (.ins C dx fs)) (c : Cls X.K C) (n : ZdJ X.K C f) (l : fs.lookup f = some v)
    (h : ∀ u s', Inv X pins σ H s' -> Zbc v u -> Q u s') : wpAny (model X.prog X.w) A (getAttr (.ref a) f b) Q E s := by
  obtain ⟨mA, O, r, _, _, _⟩ := Zi1 I.hok e
  obtain ⟨u, hu, ru⟩ := Zff.some_of (v := v) (o := mA f) (by rw [<- l]; exact r f)
  exact ZoZ I.kIn O (c.get f) c.hd n hu (Zlv ru) (h u _ (I.tok _) ru)
theorem ZjJ {m : Str} {g : Addr} {pl : Sem Bool} {Q : Value × List Value -> Shared -> Prop} (I : Inv X pins σ H s) (e : H a = some (.ins C dx fs)) (c : Cls X.K C) (k : Meth X.K C m g) (l : fs.lookup m = none)
    (h : Q (.ref g, [.ref a]) s) : wpAny (model X.prog X.w) A (getMethod (.ref a) m pl) Q E s := by
  obtain ⟨mA, O, r, _, _, _⟩ := Zi1 I.hok e
  have hn : mA m = none := Zff.none_of (by rw [<- l]; exact r m)
  exact Zmu I.kIn O (c.get m) k.at_ k.fn hn h
theorem ZjY {y : V} {u : Value} {Q : Unit -> Shared -> Prop} (I : Inv X pins σ H s) (e : H a = some (.ins C dx fs)) (c : Cls X.K C) (n : ZdJ X.K C f) (hl : fs.length < 1000) (ry : Zbc y u)
    (h : ∀ s', Inv X pins σ (upd H a (.ins C dx (ZhW f y fs))) s' -> Q () s') : wpAny (model X.prog X.w) A (setAttr (.ref a) f u) Q E s := by
  obtain ⟨mA, O, r, wi, _, ho⟩ := Zi1 I.hok e
  have hz : (fs.map (·.1)).length <= sizeLine := by rw [List.length_map, sizeLine_eq]; omega
  refine Zpz I.kIn O c.sa c.po n.taker c.hd wi hz fun h' O' sb => h _ ?_
  have hd : ∃ o, h'.get? dx = some o := let ⟨o, _, _, e', _⟩ := O'.ns; ⟨o, e'⟩
  refine I.write (x := a) (e := dx) (by rw [e]; exact True.intro) (.inr ho) (fun b q hb z => (sb.2 b hb).trans z) hd ?_
  refine ⟨by rw [Zah O.ne]; exact ho, ?_, O.ne, O'.obj, _, O'.ns, fun g => ?_, fun g hg => ?_⟩
  · have := Zfq f y fs; omega
  · show Zff ((ZhW f y fs).lookup g) (if g = f then some u else mA g)
    rw [Zfm]
    by_cases q : g = f
    · rw [if_pos q, if_pos q]; exact ry
    · rw [if_neg q, if_neg q]; exact r g
  · by_cases q : g = f
    · rw [q]; exact (Zfd f y fs).1
    · refine (Zfd f y fs).2 g (wi g fun z => hg ?_)
      show (if g = f then some u else mA g) = none
      rw [if_neg q]; exact z
theorem Inv.made (I : Inv X pins σ H s) : Inv X pins σ (upd (upd H s.heap.objs.size (.own (s.heap.objs.size + 1))) (s.heap.objs.size + 1) (.ins C s.heap.objs.size []))
    { s with heap := (s.heap.push PySem.W.emptyDict).push (PySem.W.instObj C s.heap.objs.size) } := by
  have e1 : (s.heap.push PySem.W.emptyDict).get? s.heap.objs.size = some PySem.W.emptyDict := Heap.get?_push_size s.heap rfl
  have e2 : ((s.heap.push PySem.W.emptyDict).push (PySem.W.instObj C s.heap.objs.size)).get? (s.heap.objs.size + 1) = some (PySem.W.instObj C s.heap.objs.size) := by
    have := Heap.get?_push_size (s.heap.push PySem.W.emptyDict) (o := PySem.W.instObj C s.heap.objs.size) rfl
    rwa [Heap.size_push] at this
  have e3 : (s.heap.push PySem.W.emptyDict).Ns s.heap.objs.size (fun _ => none) := ⟨PySem.W.emptyDict, #[], _, e1, rfl, (fun e he => absurd he (by simp)), fun _ => rfl⟩
  have I1 := I.laid (a := s.heap.objs.size) (o := .own (s.heap.objs.size + 1)) (h' := s.heap.push PySem.W.emptyDict) (t' := s.toks) (fun b u q => Heap.get?_push_of_some _ q) (Nat.le_refl _) ⟨_, e1⟩
  refine I1.laid (a := s.heap.objs.size + 1) (o := .ins C s.heap.objs.size []) (t' := s.toks) (fun b u q => Heap.get?_push_of_some _ q) (Nat.le_of_eq (Heap.size_push _ _)) ?_
  have ne : s.heap.objs.size ≠ s.heap.objs.size + 1 := Nat.ne_of_lt (Nat.lt_succ_self _)
  refine ⟨by rw [Zah ne, Zaj], Nat.zero_le _, ne, e2, fun _ => none, (Heap.Ns1.of_empty e3).at fun o q => Heap.get?_push_of_some _ q, fun _ => True.intro, fun y hy => absurd rfl hy⟩
theorem ZoD {prog : Program} {w : World} {env : Env} {e : Expr} {f : Str} {pos : Pos} {s : Shared} {Q : Value -> Shared -> Prop} (hb : attributeBase e f env (eval e env) = eval e env)
    (h : wpAny (model prog w) A (eval e env) (fun o s₁ => wpAny (model prog w) A (getAttr o f true) Q E s₁) E s) : wpAny (model prog w) A (eval (.Attribute e f pos) env) Q E s :=
  Attribute_any_ h (by rw [arm_eval_Attribute, hb])
end
noncomputable def ZjX (K : PySem.W.Frag) (ta : TE) (f : Str) : TE := fun σ H Q => ta σ H fun x H1 => ∃ a C dx fs v, x = .ref a /\ H1 a = some (.ins C dx fs) /\ Cls K C /\ ZdJ K C f /\ fs.lookup f = some v /\ Q v H1
noncomputable def Zsi (K : PySem.W.Frag) (ta tv : TE) (f : Str) : TS := fun D σ H => tv σ H fun y H1 => ta σ H1 fun x H2 => ∃ a C dx fs, x = .ref a /\ H2 a = some (.ins C dx fs) /\ Cls K C /\ ZdJ K C f /\ fs.length < 1000 /\
  D.nx σ (upd H2 a (.ins C dx (ZhW f y fs)))
section
variable {X : Cx} {o e value : Expr} {f : Str} {pos pos' tpos : Pos} {ta tv : TE}
theorem Zcn (he : PE X e ta) (hb : attributeBase e f X.env (eval e X.env) = eval e X.env) : PE X (.Attribute e f pos) (ZjX X.K ta f) := by
  intro pins s σ H Q I h
  refine ZoD hb (thn (he pins s σ H _ I h) fun u s1 ⟨x, H1, I1, rx, a, C, dx, fs, v, ex, ea, c, n, l, q⟩ => ?_)
  subst ex
  obtain rfl : u = Value.ref a := rx
  exact Zkn I1 ea c n l fun u' s2 I2 ru => ⟨v, H1, I2, ru, q⟩
theorem ZiL (ha : PE X o ta) (hv : PE X value tv) (hs : swapsWith value (some (.Attribute o f pos')) pos.line X.env = pure false) : PS X (.Assign [.Attribute o f pos'] value pos) (Zsi X.K ta tv f) := by
  intro pins s σ H D I h
  refine plainObj_wpAny_Assign_Attribute (thn (hv pins s σ H _ I h) fun u s1 ⟨y, H1, I1, ry, q⟩ => thn (ha pins s1 σ H1 _ I1 q) fun ov s2 ⟨x, H2, I2, rx, a, C, dx, fs, ex, ea, c, n, l, q2⟩ => ?_) hs
  subst ex
  obtain rfl : ov = Value.ref a := rx
  exact ZjY I2 ea c n l ry fun s3 I3 => ⟨σ, _, I3, q2⟩
end
section
variable {X : Cx} {pins : List (Addr × Obj)} {σ : St} {H : Hp} {s : Shared} {A : Around} {E : Value -> Shared -> Prop} {Q : Value -> Shared -> Prop} {c : Value} {b : Bool}
end
end L2
namespace L2
open PySem PySem.Spec PyProof.Rows
structure Room (k : Nat) (A : Around) : Prop where
  hd : A.handled = none
  dp : A.depth + 3 * k + 5 < recursionLimit
  un : A.units + 16 * k + 200 < cLine
theorem Room.mono {j k : Nat} {A : Around} (r : Room k A) (h : j <= k) : Room j A := ⟨r.hd, by have := r.dp; omega, by have := r.un; omega⟩
theorem Room.deeper {k : Nat} {A : Around} (r : Room (k + 1) A) (env : Env) : Room k (A.deeper env) :=
  ⟨r.hd, by have := r.dp; show A.depth + 1 + 3 * k + 5 < _; omega, by have := r.un; show A.units + 3 + 16 * k + 200 < _; omega⟩
theorem Zkf {A : Around} {C : Addr} {us : List Value} {kw : List (Str × Value)} : (A.under (.builtin "type.__call__" ⟨.ref C :: us, kw⟩)).depth = A.depth + 1 := by
  first | rfl | simp [Around.under, Code.weight, Code.isCreation, Code.isGuard, Code.isCaller, Code.frames, Code.isFrame, guardIds]
theorem ZjG {A : Around} {C : Addr} {us : List Value} {kw : List (Str × Value)} : (A.under (.builtin "type.__call__" ⟨.ref C :: us, kw⟩)).units = A.units + 1 := by
  first | rfl | simp [Around.under, Code.cUnits, Code.frames, Code.isFrame]
theorem Room.make {k : Nat} {A : Around} (r : Room (k + 1) A) (C : Addr) (us : List Value) (kw : List (Str × Value)) : Room k (A.under (.builtin "type.__call__" ⟨.ref C :: us, kw⟩)) :=
  ⟨r.hd, by have := r.dp; rw [Zkf]; omega, by have := r.un; rw [ZjG]; omega⟩
theorem Room.depth {k : Nat} {A : Around} (r : Room k A) : A.depth < recursionLimit := by have := r.dp; omega
theorem Room.units {k : Nat} {A : Around} (r : Room k A) : A.units + 64 < cLine := by have := r.un; omega
noncomputable def Zds : TA := fun _ H Q => Q [] H
noncomputable def ZaV (ta : TE) (tr : TA) : TA := fun σ H Q => ta σ H fun x H1 => tr σ H1 fun xs H2 => Q (x :: xs) H2
section
variable {X : Cx} {e : Expr} {es : List Expr} {te : TE} {t : TA} {pos : Pos}
theorem Zae : PA X [] Zds := fun _ _ _ _ H Q I h => Calls.spliced_nil ⟨[], H, I, .nil, h⟩
theorem Zaa (ha : PE X e te) (hr : PA X es t) (hs : starEach (e :: es) X.env = (false, eval e X.env) :: starEach es X.env := by rfl) : PA X (e :: es) (ZaV te t) := by
  intro pos pins s σ H Q I h
  rw [hs]
  show wpAny _ _ (spliced ((false, eval e X.env) :: backTo pos (starEach es X.env))) _ _ s
  refine Calls.spliced_cons (thn (ha pins s σ H _ I h) fun u s1 ⟨x, H1, I1, r1, q1⟩ => ?_)
  exact thn (hr pos pins s1 σ H1 _ I1 q1) fun us s2 ⟨xs, H2, I2, r2, q2⟩ => ⟨x :: xs, H2, I2, .cons r1 r2, q2⟩
noncomputable def Zrj (t : TA) : TE := fun σ H Q => t σ H fun xs H1 => xs.length <= sizeLine /\ ∀ p, H1 p = none -> Q (.ref p) (upd H1 p (.tup xs))
noncomputable def Zrc (t : TA) : TE := fun σ H Q => t σ H fun xs H1 => xs.length <= sizeLine /\ ∀ p, H1 p = none -> Q (.ref p) (upd H1 p (.lst xs))
theorem Zc1 {x1} (h : PA X es t) : PE X (.Tuple es x1 pos) (Zrj t) := by
  intro pins s σ H Q I hq
  refine wpAny_Tuple_spliced (thn (h pos pins s σ H _ I hq) fun us s1 ⟨xs, H1, I1, r, z, q⟩ => ⟨by rw [<- r.length]; exact z, ?_⟩)
  have hf : H1 s1.heap.objs.size = none := I1.hok.fresh (Nat.le_refl _)
  refine ⟨.ref s1.heap.objs.size, upd H1 s1.heap.objs.size (.tup xs), I1.laid (t' := s1.toks) (fun b u e => Heap.get?_push_of_some _ e) (Nat.le_refl _) ?_, rfl, q _ hf⟩
  exact ⟨z, us, r, ⟨_, Heap.get?_push_size _ rfl, rfl, _, rfl⟩⟩
theorem Zc2 (h : PA X es t) : PE X (.List es pos) (Zrc t) := by
  intro pins s σ H Q I hq
  refine wpAny_List_spliced (thn (h pos pins s σ H _ I hq) fun us s1 ⟨xs, H1, I1, r, z, q⟩ => ⟨by rw [<- r.length]; exact z, ?_⟩)
  have hf : H1 s1.heap.objs.size = none := I1.hok.fresh (Nat.le_refl _)
  refine ⟨.ref s1.heap.objs.size, upd H1 s1.heap.objs.size (.lst xs), I1.laid (t' := s1.toks) (fun b u e => Heap.get?_push_of_some _ e) (Nat.le_refl _) ?_, rfl, q _ hf⟩
  exact ⟨z, us, 0, r, Heap.get?_push_size _ rfl⟩
end
noncomputable abbrev Sp := List V -> Hp -> VK -> XK -> Prop
noncomputable abbrev CXT := List Env -> Hp -> Shared -> XK -> Value -> Shared -> Prop
structure Env0 (P : Program) (w : World) (K : PySem.W.Frag) (mg : Str -> Option Value) (base : Heap) (A : Around) (outer : List Env) (s : Shared) (H : Hp) : Prop where
  frames : A.frames = some outer
  mod : Mod K mg base
  bs : ∀ b o, base.get? b = some o -> s.heap.get? b = some o /\ (H b = none \/ ∃ xs, H b = some (.tup xs))
  bsz : base.objs.size <= s.heap.objs.size
  funs : s.heap.FunFrames base outer
  frf : ∀ b ∈ frs outer, H b = none
  hok : HOk P w H s.heap
  bare : AllBare s.gens
noncomputable def CE (outer : List Env) (P : Program) (w : World) (H : Hp) (s : Shared) (Q : VK) (u : Value) (s' : Shared) : Prop :=
  ∃ v H', s'.os = s.os /\ AllBare s'.gens /\ Un (frs outer) [] H H' s.heap s'.heap /\ HOk P w H' s'.heap /\ Zbc v u /\ Q v H'
noncomputable def CR (CX : CXT) (outer : List Env) (P : Program) (w : World) (H : Hp) (s : Shared) (Q : VK) (E : XK) (r : Result) (s' : Shared) : Prop :=
  match r with
  | .ok (.ret u) => CE outer P w H s Q u s'
  | .ok _ => False
  | .error e => CX outer H s E e s'
structure FnOk (P : Program) (w : World) (K : PySem.W.Frag) (mg : Str -> Option Value) (base : Heap) (CX : CXT) (k : Nat) (f : Addr) (fd : FuncData) (ps : List Str) (sp : Sp) : Prop where
  len : ∀ vs H Q E, sp vs H Q E -> vs.length = ps.length
  run : ∀ (A : Around) (outer : List Env) (s : Shared) (H : Hp) (args : Args) (us : List Value) (vs : List V) (Q : VK) (E : XK), Room k A -> Env0 P w K mg base A outer s H -> BindsTo s fd args (ps.zip us) -> ZbE vs us -> sp vs H Q E ->
    codeAny (model P w) A (.call (.ref f) args) (CR CX outer P w H s Q E) s
theorem Env0.make {P : Program} {w : World} {K : PySem.W.Frag} {mg : Str -> Option Value} {base : Heap} {A : Around} {outer : List Env} {s : Shared} {H : Hp} (e : Env0 P w K mg base A outer s H) (C : Addr) (us : List Value) (kw : List (Str × Value)) :
    Env0 P w K mg base (A.under (.builtin "type.__call__" ⟨.ref C :: us, kw⟩)) outer s H := ⟨by first | exact e.frames | (simpa [Around.under, Code.envs, Code.isFrame, pushEnvs] using e.frames), e.mod, e.bs, e.bsz, e.funs, e.frf, e.hok, e.bare⟩
section
variable {X : Cx} {pins : List (Addr × Obj)} {σ : St} {H : Hp} {s s' : Shared}
theorem Inv.env0 (I : Inv X pins σ H s) : Env0 X.prog X.w X.K X.mg X.base X.A X.stack s H :=
  ⟨I.ok.frames, I.ok.mod, I.bs, Nat.le_trans I.ok.bsz I.sz, I.stack, I.stkFree, I.hok, I.bare⟩
theorem Inv.after {Q : VK} {u : Value} (I : Inv X pins σ H s) (h : CE X.stack X.prog X.w H s Q u s') : EP X pins σ Q u s' := by
  obtain ⟨v, H', os, bare, un, hok, r, q⟩ := h
  obtain ⟨hh, g, d, t, os'⟩ := s'
  obtain rfl : os' = s.os := os
  exact ⟨v, H', I.call (h' := hh) (g' := g) (d' := d) (t' := t) (ch := []) un hok bare (fun b z => absurd z (by simp)), r, q⟩
end
noncomputable def ZhC (sp : Sp) (dvs : List V) (E : XK) (t : TA) : TE := fun σ H Q => t σ H fun vs H1 => sp (vs ++ dvs) H1 Q E
noncomputable def ZjE (C : Addr) (m : Str) (sp : Sp) (dvs : List V) (E : XK) (ta : TE) (t : TA) : TE := fun σ H Q => ta σ H fun x H1 => ∃ a dx fs, x = .ref a /\ H1 a = some (.ins C dx fs) /\ fs.lookup m = none /\
  t σ H1 fun vs H2 => sp (x :: (vs ++ dvs)) H2 Q E
noncomputable def ZoT (C : Addr) (sp : Sp) (dvs : List V) (E : XK) (t : TA) : TE := fun σ H Q => t σ H fun vs H1 => ∀ x dx, H1 x = none -> H1 dx = none -> dx ≠ x ->
  sp (.ref x :: (vs ++ dvs)) (upd (upd H1 dx (.own x)) x (.ins C dx [])) (fun v H2 => v = .non /\ Q (.ref x) H2) E
noncomputable def Ze4 (K : PySem.W.Frag) (fd : FuncData) (ps : List Str) (ds : List Value) : Prop :=
  ∀ (s : Shared) (us : List Value), K.In s.heap -> (us ++ ds).length = ps.length -> BindsTo s fd ⟨us, []⟩ (ps.zip (us ++ ds))
theorem Ze4.all {K : PySem.W.Frag} {fd : FuncData} {ps : List Str} (h : ∀ us : List Value, us.length = ps.length -> bindArgs fd ⟨us, []⟩ = pure (ps.zip us)) : Ze4 K fd ps [] := fun s us _ hl => by
  rw [List.append_nil] at hl ⊢
  exact .of_eq (h us hl)
noncomputable def ZfP (CX : CXT) (X : Cx) (E : XK) : Prop := ∀ (pins : List (Addr × Obj)) (σ : St) (H : Hp) (s : Shared) (e : Value) (s' : Shared), Inv X pins σ H s -> CX X.stack H s E e s' -> X.xe e s'
section
variable {X : Cx} {CX : CXT} {k : Nat} {f C : Addr} {fd : FuncData} {ps : List Str} {sp : Sp} {dvs : List V} {ds : List Value} {E : XK} {x m : Str} {p pos apos : Pos} {e o : Expr} {es : List Expr} {ta : TE} {t : TA}
theorem ZnG {pins : List (Addr × Obj)} {σ : St} {H : Hp} {s : Shared} {Q : VK} {us : List Value} {vs : List V} (F : FnOk X.prog X.w X.K X.mg X.base CX k f fd ps sp) (hr : Room k X.A) (hb : Ze4 X.K fd ps ds) (hd : ZbE dvs ds) (hx : ZfP CX X E)
    (I : Inv X pins σ H s) (r : ZbE vs us) (h : sp (vs ++ dvs) H Q E) : wpAny (model X.prog X.w) X.A (call (.ref f) us) (EP X pins σ Q) X.xe s := by
  have r2 : ZbE (vs ++ dvs) (us ++ ds) := r.append hd
  have hl : (us ++ ds).length = ps.length := by rw [<- r2.length]; exact F.len _ _ _ _ h
  refine wpAny_call (codeAny_mono (F.run X.A X.stack s H ⟨us, []⟩ (us ++ ds) (vs ++ dvs) Q E hr I.env0 (hb s us I.kIn hl) r2 h) fun r s' hq => ?_)
  cases r with
  | error e => exact hx pins σ H s e s' I hq
  | ok fl =>
    cases fl with
    | ret u => exact I.after hq
    | next => exact False.elim hq
    | brk => exact False.elim hq
    | cont => exact False.elim hq
theorem Zpi (F : FnOk X.prog X.w X.K X.mg X.base CX k f fd ps sp) (hr : Room k X.A) (hg : Gl X x) (hm : X.mg x = some (.ref f)) (hk : PySem.W.keepIn X.K (.ref f) = true) (hb : Ze4 X.K fd ps ds) (hd : ZbE dvs ds) (hx : ZfP CX X E)
    (ha : PA X (e :: es) t) (hdb : (x == ("__debug__" : Str)) = false := by decide) (he : starEach (e :: es) X.env = (false, eval e X.env) :: starEach es X.env := by rfl) (hpl : (backTo pos (starEach es X.env)).any (·.1) = false := by rfl) :
    PE X (.Call (.Name x p) (e :: es) [] pos) (ZhC sp dvs E t) := by
  intro pins s σ H Q I h
  refine wpAny_Call_Name_kw (Zin I hg hm ?_ hdb)
  refine PySem.W.callWith_K (h₀ := X.base) I.ok.mod.kin hk (thn (ha pos pins s σ H _ I h) fun us s1 ⟨vs, H1, I1, r, q⟩ => ⟨I1.kIn, ?_⟩) he hpl
  exact ZnG F hr hb hd hx I1 r q
theorem Zpv {pl : Sem Bool} (he : PE X o ta) (c : Cls X.K C) (hm : Meth X.K C m f) (F : FnOk X.prog X.w X.K X.mg X.base CX k f fd ps sp) (hr : Room k X.A) (hb : Ze4 X.K fd ps ds) (hd : ZbE dvs ds) (hx : ZfP CX X E) (ha : PA X (e :: es) t)
    (hst : starEach (e :: es) X.env = (false, eval e X.env) :: starEach es X.env := by rfl) (hpl : (backTo pos (starEach es X.env)).any (·.1) = false := by rfl)
    (ht : eval (.Call (.Attribute o m apos) (e :: es) [] pos) X.env = (do
      let ov <- eval o X.env
      standAt apos.atName
      let (f, first) <- holding [ov] (getMethod ov m pl)
      callWith pos f first (backTo pos (starEach (e :: es) X.env)) (backToKw pos (keywordEach [] X.env))) := by rfl) :
    PE X (.Call (.Attribute o m apos) (e :: es) [] pos) (ZjE C m sp dvs E ta t) := by
  intro pins s σ H Q I h
  refine PySem.W.methodCall_KW (pl := pl) (thn (he pins s σ H _ I h) fun u s1 ⟨x, H1, I1, rx, a, dx, fs, ex, ea, l, q⟩ => ?_) ht
  subst ex
  obtain rfl : u = Value.ref a := rx
  refine ZjJ I1 ea c hm l ?_
  refine PySem.W.callWith_K (first := [.ref a]) (h₀ := X.base) I.ok.mod.kin hm.kp (thn (ha pos pins s1 σ H1 _ I1 q) fun us s2 ⟨vs, H2, I2, r, q2⟩ => ⟨I2.kIn, ?_⟩) hst hpl
  exact ZnG (us := .ref a :: us) (vs := .ref a :: vs) F hr hb hd hx I2 (.cons rfl r) q2
structure Mk (K : PySem.W.Frag) (C f : Addr) : Prop where
  makes : PySem.W.makesIn K C = true
  init : PySem.W.findIn K (.ref C) "__init__" = some (some (.ref f))
  fn : PySem.W.isFn K (.ref f) = true
  kp : PySem.W.keepIn K (.ref C) = true
theorem Zme {pins : List (Addr × Obj)} {σ : St} {H : Hp} {s : Shared} {Q : VK} {us : List Value} {vs : List V} (M : Mk X.K C f) (F : FnOk X.prog X.w X.K X.mg X.base CX k f fd ps sp) (hr : Room (k + 1) X.A) (hb : Ze4 X.K fd ps ds) (hd : ZbE dvs ds)
    (hx : ZfP CX X E) (I : Inv X pins σ H s) (r : ZbE vs us)
    (h : ∀ x dx, H x = none -> H dx = none -> dx ≠ x -> sp (.ref x :: (vs ++ dvs)) (upd (upd H dx (.own x)) x (.ins C dx [])) (fun v H2 => v = .non /\ Q (.ref x) H2) E) :
    wpAny (model X.prog X.w) X.A (call (.ref C) us) (EP X pins σ Q) X.xe s := by
  have hq := h (s.heap.objs.size + 1) s.heap.objs.size (I.hok.fresh (Nat.le_succ _)) (I.hok.fresh (Nat.le_refl _)) (Nat.ne_of_lt (Nat.lt_succ_self _))
  have I2 := Inv.made (C := C) I
  have r2 : ZbE (V.ref (s.heap.objs.size + 1) :: (vs ++ dvs)) (Value.ref (s.heap.objs.size + 1) :: (us ++ ds)) := .cons rfl (r.append hd)
  have hl : (Value.ref (s.heap.objs.size + 1) :: us ++ ds).length = ps.length := by
    have e := r2.length
    rw [F.len _ _ _ _ hq] at e
    exact e.symm
  refine wpAny_call (Zn1 (f := f) I.kIn M.makes M.init (beq_iff_eq.mp M.fn) (codeAny_mono (F.run _ X.stack _ _ ⟨Value.ref (s.heap.objs.size + 1) :: us, []⟩ (Value.ref (s.heap.objs.size + 1) :: (us ++ ds)) _ _ E (hr.make C us [])
    (I2.env0.make C us []) (hb _ (Value.ref (s.heap.objs.size + 1) :: us) I2.kIn hl) r2 hq) fun r s' hq' => ?_))
  cases r with
  | error e => exact hx pins σ _ _ e s' I2 hq'
  | ok fl =>
    cases fl with
    | ret u =>
      obtain ⟨v, H', I3, rv, ev, q3⟩ := I2.after hq'
      subst ev
      exact ⟨rv, ⟨V.ref (s.heap.objs.size + 1), H', I3, rfl, q3⟩⟩
    | next => exact False.elim hq'
    | brk => exact False.elim hq'
    | cont => exact False.elim hq'
theorem Zmo (M : Mk X.K C f) (F : FnOk X.prog X.w X.K X.mg X.base CX k f fd ps sp) (hr : Room (k + 1) X.A) (hg : Gl X x) (hm : X.mg x = some (.ref C)) (hb : Ze4 X.K fd ps ds) (hd : ZbE dvs ds) (hx : ZfP CX X E)
    (hdb : (x == ("__debug__" : Str)) = false := by decide) : PE X (.Call (.Name x p) [] [] pos) (ZoT C sp dvs E Zds) := by
  intro pins s σ H Q I h
  refine wpAny_Call_Name_kw (Zin I hg hm ?_ hdb)
  exact PySem.W.callWith_K0 I.kIn M.kp (Zme (us := []) M F hr hb hd hx I .nil h)
end
section
variable {X : Cx} {CX : CXT} {k : Nat} {f C : Addr} {fd : FuncData} {ps ks : List Str} {sp : Sp} {E : XK} {x m : Str} {p pos apos kpos : Pos} {e o : Expr} {es : List Expr} {kws : List Keyword} {te ta : TE} {t tk : TA} {nm : Option Str}
variable {g : List Value -> List Value -> List Value} {gV : List V -> List V -> List V}
end
structure FnScope (N P : List Str) (sc : Scope) : Prop where
  kind : sc.kind = .function
  co : sc.isCoroutine = false
  gen : sc.isGenerator = false
  nd : N.Nodup
  pre : N.take P.length = P
  par : ∀ x ∈ P, sc.names.lookup x = some .local \/ sc.names.lookup x = some .cell
  nofree : ∀ y ∈ sc.names, y.2 ≠ .free
theorem Zh9 {kindOf : Str -> Option NameKind} {x : Str} : ∀ {binds : List (Str × Value)} {m : Str -> Option Value}, (∀ v, (x, v) ∉ binds) -> bindL kindOf binds m x = m x
  | [], _, _ => rfl
  | (n, v) :: r, m, h => by
    unfold bindL
    rw [Zh9 fun w hw => h w (List.mem_cons_of_mem _ hw)]
    split
    · have : x ≠ n := by rintro rfl; exact h v List.mem_cons_self
      simp [this]
    · rfl
theorem ZhQ {kindOf : Str -> Option NameKind} {x : Str} : ∀ {binds : List (Str × Value)} {m : Str -> Option Value}, (∀ v, (x, v) ∉ binds) -> bindC kindOf binds m x = m x
  | [], _, _ => rfl
  | (n, v) :: r, m, h => by
    unfold bindC
    rw [ZhQ fun w hw => h w (List.mem_cons_of_mem _ hw)]
    split
    · rfl
    · have : x ≠ n := by rintro rfl; exact h v List.mem_cons_self
      simp [this]
theorem Zho {kindOf : Str -> Option NameKind} {x : Str} {v : Value} : ∀ {P : List Str} {vs : List Value} {i : Nat} {m : Str -> Option Value}, P.Nodup -> P[i]? = some x -> vs[i]? = some v -> kindOf x = some .local ->
    bindL kindOf (P.zip vs) m x = some v
  | [], _, _, _, _, h, _, _ => by simp at h
  | _ :: _, [], _, _, _, _, h, _ => by simp at h
  | p :: P, w :: vs, 0, m, nd, h1, h2, hk => by
    simp at h1 h2; subst h1; subst h2
    show bindL kindOf ((p, w) :: P.zip vs) m p = _
    unfold bindL
    rw [Zh9 fun v hv => (List.nodup_cons.mp nd).1 (List.of_mem_zip hv).1, if_pos hk]
    simp
  | p :: P, w :: vs, i + 1, m, nd, h1, h2, hk => by
    show bindL kindOf ((p, w) :: P.zip vs) m x = _
    unfold bindL
    exact Zho (i := i) (List.nodup_cons.mp nd).2 (by simpa using h1) (by simpa using h2) hk
theorem ZhP {kindOf : Str -> Option NameKind} {x : Str} {v : Value} : ∀ {P : List Str} {vs : List Value} {i : Nat} {m : Str -> Option Value}, P.Nodup -> P[i]? = some x -> vs[i]? = some v -> kindOf x ≠ some .local ->
    bindC kindOf (P.zip vs) m x = some v
  | [], _, _, _, _, h, _, _ => by simp at h
  | _ :: _, [], _, _, _, _, h, _ => by simp at h
  | p :: P, w :: vs, 0, m, nd, h1, h2, hk => by
    simp at h1 h2; subst h1; subst h2
    show bindC kindOf ((p, w) :: P.zip vs) m p = _
    unfold bindC
    rw [ZhQ fun v hv => (List.nodup_cons.mp nd).1 (List.of_mem_zip hv).1, if_neg hk]
    simp
  | p :: P, w :: vs, i + 1, m, nd, h1, h2, hk => by
    show bindC kindOf ((p, w) :: P.zip vs) m x = _
    unfold bindC
    exact ZhP (i := i) (List.nodup_cons.mp nd).2 (by simpa using h1) (by simpa using h2) hk
noncomputable def start (N : List Str) (vs : List V) : St := vs.map some ++ List.replicate (N.length - vs.length) none
noncomputable def ZhV (CX : CXT) (P : Program) (w : World) (K : PySem.W.Frag) (mg : Str -> Option Value) (base : Heap) (N : List Str) (qual : Str) (scope : Scope) (f : Addr) (cd : Value) (A : Around) (outer : List Env) (s : Shared) (H : Hp) (E : XK) : Cx where
  prog := P
  w := w
  K := K
  mg := mg
  base := base
  A := A.deeper (envOfC qual scope s.heap.objs.size f cd)
  N := N
  s₀ := s
  H₀ := H
  env := envOfC qual scope s.heap.objs.size f cd
  outer := outer
  stack := envOfC qual scope s.heap.objs.size f cd :: outer
  ex := []
  calm := true
  fn := fun _ => true
  pn := []
  xe := fun e s' => wpAny (model P w) (A.deeper (envOfC qual scope s.heap.objs.size f cd)) (leaving (envOfC qual scope s.heap.objs.size f cd) e) (fun _ s'' => CX outer H s E e s'') (fun e' s'' => CX outer H s E e' s'') s'
theorem Zjv {sc : Scope} {n : Nat} {x : Str} (h : sc.names.lookup x = some .cell) : ∃ c, (cellsFrom n sc.names []).lookup x = some c := by
  have q := PySem.W.cellsFrom_some sc.names n [] (.inl h)
  exact Option.isSome_iff_exists.mp q
theorem ZkR {CX : CXT} {P : Program} {w : World} {K : PySem.W.Frag} {mg : Str -> Option Value} {base : Heap} {N ps : List Str} {qual : Str} {scope : Scope} {f : Addr} {cd : Value} {A : Around} {outer : List Env} {s s1 : Shared} {H : Hp} {E : XK} {us : List Value} {vs : List V}
    (S : FnScope N ps scope) (hd : A.handled = none) (e0 : Env0 P w K mg base A outer s H) (hl : vs.length = ps.length) (r : ZbE vs us)
    (x : InCallC s s.heap.objs.size (bindL (envOfC qual scope s.heap.objs.size f cd).kindOf (ps.zip us) fun _ => none) (cellsFrom (s.heap.objs.size + 1) scope.names []) (bindC (envOfC qual scope s.heap.objs.size f cd).kindOf (ps.zip us) fun _ => none) s1) :
    Inv (ZhV CX P w K mg base N qual scope f cd A outer s H E) [] (start N vs) H s1 := by
  have hpl : ps.length <= N.length := by have := congrArg List.length S.pre; rw [List.length_take] at this; omega
  obtain ⟨h1, tk, rfl, hk⟩ := x.done
  have noA : ∀ b : Addr, b ∉ (ZhV CX P w K mg base N qual scope f cd A outer s H E).ex := fun b z => absurd (show b ∈ ([] : List Addr) from z) (by simp)
  refine ⟨⟨e0.mod, S.kind, rfl, rfl, Nat.le_refl _, fun y z c h1 h2 => ?_, fun y hy => ?_, fun y c _ h => ?_, fun _ => hd, Around.frames_deeper e0.frames, .inr ⟨rfl, rfl⟩, fun b z => absurd z (noA b), e0.bs, e0.bsz, fun b _ _ => noA b, fun b z => absurd z (noA b), e0.funs, e0.frf⟩,
    rfl, e0.bare, Un.kept hk, ⟨_, x.toInCall.ns, fun i y v h1 h2 h3 => ?_⟩, fun y c h => ⟨_, x.cell y c h⟩, e0.hok.fresh (Nat.le_refl _), fun y c h => ?_, fun p hp => absurd (show p ∈ ([] : List (Addr × Obj)) from hp) (by simp), e0.hok.kept hk, ?_⟩
  · exact name_of_addr x.apart (PySem.mem_of_lookup h1) (PySem.mem_of_lookup h2)
  · have hy : scope.names.lookup y = some .cell \/ scope.names.lookup y = some .free := hy
    rcases hy with hy | hy
    · exact Zjv hy
    · exact absurd rfl (S.nofree _ (PySem.mem_of_lookup hy))
  · exact Nat.le_of_lt (x.above y c (PySem.mem_of_lookup h))
  · have hi : i < vs.length := by
      unfold start at h2
      by_cases hi : i < vs.length
      · exact hi
      · rw [List.getElem?_append_right (by simpa using hi)] at h2
        rw [List.getElem?_replicate] at h2
        split at h2 <;> cases h2
    have ha : vs[i]? = some v := by
      unfold start at h2
      rw [List.getElem?_append_left (by simpa using hi), List.getElem?_map] at h2
      cases e : vs[i]? with
      | none => rw [e] at h2; cases h2
      | some a => rw [e] at h2; cases h2; rfl
    obtain ⟨u, hu, rv⟩ := r.get ha
    have hp : ps[i]? = some y := by
      rw [<- S.pre, List.getElem?_take_of_lt (by omega)]; exact h1
    have ndP : ps.Nodup := by rw [<- S.pre]; exact S.nd.sublist (List.take_sublist _ _)
    refine ⟨u, rv, ?_⟩
    rcases S.par y (List.mem_of_getElem? hp) with k | k
    · exact .inl ⟨k, Zho ndP hp hu k⟩
    · obtain ⟨c, e⟩ := Zjv (n := s.heap.objs.size + 1) k
      refine .inr ⟨.inl k, c, e, ?_⟩
      have q := x.cell y c e
      rw [ZhP ndP hp hu (by show scope.names.lookup y ≠ _; rw [k]; decide)] at q
      exact q
  · exact e0.hok.fresh (Nat.le_of_lt (x.above y c (PySem.mem_of_lookup h)))
  · unfold start
    show _ = N.length
    rw [List.length_append, List.length_map, List.length_replicate]
    omega
theorem Zri {CX : CXT} {P : Program} {w : World} {K : PySem.W.Frag} {mg : Str -> Option Value} {base : Heap} {k : Nat} {f : Addr} {name qual : Str} {params : Arguments} {body : List Stmt} {scope : Scope} {dV kV doc pm cdv ct oc : Value} {an od : Option Addr}
    {osl : Array (Option Value)} {N ps : List Str} {sp : Sp} (lk : K.lookup f = some ⟨oc, od, .func (PySem.W.fnOf name qual params body scope dV kV doc pm an cdv ct), osl⟩) (hcd : PySem.W.codeIn K cdv qual = true) (S : FnScope N ps scope)
    (len : ∀ vs H Q E, sp vs H Q E -> vs.length = ps.length)
    (hbody : ∀ (A : Around) (outer : List Env) (s : Shared) (H : Hp) (vs : List V) (Q : VK) (E : XK), Room k (A.deeper (envOfC qual scope s.heap.objs.size f cdv)) -> sp vs H Q E ->
      ∃ t, PSs (ZhV CX P w K mg base N qual scope f cdv A outer s H E) body t /\ t { nx := fun _ H' => Q .non H', rt := Q } (start N vs) H) :
    FnOk P w K mg base CX (k + 1) f (PySem.W.fnOf name qual params body scope dV kV doc pm an cdv ct) ps sp := by
  refine ⟨len, fun A outer s H args us vs Q E hr e0 hb r hsp => ?_⟩
  have hl := len _ _ _ _ hsp
  have KX : K.In s.heap := e0.mod.kin.keeps fun b o e => (e0.bs b o e).1
  have lim : s.heap.NoLimit := e0.mod.nolimit.keeps fun b o e => (e0.bs b o e).1
  have hkind : ∀ y ∈ ps.zip us, scope.names.lookup y.1 = some .local \/ (scope.names.lookup y.1 = some .cell /\ ((cellsFrom (s.heap.objs.size + 1) scope.names []).lookup y.1).isSome = true) := fun ⟨n, v⟩ hy => by
    rcases S.par n (List.of_mem_zip hy).1 with q | q
    · exact .inl q
    · exact .inr ⟨q, PySem.W.cellsFrom_some _ _ _ (.inl q)⟩
  refine codeAny_call_function hr.depth (KX _ _ lk) rfl S.co S.gen rfl (PySem.W.codeRec_of KX hcd) (hb _ _ _ _ ?_)
  refine wpAny_newFunctionEnv_cells S.kind hkind fun env he s1 x => ?_
  subst he
  refine ⟨lim.keeps x.toInCall.keep, codeAny_func ?_⟩
  obtain ⟨t, ht, hq⟩ := hbody A outer s H vs Q E (hr.deeper _) hsp
  have I : Inv (ZhV CX P w K mg base N qual scope f cdv A outer s H E) [] (start N vs) H s1 := ZkR S hr.hd e0 hl r x
  refine wpAny_mono (ht [] s1 (start N vs) H _ I hq) (fun fl s' hs => ?_) fun e s' hs => hs
  have fin : ∀ {σ' : St} {H' : Hp} {v : V} {u : Value}, Inv (ZhV CX P w K mg base N qual scope f cdv A outer s H E) [] σ' H' s' -> Zbc v u -> Q v H' -> CE outer P w H s Q u s' :=
    fun {σ' H' v u} J rv q => ⟨v, H', J.os, J.bare, J.base, J.hok, rv, q⟩
  cases fl with
  | ret u =>
    obtain ⟨v, σ', H', J, rv, q⟩ := hs
    exact fin J rv q
  | next =>
    obtain ⟨σ', H', J, q⟩ := hs
    exact fin (v := V.non) (u := Value.none) J rfl q
  | brk =>
    obtain ⟨_, _, _, q⟩ := hs
    exact False.elim q
  | cont =>
    obtain ⟨_, _, _, q⟩ := hs
    exact False.elim q
end L2
namespace L2
open PySem PySem.Spec PyProof.Rows
section
variable {X : Cx} {x : Str} {p pos : Pos} {e : Expr} {es : List Expr} {t : TA} {id T : String} {r : List V -> Hp -> VK -> Prop}
noncomputable def tCB (r : List V -> Hp -> VK -> Prop) (t : TA) : TE := fun σ H Q => t σ H fun vs H1 => r vs H1 Q
theorem Zay (hc : Zde X (.builtin id) r) (hg : Gl X x) (hm : X.mg x = none) (hv : bootBuiltins x = some (.builtin id)) (ha : PA X (e :: es) t) (hn : x ≠ "__name__" := by decide) (hdb : (x == ("__debug__" : Str)) = false := by decide)
    (he : starEach (e :: es) X.env = (false, eval e X.env) :: starEach es X.env := by rfl) (hpl : (backTo pos (starEach es X.env)).any (·.1) = false := by rfl) : PE X (.Call (.Name x p) (e :: es) [] pos) (tCB r t) := by
  intro pins s σ H Q I h
  refine wpAny_Call_Name_kw (ZeA I hg hm hv ?_ hn hdb)
  exact PyProof.Rows.callWith_builtin1 (thn (ha pos pins s σ H _ I h) fun us s1 ⟨vs, H1, I1, r1, q1⟩ => hc pins s1 σ H1 vs us Q I1 r1 q1) he hpl
theorem Zdl (hc : Zde X (.type T) r) (hg : Gl X x) (hm : X.mg x = none) (hv : bootBuiltins x = some (.type T)) (ha : PA X (e :: es) t) (hn : x ≠ "__name__" := by decide) (hdb : (x == ("__debug__" : Str)) = false := by decide)
    (he : starEach (e :: es) X.env = (false, eval e X.env) :: starEach es X.env := by rfl) (hpl : (backTo pos (starEach es X.env)).any (·.1) = false := by rfl) : PE X (.Call (.Name x p) (e :: es) [] pos) (tCB r t) := by
  intro pins s σ H Q I h
  refine wpAny_Call_Name_kw (ZeA I hg hm hv ?_ hn hdb)
  exact PyProof.Rows.callWith_type1 (thn (ha pos pins s σ H _ I h) fun us s1 ⟨vs, H1, I1, r1, q1⟩ => hc pins s1 σ H1 vs us Q I1 r1 q1) he hpl
end
end L2
namespace HT
open PySem PyProof.Rows
section
open PySem.SeqAt
open PySem.AutoSeq1 (wpAny_loadPart')
open PySem.MeetsSeq PySem.MeetsSeq2 PySem.MeetsSeq3
end
section
variable {prog : Program} {w : World} {A : Around} {E : Value -> Shared -> Prop} {s : Shared}
noncomputable def sIx (n d : Nat) : Option Int -> Nat
  | none => d
  | some v => if v < 0 then (v + (n : Int)).toNat else min v.toNat n
end
end HT
namespace L2
open PySem PySem.Spec PyProof.Rows
theorem ZfX {ns : List Int} : ∀ {us : List Value}, ZbE (ns.map V.int) us -> IntsAre us ns := by
  induction ns with
  | nil => intro us r; rw [List.map_nil] at r; cases r; exact .nil
  | cons n ns ih =>
    intro us r
    rw [List.map_cons] at r
    cases r with
    | cons r1 r2 =>
      obtain ⟨t, e⟩ := r1
      subst e
      exact .cons n t (ih r2)
section
variable {X : Cx} {e : Expr} {te : TE} {lo hi : Option Expr} {tl th : TO} {pos p2 : Pos}
end
end L2
namespace L2
open PySem PySem.Spec PyProof.Rows
noncomputable def ixN (n : Nat) (i : Int) : Option Nat := if 0 <= i then (if i < n then some i.toNat else none) else if -(n : Int) <= i then some (i + n).toNat else none
noncomputable def atI {α : Type} (xs : List α) (i : Int) : Option α := (ixN xs.length i).bind fun j => xs[j]?
theorem ZkF {n : Nat} {i : Int} {j : Nat} (h : ixN n i = some j) : seqIndex? i n = some j /\ j < n /\ -(n : Int) <= i /\ i < n := by
  unfold ixN at h
  by_cases h0 : 0 <= i
  · rw [if_pos h0] at h
    by_cases h1 : i < n
    · rw [if_pos h1] at h
      have e : i.toNat = j := Option.some.inj h
      exact ⟨by rw [seqIndex_of h0 h1, e], by omega, by omega, h1⟩
    · rw [if_neg h1] at h; cases h
  · rw [if_neg h0] at h
    by_cases h1 : -(n : Int) <= i
    · rw [if_pos h1] at h
      have e : (i + n).toNat = j := Option.some.inj h
      exact ⟨by rw [seqIndex_neg (by omega) h1, e], by omega, h1, by omega⟩
    · rw [if_neg h1] at h; cases h
theorem Zi7 {α : Type} {xs : List α} {i : Int} {v : α} (h : atI xs i = some v) : ∃ j, seqIndex? i xs.length = some j /\ xs[j]? = some v /\ j < xs.length /\ -(xs.length : Int) <= i /\ i < xs.length := by
  unfold atI at h
  cases e : ixN xs.length i with
  | none => rw [e] at h; cases h
  | some j =>
    rw [e] at h
    obtain ⟨h1, h2, h3, h4⟩ := ZkF e
    exact ⟨j, h1, h, h2, h3, h4⟩
theorem Zc8 {α : Type} {xs : List α} {j : Nat} {v : α} (h : xs[j]? = some v) : atI xs (j : Int) = some v := by
  have hj : j < xs.length := (List.getElem?_eq_some_iff.mp h).1
  have e : ixN xs.length (j : Int) = some j := by
    unfold ixN
    rw [if_pos (by omega), if_pos (by omega)]; simp
  unfold atI; rw [e]; exact h
noncomputable def ZoB (b : Expr) : Prop := ∀ o i, subscripted b false o i = operate [o, i] (getItem o i)
noncomputable def IxR (X : Cx) (r : R2) : Prop :=
  ∀ (value slice : Expr) (pins : List (Addr × Obj)) (s : Shared) (σ : St) (H : Hp) (x y : V) (v u : Value) (Q : VK), Inv X pins σ H s -> Zbc x v -> Zbc y u -> r x y H Q ->
    subscripted slice false v u = operate [v, u] (getItem v u) -> wpAny (model X.prog X.w) X.A (subscriptTail value slice v u) (EP X pins σ Q) X.xe s
noncomputable def MtR (X : Cx) (id : String) (r : V -> List V -> Hp -> VK -> Prop) : Prop :=
  ∀ (pins : List (Addr × Obj)) (s : Shared) (σ : St) (H : Hp) (x : V) (xs : List V) (v : Value) (us : List Value) (Q : VK), Inv X pins σ H s -> Zbc x v -> ZbE xs us -> r x xs H Q ->
    wpAny (model X.prog X.w) X.A (call (.builtin id) (v :: us)) (EP X pins σ Q) X.xe s
section
variable {X : Cx} {a b : Expr} {ta tb : TE} {pos : Pos}
theorem IxR.or {r r' : R2} (h : IxR X r) (h' : IxR X r') : IxR X (fun x y H Q => r x y H Q \/ r' x y H Q) := by
  intro value slice pins s σ H x y v u Q I rx ry q hs
  rcases q with q | q
  · exact h value slice pins s σ H x y v u Q I rx ry q hs
  · exact h' value slice pins s σ H x y v u Q I rx ry q hs
theorem Za7 {r : R2} (hr : IxR X r) (ha : PE X a ta) (hb : PE X b tb) (hs : ZoB b) : PE X (.Subscript a b pos) (tOp r ta tb) := by
  intro pins s σ H Q I h
  exact Subscript_ (Zr1 ha hb I h fun v u s2 x y H2 I2 rx ry q => hr a b pins s2 σ H2 x y v u Q I2 rx ry q (hs _ _))
noncomputable def ZrN (K : PySem.W.Frag) : R2 := fun x y H Q => ∃ p xs i v, x = .ref p /\ y = .int i /\ SqL K H p xs /\ atI xs i = some v /\ Q v H
noncomputable def ZrK (K : PySem.W.Frag) : R2 := fun x y H Q => ∃ p xs i v, x = .ref p /\ y = .int i /\ SqT K H p xs /\ atI xs i = some v /\ Q v H
noncomputable def ZrT : R2 := fun x y H Q => ∃ z i c, x = .str z /\ y = .int i /\ z.length <= sizeLine /\ atI z.cps.toList i = some c /\ Q (.str ⟨#[c]⟩) H
theorem Zpq : IxR X (ZrN X.K) := by
  intro value slice pins s σ H x y v u Q I rx ry h hs
  obtain ⟨p, xs, i, z, rfl, rfl, hq, he, q⟩ := h
  cases rx
  obtain ⟨t, rfl⟩ := ry
  obtain ⟨its, r, pl, hz⟩ := I.list hq
  obtain ⟨j, h1, h2, h3, h4, h5⟩ := Zi7 he
  obtain ⟨w, ew, rw'⟩ := r.get h2
  have hl := r.length
  have hn := Zfn
  have fin : EP X pins σ Q w s := ⟨z, H, I, rw', q⟩
  by_cases h0 : 0 <= i
  · have hj : i.toNat = j := by
      rw [seqIndex_of h0 h5] at h1
      exact Option.some.inj h1
    exact item_listR pl.isList h0 (by omega) (by rw [hj]; simpa using ew) fin hs
  · have hj : (i + (its.toArray.size : Int)).toNat = j := by
      rw [seqIndex_neg (by omega) h4] at h1
      rw [List.size_toArray, <- hl]
      exact Option.some.inj h1
    exact subscriptTail_builtinR (x := w) pl.isList.typeIs slot_list_getitem.lookup
      (wpAny_getItem_list_neg (Q := fun r s' => r = w /\ EP X pins σ Q r s') pl.isList (by omega) (by rw [List.size_toArray] <;> omega) (by omega) (by rw [hj]; simpa using ew) ⟨rfl, fin⟩) hs
theorem Zqu : IxR X (ZrK X.K) := by
  intro value slice pins s σ H x y v u Q I rx ry h hs
  obtain ⟨p, xs, i, z, rfl, rfl, hq, he, q⟩ := h
  cases rx
  obtain ⟨t, rfl⟩ := ry
  obtain ⟨its, r, pl, hz⟩ := I.tuple hq
  obtain ⟨j, h1, h2, h3, h4, h5⟩ := Zi7 he
  obtain ⟨w, ew, rw'⟩ := r.get h2
  have hl := r.length
  have hn := Zfn
  have fin : EP X pins σ Q w s := ⟨z, H, I, rw', q⟩
  exact subscriptTail_builtinR (x := w) pl.typeIs slot_tuple_getitem.lookup
    (getItem_tuple (j := j) (Q := fun r s' => r = w /\ EP X pins σ Q r s') pl (by omega) (by omega) (by rw [List.size_toArray, <- hl]; exact h1) (by simpa using ew) ⟨rfl, fin⟩) hs
theorem Zqa : IxR X ZrT := by
  intro value slice pins s σ H x y v u Q I rx ry h hs
  obtain ⟨z, i, c, rfl, rfl, hz, he, q⟩ := h
  obtain ⟨t, rfl⟩ := rx
  obtain ⟨t', rfl⟩ := ry
  obtain ⟨j, h1, h2, h3, h4, h5⟩ := Zi7 he
  have hl : z.cps.toList.length = z.length := by simp [Str.length]
  rw [hl] at h1 h4 h5
  have hn := Zfn
  exact tail_any (typeIs_str s z t) slot_str_getitem.lookup (getItem_str (c := c) (by
    have e1 : decide (i < -(2 ^ 63 : Int)) = false := decide_eq_false (by omega)
    have e2 : decide (i >= 2 ^ 63) = false := decide_eq_false (by omega)
    rw [e1, e2, Bool.or_false]) (by rw [h1]; simpa using h2) ⟨.str ⟨#[c]⟩, H, I.tok _, ⟨_, rfl⟩, q⟩) hs
noncomputable def rIx (K : PySem.W.Frag) : R2 := fun x y H Q => ZrN K x y H Q \/ ZrK K x y H Q \/ ZrT x y H Q
theorem Zat : IxR X (rIx X.K) := Zpq.or (Zqu.or Zqa)
theorem ZjV (its : List Value) (n j : Nat) (u : Value) : Obj.mapSeq (·.setIfInBounds j u) { cls := .type "list", data := .seq its.toArray n } = { cls := .type "list", data := .seq (its.set j u).toArray n } := by
  simp [Obj.mapSeq]
theorem Inv.lst {pins : List (Addr × Obj)} {σ : St} {H : Hp} {s : Shared} {p : Addr} {xs : List V} (I : Inv X pins σ H s) (h : H p = some (.lst xs)) :
    ∃ (its : List Value) (n : Nat), ZbE xs its /\ s.heap.get? p = some { cls := .type "list", data := .seq its.toArray n } /\ xs.length <= sizeLine := by
  obtain ⟨z, its, n, r, e⟩ := I.hok p _ h
  exact ⟨its, n, r, e, z⟩
theorem Inv.lstUpd {pins : List (Addr × Obj)} {σ : St} {H : Hp} {s : Shared} {p : Addr} {xs ys : List V} {its its' : List Value} {n n' : Nat} {f : Obj -> Obj} (I : Inv X pins σ H s) (h : H p = some (.lst xs))
    (ho : s.heap.get? p = some { cls := .type "list", data := .seq its.toArray n }) (hf : f { cls := .type "list", data := .seq its.toArray n } = { cls := .type "list", data := .seq its'.toArray n' }) (r : ZbE ys its') (hz : ys.length <= sizeLine) (t : Nat) :
    Inv X pins σ (upd H p (.lst ys)) { s with heap := s.heap.update p f, toks := t } := by
  have e : (s.heap.update p f).get? p = some { cls := .type "list", data := .seq its'.toArray n' } := by
    rw [Heap.get?_update_self f ho (by rw [hf] <;> rfl), hf]
  refine I.write (x := p) (e := p) (by rw [h]; trivial) (.inl rfl) (fun b u hb q => (Heap.get?_update_other _ _ (Ne.symm hb)).trans q) ⟨_, e⟩ ?_
  exact ⟨hz, its', n', r, e⟩
noncomputable def Zn0 : V -> V -> V -> Hp -> (Hp -> Prop) -> Prop := fun o i v H Q => ∃ p xs k j, o = .ref p /\ i = .int k /\ H p = some (.lst xs) /\ ixN xs.length k = some j /\ Q (upd H p (.lst (xs.set j v)))
theorem Zen : Zr3 X Zn0 := by
  intro pins s σ H o i v ov iv u Q I ro ri rv h
  obtain ⟨p, xs, k, j, rfl, rfl, hp, hj, q⟩ := h
  cases ro
  obtain ⟨t, rfl⟩ := ri
  obtain ⟨its, n, r, ho, hz⟩ := I.lst hp
  obtain ⟨h1, h2, h3, h4⟩ := ZkF hj
  have hl := r.length
  have hn := Zfn
  have I' : Inv X pins σ (upd H p (.lst (xs.set j v))) { s with heap := s.heap.update p (Obj.mapSeq (·.setIfInBounds j u)) } :=
    I.lstUpd hp ho (ZjV its n j u) (r.set rv j) (by rw [List.length_set]; exact hz) s.toks
  by_cases h0 : 0 <= k
  · have hk : k.toNat = j := by
      rw [seqIndex_of h0 h4] at h1
      exact Option.some.inj h1
    exact PySem.W.ki_setAt ho h0 (by omega) (by rw [List.size_toArray, <- hl]; exact h4) (by rw [hk]; exact ⟨_, I', q⟩)
  · have hk : (k + (its.toArray.size : Int)).toNat = j := by
      rw [seqIndex_neg (by omega) h3] at h1
      rw [List.size_toArray, <- hl]
      exact Option.some.inj h1
    exact PySem.W.ki_setBack ho (by omega) (by rw [List.size_toArray, <- hl]; exact h3) (by omega) (by rw [hk]; exact ⟨_, I', q⟩)
noncomputable def ZhA : V -> Bool
  | .non => true
  | .bl _ => true
  | .int _ => true
  | .str _ => true
  | _ => false
noncomputable def eqV : V -> V -> Bool
  | .non, .non => true
  | .bl a, .bl b => a == b
  | .bl a, .int b => (if a then 1 else 0) == b
  | .int a, .bl b => a == (if b then 1 else 0)
  | .int a, .int b => a == b
  | .str a, .str b => a == b
  | _, _ => false
theorem Zqg {A : Around} {s : Shared} {y x : V} {u v : Value} (ry : Zbc y u) (rx : Zbc x v) (fy : ZhA y = true) (fx : ZhA x = true) : SeqAt.EqAt A s u v (eqV y x) := by
  cases y with
  | non =>
    cases ry
    cases x with
    | non => cases rx; exact SeqAt.EqAt.same _
    | bl b => cases rx; exact SeqAt.EqAt.none_bool b
    | int b => obtain ⟨t, rfl⟩ := rx; exact SeqAt.EqAt.none_int b t
    | str b => obtain ⟨t, rfl⟩ := rx; exact SeqAt.EqAt.none_str b t
    | _ => exact absurd (show false = true from fx) Bool.false_ne_true
  | bl a =>
    cases ry
    cases x with
    | non => cases rx; exact SeqAt.EqAt.bool_none a
    | bl b => cases rx; exact SeqAt.EqAt.bool_bool a b
    | int b => obtain ⟨t, rfl⟩ := rx; exact SeqAt.EqAt.bool_int a b t
    | str b => obtain ⟨t, rfl⟩ := rx; exact SeqAt.EqAt.bool_str a b t
    | _ => exact absurd (show false = true from fx) Bool.false_ne_true
  | int a =>
    obtain ⟨t', rfl⟩ := ry
    cases x with
    | non => cases rx; exact SeqAt.EqAt.int_none a t'
    | bl b => cases rx; exact SeqAt.EqAt.int_bool a t' b
    | int b => obtain ⟨t, rfl⟩ := rx; exact SeqAt.EqAt.int_int a t' b t
    | str b => obtain ⟨t, rfl⟩ := rx; exact SeqAt.EqAt.int_str a t' b t
    | _ => exact absurd (show false = true from fx) Bool.false_ne_true
  | str a =>
    obtain ⟨t', rfl⟩ := ry
    cases x with
    | non => cases rx; exact SeqAt.EqAt.str_none a t'
    | bl b => cases rx; exact SeqAt.EqAt.str_bool a t' b
    | int b => obtain ⟨t, rfl⟩ := rx; exact SeqAt.EqAt.str_int a t' b t
    | str b => obtain ⟨t, rfl⟩ := rx; exact SeqAt.EqAt.str_str a t' b t
    | _ => exact absurd (show false = true from fx) Bool.false_ne_true
  | _ => exact absurd (show false = true from fy) Bool.false_ne_true
noncomputable def eqU (x : V) (u : Value) : Bool := match u with
  | .none => eqV .non x
  | .bool b => eqV (.bl b) x
  | .int i _ => eqV (.int i) x
  | .str z _ => eqV (.str z) x
  | _ => false
theorem ZnT {x y : V} {u : Value} (r : Zbc y u) (f : ZhA y = true) : eqU x u = eqV y x := by
  cases y with
  | non => cases r; rfl
  | bl b => cases r; rfl
  | int i => obtain ⟨t, rfl⟩ := r; rfl
  | str z => obtain ⟨t, rfl⟩ := r; rfl
  | _ => exact absurd (show false = true from f) Bool.false_ne_true
theorem Zi8 {x : V} : ∀ {xs : List V} {us : List Value}, ZbE xs us -> xs.all ZhA = true -> us.any (eqU x) = xs.any fun y => eqV y x
  | _, _, .nil, _ => rfl
  | y :: xs, u :: us, .cons r t, f => by
    rw [List.all_cons, Bool.and_eq_true] at f
    rw [List.any_cons, List.any_cons, ZnT r f.1, Zi8 t f.2]
theorem Zgk {A : Around} {s : Shared} {x : V} {v : Value} (rx : Zbc x v) (fx : ZhA x = true) : ∀ {xs : List V} {us : List Value}, ZbE xs us -> xs.all ZhA = true -> ∀ u ∈ us, SeqAt.EqAt A s u v (eqU x u)
  | _, _, .nil, _ => fun u hu => by cases hu
  | y :: xs, u :: us, .cons r t, f => fun u' hu => by
    rw [List.all_cons, Bool.and_eq_true] at f
    rcases List.mem_cons.mp hu with rfl | hu
    · rw [ZnT r f.1]; exact Zqg r rx f.1 fx
    · exact Zgk rx fx t f.2 u' hu
noncomputable def inV (x : V) (xs : List V) : Bool := xs.any fun y => eqV y x
noncomputable def rIn (K : PySem.W.Frag) (neg : Bool) : R2 := fun x y H Q => ∃ p xs, y = .ref p /\ (SqL K H p xs \/ SqT K H p xs) /\ ZhA x = true /\ xs.all ZhA = true /\ Q (.bl (if neg then !inV x xs else inV x xs)) H
theorem Zhz : OpR X (compareOp .In) (rIn X.K false) := by
  intro pins s σ H x y v u Q I rx ry h
  obtain ⟨p, xs, rfl, hq, fx, fs, q⟩ := h
  cases ry
  rcases hq with hq | hq
  · obtain ⟨its, r, pl, hz⟩ := I.list hq
    refine SeqAt.in_listAt (eqU x) pl.isList (fun w hw => Zgk rx fx r fs w (by simpa using hw)) ⟨.bl _, H, I, rfl, ?_⟩
    rw [show its.toArray.any (eqU x) = its.any (eqU x) by simp, Zi8 r fs]
    exact q
  · obtain ⟨its, r, pl, hz⟩ := I.tuple hq
    refine SeqAt.in_tupleAt (eqU x) pl (fun w hw => Zgk rx fx r fs w (by simpa using hw)) ⟨.bl _, H, I, rfl, ?_⟩
    rw [show its.toArray.any (eqU x) = its.any (eqU x) by simp, Zi8 r fs]
    exact q
theorem ZhM : Zde X (.builtin "len") (fun xs H Q => ∃ p ys, xs = [.ref p] /\ (SqL X.K H p ys \/ SqT X.K H p ys) /\ Q (.int ys.length) H) := by
  intro pins s σ H xs us Q I r h
  obtain ⟨p, ys, rfl, hq, q⟩ := h
  obtain ⟨u, rfl, rx⟩ := ZgA r
  cases rx
  have hn := Zfn
  rcases hq with hq | hq
  · obtain ⟨its, r', pl, hz⟩ := I.list hq
    have hlen := r'.length
    exact Calls.call_len_list pl.isList (by simp only [List.size_toArray] <;> omega) ⟨.int ys.length, H, I.tok _, ⟨s.toks + 1, by rw [List.size_toArray, hlen]⟩, q⟩
  · obtain ⟨its, r', pl, hz⟩ := I.tuple hq
    have hlen := r'.length
    exact len_tuple pl (by simp only [List.size_toArray] <;> omega) ⟨.int ys.length, H, I.tok _, ⟨s.toks + 1, by rw [List.size_toArray, hlen]⟩, q⟩
theorem Zhv : Zde X (.type "list") (fun xs H Q => ∃ p ys, xs = [.ref p] /\ (SqL X.K H p ys \/ SqT X.K H p ys) /\ ∀ l, H l = none -> Q (.ref l) (upd H l (.lst ys))) := by
  intro pins s σ H xs us Q I r h
  obtain ⟨p, ys, rfl, hq, q⟩ := h
  obtain ⟨u, rfl, rx⟩ := ZgA r
  cases rx
  have fin : ∀ (its : List Value), ZbE ys its -> ys.length <= sizeLine -> ∀ (h' : Heap) (c' : Nat), (∀ b o', s.heap.get? b = some o' -> h'.get? b = some o') ->
      h'.get? s.heap.objs.size = some { cls := .type "list", dict := none, data := .seq its.toArray c', slots := #[] } -> EP X pins σ Q (.ref s.heap.objs.size) { s with heap := h' } := fun its r' hz h' c' kp e =>
    ⟨.ref s.heap.objs.size, _, I.laid (t' := s.toks) kp (Nat.le_refl _) (show Zct X.prog X.w _ h' _ (.lst ys) from ⟨hz, its, c', r', e⟩), rfl, q _ (I.hok.fresh (Nat.le_refl _))⟩
  rcases hq with hq | hq
  · obtain ⟨its, r', pl, hz⟩ := I.list hq
    have hlen := r'.length
    obtain ⟨o, ho, hc, n, hd⟩ := pl.isList
    exact call_list_seq p (.inl rfl) ho hc hd (fun h' c' kp e => fin its r' hz h' c' kp e) (by simp only [List.size_toArray] <;> omega)
  · obtain ⟨its, r', pl, hz⟩ := I.tuple hq
    have hlen := r'.length
    obtain ⟨o, ho, hc, n, hd⟩ := pl
    exact call_list_seq p (.inr rfl) ho hc hd (fun h' c' kp e => fin its r' hz h' c' kp e) (by simp only [List.size_toArray] <;> omega)
theorem ZgD : Zde X (.type "tuple") (fun xs H Q => ∃ p ys, xs = [.ref p] /\ ((SqL X.K H p ys /\ ∀ l, H l = none -> Q (.ref l) (upd H l (.tup ys))) \/ (SqT X.K H p ys /\ Q (.ref p) H))) := by
  intro pins s σ H xs us Q I r h
  obtain ⟨p, ys, rfl, h⟩ := h
  obtain ⟨u, rfl, rx⟩ := ZgA r
  cases rx
  rcases h with ⟨hq, q⟩ | ⟨hq, q⟩
  · obtain ⟨its, r', pl, hz⟩ := I.list hq
    have hlen := r'.length
    refine call_tuple_list pl.isList (fun h' kp => ?_) (by simp only [List.size_toArray] <;> omega)
    have I1 : Inv X pins σ H { s with heap := h' } := I.kept (t' := s.toks) kp
    have I2 : Inv X pins σ (upd H h'.objs.size (.tup ys)) { s with heap := h'.push { cls := .type "tuple", data := .seq its.toArray } } :=
      I1.laid (t' := s.toks) (fun b o e => Heap.get?_push_of_some _ e) (Nat.le_refl _) (show Zct X.prog X.w _ _ _ (.tup ys) from ⟨hz, its, r', IsTup.new _ _⟩)
    exact ⟨.ref h'.objs.size, _, I2, rfl, q _ (I1.hok.fresh (Nat.le_refl _))⟩
  · obtain ⟨its, r', pl, hz⟩ := I.tuple hq
    exact call_tuple_same pl ⟨.ref p, H, I, rfl, q⟩
noncomputable def tyV (K : PySem.W.Frag) (T : String) (x : V) (H : Hp) : Prop := match x with
  | .str _ => T = "str"
  | .int _ => T = "int"
  | .ref p => (T = "list" /\ ∃ xs, SqL K H p xs) \/ (T = "tuple" /\ ∃ o, K.lookup p = some o /\ o.cls = .type "tuple" /\ o.dict = none) \/
      (T = "dict" /\ ((∃ kvs, H p = some (.dK kvs)) \/ ∃ kvs, H p = some (.dT kvs))) \/ (T = "set" /\ ∃ S n, H p = some (.set S n))
  | _ => False
theorem Zn7 {pins : List (Addr × Obj)} {σ : St} {H : Hp} {s : Shared} {T : String} {x : V} {v : Value} (I : Inv X pins σ H s) (r : Zbc x v) (ty : tyV X.K T x H) :
    s.TypeIs v T /\ ∀ a, v = .ref a -> ∃ ob, s.heap.get? a = some ob /\ ob.dict = none := by
  cases x with
  | str z =>
    obtain ⟨t, rfl⟩ := r
    cases (show T = "str" from ty)
    exact ⟨typeIs_str s z t, fun _ e => nomatch e⟩
  | int i =>
    obtain ⟨t, rfl⟩ := r
    cases (show T = "int" from ty)
    exact ⟨typeIs_int s i t, fun _ e => nomatch e⟩
  | ref p =>
    cases r
    rcases ty with ⟨rfl, xs, hq⟩ | ⟨rfl, o, hk, hc, hd⟩ | ⟨rfl, hk⟩ | ⟨rfl, S, n, hk⟩
    · obtain ⟨its, _, pl, _⟩ := I.list hq
      refine ⟨pl.isList.typeIs, fun a e => ?_⟩
      cases e
      obtain ⟨o, n, e, c, hd, _⟩ := pl
      exact ⟨o, e, hd⟩
    · refine ⟨⟨o, I.kIn p o hk, hc⟩, fun a e => ?_⟩
      cases e
      exact ⟨o, I.kIn _ o hk, hd⟩
    · have z : ∃ o, s.heap.get? p = some o /\ o.ExactDict := by
        rcases hk with ⟨kvs, hk⟩ | ⟨kvs, hk⟩
        · obtain ⟨_, _, _, _, o, _, _, e, ex, _⟩ := I.hok p _ hk
          exact ⟨o, e, ex⟩
        · obtain ⟨_, _, _, _, o, _, _, e, ex, _⟩ := I.hok p _ hk
          exact ⟨o, e, ex⟩
      obtain ⟨o, e, ex⟩ := z
      refine ⟨⟨o, e, ex.1⟩, fun a e2 => ?_⟩
      cases e2
      exact ⟨o, e, ex.2.1⟩
    · obtain ⟨o, _, _, _, e, ex, _⟩ := I.hok p _ hk
      refine ⟨⟨o, e, ex.1⟩, fun a e2 => ?_⟩
      cases e2
      exact ⟨o, e, ex.2.1⟩
  | _ => exact False.elim ty
noncomputable def ZrU (K : PySem.W.Frag) (T : String) (r : V -> List V -> Hp -> VK -> Prop) (to : TE) : TE := fun σ H Q => to σ H fun x H1 => tyV K T x H1 /\ r x [] H1 Q
noncomputable def tBM (K : PySem.W.Frag) (T : String) (r : V -> List V -> Hp -> VK -> Prop) (to : TE) (t : TA) : TE := fun σ H Q => to σ H fun x H1 => tyV K T x H1 /\ t σ H1 fun xs H2 => r x xs H2 Q
variable {o e : Expr} {es : List Expr} {to : TE} {t : TA} {name : Str} {apos cpos : Pos} {T id : String} {r : V -> List V -> Hp -> VK -> Prop}
theorem ZpZ (pa : PlainAttrs T) (slot : Slot T name id) (hty : typeOf (.builtin id) = pure (.type "method_descriptor")) (hm : MtR X id r) (ho : PE X o to)
    (hbase : attributeBase o name X.env (eval o X.env) = eval o X.env := by rfl) (hline : (apos.endLine == cpos.line) = true := by rfl) : PE X (.Call (.Attribute o name apos) [] [] cpos) (ZrU X.K T r to) := by
  intro pins s σ H Q I h
  refine wpAny_Call_method0_late hbase hline (thn (ho pins s σ H _ I h) fun v s1 ⟨x, H1, I1, r1, ty, q1⟩ => ?_)
  obtain ⟨h1, h2⟩ := Zn7 I1 r1 ty
  exact ⟨T, id, pa, slot, hty, h1, h2, Calls.callWith_builtin rfl (PySem.evalArgs_none (hm pins s1 σ H1 x [] v [] Q I1 r1 .nil q1))⟩
theorem ZfM (pa : PlainAttrs T) (slot : Slot T name id) (hty : typeOf (.builtin id) = pure (.type "method_descriptor")) (hm : MtR X id r) (ho : PE X o to) (ha : PA X (e :: es) t)
    (hbase : attributeBase o name X.env (eval o X.env) = eval o X.env := by rfl)
    (hfew : ((backTo cpos (starEach (e :: es) X.env)).all (fun x => !x.1) && (backToKw cpos (keywordEach [] X.env)).all (fun x => x.1.isSome)
      && decide ((e :: es).length + ([] : List Keyword).length + (if ([] : List Keyword).isEmpty then 0 else 1) < 30)) = true := by rfl)
    (hline : (apos.endLine == cpos.line) = true := by rfl) (hs : starEach (e :: es) X.env = (false, eval e X.env) :: starEach es X.env := by rfl) (hplain : (backTo cpos (starEach es X.env)).any (·.1) = false := by rfl) :
    PE X (.Call (.Attribute o name apos) (e :: es) [] cpos) (tBM X.K T r to t) := by
  intro pins s σ H Q I h
  refine wpAny_Call_method_late hbase hfew hline rfl (thn (ho pins s σ H _ I h) fun v s1 ⟨x, H1, I1, r1, ty, q1⟩ => ?_)
  obtain ⟨h1, h2⟩ := Zn7 I1 r1 ty
  refine ⟨T, id, pa, slot, hty, h1, h2, ?_⟩
  have hA := ha cpos pins s1 σ H1 _ I1 q1
  rw [hs] at hA ⊢
  refine Calls.callWith_builtin (by show (false || (backTo cpos (starEach es X.env)).any (·.1)) = false; rw [hplain] <;> rfl) (Calls.evalArgs_plain ?_)
  exact thn hA fun us s2 ⟨vs, H2, I2, r2, q2⟩ => hm pins s2 σ H2 x vs v us Q I2 r1 r2 q2
end
end L2
namespace L2
open PySem PySem.Spec PyProof.Rows
noncomputable def MtM (X : Cx) (id : String) (r : V -> List V -> Hp -> VK -> Prop) : Prop :=
  ∀ (pins : List (Addr × Obj)) (s : Shared) (σ : St) (H : Hp) (x : V) (xs : List V) (v : Value) (us : List Value) (Q : VK), Inv X pins σ H s -> Zbc x v -> ZbE xs us -> r x xs H Q ->
    wpAny (model X.prog X.w) X.A (call (.builtin id) (v :: us)) (EP X pins σ Q) X.xe s
theorem ZbE.one : ∀ {x : V} {us : List Value}, ZbE [x] us -> ∃ u, us = [u] /\ Zbc x u
  | _, _, .cons r .nil => ⟨_, rfl, r⟩
theorem ZbE.rep {xs : List V} {us : List Value} (h : ZbE xs us) : ∀ k : Nat, ZbE (List.replicate k xs).flatten (List.replicate k us).flatten
  | 0 => .nil
  | k + 1 => by
    rw [List.replicate_succ, List.replicate_succ, List.flatten_cons, List.flatten_cons]
    exact ZbE.append h (ZbE.rep h k)
theorem ZgX (its : List Value) : ∀ (k : Nat) (acc : List Value),
    List.foldl (fun x1 x2 => x1 ++ x2) acc.toArray (List.replicate k its.toArray) = (acc ++ (List.replicate k its).flatten).toArray
  | 0, acc => by simp
  | k + 1, acc => by
    have e : acc.toArray ++ its.toArray = (acc ++ its).toArray := by simp
    have e2 : (acc ++ its) ++ (List.replicate k its).flatten = acc ++ (List.replicate (k + 1) its).flatten := by
      rw [List.replicate_succ, List.flatten_cons, List.append_assoc]
    rw [<- e2, <- ZgX its k (acc ++ its), <- e, List.replicate_succ, List.foldl_cons]
section
variable {X : Cx} {pins : List (Addr × Obj)} {σ : St} {H : Hp} {s : Shared} {l b : Addr} {xs ys zs : List V}
theorem Inv.lset {its its' : List Value} {n : Nat} {f : Array Value -> Array Value} {t' : Nat} (I : Inv X pins σ H s) (hH : H l = some (.lst xs))
    (e : s.heap.get? l = some { cls := .type "list", data := .seq its.toArray n }) (hf : f its.toArray = its'.toArray) (hv : ZbE ys its') (hz : ys.length <= sizeLine) :
    Inv X pins σ (upd H l (.lst ys)) { s with heap := s.heap.update l (Obj.mapSeq f), toks := t' } := by
  have q := PySem.IsL.update e f
  rw [hf] at q
  refine I.write (x := l) (e := l) (by rw [hH]; exact trivial) (.inl rfl) (fun b' u hb hu => (Heap.get?_update_other s.heap (Obj.mapSeq f) (Ne.symm hb)).trans hu) ⟨_, q⟩ ?_
  exact ⟨hz, its', _, hv, q⟩
theorem Inv.lnew {its : List Value} {t' : Nat} (I : Inv X pins σ H s) (hv : ZbE ys its) (hz : ys.length <= sizeLine) :
    Inv X pins σ (upd H s.heap.objs.size (.lst ys)) { s with heap := s.heap.push { cls := .type "list", data := .seq its.toArray }, toks := t' } :=
  I.laid (fun _ _ q => Heap.get?_push_of_some _ q) (Nat.le_refl _) ⟨hz, its, 0, hv, Heap.get?_push_size _ rfl⟩
theorem Inv.fresh (I : Inv X pins σ H s) : H s.heap.objs.size = none := I.hok.fresh (Nat.le_refl _)
theorem Inv.lstM (I : Inv X pins σ H s) (hH : H l = some (.lst xs)) : xs.length <= sizeLine /\ ∃ (its : List Value) (n : Nat), ZbE xs its /\ xs.length = its.length /\ s.heap.get? l = some { cls := .type "list", data := .seq its.toArray n } := by
  obtain ⟨z, its, n, r, e⟩ := I.hok l _ hH
  exact ⟨z, its, n, r, r.length, e⟩
theorem Zmw {n : Nat} (h : n <= sizeLine) : Builtin.List.listTooLong n = false := by
  unfold Builtin.List.listTooLong
  exact decide_eq_false (by omega)
end
section
variable {X : Cx}
noncomputable def Ze2 : V -> List V -> Hp -> VK -> Prop := fun x vs H Q => ∃ l xs y, x = .ref l /\ vs = [y] /\ H l = some (.lst xs) /\ xs.length < sizeLine /\ Q .non (upd H l (.lst (xs ++ [y])))
theorem ZbF : MtM X "list.append" Ze2 := by
  intro pins s σ H x vs v us Q I rx rv h
  obtain ⟨l, xs, y, rfl, rfl, hH, hz, q⟩ := h
  cases rx
  obtain ⟨u, rfl, ru⟩ := rv.one
  obtain ⟨z, its, n, r, hl, e⟩ := I.lstM hH
  refine call_meets F.slot_list_append ⟨_, e, rfl⟩ F.entry_list_append (F.args_list_append_2 _ _) (PySem.list_append l its.toArray n u (by rw [List.size_toArray]; omega)) ⟨e, ?_⟩
  refine ⟨.non, _, I.lset (its' := its ++ [u]) hH e (by simp) (r.append (.cons ru .nil)) ?_, rfl, q⟩
  rw [List.length_append, List.length_singleton]
  omega
noncomputable def ZrM : R2 := fun x y H Q => ∃ l b xs zs, x = .ref l /\ y = .ref b /\ H l = some (.lst xs) /\ H b = some (.lst zs) /\ xs.length + zs.length <= sizeLine /\ ∀ p, H p = none -> Q (.ref p) (upd H p (.lst (xs ++ zs)))
theorem Zn8 : OpR X (binaryOp .Add) ZrM := by
  intro pins s σ H x y v u Q I rx ry h
  obtain ⟨l, b, xs, zs, rfl, rfl, hH, hB, hz, q⟩ := h
  cases rx
  cases ry
  obtain ⟨z, its, n, r, hl, e⟩ := I.lstM hH
  obtain ⟨z2, its2, n2, r2, hl2, e2⟩ := I.lstM hB
  refine PySem.P.add_list e e2 ?_ (by rw [List.size_toArray, List.size_toArray]; omega)
  have ea : its.toArray ++ its2.toArray = (its ++ its2).toArray := by simp
  rw [ea]
  exact ⟨.ref _, _, I.lnew (t' := s.toks) (r.append r2) (by rw [List.length_append]; omega), rfl, q _ I.fresh⟩
noncomputable def ZrR : R2 := fun x y H Q => ∃ l k xs, x = .ref l /\ y = .int k /\ H l = some (.lst xs) /\ -(2 ^ 63) <= k /\ k < 2 ^ 63 /\ xs.length * k.toNat <= sizeLine /\
  ∀ p, H p = none -> Q (.ref p) (upd H p (.lst (List.replicate k.toNat xs).flatten))
theorem ZoP {α : Type} (xs : List α) (k : Nat) : (List.replicate k xs).flatten.length = k * xs.length := by
  induction k with
  | zero => simp
  | succ k ih => rw [List.replicate_succ, List.flatten_cons, List.length_append, ih, Nat.succ_mul, Nat.add_comm]
theorem ZpS : OpR X (binaryOp .Mult) ZrR := by
  intro pins s σ H x y v u Q I rx ry h
  obtain ⟨l, k, xs, rfl, rfl, hH, h1, h2, hz, q⟩ := h
  cases rx
  obtain ⟨t, rfl⟩ := ry
  obtain ⟨z, its, n, r, hl, e⟩ := I.lstM hH
  have hlen : its.toArray.size * k.toNat <= sizeLine := by rw [List.size_toArray, <- hl]; exact hz
  have hcap : ¬ its.toArray.size * k.toNat > (2 ^ 63 - 1) / 8 := by
    have : (sizeLine : Nat) <= (2 ^ 63 - 1) / 8 := by decide
    omega
  have hfit : ¬ (!Builtin.List.listFitsIndex k) = true := by
    rw [fitsIndex_both h1 h2]
    exact Bool.false_ne_true
  have hlong : ¬ Builtin.List.listTooLong (its.toArray.size * k.toNat) = true := by
    rw [Zmw hlen]
    exact Bool.false_ne_true
  have hnew : List.foldl (fun x1 x2 => x1 ++ x2) #[] (List.replicate (if its.toArray.isEmpty = true then 0 else k.toNat) its.toArray) = (List.replicate k.toNat its).flatten.toArray := by
    have f0 : ∀ m : Nat, List.foldl (fun x1 x2 => x1 ++ x2) #[] (List.replicate m its.toArray) = (List.replicate m its).flatten.toArray := fun m => by
      have := ZgX its m []
      rw [List.nil_append] at this
      exact this
    rw [f0]
    cases its with
    | nil => simp
    | cons a r' => rw [if_neg (by simp)]
  refine wpAny_binaryOp_repeat_ref (T := "list") (U := "int") (by decide) ⟨_, e, rfl⟩ (fun s' => typeIs_int s' k t) noFill_list_mul F.fills_int_mul F.slot_int_rmul repeat_list F.slot_int_index.lookup
    (call_meets F.slot_int_rmul (typeIs_int s k t) F.entry_int_rmul (F.args_int_rmul_2 _ _) (int___rmul___int_list k t l its.toArray n)
      ⟨e, rfl, ⟨_, e, rfl⟩, call_meets F.slot_list_mul ⟨_, e, rfl⟩ F.entry_list_mul (F.args_list_mul_2 _ _) (AutoListH.list___mul___list_int_3 l its.toArray n k t hfit hcap hlong) ⟨e, ?_⟩⟩)
  rw [hnew]
  exact ⟨.ref _, _, I.lnew (t' := s.toks) (r.rep k.toNat) (by rw [ZoP, Nat.mul_comm]; exact hz), rfl, q _ I.fresh⟩
end
section
variable {prog : Program} {w : World} {A : Around} {E : Value -> Shared -> Prop} {s : Shared}
end
section
variable {X : Cx}
end
end L2
namespace Att
open PySem PySem.W PySem.Calls PyProof.Rows
theorem Zfc {P : Params} {h : Heap} : ∀ (ns : List Int) (vs : List Value), WellAll P h vs (ns.map WData.int) -> IntsAre vs ns := by
  intro ns
  induction ns with
  | nil =>
    intro vs w
    rw [List.map_nil] at w
    cases w
    exact .nil
  | cons n ns ih =>
    intro vs w
    rw [List.map_cons] at w
    cases w with
    | cons a b =>
      cases a
      exact .cons _ _ (ih _ b)
theorem ZlE {l : OpenLaw} {n : Nat} (hn : l.most = some n) {P : Params} {h : Heap} {args : List WData} {vals : List Value}
    (hpre : l.row.toRowW.claim.pre args = true) (hwl : WellAll P h vals args) :
    ∃ a vs ns, vals = [Value.ref a] /\ args = [WData.list (ns.map WData.int)] /\ h.get? a = some { cls := .type "list", data := .seq vs.toArray } /\ IntsAre vs ns /\ ns.length <= n := by
  have hsh : WShape.hasAll [] args [.list .int] = true := (pre_splitW hpre).1
  have hc : l.pre.holds [] { args := args } = true := (pre_splitW hpre).2
  obtain ⟨d, r, rfl, h1, h2⟩ := hasAllW_cons hsh
  obtain rfl := hasAllW_nil h2
  obtain ⟨xs, rfl, h3⟩ := hasW_list h1
  obtain ⟨ns, rfl⟩ := items_int h3
  have hlen : ns.length <= n := by
    unfold OpenLaw.pre at hc
    have h4 : (WTm.not (.lt (.lit (.int (n : Int))) (.len (.arg 0)))).holds [] { args := [.list (ns.map .int)] } = true := by
      have h4 := (holds_andW hc).1
      rw [hn] at h4
      exact h4
    have h5 := condW_of h4 (w_not (w_lt w_lit (w_len_list (w_arg rfl))))
    rw [List.length_map] at h5
    refine Nat.le_of_not_lt fun q => ?_
    have q' : (n : Int) < ((ns.length : Nat) : Int) := by omega
    first
      | (rw [decide_eq_true q'] at h5; exact absurd h5 (by decide))
      | (simp at h5; omega)
  cases hwl with
  | cons w1 w2 =>
    cases w2
    cases w1 with
    | list ho hall => exact ⟨_, _, ns, rfl, rfl, ho, Zfc ns _ hall, hlen⟩
theorem ZkT (l : OpenLaw) (args : List WData) : l.row.toRowW.claim.post args (.bool true) args = true :=
  postW_of (r := l.row.toRowW) (X := (true == true))
    (show WShape.has [] (.bool true) .bool = true by first | rfl | decide | simp [WShape.has, WShape.arms, WShape.armsAll])
    (show (WTm.eq .res (.lit (.bool true))).value [] { args := args, res := some (.bool true), after := args } = some (.bool (true == true)) from w_eq_bool (w_res rfl) w_lit) rfl
section
variable {prog : Program} {w : World} {A : Around} {E : Value -> Shared -> Prop} {s : Shared} {K : Frag}
end
end Att
namespace L2
open PySem PySem.Spec PyProof.Rows
theorem Zh5 : ∀ {vs : List Value} {ns : List Int}, IntsAre vs ns -> ZbE (ns.map V.int) vs
  | _, _, .nil => .nil
  | _, _, .cons n t h => .cons ⟨t, rfl⟩ (Zh5 h)
noncomputable def Zsh (H : Hp) : Prop := ∀ b, H b = none \/ ∃ o xs, H b = some (.frz o (.lst xs))
end L2
namespace L2
open PySem PySem.Spec PyProof.Rows
noncomputable abbrev KOf {K : PySem.W.Frag} {h : Heap} (_ : K.In h) : PySem.W.Frag := K
end L2
namespace L2
open PySem PySem.Spec PyProof.Rows
noncomputable def ZdA (s : Stmt) (j : Nat) : Stmt := match s with
  | .ClassDef _ _ _ body _ _ _ _ _ _ _ => body.getD j (.Pass ⟨0, 0, 0, 0⟩)
  | _ => .Pass ⟨0, 0, 0, 0⟩
noncomputable def Zap (s : Stmt) : Arguments := match s with
  | .FunctionDef _ a _ _ _ _ _ _ _ _ => a
  | _ => { posonlyargs := [], args := [], vararg := none, kwonlyargs := [], kw_defaults := [], kwarg := none, defaults := [] }
noncomputable def Zan (s : Stmt) : List Stmt := match s with
  | .FunctionDef _ _ b _ _ _ _ _ _ _ => b
  | _ => []
noncomputable def Zab (s : Stmt) : Scope := match s with
  | .FunctionDef _ _ _ _ _ _ sc _ _ _ => sc
  | _ => { kind := .function, names := [], isGenerator := false, isCoroutine := false }
noncomputable abbrev CX0 : CXT := fun _ _ _ _ _ _ => False
noncomputable abbrev E0 : XK := fun _ _ _ => False
theorem Zp8 {X : Cx} : ZfP CX0 X E0 := fun _ _ _ _ _ _ _ h => h.elim
structure Fun (K : PySem.W.Frag) (x qual : Str) (st : Stmt) (f : Addr) (fd : FuncData) : Prop where
  ex : ∃ (oc : Value) (od : Option Addr) (kV doc pm : Value) (an : Option Addr) (cdv ct : Value) (osl : Array (Option Value)),
    fd = PySem.W.fnOf x qual (Zap st) (Zan st) (Zab st) .none kV doc pm an cdv ct /\ K.lookup f = some ⟨oc, od, .func fd, osl⟩ /\ PySem.W.codeIn K cdv qual = true
  kp : PySem.W.keepIn K (.ref f) = true
section
variable {P : Program} {w : World} {K : PySem.W.Frag} {mg : Str -> Option Value} {base : Heap}
theorem Fun.ok {x qual : Str} {st : Stmt} {f : Addr} {fd : FuncData} {N ps : List Str} {k : Nat} {sp : Sp} (F : Fun K x qual st f fd) (S : FnScope N ps (Zab st)) (len : ∀ vs H Q E, sp vs H Q E -> vs.length = ps.length)
    (hbody : ∀ (cdv : Value) (A : Around) (outer : List Env) (s : Shared) (H : Hp) (vs : List V) (Q : VK) (E : XK), Room k (A.deeper (envOfC qual (Zab st) s.heap.objs.size f cdv)) -> sp vs H Q E ->
      ∃ t, PSs (ZhV CX0 P w K mg base N qual (Zab st) f cdv A outer s H E).nox (Zan st) t /\ t { nx := fun _ H' => Q .non H', rt := Q } (start N vs) H) : FnOk P w K mg base CX0 (k + 1) f fd ps sp := by
  obtain ⟨oc, od, kV, doc, pm, an, cdv, ct, osl, rfl, lk, hcd⟩ := F.ex
  refine Zri lk hcd S len fun A outer s H vs Q E hr hsp => ?_
  obtain ⟨t, h, q⟩ := hbody cdv A outer s H vs Q E hr hsp
  exact ⟨t, h.nox, q⟩
theorem Fun.binds {x qual : Str} {st : Stmt} {f : Addr} {fd : FuncData} {ps : List Str} (F : Fun K x qual st f fd)
    (h : ∀ (kV doc pm : Value) (an : Option Addr) (cdv ct : Value) (us : List Value), us.length = ps.length -> bindArgs (PySem.W.fnOf x qual (Zap st) (Zan st) (Zab st) .none kV doc pm an cdv ct) ⟨us, []⟩ = pure (ps.zip us)) : Ze4 K fd ps [] := by
  obtain ⟨oc, od, kV, doc, pm, an, cdv, ct, osl, rfl, lk, hcd⟩ := F.ex
  exact .all (h kV doc pm an cdv ct)
theorem Za1 {x qual : Str} {st : Stmt} {f : Addr} {oc : Value} {od an : Option Addr} {osl : Array (Option Value)} {kV doc pm cdv ct : Value} (l : K.lookup f = some ⟨oc, od, .func (PySem.W.fnOf x qual (Zap st) (Zan st) (Zab st) .none kV doc pm an cdv ct), osl⟩)
    (c : PySem.W.codeIn K cdv qual = true) (k : PySem.W.keepIn K (.ref f) = true) : Fun K x qual st f (PySem.W.fnOf x qual (Zap st) (Zan st) (Zab st) .none kV doc pm an cdv ct) := ⟨⟨oc, od, kV, doc, pm, an, cdv, ct, osl, rfl, l, c⟩, k⟩
end
theorem Zgv {A : Around} {k : Nat} (hr : Room k A) : A.units + 1 < cLine := Nat.lt_of_le_of_lt (Nat.add_le_add_left (by decide : 1 <= 64) _) hr.units
theorem ZaN {n : Nat} (h : n <= 1000) : n < sizeLine := Nat.lt_of_le_of_lt h (by decide)
section
variable {X : Cx}
theorem pv (i : Nat) {x : Str} {pos : Pos} (hN : X.N[i]? = some x := by rfl) (hv : Vis X.env.scope x := by first | exact Or.inl rfl | exact Or.inr (Or.inl rfl) | exact Or.inr (Or.inr rfl)) (hd : (x == ("__debug__" : Str)) = false := by decide)
    (hcd : (x == ("__classdict__" : Str)) = false := by decide) : PE X (.Name x pos) (ZcR i) := ZqZ hN hv hd hcd
end
noncomputable def ZaK (H H' : Hp) : Prop := ∀ b o, H b = some o -> H' b = some o
theorem ZaK.refl (H : Hp) : ZaK H H := fun _ _ h => h
theorem ZaK.trans {H H1 H2 : Hp} (a : ZaK H H1) (b : ZaK H1 H2) : ZaK H H2 := fun c o h => b c o (a c o h)
theorem ZaK.free {H H' : Hp} (e : ZaK H H') {l : Addr} (h : H' l = Option.none) : H l = Option.none := by
  cases q : H l with
  | none => rfl
  | some o =>
    rw [e l o q] at h
    cases h
theorem ZaK.seq {K : PySem.W.Frag} {H H' : Hp} {a : Addr} {xs : List V} (e : ZaK H H') (h : SqL K H a xs) : SqL K H' a xs := by
  rcases h with (h | ⟨o, h⟩) | h
  · exact .inl (.inl (e _ _ h))
  · exact .inl (.inr ⟨o, e _ _ h⟩)
  · exact .inr h
end L2
section
namespace L2
open PySem PySem.Spec PyProof.Rows
theorem Zeu {env : Env} {F : Str × NameKind -> List (Str × Addr) -> Sem (ForInStep (List (Str × Addr)))}
    (h1 : ∀ n c cs, env.cells.lookup n = some c -> F (n, NameKind.free) cs = pure (.yield ((n, c) :: cs)))
    (h2 : ∀ n k cs, k ≠ NameKind.free -> F (n, k) cs = pure (.yield cs)) :
    ∀ (l : List (Str × NameKind)) (cs : List (Str × Addr)), (∀ p ∈ l, p.2 = NameKind.free -> ∃ c, env.cells.lookup p.1 = some c) -> (∀ x c, cs.lookup x = some c -> env.cells.lookup x = some c) ->
      ∃ cl, forIn l cs F = pure cl /\ (∀ x c, cl.lookup x = some c -> env.cells.lookup x = some c) /\ (∀ x c, cs.lookup x = some c -> ∃ c', cl.lookup x = some c') /\ ∀ p ∈ l, p.2 = NameKind.free -> ∃ c, cl.lookup p.1 = some c
  | [], cs, _, hc => ⟨cs, by rw [List.forIn_nil], hc, fun x c h => ⟨c, h⟩, fun p hp => absurd hp (by simp)⟩
  | (n, k) :: l, cs, hl, hc => by
    have hl' : ∀ p ∈ l, p.2 = NameKind.free -> ∃ c, env.cells.lookup p.1 = some c := fun p hp => hl p (List.mem_cons_of_mem _ hp)
    by_cases hk : k = NameKind.free
    · subst hk
      obtain ⟨c, e⟩ := hl (n, NameKind.free) List.mem_cons_self rfl
      have hc' : ∀ x d, ((n, c) :: cs).lookup x = some d -> env.cells.lookup x = some d := fun x d q => by
        cases hx : x == n with
        | true =>
          simp only [List.lookup_cons, hx] at q
          cases q
          rw [eq_of_beq hx]; exact e
        | false =>
          simp only [List.lookup_cons, hx] at q
          exact hc x d q
      obtain ⟨cl, a1, a2, a3, a4⟩ := Zeu h1 h2 l ((n, c) :: cs) hl' hc'
      have up : ∀ x d, cs.lookup x = some d -> ∃ d', ((n, c) :: cs).lookup x = some d' := fun x d q => by
        cases hx : x == n with
        | true => exact ⟨c, by simp only [List.lookup_cons, hx]⟩
        | false => exact ⟨d, by simp only [List.lookup_cons, hx]; exact q⟩
      refine ⟨cl, by rw [List.forIn_cons, h1 n c cs e, pure_bind]; exact a1, a2, fun x d q => ?_, fun p hp hf => ?_⟩
      · obtain ⟨d', q'⟩ := up x d q
        exact a3 x d' q'
      · rcases List.mem_cons.mp hp with rfl | hp
        · exact a3 n c (by simp only [List.lookup_cons, beq_self_eq_true])
        · exact a4 p hp hf
    · obtain ⟨cl, a1, a2, a3, a4⟩ := Zeu h1 h2 l cs hl' hc
      refine ⟨cl, by rw [List.forIn_cons, h2 n k cs hk, pure_bind]; exact a1, a2, a3, fun p hp hf => ?_⟩
      rcases List.mem_cons.mp hp with rfl | hp
      · exact absurd hf hk
      · exact a4 p hp hf
theorem ZfT {scope : Scope} {env : Env} (h : ∀ p ∈ scope.names, p.2 = NameKind.free -> ∃ c, env.cells.lookup p.1 = some c) :
    ∃ cl, closureFor scope env = pure cl /\ (∀ x c, cl.lookup x = some c -> env.cells.lookup x = some c) /\ ∀ p ∈ scope.names, p.2 = NameKind.free -> ∃ c, cl.lookup p.1 = some c := by
  simp only [closureFor]
  obtain ⟨cl, a1, a2, _, a4⟩ := Zeu (env := env) (F := fun x r => match x with | (name, kind) => if (kind == NameKind.free) = true then do let a <- cellOf env name; pure (ForInStep.yield ((name, a) :: r)) else pure (ForInStep.yield r))
    (fun n c cs e => by
      show (if (NameKind.free == NameKind.free) = true then _ else _) = _
      rw [if_pos (show (NameKind.free == NameKind.free) = true from rfl)]
      unfold cellOf
      rw [e]
      rfl)
    (fun n k cs hk => by
      have : (k == NameKind.free) = false := by simpa using hk
      show (if (k == NameKind.free) = true then _ else _) = _
      rw [this, if_neg Bool.false_ne_true]) scope.names [] h (fun x c q => by simp at q)
  refine ⟨cl, ?_, a2, a4⟩
  first
    | exact a1
    | (rw [bind_pure]; exact a1)
    | (simp only [bind_pure] at *; exact a1)
    | (rw [show (forIn scope.names ([] : List (Str × Addr)) _ >>= fun r => pure r) = _ from bind_pure _]; exact a1)
theorem ZcQ {env : Env} : ∀ {names : List (Str × NameKind)} {x : Str}, names.lookup x = some .free ->
    (names.map fun (n, k) => if (k == NameKind.free && env.scope.kind == .function && env.kindOf n == some .cell) then (n, NameKind.cell) else (n, k)).lookup x = some .cell \/
    (names.map fun (n, k) => if (k == NameKind.free && env.scope.kind == .function && env.kindOf n == some .cell) then (n, NameKind.cell) else (n, k)).lookup x = some .free
  | [], _, h => by simp at h
  | (n, k) :: r, x, h => by
    have ih := @ZcQ env r x
    show List.lookup x ((if (k == NameKind.free && env.scope.kind == .function && env.kindOf n == some .cell) = true then (n, NameKind.cell) else (n, k)) :: _) = _ \/ List.lookup x ((if (k == NameKind.free && env.scope.kind == .function && env.kindOf n == some .cell) = true then (n, NameKind.cell) else (n, k)) :: _) = _
    cases hx : x == n with
    | true =>
      simp only [List.lookup_cons, hx] at h
      cases h
      by_cases hc : (NameKind.free == NameKind.free && env.scope.kind == .function && env.kindOf n == some .cell) = true
      · rw [if_pos hc]; left; simp only [List.lookup_cons, hx]
      · rw [if_neg hc]; right; simp only [List.lookup_cons, hx]
    | false =>
      simp only [List.lookup_cons, hx] at h
      by_cases hc : (k == NameKind.free && env.scope.kind == .function && env.kindOf n == some .cell) = true
      · rw [if_pos hc]; simp only [List.lookup_cons, hx]; exact ih h
      · rw [if_neg hc]; simp only [List.lookup_cons, hx]; exact ih h
theorem ZcU {env : Env} : ∀ {names : List (Str × NameKind)} {x : Str}, ((names.map fun (n, k) => if (k == NameKind.free && env.scope.kind == .function && env.kindOf n == some .cell) then (n, NameKind.cell) else (n, k)).lookup x = some .cell \/
    (names.map fun (n, k) => if (k == NameKind.free && env.scope.kind == .function && env.kindOf n == some .cell) then (n, NameKind.cell) else (n, k)).lookup x = some .free) -> names.lookup x = some .free \/ names.lookup x = some .cell
  | [], _, h => by simp at h
  | (n, k) :: r, x, h => by
    have ih := @ZcU env r x
    have h : List.lookup x ((if (k == NameKind.free && env.scope.kind == .function && env.kindOf n == some .cell) = true then (n, NameKind.cell) else (n, k)) :: _) = _ \/ List.lookup x ((if (k == NameKind.free && env.scope.kind == .function && env.kindOf n == some .cell) = true then (n, NameKind.cell) else (n, k)) :: _) = _ := h
    cases hx : x == n with
    | true =>
      simp only [List.lookup_cons, hx]
      by_cases hc : (k == NameKind.free && env.scope.kind == .function && env.kindOf n == some .cell) = true
      · have : k = NameKind.free := by
          rw [Bool.and_eq_true, Bool.and_eq_true] at hc
          exact eq_of_beq hc.1.1
        left; rw [this]
      · rw [if_neg hc] at h
        simp only [List.lookup_cons, hx] at h
        exact h.symm
    | false =>
      simp only [List.lookup_cons, hx]
      by_cases hc : (k == NameKind.free && env.scope.kind == .function && env.kindOf n == some .cell) = true
      · rw [if_pos hc] at h; simp only [List.lookup_cons, hx] at h; exact ih h
      · rw [if_neg hc] at h; simp only [List.lookup_cons, hx] at h; exact ih h
structure CIn where
  cl : List (Str × Addr)
  C : Addr
  s₀ : Shared
  H₀ : Hp
  ex : List Addr
  pn : List (Addr × Obj)
noncomputable def ZbW (X : Cx) (N : List Str) (scope : Scope) (c : CIn) : Cx where
  prog := X.prog
  w := X.w
  K := X.K
  mg := X.mg
  base := X.base
  A := X.A
  N := N
  s₀ := c.s₀
  H₀ := c.H₀
  env := compEnvC scope c.cl c.C X.env
  outer := X.stack
  stack := X.stack
  ex := c.ex
  fn := fun _ => false
  calm := X.calm
  pn := c.pn
  xe := fun _ _ => False
noncomputable def Zj0 (f : List (Option Nat)) (σ : St) : St := f.map fun o => match o with | some i => (σ[i]?).join | none => none
structure CompOk (NX : List Str) (sc : Scope) (N : List Str) (f : List (Option Nat)) (scope : Scope) : Prop where
  kind : scope.kind = .function
  nocell : ∀ y ∈ scope.names, y.2 ≠ NameKind.cell
  names : ∀ y ∈ scope.names, y.2 = NameKind.local -> scope.names.lookup y.1 = some .local
  free : ∀ y ∈ scope.names, y.2 = NameKind.free -> sc.names.lookup y.1 = some .cell \/ sc.names.lookup y.1 = some .free
  len : f.length = N.length
  ix : ∀ (j i : Nat), f[j]? = some (some i) -> ∃ x, N[j]? = some x /\ NX[i]? = some x /\ scope.names.lookup x = some .free
noncomputable def ZgP (NX : List Str) (sc : Scope) (N : List Str) (f : List (Option Nat)) (scope : Scope) : Bool :=
  decide (scope.kind = .function) && (scope.names.all fun y => decide (y.2 ≠ NameKind.cell) && (decide (y.2 ≠ NameKind.local) || decide (scope.names.lookup y.1 = some .local)) &&
    (decide (y.2 ≠ NameKind.free) || decide (sc.names.lookup y.1 = some .cell) || decide (sc.names.lookup y.1 = some .free))) && decide (f.length = N.length) &&
  (List.range f.length).all fun j => match f[j]? with
    | some (some i) => (match N[j]? with
      | some x => decide (NX[i]? = some x) && decide (scope.names.lookup x = some .free)
      | none => false)
    | _ => true
theorem ZhR {NX : List Str} {sc : Scope} {N : List Str} {f : List (Option Nat)} {scope : Scope} (h : ZgP NX sc N f scope = true) : CompOk NX sc N f scope := by
  unfold ZgP at h
  simp only [Bool.and_eq_true, List.all_eq_true, decide_eq_true_eq, Bool.or_eq_true] at h
  obtain ⟨⟨⟨h1, h2⟩, h3⟩, h4⟩ := h
  refine ⟨h1, fun y hy => (h2 y hy).1.1, fun y hy e => ?_, fun y hy e => ?_, h3, fun j i e => ?_⟩
  · rcases (h2 y hy).1.2 with z | z
    · exact absurd e z
    · exact z
  · rcases (h2 y hy).2 with (z | z) | z
    · exact absurd e z
    · exact .inl z
    · exact .inr z
  · have hj : j < f.length := (List.getElem?_eq_some_iff.mp e).1
    have q := h4 j (List.mem_range.mpr hj)
    rw [e] at q
    cases hN : N[j]? with
    | none => rw [hN] at q; simp at q
    | some x =>
      rw [hN] at q
      simp only [Bool.and_eq_true, decide_eq_true_eq] at q
      exact ⟨x, rfl, q.1, q.2⟩
noncomputable def ZrE (f : List (Option Nat)) (σ σ' : St) : Prop := σ'.length = σ.length /\ ∀ (i j : Nat), f[i]? = some (some j) -> σ'[i]? = σ[i]?
structure TgOk (f : List (Option Nat)) (g : TG) : Prop where
  keep : ∀ x σ H Q, g x σ H Q -> g x σ H fun σ2 H2 => ZrE f σ σ2 /\ Q σ2 H2
  mono : ∀ x σ H Q Q', (∀ σ H, Q σ H -> Q' σ H) -> g x σ H Q -> g x σ H Q'
structure TgsOk (f : List (Option Nat)) (g : TGs) : Prop where
  keep : ∀ xs σ H Q, g xs σ H Q -> g xs σ H fun σ2 H2 => ZrE f σ σ2 /\ Q σ2 H2
  mono : ∀ xs σ H Q Q', (∀ σ H, Q σ H -> Q' σ H) -> g xs σ H Q -> g xs σ H Q'
theorem Zbt {f : List (Option Nat)} {j : Nat} (h : f[j]? = some none := by rfl) : TgOk f (Zg7 j) where
  keep := fun x σ H Q q => ⟨⟨List.length_set .., fun i k e => List.getElem?_set_ne (by rintro rfl; rw [h] at e; cases e)⟩, q⟩
  mono := fun x σ H Q Q' m q => m _ _ q
theorem Zgq {f : List (Option Nat)} : TgsOk f Zrn where
  keep := fun xs σ H Q ⟨e, q⟩ => ⟨e, ⟨rfl, fun _ _ _ => rfl⟩, q⟩
  mono := fun xs σ H Q Q' m ⟨e, q⟩ => ⟨e, m _ _ q⟩
theorem ZcT {f : List (Option Nat)} {t : TG} {u : TGs} (h1 : TgOk f t) (h2 : TgsOk f u) : TgsOk f (Zp6 t u) where
  keep := fun xs σ H Q ⟨v, r, e, q⟩ => ⟨v, r, e, h1.mono _ _ _ _ _ (fun σ1 H1 z => h2.mono _ _ _ _ _ (fun σ2 H2 y => ⟨⟨y.1.1.trans z.1.1, fun i j ef => (y.1.2 i j ef).trans (z.1.2 i j ef)⟩, y.2⟩) (h2.keep _ _ _ _ z.2)) (h1.keep _ _ _ _ q)⟩
  mono := fun xs σ H Q Q' m ⟨v, r, e, q⟩ => ⟨v, r, e, h1.mono _ _ _ _ _ (fun σ1 H1 z => h2.mono _ _ _ _ _ m z) q⟩
theorem Zj2 {f : List (Option Nat)} {K : PySem.W.Frag} {n : Nat} {t : TGs} (h : TgsOk f t) : TgOk f (Zr9 K n t) where
  keep := fun x σ H Q ⟨a, xs, e, q, l, z⟩ => ⟨a, xs, e, q, l, h.keep _ _ _ _ z⟩
  mono := fun x σ H Q Q' m ⟨a, xs, e, q, l, z⟩ => ⟨a, xs, e, q, l, h.mono _ _ _ _ _ m z⟩
noncomputable def PCs (X : Cx) (ifs : List Expr) (tc : TT) : Prop :=
  ∀ (pins : List (Addr × Obj)) (s : Shared) (σ : St) (H : Hp) (Q : Bool -> Hp -> Prop), Inv X pins σ H s -> tc σ H Q ->
    wpAny (model X.prog X.w) X.A (forIn ifs true fun c r => if r = true then do let ok <- isTrue c X.env (eval c X.env); pure (ForInStep.yield ok) else pure (ForInStep.yield r)) (TP X pins σ Q) X.xe s
noncomputable def Zpt : TT := fun _ H Q => Q true H
theorem Zcz {X : Cx} : PCs X [] Zpt := fun _ _ _ H _ I h => wpAny_tests_nil ⟨H, I, h⟩
theorem ZoR {X : Cx} {c : Expr} {tc : TT} (h : PT X c tc) : PCs X [c] tc := fun pins s σ H Q I q => wpAny_tests_one (h pins s σ H Q I q)
theorem Zhd {prog : Program} {w : World} {A : Around} {R : Result -> Shared -> Prop} {s : Shared} {elt target iter : Expr} {ifs : List Expr} {scope : Scope} {pos : Pos} {it acc : Value} {env : Env} (I : Nat -> Shared -> Prop)
    (turn : ∀ n s, I n s -> wpAny (model prog w) A (pyNext it) (fun r s₁ => match r with
      | none => R (.ok .next) s₁
      | some v => wpAny (model prog w) A (letOwnedTupleGo target it v) (fun _ s₁' => wpAny (model prog w) A (assign target env v) (fun _ s₂ =>
          wpAny (model prog w) A (forIn ifs true fun c r => if r = true then do let ok <- isTrue c env (eval c env); pure (ForInStep.yield ok) else pure (ForInStep.yield r)) (fun ok s₃ =>
            if ok = true then wpAny (model prog w) A (eval elt env) (fun x s₄ =>
              wpAny (model prog w) A (call (.builtin "list.append") [acc, x]) (fun _ s₅ => ∃ m, m < n /\ I m s₅) (fun _ _ => False) s₄) (fun _ _ => False) s₃
            else ∃ m, m < n /\ I m s₃) (fun _ _ => False) s₂) (fun _ _ => False) s₁') (fun _ _ => False) s₁) (fun _ _ => False) s)
    (n : Nat) (h : I n s) :
    codeAny (model prog w) A (.compLoop (.ListComp elt [⟨target, iter, ifs, 0⟩] scope pos) 0 it acc env) R s := by
  refine codeAny_loop rfl I (fun n s hI => ?_) n h
  show wpAny _ A ((compTurn (.ListComp elt [⟨target, iter, ifs, 0⟩] scope pos) 0 it acc env).onRaise (fun x => do noteFrame x env; theTreesLotGoes x)) _ _ s
  refine wpAny_noted ?_
  rw [compTurn_list]
  refine wpAny_bind (wpAny_standAt (wpAny_bind (wpAny_mono (turn n s hI) (fun r s₁ h₁ => ?_) fun _ _ h' => h'.elim)))
  cases r with
  | none => exact wpAny_pure h₁
  | some v =>
    refine wpAny_bind (wpAny_mono h₁ (fun _ s₁' h₁' => ?_) fun _ _ h' => h'.elim)
    refine wpAny_bind (wpAny_mono h₁' (fun _ s₂ h₂ => wpAny_bind (wpAny_mono h₂ (fun ok s₃ h₃ => ?_) fun _ _ h' => h'.elim)) fun _ _ h' => h'.elim)
    cases ok with
    | false => exact wpAny_pure ⟨rfl, h₃⟩
    | true =>
      exact wpAny_bind (wpAny_bind (wpAny_mono h₃ (fun x s₄ h₄ => wpAny_bind (wpAny_mono h₄ (fun _ s₅ h₅ => wpAny_pure (wpAny_pure ⟨rfl, h₅⟩)) fun _ _ h' => h'.elim)) fun _ _ h' => h'.elim))
theorem Inv.track {X : Cx} {pins : List (Addr × Obj)} {σ : St} {H : Hp} {s : Shared} {a : Addr} {o : HO} (I : Inv X pins σ H s) (hn : H a = none) (h0 : X.s₀.heap.objs.size <= a) (hL : a ≠ X.env.locals) (hC : ∀ x c, X.env.cells.lookup x = some c -> c ≠ a)
    (hp : ∀ p ∈ X.pn ++ pins, p.1 ≠ a) (new : Zct X.prog X.w (upd H a o) s.heap a o) : Inv X pins σ (upd H a o) s where
  ok := I.ok
  os := I.os
  bare := I.bare
  base :=
    { keep := I.base.keep
      slot := I.base.slot
      free := fun b ob q n hx => by rw [Zah (Nat.ne_of_lt (Nat.lt_of_lt_of_le (Heap.lt_size q) h0))]; exact I.base.free b ob q n hx
      there := I.base.there
      tups := fun b xs q => by have z := I.base.tups b xs q; rw [Zah (Zau z hn)]; exact z
      tupo := I.base.tupo
      frzs := fun b u xs q => by have z := I.base.frzs b u xs q; rw [Zah (Zau z hn)]; exact z
      tbls := fun b ps q => by obtain ⟨more, z⟩ := I.base.tbls b ps q; exact ⟨more, by rw [Zah (Zau z hn)]; exact z⟩ }
  loc := I.loc
  cell := I.cell
  free := by rw [Zah hL.symm]; exact I.free
  freeC := fun x c e => by rw [Zah (hC x c e)]; exact I.freeC x c e
  pin := fun p hp' => by obtain ⟨e, n, r⟩ := I.pin p hp'; exact ⟨e, by rw [Zah (hp p hp')]; exact n, r⟩
  hok := fun b u e => by
    by_cases hb : b = a
    · subst hb; rw [Zaj] at e; cases e; exact new
    · rw [Zah hb] at e
      exact (I.hok b u e).stay (fun _ _ _ q => q) (fun c q => by rw [Zah (Zau q hn)]; exact q) fun c xs q => by rw [Zah (Zau q hn)]; exact q
  len := I.len
noncomputable def LCw (f : List (Option Nat)) (g : TG) (tc : TT) (te : TE) (σ : St) (J : It) (Q : VK) (H1 : Hp) : Prop :=
  ∃ W : Nat -> Nat -> List V -> Hp -> Prop, (∃ m, W 0 m [] H1) /\ ∀ i m ys H, W i m ys H ->
    (J.stop i H /\ ∀ p, H p = none -> Q (.ref p) (upd H p (.lst ys))) \/
    (J.go i H /\ ∀ x H', J.yld i H x H' -> g x (Zj0 f σ) H' fun σ2 H2 => tc σ2 H2 fun b H3 =>
      if b = true then te σ2 H3 fun y H4 => ys.length < sizeLine /\ ∃ m', m' < m /\ W (i + 1) m' (ys ++ [y]) H4
      else ∃ m', m' < m /\ W (i + 1) m' ys H3)
noncomputable def tLC (f : List (Option Nat)) (wi : TI) (g : CIn -> TG) (tc : CIn -> TT) (te : CIn -> TE) : TE := fun σ H Q => wi σ H fun J H1 => ∀ c : CIn, LCw f (g c) (tc c) (te c) σ J Q H1
noncomputable abbrev Zkq (its : List Value) (k : Nat) : Obj := { cls := .type "list", data := .seq its.toArray k }
section
variable {X : Cx} {pins : List (Addr × Obj)} {σ : St} {H2 : Hp} {s₂ : Shared}
theorem ZnF {tg iter elt : Expr} {ifs : List Expr} {scope : Scope} {pos : Pos} {N : List Str} {f : List (Option Nat)} {g : CIn -> TG} {tc : CIn -> TT} {te : CIn -> TE} {cl : List (Str × Addr)}
    (hc : X.calm = true) (ck : CompOk X.N X.env.scope N f scope)
    (hg : ∀ c, PG (ZbW X N scope c) tg (g c)) (ht : ∀ c, TgOk f (g c)) (hcs : ∀ c, PCs (ZbW X N scope c) ifs (tc c)) (he : ∀ c, PE (ZbW X N scope c) elt (te c))
    (I2 : Inv X pins σ H2 s₂) {it : Addr} {fp : List Addr} {tn : Nat -> Heap -> Prop} {J : It} (T : Turn X.prog X.w X.K tg J fp it tn) (st : tn 0 s₂.heap) (f2 : ∀ b ∈ fp, Zkp X pins H2 b)
    {Q : VK} (hq : ∀ c : CIn, LCw f (g c) (tc c) (te c) σ J Q H2)
    (hcl1 : ∀ x c, cl.lookup x = some c -> X.env.cells.lookup x = some c) (hcl2 : ∀ p ∈ scope.names, p.2 = NameKind.free -> ∃ c, cl.lookup p.1 = some c)
    {RR : Value -> Addr -> Result -> Shared -> Prop} {E : Value -> Shared -> Prop}
    (hRR : ∀ (acc C : Addr) (H' : Hp) (s' : Shared) (m' : Str -> Option Value), s'.heap.Ns C m' -> Inv X pins σ H' s' -> H' C = none -> C ≠ X.env.locals -> X.s₀.heap.objs.size <= C -> (∀ x c, X.env.cells.lookup x = some c -> c ≠ C) ->
      (∀ p ∈ X.pn ++ pins, p.1 ≠ C) -> Q (.ref acc) H' -> RR (.ref acc) C (.ok .next) s') :
    wpAny (model X.prog X.w) X.A (newList []) (fun acc s₃ => wpAny (model X.prog X.w) X.A (newFunctionEnv scope X.env.globals cl [] X.env.qual none .none (some X.env)) (fun cenv s₄ =>
      codeAny (model X.prog X.w) X.A (.compStart (.ListComp elt [⟨tg, iter, ifs, 0⟩] scope pos) 0 (.ref it) acc { cenv with scope := relabel scope X.env }) (RR acc cenv.locals) s₄) E s₃) E s₂ := by
  refine wpAny_newObj_type (wpAny_newFunctionEnv ck.nocell (by intro y hy; simp at hy) (fun h₁ hns₁ hsb₁ => ?_) ck.kind)
  dsimp only at hns₁ hsb₁ ⊢
  have I3 : Inv X pins σ H2 { s₂ with heap := s₂.heap.push (Zkq [] 0) } := I2.kept (t' := s₂.toks) fun b u e => Heap.get?_push_of_some _ e
  have hD : (s₂.heap.push (Zkq [] 0)).get? s₂.heap.objs.size = some (Zkq [] 0) := Heap.get?_push_size _ rfl
  generalize hs3 : ({ s₂ with heap := s₂.heap.push (Zkq [] 0) } : Shared) = s₃ at I3 hns₁ hsb₁ ⊢
  have hp3 : s₂.heap.push (Zkq [] 0) = s₃.heap := by rw [<- hs3]
  have hp3' : s₂.heap.push { cls := .type "list", dict := none, data := .seq ([] : List Value).toArray } = s₃.heap := hp3
  rw [hp3] at hD
  simp only [hp3'] at hns₁ hsb₁ ⊢
  have sz3 : s₂.heap.objs.size < s₃.heap.objs.size := by rw [<- hp3, Heap.size_push]; exact Nat.lt_succ_self _
  have k3 : ∀ b u, s₂.heap.get? b = some u -> s₃.heap.get? b = some u := fun b u e => by rw [<- hp3]; exact Heap.get?_push_of_some _ e
  have k1 : ∀ b u, s₃.heap.get? b = some u -> h₁.get? b = some u := fun b u e =>
    hsb₁.extBut b u (Nat.ne_of_lt (Heap.lt_size e)) (Heap.get?_push_of_some _ e)
  have fpo : ∀ b ∈ fp, b < s₂.heap.objs.size := fun b hb => by
    obtain ⟨o, e, _⟩ := T.obj 0 _ st b hb
    exact Heap.lt_size e
  have st1 : tn 0 h₁ := T.keep _ _ _ st fun b hb o e => k1 b o (k3 b o e)
  have fneC : ∀ b ∈ fp, b ≠ s₃.heap.objs.size := fun b hb => Nat.ne_of_lt (Nat.lt_trans (fpo b hb) sz3)
  have fneD : ∀ b ∈ fp, b ≠ s₂.heap.objs.size := fun b hb => Nat.ne_of_lt (fpo b hb)
  have cneD : ∀ x d, X.env.cells.lookup x = some d -> d ≠ s₂.heap.objs.size := fun x d e => by
    obtain ⟨v, z⟩ := I2.cell x d e
    exact Nat.ne_of_lt z.lt
  have pneD : ∀ p ∈ X.pn ++ pins, p.1 ≠ s₂.heap.objs.size := fun p hp => Nat.ne_of_lt (Heap.lt_size (I2.pin p hp).1)
  have freeD : H2 s₂.heap.objs.size = none := I2.fresh
  have stk : ∀ b, b ≠ X.env.locals -> b ∉ X.fs -> b ∉ frs X.stack := fun b h1 h2 hb => by
    rcases List.mem_cons.mp (I3.stkSub b hb) with z | z
    · exact h1 z
    · exact h2 z
  have exD : ∀ b, b ∈ s₂.heap.objs.size :: fp -> b = s₂.heap.objs.size \/ b ∈ fp := fun b hb => List.mem_cons.mp hb
  let c : CIn := ⟨cl, s₃.heap.objs.size, s₃, H2, s₂.heap.objs.size :: fp, X.pn ++ pins⟩
  have okX : (ZbW X N scope c).Ok :=
    { mod := I3.ok.mod
      kind := ck.kind
      glob := I3.ok.glob
      blt := I3.ok.blt
      above := Nat.le_refl _
      inj := fun x y d h1 h2 => I3.ok.inj x y d (hcl1 x d h1) (hcl1 y d h2)
      has := fun x hx => by
        rcases ZcU hx with z | z
        · exact hcl2 (x, .free) (PySem.mem_of_lookup z) rfl
        · exact absurd rfl (ck.nocell (x, .cell) (PySem.mem_of_lookup z))
      cab := fun x d h => absurd (show false = true from h) Bool.false_ne_true
      hd := I3.ok.hd
      frames := I3.ok.frames
      stk := .inl rfl
      exf := fun b hb => by
        rcases exD b hb with rfl | hb
        · exact ⟨Nat.ne_of_lt sz3, fun x d e => cneD x d (hcl1 x d e)⟩
        · exact ⟨fneC b hb, fun x d e => (f2 b hb).2.2.2.2.1 x d (hcl1 x d e)⟩
      bs := fun b o e => I3.bs b o e
      bsz := Nat.le_trans I3.ok.bsz I3.sz
      noex := fun b o e hb => by
        rcases exD b hb with rfl | hb
        · exact absurd (Heap.lt_size (I2.bk _ _ e)) (Nat.lt_irrefl _)
        · rcases (f2 b hb).2.2.2.1 with z | z
          · exact I3.ok.noex b o e z
          · exact absurd (Nat.lt_of_lt_of_le (Heap.lt_size (I3.ok.bs b o e).1) z) (Nat.lt_irrefl _)
      exfs := fun b hb => by
        rcases exD b hb with rfl | hb
        · exact stk _ (Nat.ne_of_gt I2.lt) (I2.nofs (Nat.le_refl _))
        · exact stk b (f2 b hb).2.1 (f2 b hb).2.2.1
      funs := I3.stack
      frf := I3.stkFree }
  have I4 : Inv (ZbW X N scope c) [(s₂.heap.objs.size, Zkq [] 0)] (Zj0 f σ) H2 { s₃ with heap := h₁, toks := s₃.toks + ([] : List (Str × Value)).length } :=
    { ok := okX
      os := rfl
      bare := I3.bare
      base := Un.kept k1
      loc := ⟨_, hns₁, fun i x v e1 e2 e3 => by
        have hfi : ∃ j, f[i]? = some (some j) /\ σ[j]? = some (some v) := by
          unfold Zj0 at e2
          rw [List.getElem?_map] at e2
          cases ef : f[i]? with
          | none => rw [ef] at e2; cases e2
          | some o =>
            rw [ef] at e2
            cases o with
            | none => cases e2
            | some j =>
              refine ⟨j, rfl, ?_⟩
              have e2' : (σ[j]?).join = some v := Option.some.inj e2
              cases es : σ[j]? with
              | none => rw [es] at e2'; cases e2'
              | some o2 =>
                rw [es] at e2'
                have : o2 = some v := e2'
                rw [this]
        obtain ⟨j, ef, es⟩ := hfi
        obtain ⟨x', n1, n2, n3⟩ := ck.ix i j ef
        have : x' = x := Option.some.inj (n1.symm.trans e1)
        subst this
        have hfr := ck.free (x', .free) (PySem.mem_of_lookup n3) rfl
        obtain ⟨m0, hm0, hl0⟩ := I3.loc
        obtain ⟨u, ru, lk⟩ := hl0 j x' v n2 es (hfr.elim (fun z => .inr (.inl z)) fun z => .inr (.inr z))
        refine ⟨u, ru, .inr ⟨ZcQ n3, ?_⟩⟩
        rcases lk with ⟨kl, _⟩ | ⟨_, d, ed, hd⟩
        · have kl' : X.env.scope.names.lookup x' = some .local := kl
          rcases hfr with z | z
          · rw [kl'] at z; cases z
          · rw [kl'] at z; cases z
        · obtain ⟨d', ed'⟩ := hcl2 (x', .free) (PySem.mem_of_lookup n3) rfl
          have : d' = d := Option.some.inj ((hcl1 x' d' ed').symm.trans ed)
          subst this
          exact ⟨d', ed', hd.keeps k1⟩⟩
      cell := fun x d e => by
        obtain ⟨v, z⟩ := I3.cell x d (hcl1 x d e)
        exact ⟨v, z.keeps k1⟩
      free := I3.fresh
      freeC := fun x d e => I3.freeC x d (hcl1 x d e)
      pin := fun p hp => by
        rcases List.mem_append.mp (show p ∈ (X.pn ++ pins) ++ [(s₂.heap.objs.size, Zkq [] 0)] from hp) with hp' | hp'
        · obtain ⟨e, n, ne, nf, d⟩ := I3.pin p hp'
          exact ⟨k1 _ _ e, n, Nat.ne_of_lt (Heap.lt_size e), stk p.1 ne nf, d⟩
        · have z : p = (s₂.heap.objs.size, Zkq [] 0) := List.mem_singleton.mp hp'
          subst z
          exact ⟨k1 _ _ hD, freeD, Nat.ne_of_lt sz3, stk _ (Nat.ne_of_gt I2.lt) (I2.nofs (Nat.le_refl _)), fun v z => nomatch (show Data.seq _ _ = Data.cell v from z)⟩
      hok := I3.hok.kept k1
      len := by
        show (Zj0 f σ).length = N.length
        unfold Zj0
        rw [List.length_map]
        exact ck.len }
  have back : ∀ {σ' : St} {H' : Hp} {s' : Shared} {ps : List (Addr × Obj)}, Inv (ZbW X N scope c) ps σ' H' s' -> Inv X pins σ H' s' := fun {σ' H' s' ps} J' =>
    I3.call' (ch := s₂.heap.objs.size :: fp) J'.os J'.base J'.hok J'.bare fun b hb => by
      rcases exD b hb with rfl | hb
      · exact ⟨.inr I2.sz, Nat.ne_of_gt I2.lt, cneD, pneD⟩
      · exact ⟨(f2 b hb).2.2.2.1, (f2 b hb).2.1, (f2 b hb).2.2.2.2.1, (f2 b hb).2.2.2.2.2⟩
  have fpX : ∀ {H' : Hp} {ob : Obj}, (∀ b ∈ fp, H' b = none) -> ∀ b ∈ fp, Zkp (ZbW X N scope c) [(s₂.heap.objs.size, ob)] H' b := fun {H' ob} hn b hb =>
    ⟨hn b hb, (okX.exf b (List.mem_cons_of_mem _ hb)).1, okX.exfs b (List.mem_cons_of_mem _ hb), .inl (List.mem_cons_of_mem _ hb), (okX.exf b (List.mem_cons_of_mem _ hb)).2, fun p hp => by
      rcases List.mem_append.mp (show p ∈ (X.pn ++ pins) ++ [(s₂.heap.objs.size, ob)] from hp) with z | z
      · exact (f2 b hb).2.2.2.2.2 p z
      · have z : p = (s₂.heap.objs.size, ob) := List.mem_singleton.mp z
        subst z
        exact (fneD b hb).symm⟩
  obtain ⟨W, ⟨m0, w0⟩, turn⟩ := hq c
  have loop : ∀ s, s = ({ s₃ with heap := h₁, toks := s₃.toks + ([] : List (Str × Value)).length } : Shared) ->
      codeAny (model X.prog X.w) X.A (.compLoop (.ListComp elt [⟨tg, iter, ifs, 0⟩] scope pos) 0 (.ref it) (.ref s₂.heap.objs.size) (compEnvC scope cl s₃.heap.objs.size X.env)) (RR (.ref s₂.heap.objs.size) s₃.heap.objs.size) s := by
    rintro s rfl
    refine Zhd (fun n s' => ∃ i H' ys its k, Inv (ZbW X N scope c) [(s₂.heap.objs.size, Zkq its k)] (Zj0 f σ) H' s' /\ ZbE ys its /\ ys.length <= sizeLine /\ tn i s'.heap /\ (∀ b ∈ fp, H' b = none) /\ W i n ys H') ?_ m0 ⟨0, _, [], [], 0, I4, .nil, Nat.zero_le _, st1, fun b hb => (f2 b hb).1, w0⟩
    rintro n s5 ⟨i, H5, ys, its, k, I5, rv5, hz5, st5, fr5, w5⟩
    rcases turn i n ys H5 w5 with ⟨stop, qn⟩ | ⟨go, step⟩
    · refine thn (T.done (ZbW X N scope c) rfl rfl rfl hc i _ s5 (Zj0 f σ) H5 _ I5 (fpX fr5) st5 stop) fun r s6 ⟨hr, I6⟩ => ?_
      subst hr
      obtain ⟨m6, hn6, _⟩ := id I6.loc
      obtain ⟨eD, nD, _⟩ := I6.pin (s₂.heap.objs.size, Zkq its k) (List.mem_append_right _ (List.mem_singleton.mpr rfl))
      have I7 : Inv X pins σ (upd H5 s₂.heap.objs.size (.lst ys)) s6 := (back I6).track nD I2.sz (Nat.ne_of_gt I2.lt) cneD pneD ⟨hz5, its, k, rv5, eD⟩
      refine hRR _ _ _ s6 m6 hn6 I7 (by rw [Zah (Nat.ne_of_gt sz3)]; exact I6.free) (Nat.ne_of_gt I3.lt) I3.sz (fun x d e => ?_) (fun p hp => ?_) (qn _ nD)
      · obtain ⟨v, z⟩ := I3.cell x d e
        exact Nat.ne_of_lt z.lt
      · exact Nat.ne_of_lt (Heap.lt_size (I3.pin p hp).1)
    · refine thn (T.item (ZbW X N scope c) rfl rfl rfl hc i _ s5 (Zj0 f σ) H5 _ I5 (fpX fr5) st5 go) fun r s6 ⟨u, hr, h6⟩ => ?_
      subst hr
      refine thn h6 fun _ s7 ⟨x, H7, I7, r7, y7, st7, fr7⟩ => ?_
      have I7' := I7.pinned (fpX fr7) (T.obj _ _ st7)
      refine thn (hg c _ s7 (Zj0 f σ) H7 x u _ I7' r7 ((ht c).keep _ _ _ _ (step x H7 y7))) fun _ s8 ⟨σ8, H8, I8, kp8, q8⟩ => ?_
      have wk : ∀ (j : Nat) v, (Zj0 f σ)[j]? = some (some v) -> σ8[j]? = some (some v) := fun j v e => by
        have ef : ∃ k, f[j]? = some (some k) := by
          have e' := e
          unfold Zj0 at e'
          rw [List.getElem?_map] at e'
          cases q : f[j]? with
          | none => rw [q] at e'; cases e'
          | some o =>
            cases o with
            | none => rw [q] at e'; cases e'
            | some k => exact ⟨k, rfl⟩
        obtain ⟨k, ef⟩ := ef
        rw [kp8.2 j k ef]; exact e
      have recs : ∀ {H9 : Hp} {s9 : Shared} {ob : Obj}, Inv (ZbW X N scope c) ([(s₂.heap.objs.size, ob)] ++ Zhr fp s7.heap) σ8 H9 s9 -> tn (i + 1) s9.heap /\ ∀ b ∈ fp, H9 b = none := fun {H9 s9 ob} I9 =>
        ⟨T.keep _ _ _ st7 fun b hb o e => (I9.pin (b, o) (List.mem_append_right _ (List.mem_append_right _ (ZdC hb e)))).1, fun b hb => by
          obtain ⟨o, e, d⟩ := T.obj _ _ st7 b hb
          exact (I9.pin (b, o) (List.mem_append_right _ (List.mem_append_right _ (ZdC hb e)))).2.1⟩
      refine thn (hcs c _ s8 σ8 H8 _ I8 q8) fun ok s9 ⟨H9, I9, q9⟩ => ?_
      cases ok with
      | false =>
        obtain ⟨m', hm, w9⟩ := (show ∃ m', m' < n /\ W (i + 1) m' ys H9 from q9)
        obtain ⟨z1, z2⟩ := recs I9
        exact ⟨m', hm, i + 1, H9, ys, its, k, (I9.unpinned).weak kp8.1.symm wk, rv5, hz5, z1, z2, w9⟩
      | true =>
        refine thn (he c _ s9 σ8 H9 _ I9 (show te c σ8 H9 _ from q9)) fun v s10 ⟨y, H10, I10, r10, hlen, m', hm, w10⟩ => ?_
        obtain ⟨eD, nD, neD, nfD, dD⟩ := I10.pin (s₂.heap.objs.size, Zkq its k) (List.mem_append_right _ (List.mem_append_left _ (List.mem_singleton.mpr rfl)))
        obtain ⟨z1, z2⟩ := recs I10
        have lv := rv5.length
        refine call_meets F.slot_list_append ⟨_, eD, rfl⟩ F.entry_list_append (F.args_list_append_2 _ _) (PySem.list_append s₂.heap.objs.size its.toArray k v (by rw [List.size_toArray]; omega)) ⟨eD, ?_⟩
        have q := PySem.IsL.update eD (·.push v)
        have hf : its.toArray.push v = (its ++ [v]).toArray := by simp
        rw [hf] at q
        have I11 : Inv (ZbW X N scope c) [] σ8 H10 { s10 with heap := s10.heap.update s₂.heap.objs.size (Obj.mapSeq (·.push v)) } :=
          (I10.pins_of (pins' := []) fun p hp => absurd hp (by simp)).turned (t' := s10.toks) (it := s₂.heap.objs.size) (fun b o hb e => (Heap.get?_update_other s10.heap (Obj.mapSeq (·.push v)) (Ne.symm hb)).trans e) nD neD (.inl List.mem_cons_self) (okX.exf _ List.mem_cons_self).2 fun p hp => by
            have z : p ∈ (X.pn ++ pins) ++ [] := hp
            rw [List.append_nil] at z
            exact pneD p z
        have I12 : Inv (ZbW X N scope c) [(s₂.heap.objs.size, Zkq (its ++ [v]) _)] σ8 H10 { s10 with heap := s10.heap.update s₂.heap.objs.size (Obj.mapSeq (·.push v)) } :=
          I11.pins_of fun p hp => by
            have z : p = (s₂.heap.objs.size, _) := List.mem_singleton.mp hp
            subst z
            exact ⟨q, nD, neD, nfD, fun v z => nomatch (show Data.seq _ _ = Data.cell v from z)⟩
        refine ⟨m', hm, i + 1, H10, ys ++ [y], its ++ [v], _, I12.weak kp8.1.symm wk, rv5.append (.cons r10 .nil), by rw [List.length_append, List.length_singleton]; omega, ?_, z2, w10⟩
        exact T.keep _ _ _ z1 fun b hb o e => (Heap.get?_update_other s10.heap (Obj.mapSeq (·.push v)) (fneD b hb).symm).trans e
  exact codeAny_compStart_list (loop _ (by rw [<- hs3])) (T.self _ 0 _ _ _ st1 (loop _ (by rw [<- hs3])))
theorem ZfL {tg iter elt : Expr} {ifs : List Expr} {scope : Scope} {pos : Pos} {NX : List Str} {sc : Scope} {N : List Str} {f : List (Option Nat)} {wi : TI} {g : CIn -> TG} {tc : CIn -> TT} {te : CIn -> TE}
    (hc : X.calm = true) (ck : ZgP NX sc N f scope = true) (hNX : X.N = NX) (hsc : X.env.scope = sc) (hi : PI X tg iter wi)
    (hg : ∀ c, PG (ZbW X N scope c) tg (g c)) (ht : ∀ c, TgOk f (g c)) (hcs : ∀ c, PCs (ZbW X N scope c) ifs (tc c)) (he : ∀ c, PE (ZbW X N scope c) elt (te c))
    (hs : ∀ x, foldedSetIterable iter X.env x = pure x := by intro _; rfl) : PE X (.ListComp elt [⟨tg, iter, ifs, 0⟩] scope pos) (tLC f wi g tc te) := by
  subst hNX hsc
  intro pins s σ H Q I h
  have ck' := ZhR ck
  obtain ⟨cl, hclos, hcl1, hcl2⟩ := ZfT (scope := scope) (env := X.env) fun p hp hf => I.ok.has p.1 (ck'.free p hp hf)
  rw [eval_ListComp]
  refine wpAny_comprehension_free (use := none) rfl hs hclos ck'.kind ck'.names (thn (hi pins s σ H _ I h) fun xv s₁ h₁ => thn h₁ fun itv s₂ h₂ => ?_)
  obtain ⟨it, fp, tn, J, H2, e, I2, T, st, f2, hq⟩ := h₂
  subst e
  refine ZnF (RR := fun acc C => compPost (model X.prog X.w) X.A X.xe none (EP X pins σ Q) acc C) hc ck' hg ht hcs he I2 T st f2 hq hcl1 hcl2 ?_
  intro acc C H' s' m' hn I' hC hL h0 h1 h2 q
  exact ⟨m', hn, fun h'' hs'' => ⟨.ref acc, H', I'.turned (t' := s'.toks) (fun b o hb e => (hs''.2 b hb).trans e) hC hL (.inr h0) h1 h2, rfl, q⟩⟩
theorem ZeO {i : Nat} {x : Str} {px spos : Pos} {tg iter elt : Expr} {ifs : List Expr} {scope : Scope} {pos : Pos} {NX : List Str} {sc : Scope} {N : List Str} {f : List (Option Nat)} {wi : TI} {g : CIn -> TG} {tc : CIn -> TT} {te : CIn -> TE}
    (hN : X.N.Nodup) (hix : X.N[i]? = some x) (hx : X.env.scope.names.lookup x = some .local)
    (hc : X.calm = true) (ck : ZgP NX sc N f scope = true) (hNX : X.N = NX) (hsc : X.env.scope = sc) (hi : PI X tg iter wi)
    (hg : ∀ c, PG (ZbW X N scope c) tg (g c)) (ht : ∀ c, TgOk f (g c)) (hcs : ∀ c, PCs (ZbW X N scope c) ifs (tc c)) (he : ∀ c, PE (ZbW X N scope c) elt (te c))
    (hsw : swapsWith (.ListComp elt [⟨tg, iter, ifs, 0⟩] scope pos) (some (.Name x px)) spos.line X.env = pure true)
    (hs : ∀ x, foldedSetIterable iter X.env x = pure x := by intro _; rfl) : PS X (.Assign [.Name x px] (.ListComp elt [⟨tg, iter, ifs, 0⟩] scope pos) spos) (Zmc (tLC f wi g tc te) (Zg7 i)) := by
  subst hNX hsc
  intro pins s σ H D I h
  have ck' := ZhR ck
  obtain ⟨cl, hclos, hcl1, hcl2⟩ := ZfT (scope := scope) (env := X.env) fun p hp hf => I.ok.has p.1 (ck'.free p hp hf)
  rw [exec_Assign_Name_used _ _ _ _ hsw]
  refine wpAny_bind (wpAny_standAt (wpAny_bind ?_))
  show wpAny _ X.A (do let _ <- comprehension (.ListComp elt [⟨tg, iter, ifs, 0⟩] scope pos) scope X.env _ (newList []) false (eval iter X.env) (some (assign (.Name x px) X.env))) _ _ s
  refine wpAny_bind (wpAny_mono (wpAny_comprehension_free (use := some (assign (.Name x px) X.env)) (Q := fun _ s' => SP X pins D .next s') rfl hs hclos ck'.kind ck'.names
    (thn (hi pins s σ H _ I h) fun xv s₁ h₁ => thn h₁ fun itv s₂ h₂ => ?_)) (fun _ s' hq => wpAny_pure (wpAny_pure hq)) fun _ _ e => e)
  obtain ⟨it, fp, tn, J, H2, e, I2, T, st, f2, hq⟩ := h₂
  subst e
  refine ZnF (RR := fun acc C => compPost (model X.prog X.w) X.A X.xe (some (assign (.Name x px) X.env)) (fun _ s' => SP X pins D .next s') acc C) hc ck' hg ht hcs he I2 T st f2 hq hcl1 hcl2 ?_
  intro acc C H' s' m' hn I' hC hL h0 h1 h2 q
  show wpAny _ X.A (assign (.Name x px) X.env (.ref acc)) _ _ _
  refine wpAny_assign_Name (Zh2 I' hN hix (.inl hx) (v := .ref acc) rfl (fun s'' I'' ⟨a, sb, ha⟩ => ?_) (.inr hx))
  have nC : C ≠ a := by
    rcases ha with z | z
    · rw [z]; exact hL
    · exact (h1 _ _ z).symm
  refine ⟨m', hn.sameBut sb nC, fun h'' hs'' => ?_⟩
  exact ⟨_, H', I''.turned (t' := s''.toks) (fun b o hb e => (hs''.2 b hb).trans e) hC hL (.inr h0) h1 h2, q⟩
end
section
variable {f : List (Option Nat)} {g : TG} {tc : TT} {te : TE} {σ : St} {Q : VK} {H1 : Hp} {K : PySem.W.Frag} {a : Addr} {xs : List V}
end
end L2
end
section
namespace L2
open PySem PySem.Spec PyProof.Rows
mutual
inductive Rep (H : Hp) : V -> PyData -> Prop
  | non : Rep H .non .none
  | bl (b : Bool) : Rep H (.bl b) (.bool b)
  | int (i : Int) : Rep H (.int i) (.int i)
  | str (x : Str) : Rep H (.str x) (.str x)
  | lst {a : Addr} {xs : List V} {ds : List PyData} : H a = some (.lst xs) -> Reps H xs ds -> Rep H (.ref a) (.list ds)
  | tup {a : Addr} {xs : List V} {ds : List PyData} : H a = some (.tup xs) -> Reps H xs ds -> Rep H (.ref a) (.tuple ds)
  | dct {a : Addr} : H a = some (.dK []) -> Rep H (.ref a) (.dict [])
inductive Reps (H : Hp) : List V -> List PyData -> Prop
  | nil : Reps H [] []
  | cons {x : V} {xs : List V} {d : PyData} {ds : List PyData} : Rep H x d -> Reps H xs ds -> Reps H (x :: xs) (d :: ds)
end
mutual
theorem Rep.mono {H H' : Hp} (s : ZaK H H') : ∀ {v : V} {d : PyData}, Rep H v d -> Rep H' v d
  | _, _, .non => .non
  | _, _, .bl b => .bl b
  | _, _, .int i => .int i
  | _, _, .str x => .str x
  | _, _, .lst h r => .lst (s _ _ h) (Reps.mono s r)
  | _, _, .tup h r => .tup (s _ _ h) (Reps.mono s r)
  | _, _, .dct h => .dct (s _ _ h)
theorem Reps.mono {H H' : Hp} (s : ZaK H H') : ∀ {vs : List V} {ds : List PyData}, Reps H vs ds -> Reps H' vs ds
  | _, _, .nil => .nil
  | _, _, .cons r t => .cons (Rep.mono s r) (Reps.mono s t)
end
theorem Reps.length {H : Hp} : ∀ {vs : List V} {ds : List PyData}, Reps H vs ds -> vs.length = ds.length
  | _, _, .nil => rfl
  | _, _, .cons _ t => by simp [Reps.length t]
theorem Reps.get {H : Hp} : ∀ {vs : List V} {ds : List PyData} {i : Nat} {d : PyData}, Reps H vs ds -> ds[i]? = some d -> ∃ v, vs[i]? = some v /\ Rep H v d
  | _, _, _, _, .nil, e => by simp at e
  | _, _, 0, _, .cons r _, e => by simp at e; subst e; exact ⟨_, rfl, r⟩
  | _, _, i + 1, d, .cons _ t, e => by
    obtain ⟨u, h1, h2⟩ := Reps.get (i := i) (d := d) t (by simpa using e)
    exact ⟨u, by simpa using h1, h2⟩
theorem Reps.snoc {H : Hp} {v : V} {d : PyData} : ∀ {vs : List V} {ds : List PyData}, Reps H vs ds -> Rep H v d -> Reps H (vs ++ [v]) (ds ++ [d])
  | _, _, .nil, h => .cons h .nil
  | _, _, .cons r t, h => .cons r (Reps.snoc t h)
theorem Reps.append {H : Hp} : ∀ {vs ws : List V} {ds es : List PyData}, Reps H vs ds -> Reps H ws es -> Reps H (vs ++ ws) (ds ++ es)
  | _, _, _, _, .nil, s => s
  | _, _, _, _, .cons r t, s => .cons r (Reps.append t s)
theorem Reps.set {H : Hp} {v : V} {d : PyData} (r : Rep H v d) : ∀ {vs : List V} {ds : List PyData} (i : Nat), Reps H vs ds -> Reps H (vs.set i v) (ds.set i d)
  | _, _, _, .nil => .nil
  | _, _, 0, .cons _ t => .cons r t
  | _, _, i + 1, .cons q t => .cons q (Reps.set r i t)
theorem Zeo {H : Hp} : ∀ {vs : List V} {l : List Int}, Reps H vs (l.map PyData.int) -> vs = l.map V.int
  | _, [], .nil => rfl
  | _, i :: l, .cons (.int _) t => by rw [List.map_cons, Zeo t]
section
variable {X : Cx} {pins : List (Addr × Obj)} {σ : St} {H : Hp} {s : Shared}
mutual
theorem Rep.reads (I : Inv X pins σ H s) : ∀ {v : V} {d : PyData} {u : Value}, Rep H v d -> Zbc v u -> ∃ as, Reads s.heap u d as
  | _, _, _, .non, r => by cases r; exact ⟨_, .none⟩
  | _, _, _, .bl b, r => by cases r; exact ⟨_, .bool b⟩
  | _, _, _, .int i, r => by obtain ⟨t, rfl⟩ := r; exact ⟨_, .int i t⟩
  | _, _, _, .str x, r => by obtain ⟨t, rfl⟩ := r; exact ⟨_, .str x t⟩
  | _, _, _, .lst h q, r => by
    cases r
    obtain ⟨z, its, n, rv, e⟩ := I.hok _ _ h
    obtain ⟨as, ra⟩ := Reps.reads I q rv
    exact ⟨_, .list e rfl rfl (by simpa using ra)⟩
  | _, _, _, .tup h q, r => by
    cases r
    obtain ⟨z, its, rv, o, e, c, n, dd⟩ := I.hok _ _ h
    obtain ⟨as, ra⟩ := Reps.reads I q rv
    exact ⟨_, .tuple e c dd (by simpa using ra)⟩
  | _, _, _, .dct h, r => by
    cases r
    obtain ⟨z, y, vs, kv, ob, es, ep, e, c, dd, _, pr, _⟩ := I.hok _ _ h
    cases kv
    have ee : es.toList = [] := List.eq_nil_of_length_eq_zero pr.length
    exact ⟨_, .dict (kvs := []) e c.1 dd (by rw [ee]; exact .nil) (by rw [ee]; exact .nil)⟩
theorem Reps.reads (I : Inv X pins σ H s) : ∀ {vs : List V} {ds : List PyData} {us : List Value}, Reps H vs ds -> ZbE vs us -> ∃ as, ReadsAll s.heap us ds as
  | _, _, _, .nil, r => by cases r; exact ⟨_, .nil⟩
  | _, _, _, .cons q t, r => by
    cases r with
    | cons r1 r2 =>
      obtain ⟨as, ra⟩ := Rep.reads I q r1
      obtain ⟨bs, rb⟩ := Reps.reads I t r2
      exact ⟨_, .cons ra rb⟩
end
noncomputable def Zo2 (d : PyData) : Prop := d.canLay0 = true /\ d.depth <= 60
end
theorem Znb {d : PyData} (f : Zo2 d) : PyData.eqv d d = true := SeqAt.eqv_refl d f.1
theorem ZnH {α : Type} {xs : List α} {i : Int} {v : α} (h : atI xs i = some v) : ∃ j : Nat, xs[j]? = some v /\ ixN xs.length i = some j := by
  unfold atI at h
  cases e : ixN xs.length i with
  | none => rw [e] at h; cases h
  | some j => rw [e] at h; exact ⟨j, h, rfl⟩
section
variable {X : Cx}
end
inductive TyN (H : Hp) : V -> String -> Prop
  | non : TyN H .non "NoneType"
  | bl (b : Bool) : TyN H (.bl b) "bool"
  | int (i : Int) : TyN H (.int i) "int"
  | str (x : Str) : TyN H (.str x) "str"
  | lst {a : Addr} {xs : List V} : H a = some (.lst xs) -> TyN H (.ref a) "list"
  | tup {a : Addr} {xs : List V} : H a = some (.tup xs) -> TyN H (.ref a) "tuple"
  | dct {a : Addr} : H a = some (.dK []) -> TyN H (.ref a) "dict"
noncomputable def tyD : PyData -> String
  | .none => "NoneType"
  | .bool _ => "bool"
  | .int _ => "int"
  | .str _ => "str"
  | .list _ => "list"
  | .tuple _ => "tuple"
  | .dict _ => "dict"
theorem Rep.ty {H : Hp} {v : V} {d : PyData} (r : Rep H v d) : TyN H v (tyD d) := by
  cases r with
  | non => exact .non
  | bl b => exact .bl b
  | int i => exact .int i
  | str x => exact .str x
  | lst h _ => exact .lst h
  | tup h _ => exact .tup h
  | dct h => exact .dct h
noncomputable def ZkE (T c : String) : Option Bool :=
  if c = "int" then some (T == "int" || T == "bool") else if c = "bool" then some (T == "bool") else if c = "list" then some (T == "list") else if c = "tuple" then some (T == "tuple") else if c = "str" then some (T == "str") else if c = "dict" then some (T == "dict") else none
theorem ZoW {prog : Program} {w : World} {A : Around} {E : Value -> Shared -> Prop} {s : Shared} {Q : Value -> Shared -> Prop} {a : Addr} {o : Obj} {c : String} {b : Bool} (hx : s.heap.get? a = some o) (hc : o.cls = .type "list") (e : ZkE "list" c = some b) (h : ∀ t, Q (.bool b) { s with toks := t }) :
    wpAny (model prog w) A (call (.builtin "isinstance") [.ref a, .type c]) Q E s := by
  unfold ZkE at e
  split at e
  · rename_i z; subst z; cases e; exact IsiPair.list_int hx hc (h _)
  · split at e
    · rename_i z; subst z; cases e; exact IsiPair.list_bool hx hc (h _)
    · split at e
      · rename_i z; subst z; cases e; exact IsiPair.list_list hx hc (h _)
      · split at e
        · rename_i z; subst z; cases e; exact IsiPair.list_tuple hx hc (h _)
        · split at e
          · rename_i z; subst z; cases e; exact IsiPair.list_str hx hc (h _)
          · split at e
            · rename_i z; subst z; cases e; exact IsiPair.list_dict hx hc (h _)
            · cases e
theorem ZoX {prog : Program} {w : World} {A : Around} {E : Value -> Shared -> Prop} {s : Shared} {Q : Value -> Shared -> Prop} {a : Addr} {o : Obj} {c : String} {b : Bool} (hx : s.heap.get? a = some o) (hc : o.cls = .type "tuple") (e : ZkE "tuple" c = some b) (h : ∀ t, Q (.bool b) { s with toks := t }) :
    wpAny (model prog w) A (call (.builtin "isinstance") [.ref a, .type c]) Q E s := by
  unfold ZkE at e
  split at e
  · rename_i z; subst z; cases e; exact IsiPair.tuple_int hx hc (h _)
  · split at e
    · rename_i z; subst z; cases e; exact IsiPair.tuple_bool hx hc (h _)
    · split at e
      · rename_i z; subst z; cases e; exact IsiPair.tuple_list hx hc (h _)
      · split at e
        · rename_i z; subst z; cases e; exact IsiPair.tuple_tuple hx hc (h _)
        · split at e
          · rename_i z; subst z; cases e; exact IsiPair.tuple_str hx hc (h _)
          · split at e
            · rename_i z; subst z; cases e; exact IsiPair.tuple_dict hx hc (h _)
            · cases e
theorem ZoV {prog : Program} {w : World} {A : Around} {E : Value -> Shared -> Prop} {s : Shared} {Q : Value -> Shared -> Prop} {a : Addr} {o : Obj} {c : String} {b : Bool} (hx : s.heap.get? a = some o) (hc : o.cls = .type "dict") (e : ZkE "dict" c = some b) (h : ∀ t, Q (.bool b) { s with toks := t }) :
    wpAny (model prog w) A (call (.builtin "isinstance") [.ref a, .type c]) Q E s := by
  unfold ZkE at e
  split at e
  · rename_i z; subst z; cases e; exact IsiPair.dict_int hx hc (h _)
  · split at e
    · rename_i z; subst z; cases e; exact IsiPair.dict_bool hx hc (h _)
    · split at e
      · rename_i z; subst z; cases e; exact IsiPair.dict_list hx hc (h _)
      · split at e
        · rename_i z; subst z; cases e; exact IsiPair.dict_tuple hx hc (h _)
        · split at e
          · rename_i z; subst z; cases e; exact IsiPair.dict_str hx hc (h _)
          · split at e
            · rename_i z; subst z; cases e; exact IsiPair.dict_dict hx hc (h _)
            · cases e
theorem ZmY {prog : Program} {w : World} {A : Around} {E : Value -> Shared -> Prop} {s : Shared} {Q : Value -> Shared -> Prop} {H : Hp} {x : V} {u : Value} {T c : String} {b : Bool} (ty : TyN H x T) (rx : Zbc x u) (hf : ∀ a, x ≠ .ref a) (e : ZkE T c = some b) (h : ∀ t, Q (.bool b) { s with toks := t }) :
    wpAny (model prog w) A (call (.builtin "isinstance") [u, .type c]) Q E s := by
  unfold ZkE at e
  split at e
  · rename_i z; subst z; cases e
    cases ty with
    | non => cases rx; exact IsiPair.NoneType_int (h _)
    | bl b => cases rx; exact IsiPair.bool_int (h _)
    | int i => obtain ⟨t, rfl⟩ := rx; exact IsiPair.int_int (h _)
    | str i => obtain ⟨t, rfl⟩ := rx; exact IsiPair.str_int (h _)
    | lst _ => exact absurd rfl (hf _)
    | tup _ => exact absurd rfl (hf _)
    | dct _ => exact absurd rfl (hf _)
  · split at e
    · rename_i z; subst z; cases e
      cases ty with
      | non => cases rx; exact IsiPair.NoneType_bool (h _)
      | bl b => cases rx; exact IsiPair.bool_bool (h _)
      | int i => obtain ⟨t, rfl⟩ := rx; exact IsiPair.int_bool (h _)
      | str i => obtain ⟨t, rfl⟩ := rx; exact IsiPair.str_bool (h _)
      | lst _ => exact absurd rfl (hf _)
      | tup _ => exact absurd rfl (hf _)
      | dct _ => exact absurd rfl (hf _)
    · split at e
      · rename_i z; subst z; cases e
        cases ty with
        | non => cases rx; exact IsiPair.NoneType_list (h _)
        | bl b => cases rx; exact IsiPair.bool_list (h _)
        | int i => obtain ⟨t, rfl⟩ := rx; exact IsiPair.int_list (h _)
        | str i => obtain ⟨t, rfl⟩ := rx; exact IsiPair.str_list (h _)
        | lst _ => exact absurd rfl (hf _)
        | tup _ => exact absurd rfl (hf _)
        | dct _ => exact absurd rfl (hf _)
      · split at e
        · rename_i z; subst z; cases e
          cases ty with
          | non => cases rx; exact IsiPair.NoneType_tuple (h _)
          | bl b => cases rx; exact IsiPair.bool_tuple (h _)
          | int i => obtain ⟨t, rfl⟩ := rx; exact IsiPair.int_tuple (h _)
          | str i => obtain ⟨t, rfl⟩ := rx; exact IsiPair.str_tuple (h _)
          | lst _ => exact absurd rfl (hf _)
          | tup _ => exact absurd rfl (hf _)
          | dct _ => exact absurd rfl (hf _)
        · split at e
          · rename_i z; subst z; cases e
            cases ty with
            | non => cases rx; exact IsiPair.NoneType_str (h _)
            | bl b => cases rx; exact IsiPair.bool_str (h _)
            | int i => obtain ⟨t, rfl⟩ := rx; exact IsiPair.int_str (h _)
            | str i => obtain ⟨t, rfl⟩ := rx; exact IsiPair.str_str (h _)
            | lst _ => exact absurd rfl (hf _)
            | tup _ => exact absurd rfl (hf _)
            | dct _ => exact absurd rfl (hf _)
          · split at e
            · rename_i z; subst z; cases e
              cases ty with
              | non => cases rx; exact IsiPair.NoneType_dict (h _)
              | bl b => cases rx; exact IsiPair.bool_dict (h _)
              | int i => obtain ⟨t, rfl⟩ := rx; exact IsiPair.int_dict (h _)
              | str i => obtain ⟨t, rfl⟩ := rx; exact IsiPair.str_dict (h _)
              | lst _ => exact absurd rfl (hf _)
              | tup _ => exact absurd rfl (hf _)
              | dct _ => exact absurd rfl (hf _)
            · cases e
section
variable {X : Cx}
theorem Zmv : Zde X (.builtin "isinstance") (fun xs H Q => ∃ x T c b, xs = [x, .ty c] /\ TyN H x T /\ ZkE T c = some b /\ Q (.bl b) H) := by
  intro pins s σ H xs us Q I r h
  obtain ⟨x, T, c, b, rfl, ty, e, q⟩ := h
  obtain ⟨u, w', rfl, rx, rc⟩ := Znh r
  cases (show w' = Value.type c from rc)
  have fin : ∀ t, EP X pins σ Q (.bool b) { s with toks := t } := fun t => ⟨.bl b, H, I.tok t, rfl, q⟩
  by_cases hf : ∀ a, x ≠ .ref a
  · exact ZmY ty rx hf e fin
  · cases ty with
    | lst ha =>
      cases rx
      obtain ⟨z, its, n, rv, e1⟩ := I.hok _ _ ha
      exact ZoW e1 rfl e fin
    | tup ha =>
      cases rx
      obtain ⟨z, its, rv, o, e1, c1, n, dd⟩ := I.hok _ _ ha
      exact ZoX e1 c1 e fin
    | dct ha =>
      cases rx
      obtain ⟨z, y, vs, kv, ob, es, ep, e1, c1, _⟩ := I.hok _ _ ha
      exact ZoV e1 c1.1 e fin
    | _ => exact absurd (fun a z => nomatch z) hf
noncomputable def ZkK (_ j : Int) : Prop := 0 < j /\ j < 2 ^ 8000
theorem Zo3 {j : Int} (h : ZkK 0 j) : j.natAbs.log2 < 9000 := by
  have h0 : j.natAbs ≠ 0 := by have := h.1; omega
  have h1 : j.natAbs < 2 ^ 8000 := by have := h.2; have := h.1; omega
  have := (Nat.log2_lt h0).mpr h1
  omega
theorem ZbY : OpR X (binaryOp .FloorDiv) (rI ZkK fun i j => .int (i / j)) := opI fun i j _ _ _ _ _ hc q => by
  have e : i.fdiv j = i / j := Int.fdiv_eq_ediv_of_nonneg _ (Int.le_of_lt hc.1)
  refine floordiv_int (Int.ne_of_gt hc.1) ?_ (.inl (PyProof.noPylong_of_log2 (Zo3 hc)))
  rw [e]
  exact q
noncomputable def ZrS (i j : Int) : Prop := 0 <= j /\ (Builtin.Int.intBits i : Int) + j <= 2 ^ 27
theorem Zoy : OpR X (binaryOp .LShift) (rI ZrS fun i j => .int (i * 2 ^ j.toNat)) := opI fun _ _ _ _ _ _ _ hc q => lshift_int hc.1 hc.2 q
theorem Zg1 : OpR X (binaryOp .Mult) (rI IntMulOk fun i j => .int (i * j)) := opI fun _ _ _ _ _ _ _ hc q => mul_int q hc
theorem Zp2 : MtR X "int.bit_length" (fun x xs H Q => ∃ i, x = .int i /\ xs = [] /\ Q (.int (Builtin.Int.intBits i)) H) := by
  intro pins s σ H x xs v us Q I rx rv h
  obtain ⟨i, rfl, rfl, q⟩ := h
  obtain ⟨t, rfl⟩ := rx
  cases rv
  exact call_givesAt F.slot_int_bit_length (typeIs_int s i t) F.entry_int_bit_length (F.args_int_bit_length_1 _) (Gives.at (P := fun _ => True) (AutoIntG2.int_bit_length_int_0 i t)) trivial (show EP X pins σ Q _ _ from ⟨.int (Builtin.Int.intBits i), H, I.tok _, ⟨_, rfl⟩, q⟩)
end
theorem ZaK.upd {H H' : Hp} {a : Addr} {o : HO} (s : ZaK H H') (h : H a = none) : ZaK H (L2.upd H' a o) := fun b u e => by
  rw [Zah (Zau e h)]; exact s b u e
theorem ZaK.new {H : Hp} {a : Addr} {o : HO} (h : H a = none) : ZaK H (L2.upd H a o) := (ZaK.refl H).upd h
end L2
end
section
namespace Att
open PySem PySem.W PySem.Calls PyProof.Rows
theorem ZfW : ∀ (ns : List Int) (i : Int), i ∈ ns -> Builtin.Int.intBits i <= WData.weightAll (ns.map WData.int)
  | [], i, h => by simp at h
  | n :: ns, i, h => by
    rw [List.map_cons, WData.weightAll]
    rcases List.mem_cons.mp h with rfl | h
    · have : WData.weight (.int i) = Builtin.Int.intBits i := by rw [WData.weight]; rfl
      omega
    · have := ZfW ns i h
      omega
theorem Zpn {ns : List Int} (h : WData.layableAll [WData.list (ns.map WData.int)] = true) : ∀ i ∈ ns, Builtin.Int.intBits i <= 2 ^ 20 := fun i hi => by
  have h1 := layableW_arg h (WData.list (ns.map WData.int)) (List.mem_singleton.mpr rfl)
  obtain ⟨_, _, h2⟩ := layableW_iff.mp h1
  rw [WData.weight] at h2
  exact Nat.le_trans (ZfW ns i hi) h2
theorem attach_callW {l : OpenLaw} {n : Nat} {q : Program} {loose : List Str} {XP : (Str -> Option Value) -> Heap -> Prop} {YP : World -> Heap -> Prop} {d : DefRec}
    (hn : l.most = some n) (hdf : d.params.defaults = [])
    (call : ∀ (w : World) (s₀ s₁ : Shared) (mg mb : Str -> Option Value) (fa : Addr) (o : Obj) (pm cd doc : Value) (a : Addr) (vs : List Value) (ns : List Int),
      Ground q loose [] XP w s₀ mg mb s₁.heap -> YP w s₁.heap ->
      s₁.heap.get? fa = some o -> o.data = .func (docDef d.name d.params d.body d.scope pm cd doc) -> s₁.heap.CodeRec cd d.name -> mg d.name = some (.ref fa) ->
      s₁.heap.get? a = some { cls := .type "list", data := .seq vs.toArray } -> IntsAre vs ns -> ns.length <= n -> (∀ i ∈ ns, Builtin.Int.intBits i <= 2 ^ 20) -> s₁.gens = #[] ->
      codeAny (model l.prog w) callerA (.call (.ref fa) ⟨[.ref a], []⟩) (fun r s' => r = .ok (.ret (.bool true)) /\ OldK s₁.heap s'.heap /\ s'.os = s₁.os /\ AllBare s'.gens) s₁) :
    WalkO q loose XP YP l.row.toRowW d [] (fun f vs => PySem.call f vs) := by
  intro w s₀ s₁ mg mb G Y fa o pm cd doc dV kV ho hd hcd hD hmg hg args vals as hpre hlay hrd hwl hlo
  obtain rfl : dV = .none := Dflts.none hD hdf
  obtain rfl : kV = .none := Dflts.noKw hD
  obtain ⟨a, vs, ns, rfl, rfl, hobj, hints, hlen⟩ := ZlE hn hpre hwl
  refine enter_call (codeAny_mono (call w s₀ s₁ mg mb fa o pm cd doc a vs ns G Y ho (fd_plain hd) hcd hmg hobj hints hlen (Zpn hlay) hg) fun r s' hq => ?_)
  obtain ⟨rfl, h2, h3, h4⟩ := hq
  exact ⟨.inl ⟨.bool true, .bool true, [], rfl, fun _ => rfl, .bool true, ZkT l _, fun _ => ⟨List.Pairwise.nil, fun _ hm => (nomatch hm)⟩⟩, h2, h3, h4⟩
end Att
namespace L2
open PySem PySem.Spec PyProof.Rows
structure Scr (K : PySem.W.Frag) (H : Hp) (a : Addr) (ns : List Int) : Prop where
  sq : SqL K H a (ns.map V.int)
  len : ns.length <= 63
  bits : ∀ i ∈ ns, Builtin.Int.intBits i <= 2 ^ 20
theorem Scr.mono {K : PySem.W.Frag} {H H' : Hp} {a : Addr} {ns : List Int} (h : Scr K H a ns) (s : ZaK H H') : Scr K H' a ns := ⟨s.seq h.sq, h.len, h.bits⟩
structure Df (K : PySem.W.Frag) (mg : Str -> Option Value) (x : Str) (st : Stmt) (ps : List Str) : Prop where
  ex : ∃ f fd, Fun K x x st f fd /\ mg x = some (.ref f) /\ Ze4 K fd ps []
noncomputable def Cal (P : Program) (w : World) (K : PySem.W.Frag) (mg : Str -> Option Value) (base : Heap) (x : Str) (ps : List Str) (k : Nat) (sp : Sp) : Prop :=
  ∃ f fd, mg x = some (.ref f) /\ PySem.W.keepIn K (.ref f) = true /\ Ze4 K fd ps [] /\ FnOk P w K mg base CX0 k f fd ps sp
theorem Df.cal {P : Program} {w : World} {K : PySem.W.Frag} {mg : Str -> Option Value} {base : Heap} {x : Str} {st : Stmt} {N ps : List Str} {k : Nat} {sp : Sp} (D : Df K mg x st ps) (S : FnScope N ps (Zab st)) (len : ∀ vs H Q E, sp vs H Q E -> vs.length = ps.length)
    (hbody : ∀ (f : Addr) (cdv : Value) (A : Around) (outer : List Env) (s : Shared) (H : Hp) (vs : List V) (Q : VK) (E : XK), Room k (A.deeper (envOfC x (Zab st) s.heap.objs.size f cdv)) -> sp vs H Q E ->
      ∃ t, PSs (ZhV CX0 P w K mg base N x (Zab st) f cdv A outer s H E).nox (Zan st) t /\ t { nx := fun _ H' => Q .non H', rt := Q } (start N vs) H) : Cal P w K mg base x ps (k + 1) sp := by
  obtain ⟨f, fd, F, hm, hb⟩ := D.ex
  exact ⟨f, fd, hm, F.kp, hb, F.ok S len fun cdv A outer s H vs Q E hr h => hbody f cdv A outer s H vs Q E hr h⟩
section
variable {X : Cx}
theorem Zar {x : Str} {p pos : Pos} {e : Expr} {es : List Expr} {t : TA} {ps : List Str} {j k : Nat} {sp : Sp} (C : Cal X.prog X.w X.K X.mg X.base x ps j sp) (hr : Room k X.A) (ha : PA X (e :: es) t) (hj : j <= k := by decide) (hg : Gl X x := by rfl)
    (hdb : (x == ("__debug__" : Str)) = false := by decide +kernel)
    (he : starEach (e :: es) X.env = (false, eval e X.env) :: starEach es X.env := by rfl) (hpl : (backTo pos (starEach es X.env)).any (·.1) = false := by rfl) : PE X (.Call (.Name x p) (e :: es) [] pos) (ZhC sp [] E0 t) := by
  obtain ⟨f, fd, hm, hk, hb, F⟩ := C
  exact Zpi F (hr.mono hj) hg hm hk hb .nil Zp8 ha hdb he hpl
end
theorem ZkV : bootBuiltins "abs" = some (.builtin "abs") := by decide +kernel
theorem Zdt : bootBuiltins "len" = some (.builtin "len") := by decide +kernel
theorem ZnE : bootBuiltins "max" = some (.builtin "max") := by decide +kernel
theorem ZkS : bootBuiltins "min" = some (.builtin "min") := by decide +kernel
theorem ZeD : bootBuiltins "sum" = some (.builtin "sum") := by decide +kernel
theorem ZnI : bootBuiltins "isinstance" = some (.builtin "isinstance") := by decide +kernel
theorem Zod : bootBuiltins "int" = some (.type "int") := by decide +kernel
theorem ZoQ : bootBuiltins "bool" = some (.type "bool") := by decide +kernel
theorem ZiB : bootBuiltins "list" = some (.type "list") := by decide +kernel
theorem Zjg : bootBuiltins "tuple" = some (.type "tuple") := by decide +kernel
end L2
end
section
namespace L2
open PySem PySem.Spec PyProof.Rows
mutual
theorem Rep.uniq {H : Hp} : ∀ {v : V} {d e : PyData}, Rep H v d -> Rep H v e -> d = e
  | _, _, _, .non, .non => rfl
  | _, _, _, .bl b, .bl _ => rfl
  | _, _, _, .int b, .int _ => rfl
  | _, _, _, .str b, .str _ => rfl
  | _, _, _, .lst h r, .lst h' r' => by
    rw [h] at h'; cases h'
    rw [Reps.uniq r r']
  | _, _, _, .tup h r, .tup h' r' => by
    rw [h] at h'; cases h'
    rw [Reps.uniq r r']
  | _, _, _, .lst h r, .tup h' r' => by rw [h] at h'; cases h'
  | _, _, _, .tup h r, .lst h' r' => by rw [h] at h'; cases h'
  | _, _, _, .dct h, .dct h' => rfl
  | _, _, _, .lst h r, .dct h' => by rw [h] at h'; cases h'
  | _, _, _, .tup h r, .dct h' => by rw [h] at h'; cases h'
  | _, _, _, .dct h, .lst h' r' => by rw [h] at h'; cases h'
  | _, _, _, .dct h, .tup h' r' => by rw [h] at h'; cases h'
theorem Reps.uniq {H : Hp} : ∀ {vs : List V} {ds es : List PyData}, Reps H vs ds -> Reps H vs es -> ds = es
  | _, _, _, .nil, .nil => rfl
  | _, _, _, .cons r t, .cons r' t' => by rw [Rep.uniq r r', Reps.uniq t t']
end
section
variable {X : Cx} {tg : Expr}
end
section
variable {v : V} {ds : List PyData} {g : TG} {tb : TS} {D : Ends} {σ : St} {H : Hp}
end
section
variable {f : List (Option Nat)} {g : TG} {tc : TT} {te : TE} {σ : St} {Q : VK} {H1 : Hp} {v : V} {ds : List PyData}
end
mutual
noncomputable def noL : PyData -> Bool
  | .none => true
  | .bool _ => true
  | .int _ => true
  | .str _ => true
  | .list _ => false
  | .dict _ => false
  | .tuple ds => noLs ds
noncomputable def noLs : List PyData -> Bool
  | [] => true
  | d :: ds => noL d && noLs ds
end
mutual
theorem Rep.updL {H : Hp} {l : Addr} {us zs : List V} (hl : H l = some (.lst us)) : ∀ {v : V} {d : PyData}, noL d = true -> Rep H v d -> Rep (L2.upd H l (.lst zs)) v d
  | _, _, _, .non => .non
  | _, _, _, .bl b => .bl b
  | _, _, _, .int i => .int i
  | _, _, _, .str x => .str x
  | _, _, h, .lst _ _ => by simp [noL] at h
  | _, _, h, .tup ha r => .tup (by rw [Zah (Zqf ha hl (by intro z; cases z))]; exact ha) (Reps.updL hl (by simpa [noL] using h) r)
theorem Reps.updL {H : Hp} {l : Addr} {us zs : List V} (hl : H l = some (.lst us)) : ∀ {vs : List V} {ds : List PyData}, noLs ds = true -> Reps H vs ds -> Reps (L2.upd H l (.lst zs)) vs ds
  | _, _, _, .nil => .nil
  | _, _, h, .cons r t => .cons (Rep.updL hl (by simp [noLs] at h; exact h.1) r) (Reps.updL hl (by simp [noLs] at h; exact h.2) t)
end
end L2
end
section
namespace L2
open PySem PySem.Spec PyProof.Rows
theorem Zga (a b : Int) : Builtin.Range.rangeSize a b (-1) = ((a - b).toNat : Int) := by
  unfold Builtin.Range.rangeSize
  simp only [show ¬ ((-1 : Int) > 0) by decide, if_false, show (-(-1) : Int) = 1 from rfl, Int.ediv_one]
  split <;> omega
theorem ZhZ {a b : Int} (ha : -(2 ^ 62) <= a) (ha' : a < 2 ^ 62) (hb : -(2 ^ 62) <= b) (hb' : b < 2 ^ 62) : Builtin.Range.small a b (-1) = true := by
  unfold Builtin.Range.small
  rw [Zga]
  simp only [Builtin.Range.rangeFitsLong, Bool.and_eq_true, Bool.or_eq_true, decide_eq_true_eq, beq_iff_eq, show ¬ ((-1 : Int) > 0) by decide, if_false]
  omega
noncomputable def Zr6 (hi : Int) (n : Nat) : It := ⟨fun i _ => i < n, fun i H x H' => H' = H /\ x = .int (hi - i), fun i _ => n <= i⟩
theorem Zi0 {P : Program} {w : World} {K : PySem.W.Frag} {tg : Expr} (it : Addr) (hi : Int) (n : Nat) : Turn P w K tg (Zr6 hi n) [it] it (fun i h => IsRangeIter h it (hi + (i : Nat) * (-1)) ((n : Int) - (i : Nat)) (-1)) where
  mem := by simp
  obj := fun i h st b hb => by
    have e : b = it := by simpa using hb
    subst e
    exact ⟨_, st, fun v z => by
      have z' : Data.fields _ = Data.cell v := z
      cases z'⟩
  keep := fun i h h' st k => k it (by simp) _ st
  item := by
    intro X hP hw hK hc i pins s σ H E I hf st hg
    subst hP hw hK
    obtain ⟨f0, f1, f2, f3, f4, f5⟩ := hf it (by simp)
    have W := Walks.range (prog := X.prog) (w := X.w) (I.ok.hd hc) it hi (-1) n
    refine W.item i s _ _ hg st fun v h' tk hv st' kk => ?_
    obtain ⟨t, rfl⟩ := hv
    have I1 : Inv X pins σ H { s with heap := h', toks := tk } := I.turned (fun b o hb e => kk b o (by simpa using hb) e) f0 f1 f3 f4 f5
    refine ⟨_, rfl, Znf (s := { s with heap := h', toks := tk }) (n := "range_iterator") st' rfl rfl (by decide) ⟨.int (hi - i), H, I1, ⟨t, ?_⟩, ⟨rfl, rfl⟩, st', fun b hb => (hf b hb).1⟩⟩
    rw [show hi + (i : Int) * (-1) = hi - i by omega]
  done := by
    intro X hP hw hK hc i pins s σ H E I hf st hg
    subst hP hw hK
    obtain ⟨f0, f1, f2, f3, f4, f5⟩ := hf it (by simp)
    exact wpAny_pyNext_range_end (I.ok.hd hc) st (by have : n <= i := hg; omega) fun h' eb => ⟨rfl, I.turned (t' := s.toks) (fun b o hb e => eb b o hb e) f0 f1 f3 f4 f5⟩
  self := fun _ _ _ _ _ st h => wpAny_pyIter_rangeiter st h
section
variable {X : Cx} {tg : Expr}
theorem ZkB {pins : List (Addr × Obj)} {σ : St} {H : Hp} {s : Shared} {R : It -> Hp -> Prop} {E : Value -> Shared -> Prop} {lo hi : Int} {t u v : Tok} {tk : Nat} (I : Inv X pins σ H s) (h1 : -(2 ^ 62) <= hi) (h2 : hi < 2 ^ 62) (h3 : -(2 ^ 62) <= lo) (h4 : lo < 2 ^ 62)
    (q : R (Zr6 hi (hi - lo).toNat) H) : wpAny (model X.prog X.w) X.A (pyIter (.ref s.heap.objs.size)) (PIE X pins σ tg R) E { s with heap := s.heap.push { cls := .type "range", data := .fields #[.int hi t, .int lo u, .int (-1) v] }, toks := tk } := by
  refine wpAny_pyIter_range (IsRange.new ..) (ZhZ h1 h2 h3 h4) ?_
  have I1 : Inv X pins σ H { s with heap := s.heap.push { cls := .type "range", data := .fields #[.int hi t, .int lo u, .int (-1) v] }, toks := tk } := I.kept fun b o e => Heap.get?_push_of_some _ e
  refine ⟨(s.heap.push { cls := .type "range", data := .fields #[.int hi t, .int lo u, .int (-1) v] }).objs.size, [(s.heap.push { cls := .type "range", data := .fields #[.int hi t, .int lo u, .int (-1) v] }).objs.size], _, _, H, rfl,
    I1.kept (t' := tk) fun b o e => Heap.get?_push_of_some _ e, Zi0 _ hi (hi - lo).toNat, ?_, fun b hb => ?_, q⟩
  · have e1 : hi + ((0 : Nat) : Int) * (-1) = hi := by simp
    have e2 : (((hi - lo).toNat : Nat) : Int) - ((0 : Nat) : Int) = Builtin.Range.rangeSize hi lo (-1) := by rw [Zga]; omega
    show IsRangeIter _ _ (hi + ((0 : Nat) : Int) * (-1)) ((((hi - lo).toNat : Nat) : Int) - ((0 : Nat) : Int)) (-1)
    rw [e1, e2]
    exact Heap.get?_push_size _ rfl
  · have e : b = (s.heap.push { cls := .type "range", data := .fields #[.int hi t, .int lo u, .int (-1) v] }).objs.size := by simpa using hb
    subst e
    exact I1.fpOk (Nat.le_refl _) (I1.hok.fresh (Nat.le_refl _))
noncomputable def ZpP (ta : TA) : TI := fun σ H R => ta σ H fun vs H1 => ∃ i j : Int, vs = [.int i, .int j, .int (-1)] /\ (-(2 ^ 62) <= i /\ i < 2 ^ 62 /\ -(2 ^ 62) <= j /\ j < 2 ^ 62) /\ R (Zr6 i (i - j).toNat) H1
theorem ZlU {a b c : Expr} {ta : TA} {p pos : Pos} (hg : Gl X "range") (hm : X.mg "range" = none) (ha : PA X [a, b, c] ta) (hs : starEach [a, b, c] X.env = [(false, eval a X.env), (false, eval b X.env), (false, eval c X.env)] := by rfl)
    (hs2 : starEach [b, c] X.env = [(false, eval b X.env), (false, eval c X.env)] := by rfl) : PI X tg (.Call (.Name "range" p) [a, b, c] [] pos) (ZpP ta) := by
  intro pins s σ H R I h
  refine Call_ (ZeA I hg hm boot_range (PyProof.Rows.callWith_type1 (thn (ha pos pins s σ H _ I h) fun us s1 ⟨vs, H1, I1, r1, q1⟩ => ?_) (by rw [hs, hs2]) (by rw [hs2]; rfl)))
  obtain ⟨i, j, e, ⟨q1, q2, q3, q4⟩, q⟩ := q1
  subst e
  cases r1 with
  | cons r rr =>
    cases rr with
    | cons r' rr =>
      cases rr with
      | cons r2 rr =>
        cases rr
        obtain ⟨t, rfl⟩ := r
        obtain ⟨t', rfl⟩ := r'
        obtain ⟨t2, rfl⟩ := r2
        exact call_range_3 (by decide) (ZkB I1 q1 q2 q3 q4 q) (.inl (PyProof.noPylong_small (by decide)))
end
noncomputable def Zqb (K : PySem.W.Frag) : V -> V -> Hp -> VK -> Prop := fun o i H Q => ∃ p xs k v, o = .ref p /\ i = .int k /\ SqL K H p xs /\ 0 <= k /\ xs[k.toNat]? = some v /\ Q v H
theorem Zia (ns : List Int) : preSum (fun i => ns.getD i 0) ns.length = ns.sum := by
  have key : ∀ k, k <= ns.length -> preSum (fun i => ns.getD i 0) k = (ns.take k).sum := by
    intro k
    induction k with
    | zero => intro _; simp [preSum]
    | succ k ih =>
      intro hk
      have h1 : k < ns.length := by omega
      rw [List.take_succ, List.sum_append, <- ih (by omega)]
      simp [preSum, h1]
  rw [key ns.length (Nat.le_refl _), List.take_length]
theorem Zgi : ∀ {vs : List Value} {ns : List Int} {i : Nat} {v : Value}, IntsAre vs ns -> vs[i]? = some v -> ∃ t, v = .int (ns.getD i 0) t
  | _, _, _, _, .nil, e => by simp at e
  | _, _, 0, _, .cons n t h, e => by simp at e; exact ⟨t, by simp [<- e]⟩
  | _, _, i + 1, v, .cons n t h, e => by
    obtain ⟨t', z⟩ := Zgi (i := i) (v := v) h (by simpa using e)
    exact ⟨t', by simpa using z⟩
theorem ZhO {prog : Program} {w : World} {A : Around} {E : Value -> Shared -> Prop} {s : Shared} {l : Addr} {vs : List Value} {ns : List Int} {Q : Value -> Shared -> Prop} (hh : A.handled = none) (hl : s.heap.IsList l vs.toArray) (hi : IntsAre vs ns)
    (h : ∀ h' tk t', (∀ b o, s.heap.get? b = some o -> h'.get? b = some o) -> Q (.int ns.sum t') { s with heap := h', toks := tk }) : wpAny (model prog w) A (call (.builtin "sum") [.ref l]) Q E s := by
  obtain ⟨o, ho, hc, n, hd⟩ := id hl
  have hne : l ≠ s.heap.objs.size := Nat.ne_of_lt (Heap.lt_size ho)
  have W := (Walks.list (prog := prog) (w := w) (A := A.in1) hh s.heap.objs.size l hne vs.toArray).toS
  refine call_sum_walkAnyS (wpAny_pyIter_list hl ?_)
  refine ⟨s.heap.objs.size, _, _, _, _, _, _, fun i => ns.getD i 0, rfl, W, ⟨⟨_, Heap.get?_push_size _ rfl, rfl, rfl⟩, hl.at fun o e => Heap.get?_push_of_some _ e⟩, fun b hb => ?_, fun i v hP => Zgi hi (by simpa using hP), fun s' t' hm => ?_⟩
  · rcases List.mem_cons.mp hb with rfl | hb
    · exact Heap.lt_size (Heap.get?_push_size _ rfl)
    · obtain rfl := List.mem_singleton.mp hb
      exact Heap.lt_size (Heap.get?_push_of_some _ ho)
  · obtain ⟨h', g', d', tk', os'⟩ := s'
    have e1 : g' = s.gens := hm.gens
    have e2 : d' = s.drawn := hm.drawn
    have e3 : os' = s.os := hm.os
    subst e1 e2 e3
    have es : vs.toArray.size = ns.length := by rw [List.size_toArray, hi.length]
    rw [es, Zia]
    exact h h' tk' t' fun b o e => hm.heap b o (fun hb => absurd (Heap.lt_size e) ((List.mem_singleton.mp hb) ▸ Nat.lt_irrefl _)) (Heap.get?_push_of_some _ e)
section
variable {X : Cx}
theorem Zjj : ZrO X (Zqb X.K) := by
  intro pins s σ H o i ov iv Q I ro ri h
  obtain ⟨p, xs, k, v, rfl, rfl, hq, h0, hv, q⟩ := h
  cases ro
  obtain ⟨t, rfl⟩ := ri
  obtain ⟨its, r, pl, hz⟩ := I.list hq
  obtain ⟨w, ew, rw'⟩ := r.get hv
  have hl := r.length
  have hn := Zfn
  have hlt : k.toNat < xs.length := (List.getElem?_eq_some_iff.mp hv).1
  exact wpAny_getItem_list pl.isList h0 (by omega) (by simpa using ew) ⟨v, H, I, rw', q⟩
theorem Zkv : Zde X (.builtin "sum") (fun xs H Q => X.calm = true /\ ∃ (x : V) (ns : List Int), xs = [x] /\ Rep H x (.list (ns.map PyData.int)) /\ Q (.int ns.sum) H) := by
  intro pins s σ H xs us Q I r h
  obtain ⟨hc, x, ns, rfl, hx, q⟩ := h
  obtain ⟨u, rfl, rx⟩ := ZgA r
  cases hx with
  | lst ha rr =>
    cases rx
    have er := Zeo rr
    subst er
    obtain ⟨its, rv, p, hz⟩ := I.list (SqL.of (K := X.K) ha)
    exact ZhO (I.ok.hd hc) p.isList (ZfX rv) fun h' tk t' k => ⟨.int ns.sum, H, I.kept k, ⟨_, rfl⟩, q⟩
end
end L2
end
section
namespace L2
open PySem PySem.Spec PyProof.Rows
section
variable {X : Cx}
end
end L2
end
section
namespace L2
open PySem PySem.Spec PyProof.Rows
theorem Inv.turnedL {X : Cx} {pins : List (Addr × Obj)} {σ : St} {H : Hp} {s : Shared} {h' : Heap} {t' : Nat} {ch : List Addr} (I : Inv X pins σ H s) (k : ∀ b o, b ∉ ch -> s.heap.get? b = some o -> h'.get? b = some o) (hch : ∀ b ∈ ch, Zkp X pins H b) : Inv X pins σ H { s with heap := h', toks := t' } := by
  refine I.step (g' := s.gens) (d' := s.drawn) (ch := ch) (fun b hb => ?_) (fun b o _ _ hc e _ => k b o hc e) (fun b o _ _ hc e _ => ⟨o.slots, k b o hc e⟩) (fun _ _ _ _ n => n)
    (fun b o hc e => ⟨o, k b o hc e⟩) (fun _ _ e => e) (fun _ _ _ e => e) (fun b ps e => ⟨#[], by rw [e]; simp⟩) (fun m hm => ?_) (fun b u e => ?_) I.bare (fun b _ o hc _ e => k b o hc e)
  · obtain ⟨f0, f1, f2, f3, f4, f5⟩ := hch b hb
    exact ⟨f3, f1, f4, f5⟩
  · obtain ⟨o, es, ep, ho, r⟩ := hm
    exact ⟨o, es, ep, k _ o (fun z => (hch _ z).2.1 rfl) ho, r⟩
  · refine (I.hok b u e).stay (fun c v hc q => k c v (fun z => ?_) q) (fun _ q => q) fun _ _ q => q
    have hn := (hch c z).1
    rcases hc with rfl | hc
    · rw [hn] at e; cases e
    · rw [hn] at hc; cases hc
theorem Inv.trackTup {X : Cx} {pins : List (Addr × Obj)} {σ : St} {H : Hp} {s0 s : Shared} {T : Addr} {x y : V} {u v : Value} (I0 : Inv X pins σ H s0) (I : Inv X pins σ H s) (hT : s0.heap.objs.size <= T) (rx : Zbc x u) (ry : Zbc y v) (tup : s.heap.IsTuple T #[u, v]) : Inv X pins σ (upd H T (.tup [x, y])) s := by
  refine I.track (I0.hok.fresh hT) (Nat.le_trans I0.sz hT) (Nat.ne_of_gt (Nat.lt_of_lt_of_le I0.lt hT)) (fun z c e q => ?_) (fun p hp q => ?_) ⟨by show 2 <= sizeLine; decide, [u, v], .cons rx (.cons ry .nil), tup⟩
  · obtain ⟨w, hw⟩ := I0.cell z c e
    exact absurd (Nat.lt_of_lt_of_le hw.lt (by rw [q]; exact hT)) (Nat.lt_irrefl _)
  · exact absurd (Nat.lt_of_lt_of_le (Heap.lt_size (I0.pin p hp).1) (by rw [q]; exact hT)) (Nat.lt_irrefl _)
noncomputable def Itz (K : PySem.W.Frag) (a b : Addr) : It :=
  ⟨fun i H => ∃ xs ys x y, SqL K H a xs /\ SqL K H b ys /\ xs[i]? = some x /\ ys[i]? = some y,
   fun i H v H' => ∃ p x y, H p = none /\ v = .ref p /\ H' = upd H p (.tup [x, y]) /\ (∀ xs, SqL K H a xs -> xs[i]? = some x) /\ ∀ ys, SqL K H b ys -> ys[i]? = some y,
   fun i H => ∃ xs ys, SqL K H a xs /\ SqL K H b ys /\ i = min xs.length ys.length⟩
noncomputable def Ite (K : PySem.W.Frag) (a : Addr) : It :=
  ⟨fun i H => ∃ xs x, SqL K H a xs /\ xs[i]? = some x,
   fun i H v H' => ∃ p x, H p = none /\ v = .ref p /\ H' = upd H p (.tup [.int (i : Int), x]) /\ ∀ xs, SqL K H a xs -> xs[i]? = some x,
   fun i H => ∃ xs, SqL K H a xs /\ i = xs.length⟩
theorem ZmL {P : Program} {w : World} {K : PySem.W.Frag} {elts : List Expr} {k : Nat} {pos : Pos} {z TI TO i1 i2 a b : Addr} (D : ZipApart z TI TO i1 i2 a b) :
    Turn P w K (.Tuple elts k pos) (Itz K a b) [z, TI, TO, i1, i2] z (fun i h => IsZip h z TI TO .none /\ IsPair h TI (.ref i1) (.ref i2) /\ (∃ p q, IsPair h TO p q) /\ h.IsListIter i1 a i /\ h.IsListIter i2 b i) where
  mem := by simp
  obj := fun i h st c hc => by
    obtain ⟨hz, hTI, ⟨p, q, hTO⟩, ⟨o1, e1, c1, d1⟩, o2, e2, c2, d2⟩ := st
    simp only [List.mem_cons, List.not_mem_nil, or_false] at hc
    rcases hc with rfl | rfl | rfl | rfl | rfl
    · exact ⟨_, hz, fun v z => nomatch z⟩
    · exact ⟨_, hTI, fun v z => nomatch z⟩
    · exact ⟨_, hTO, fun v z => nomatch z⟩
    · exact ⟨_, e1, fun v z => by rw [d1] at z; cases z⟩
    · exact ⟨_, e2, fun v z => by rw [d2] at z; cases z⟩
  keep := fun i h h' st kk => by
    obtain ⟨hz, hTI, ⟨p, q, hTO⟩, h1, h2⟩ := st
    exact ⟨kk z (by simp) _ hz, kk TI (by simp) _ hTI, ⟨p, q, kk TO (by simp) _ hTO⟩, h1.at fun o e => kk i1 (by simp) o e, h2.at fun o e => kk i2 (by simp) o e⟩
  item := by
    intro X hP hw hK hc i pins s σ H E I hf st hg
    subst hP hw hK
    obtain ⟨xs, ys, x, y, hq1, hq2, hx, hy⟩ := hg
    obtain ⟨its1, rv1, p1, hz1⟩ := I.list hq1
    obtain ⟨its2, rv2, p2, hz2⟩ := I.list hq2
    obtain ⟨u1, hu1, ru1⟩ := rv1.get hx
    obtain ⟨u2, hu2, ru2⟩ := rv2.get hy
    obtain ⟨hz, hTI, hTO, h1, h2⟩ := st
    have W := WalksT.zip2 (prog := X.prog) (w := X.w) (A := X.A) (I.ok.hd hc) z TI TO i1 i2 a b D its1.toArray its2.toArray
    have l1 : i < its1.length := (List.getElem?_eq_some_iff.mp hu1).1
    have l2 : i < its2.length := (List.getElem?_eq_some_iff.mp hu2).1
    have wr : ∀ c ∈ [z, TO, i1, i2], Zkp X pins H c := fun c hc => hf c (by
      simp only [List.mem_cons, List.not_mem_nil, or_false] at hc ⊢
      rcases hc with rfl | rfl | rfl | rfl <;> simp)
    refine W.item i s _ _ (by simp only [List.size_toArray]; omega) ⟨hz, hTI, hTO, h1, h2, p1.isList, p2.isList⟩ fun T vals h' tk pt hT tup mid kp => ?_
    obtain ⟨v1, v2, e1, e2, rfl⟩ := pt
    have ev1 : v1 = u1 := by
      have : its1[i]? = some v1 := by simpa using e1
      rw [hu1] at this; exact (Option.some.inj this).symm
    have ev2 : v2 = u2 := by
      have : its2[i]? = some v2 := by simpa using e2
      rw [hu2] at this; exact (Option.some.inj this).symm
    subst ev1 ev2
    have I1 : Inv X pins σ H { s with heap := h', toks := tk } := I.turnedL kp wr
    refine ⟨.ref T, rfl, W.go elts k pos i T { s with heap := h', toks := tk } _ _ mid fun h'' st' kp2 => ?_⟩
    have I2 : Inv X pins σ H { s with heap := h'', toks := tk } := I1.turnedL (t' := tk) kp2 wr
    have tup2 : h''.IsTuple T #[v1, v2] := by
      obtain ⟨o, ho, hcl, n, hd⟩ := tup
      exact ⟨o, kp2 T o (W.apart i T h' mid) ho, hcl, n, hd⟩
    have I3 := I.trackTup I2 hT ru1 ru2 tup2
    obtain ⟨sz, sTI, sTO, s1, s2, _, _⟩ := st'
    refine ⟨.ref T, _, I3, rfl, ⟨T, x, y, I.hok.fresh hT, rfl, rfl, fun xs' h => by rw [I.list_inj h hq1]; exact hx, fun ys' h => by rw [I.list_inj h hq2]; exact hy⟩, ⟨sz, sTI, sTO, s1, s2⟩, fun c hc' => ?_⟩
    have hlt : c < s.heap.objs.size := by
      simp only [List.mem_cons, List.not_mem_nil, or_false] at hc'
      obtain ⟨p, q, hTO⟩ := hTO
      rcases hc' with rfl | rfl | rfl | rfl | rfl
      · exact Heap.lt_size hz
      · exact Heap.lt_size hTI
      · exact Heap.lt_size hTO
      · obtain ⟨_, e, _⟩ := h1; exact Heap.lt_size e
      · obtain ⟨_, e, _⟩ := h2; exact Heap.lt_size e
    rw [Zah (Nat.ne_of_lt (Nat.lt_of_lt_of_le hlt hT))]
    exact (hf c hc').1
  done := by
    intro X hP hw hK hc i pins s σ H E I hf st hg
    subst hP hw hK
    obtain ⟨xs, ys, hq1, hq2, rfl⟩ := hg
    obtain ⟨its1, rv1, p1, hz1⟩ := I.list hq1
    obtain ⟨its2, rv2, p2, hz2⟩ := I.list hq2
    obtain ⟨hz, hTI, hTO, h1, h2⟩ := st
    have W := WalksT.zip2 (prog := X.prog) (w := X.w) (A := X.A) (I.ok.hd hc) z TI TO i1 i2 a b D its1.toArray its2.toArray
    have wr : ∀ c ∈ [z, TO, i1, i2], Zkp X pins H c := fun c hc => hf c (by
      simp only [List.mem_cons, List.not_mem_nil, or_false] at hc ⊢
      rcases hc with rfl | rfl | rfl | rfl <;> simp)
    have en : min xs.length ys.length = min its1.toArray.size its2.toArray.size := by simp [rv1.length, rv2.length]
    refine W.done s _ _ (by rw [<- en]; exact ⟨hz, hTI, hTO, h1, h2, p1.isList, p2.isList⟩) fun h' tk kp => ⟨rfl, I.turnedL kp wr⟩
  self := fun _ _ _ _ _ st h => wpAny_pyIter_zip st.1 h
theorem Zk0 {P : Program} {w : World} {K : PySem.W.Frag} {elts : List Expr} {k : Nat} {pos : Pos} {e it a : Addr} (hei : e ≠ it) (hle : a ≠ e) (hli : a ≠ it) :
    Turn P w K (.Tuple elts k pos) (Ite K a) [e, it] e (fun i h => (∃ old, IsEnum h e it i old) /\ h.IsListIter it a i) where
  mem := by simp
  obj := fun i h st c hc => by
    obtain ⟨⟨old, he⟩, o1, e1, c1, d1⟩ := st
    simp only [List.mem_cons, List.not_mem_nil, or_false] at hc
    rcases hc with rfl | rfl
    · exact ⟨_, he, fun v z => nomatch z⟩
    · exact ⟨_, e1, fun v z => by rw [d1] at z; cases z⟩
  keep := fun i h h' st kk => by
    obtain ⟨⟨old, he⟩, h1⟩ := st
    exact ⟨⟨old, kk e (by simp) _ he⟩, h1.at fun o x => kk it (by simp) o x⟩
  item := by
    intro X hP hw hK hc i pins s σ H E I hf st hg
    subst hP hw hK
    obtain ⟨xs, x, hq1, hx⟩ := hg
    obtain ⟨its1, rv1, p1, hz1⟩ := I.list hq1
    obtain ⟨u1, hu1, ru1⟩ := rv1.get hx
    obtain ⟨he, h1⟩ := st
    have W := WalksT.enumerate (prog := X.prog) (w := X.w) (A := X.A) (I.ok.hd hc) e it a hei hle hli its1.toArray
    have l1 : i < its1.length := (List.getElem?_eq_some_iff.mp hu1).1
    have wr : ∀ c ∈ [e, it], Zkp X pins H c := hf
    refine W.item i s _ _ (by simp only [List.size_toArray]; omega) ⟨he, h1, p1.isList⟩ fun T vals h' tk pt hT tup mid kp => ?_
    obtain ⟨t, v1, e1, rfl⟩ := pt
    have ev1 : v1 = u1 := by
      have : its1[i]? = some v1 := by simpa using e1
      rw [hu1] at this; exact (Option.some.inj this).symm
    subst ev1
    have I1 : Inv X pins σ H { s with heap := h', toks := tk } := I.turnedL kp wr
    refine ⟨.ref T, rfl, W.go elts k pos i T { s with heap := h', toks := tk } _ _ mid fun h'' st' kp2 => ?_⟩
    have I2 : Inv X pins σ H { s with heap := h'', toks := tk } := I1.turnedL (t' := tk) kp2 wr
    have tup2 : h''.IsTuple T #[.int (i : Int) t, v1] := by
      obtain ⟨o, ho, hcl, n, hd⟩ := tup
      exact ⟨o, kp2 T o (W.apart i T h' mid) ho, hcl, n, hd⟩
    have I3 := I.trackTup I2 hT (x := .int (i : Int)) ⟨t, rfl⟩ ru1 tup2
    obtain ⟨s1, s2, _⟩ := st'
    refine ⟨.ref T, _, I3, rfl, ⟨T, x, I.hok.fresh hT, rfl, rfl, fun xs' h => by rw [I.list_inj h hq1]; exact hx⟩, ⟨s1, s2⟩, fun c hc' => ?_⟩
    have hlt : c < s.heap.objs.size := by
      simp only [List.mem_cons, List.not_mem_nil, or_false] at hc'
      obtain ⟨old, he⟩ := he
      rcases hc' with rfl | rfl
      · exact Heap.lt_size he
      · obtain ⟨_, z, _⟩ := h1; exact Heap.lt_size z
    rw [Zah (Nat.ne_of_lt (Nat.lt_of_lt_of_le hlt hT))]
    exact (hf c hc').1
  done := by
    intro X hP hw hK hc i pins s σ H E I hf st hg
    subst hP hw hK
    obtain ⟨xs, hq1, rfl⟩ := hg
    obtain ⟨its1, rv1, p1, hz1⟩ := I.list hq1
    obtain ⟨he, h1⟩ := st
    have W := WalksT.enumerate (prog := X.prog) (w := X.w) (A := X.A) (I.ok.hd hc) e it a hei hle hli its1.toArray
    have en : xs.length = its1.toArray.size := by simp [rv1.length]
    refine W.done s _ _ (by rw [<- en]; exact ⟨he, h1, p1.isList⟩) fun h' tk kp => ⟨rfl, I.turnedL kp hf⟩
  self := fun _ _ _ _ _ st h => by
    obtain ⟨⟨old, he⟩, _⟩ := st
    exact wpAny_pyIter_enum he h
theorem Zq7 {n x y : Nat} (hx : x < n) (hy : y < n) : ZipApart (n + 4) (n + 2) (n + 3) n (n + 1) x y :=
  ⟨Nat.ne_of_lt (by omega), Nat.ne_of_lt (by omega), Nat.ne_of_lt (by omega), Nat.ne_of_lt (by omega), Nat.ne_of_lt (by omega), Nat.ne_of_gt (by omega), Nat.ne_of_gt (by omega), Nat.ne_of_gt (by omega), Nat.ne_of_gt (by omega), Nat.ne_of_lt (by omega),
   Nat.ne_of_lt (by omega), Nat.ne_of_lt (by omega), Nat.ne_of_lt (by omega), Nat.ne_of_lt (by omega), Nat.ne_of_lt (by omega), Nat.ne_of_lt (by omega), Nat.ne_of_lt (by omega), Nat.ne_of_lt (by omega)⟩
section
variable {X : Cx}
noncomputable def ZrX (K : PySem.W.Frag) (ta : TA) : TI := fun σ H R => ta σ H fun vs H1 => ∃ a b, vs = [.ref a, .ref b] /\ (∃ xs, SqL K H1 a xs) /\ (∃ ys, SqL K H1 b ys) /\ R (Itz K a b) H1
noncomputable def Zqx (K : PySem.W.Frag) (ta : TA) : TI := fun σ H R => ta σ H fun vs H1 => ∃ a, vs = [.ref a] /\ (∃ xs, SqL K H1 a xs) /\ R (Ite K a) H1
theorem ZlC : bootBuiltins "enumerate" = some (.type "enumerate") := by decide +kernel
theorem ZkI : bootBuiltins "zip" = some (.type "zip") := by decide +kernel
theorem Zh7 {a b : Expr} {ta : TA} {p pos : Pos} {elts : List Expr} {k : Nat} {tpos : Pos} (hg : Gl X "zip") (hm : X.mg "zip" = none) (ha : PA X [a, b] ta) (hs : starEach [a, b] X.env = [(false, eval a X.env), (false, eval b X.env)] := by rfl) (hs2 : starEach [b] X.env = [(false, eval b X.env)] := by rfl) :
    PI X (.Tuple elts k tpos) (.Call (.Name "zip" p) [a, b] [] pos) (ZrX X.K ta) := by
  intro pins s σ H R I h
  refine Call_ (ZeA I hg hm ZkI (PyProof.Rows.callWith_type1 (thn (ha pos pins s σ H _ I h) fun us s1 ⟨vs, H1, I1, r1, q1⟩ => ?_) (by rw [hs, hs2]) (by rw [hs2]; rfl)))
  obtain ⟨x, y, e, ⟨xs, hx⟩, ⟨ys, hy⟩, q⟩ := q1
  subst e
  obtain ⟨u, v, rfl, rx, ry⟩ := Znh r1
  cases rx
  cases ry
  obtain ⟨its1, rv1, p1, hz1⟩ := I1.list hx
  obtain ⟨its2, rv2, p2, hz2⟩ := I1.list hy
  refine call_zip_2 p1.isList p2.isList fun h' hz hTI hTO h1 h2 hsz kp => wpAny_pyIter_zip hz ?_
  have lx : x < s1.heap.objs.size := by obtain ⟨o, ho, _⟩ := p1.isList; exact Heap.lt_size ho
  have ly : y < s1.heap.objs.size := by obtain ⟨o, ho, _⟩ := p2.isList; exact Heap.lt_size ho
  have I2 : Inv X pins σ H1 { s1 with heap := h' } := I1.kept (t' := s1.toks) kp
  refine ⟨_, [s1.heap.objs.size + 4, s1.heap.objs.size + 2, s1.heap.objs.size + 3, s1.heap.objs.size, s1.heap.objs.size + 1], _, _, H1, rfl, I2, ZmL (TI := s1.heap.objs.size + 2) (TO := s1.heap.objs.size + 3) (i1 := s1.heap.objs.size) (i2 := s1.heap.objs.size + 1) (a := x) (b := y) ?_, ⟨hz, hTI, ⟨_, _, hTO⟩, h1, h2⟩, fun c hc => ?_, q⟩
  · exact Zq7 lx ly
  · have hle : s1.heap.objs.size <= c := by
      simp only [List.mem_cons, List.not_mem_nil, or_false] at hc
      rcases hc with rfl | rfl | rfl | rfl | rfl
      · exact Nat.le_add_right _ _
      · exact Nat.le_add_right _ _
      · exact Nat.le_add_right _ _
      · exact Nat.le_refl _
      · exact Nat.le_add_right _ _
    exact I1.fpOk hle (I1.hok.fresh hle)
theorem ZbP {a : Expr} {ta : TA} {p pos : Pos} {elts : List Expr} {k : Nat} {tpos : Pos} (hg : Gl X "enumerate") (hm : X.mg "enumerate" = none) (ha : PA X [a] ta) (hs : starEach [a] X.env = [(false, eval a X.env)] := by rfl) :
    PI X (.Tuple elts k tpos) (.Call (.Name "enumerate" p) [a] [] pos) (Zqx X.K ta) := by
  intro pins s σ H R I h
  refine Call_ (ZeA I hg hm ZlC (PyProof.Rows.callWith_type1 (thn (ha pos pins s σ H _ I h) fun us s1 ⟨vs, H1, I1, r1, q1⟩ => ?_) hs rfl))
  obtain ⟨x, e, ⟨xs, hx⟩, q⟩ := q1
  subst e
  obtain ⟨u, rfl, rx⟩ := ZgA r1
  cases rx
  obtain ⟨its1, rv1, p1, hz1⟩ := I1.list hx
  refine call_enumerate_list p1.isList fun h' he h1 hsz kp => wpAny_pyIter_enum he ?_
  have lx : x < s1.heap.objs.size := by obtain ⟨o, ho, _⟩ := p1.isList; exact Heap.lt_size ho
  have I2 : Inv X pins σ H1 { s1 with heap := h' } := I1.kept (t' := s1.toks) kp
  refine ⟨_, [s1.heap.objs.size + 1, s1.heap.objs.size], _, _, H1, rfl, I2, Zk0 (e := s1.heap.objs.size + 1) (it := s1.heap.objs.size) (a := x) (Nat.succ_ne_self _) (Nat.ne_of_lt (Nat.lt_succ_of_lt lx)) (Nat.ne_of_lt lx), ⟨⟨_, he⟩, h1⟩, fun c hc => ?_, q⟩
  have hle : s1.heap.objs.size <= c := by
    simp only [List.mem_cons, List.not_mem_nil, or_false] at hc
    rcases hc with rfl | rfl
    · exact Nat.le_add_right _ _
    · exact Nat.le_refl _
  exact I1.fpOk hle (I1.hok.fresh hle)
end
end L2
end
section
namespace L2
open PySem PySem.Spec PyProof.Rows
theorem Zp7 {s : Shared} {h' : Heap} {o : Obj} (hk : ∀ b x, b ∉ [s.heap.objs.size] -> (s.heap.push o).get? b = some x -> h'.get? b = some x) : ∀ b x, s.heap.get? b = some x -> h'.get? b = some x :=
  fun b x e => hk b x (fun hm => by rw [List.mem_singleton.mp hm] at e; exact Nat.lt_irrefl _ (Heap.lt_size e)) (Heap.get?_push_of_some _ e)
noncomputable def Zj6 : List Int -> Int
  | [] => 0
  | [a] => a
  | a :: b :: r => min a (Zj6 (b :: r))
theorem Zf1 : ∀ {ns : List Int}, ns ≠ [] -> Zj6 ns ∈ ns /\ ∀ a ∈ ns, Zj6 ns <= a
  | [], h => absurd rfl h
  | [a], _ => by simp [Zj6]
  | a :: b :: r, _ => by
    obtain ⟨h1, h2⟩ := Zf1 (ns := b :: r) (by simp)
    simp only [Zj6]
    refine ⟨?_, fun c hc => ?_⟩
    · by_cases h : a <= Zj6 (b :: r)
      · rw [Int.min_eq_left h]; exact List.mem_cons_self
      · rw [Int.min_eq_right (by omega)]; exact List.mem_cons_of_mem _ h1
    · rcases List.mem_cons.mp hc with rfl | hc
      · omega
      · have := h2 c hc
        omega
theorem Zoz {ns : List Int} {M : Int} (h1 : M ∈ ns) (h2 : ∀ a ∈ ns, M <= a) : M = Zj6 ns := by
  obtain ⟨g1, g2⟩ := Zf1 (ns := ns) (fun z => by rw [z] at h1; cases h1)
  have := h2 _ g1
  have := g2 _ h1
  omega
section
variable {X : Cx}
noncomputable def ZqX (X : Cx) : List V -> Hp -> VK -> Prop := fun xs H Q => X.calm = true /\ ∃ (x : V) (ns : List Int), xs = [x] /\ Rep H x (.list (ns.map PyData.int)) /\ ns ≠ [] /\ Q (.int (Zj6 ns)) H
theorem ZoI : Zde X (.builtin "min") (ZqX X) := by
  intro pins s σ H xs us Q I r h
  obtain ⟨hc, x, ns, rfl, hx, hne, q⟩ := h
  obtain ⟨u, rfl, rx⟩ := ZgA r
  cases hx with
  | @lst l ys _ ha rr =>
    cases rx
    have er := Zeo rr
    subst er
    obtain ⟨its, rv, p, hz⟩ := I.list (SqL.of (K := X.K) ha)
    have hl := p.isList
    have hi := ZfX rv
    have hlen : its.length = ns.length := hi.length
    have hpos : 0 < ns.length := List.length_pos_iff.mpr hne
    have hlt : l < s.heap.objs.size := by obtain ⟨_, e, _⟩ := hl; exact Heap.lt_size e
    refine call_min_walk (wpAny_pyIter_list hl ?_)
    refine ⟨s.heap.objs.size, [s.heap.objs.size, l], [s.heap.objs.size], its.toArray.size, _, _, _, rfl, Walks.list (A := X.A.in1) (I.ok.hd hc) _ l (Nat.ne_of_lt hlt) its.toArray,
      ⟨⟨_, Heap.get?_push_size _ rfl, rfl, rfl⟩, hl.push _⟩, fun b hb => ?_, by simp only [List.size_toArray]; omega, CmpOf.ints_lt (fun i => ns.getD i 0) (fun i v hP => Zgi hi (by simpa using hP)), fun v h' tk hP hk => ?_⟩
    · show b < (s.heap.push _).objs.size
      rw [Heap.size_push]
      rcases List.mem_cons.mp hb with rfl | hb
      · exact Nat.lt_succ_self _
      · rcases List.mem_cons.mp hb with rfl | hb
        · exact Nat.lt_succ_of_lt hlt
        · cases hb
    · rw [List.getElem?_toArray] at hP
      obtain ⟨t, rfl⟩ := Zgi hi hP
      obtain ⟨g1, g2⟩ := argBest_lt (fun i => ns.getD i 0) (its.toArray.size - 1)
      have hsz : its.toArray.size = its.length := by simp
      generalize argBest (fun i j => decide (ns.getD i 0 < ns.getD j 0)) (its.toArray.size - 1) = k at g1 g2 ⊢
      rw [hsz] at g1 g2
      have hk2 : k < ns.length := by omega
      have em : ns.getD k 0 = Zj6 ns := by
        refine Zoz (by simp [hk2]) fun a ha' => ?_
        obtain ⟨j, hj, rfl⟩ := List.mem_iff_getElem.mp ha'
        have := g2 j (by omega)
        simpa [hj, hk2] using this
      exact ⟨.int (Zj6 ns), H, I.kept (Zp7 hk), ⟨t, by rw [em]⟩, q⟩
end
end L2
end
namespace Mir
noncomputable def ZaS (ns : List Int) (k : Int) : Int := ns.getD k.toNat 0
noncomputable def ZqG (x : Int) : Nat := if x == 0 then 0 else x.natAbs.log2 + 1
noncomputable def Zg4 (i : Int) : Int := if i < 0 then -i else i
noncomputable def mix (head k : Int) : Nat -> Int × Int × Int
  | 0 => (head % 2147483629 + 7919 * k, 69621 * k + 5, 0)
  | i + 1 =>
    ((((mix head k i).1 * 48271 + 11 + (i : Int) * k) % 2147483647),
     (((mix head k i).2.1 * 16807 + ((mix head k i).1 * 48271 + 11 + (i : Int) * k) % 2147483647) % 2147483629),
     (mix head k i).2.2 * 2147483629 + (((mix head k i).2.1 * 16807 + ((mix head k i).1 * 48271 + 11 + (i : Int) * k) % 2147483647) % 2147483629 * (((mix head k i).2.1 * 16807 + ((mix head k i).1 * 48271 + 11 + (i : Int) * k) % 2147483647) % 2147483629) + ((mix head k i).1 * 48271 + 11 + (i : Int) * k) % 2147483647) % 2147483587)
noncomputable def Zcm (ns : List Int) (k : Int) : Int :=
  if ZaS ns 0 / 720 % 2 = 1 then (mix (ZaS ns 0) k 30).2.2 else Zg4 (ZaS ns k) + (mix (ZaS ns 0) k 30).2.2 * 2 ^ ZqG (Zg4 (ZaS ns k))
theorem Zev (i : Int) : 0 <= Zg4 i := by unfold Zg4; split <;> omega
theorem Zei (head k : Int) : ∀ i, 0 <= (mix head k i).2.2 /\ (mix head k i).2.2 < 2147483629 ^ i
  | 0 => by simp [mix]
  | i + 1 => by
    obtain ⟨h1, h2⟩ := Zei head k i
    have e : (2147483629 : Int) ^ (i + 1) = 2147483629 ^ i * 2147483629 := Int.pow_succ ..
    simp only [mix]
    generalize (((mix head k i).2.1 * 16807 + ((mix head k i).1 * 48271 + 11 + (i : Int) * k) % 2147483647) % 2147483629 * (((mix head k i).2.1 * 16807 + ((mix head k i).1 * 48271 + 11 + (i : Int) * k) % 2147483647) % 2147483629) + ((mix head k i).1 * 48271 + 11 + (i : Int) * k) % 2147483647) = q
    rw [e]
    generalize (2147483629 : Int) ^ i = M at h2 ⊢
    generalize (mix head k i).2.2 = t at h1 h2 ⊢
    omega
theorem ZmK (head k : Int) : (mix head k 30).2.2 < 2 ^ 930 := by
  have h := (Zei head k 30).2
  have : (2147483629 : Int) ^ 30 <= 2 ^ 930 := by decide +kernel
  omega
theorem Zf4 (ns : List Int) (k : Int) : 0 <= Zcm ns k := by
  unfold Zcm
  have h := (Zei (ZaS ns 0) k 30).1
  split
  · exact h
  · have h2 : (0 : Int) <= 2 ^ ZqG (Zg4 (ZaS ns k)) := Int.pow_nonneg (by decide)
    have := Int.mul_nonneg h h2
    have := Zev (ZaS ns k)
    omega
noncomputable def Zco (n : Int) : Int × Int :=
  if n % 8 = 0 then (0, n / 8) else if n % 8 < 6 then (n / 8 % 10, n / 8 / 10) else if n % 8 = 6 then (n / 8 % 100, n / 8 / 100) else (n / 8 % 10 ^ 30, n / 8 / 10 ^ 30)
theorem Zdx {n : Int} (h : 0 <= n) : 0 <= (Zco n).1 /\ (Zco n).1 < 10 ^ 30 /\ 0 <= (Zco n).2 := by
  unfold Zco
  have e : (10 : Int) ^ 30 = 1000000000000000000000000000000 := by decide
  rw [e]
  split
  · simp only; omega
  · split
    · simp only; omega
    · split
      · simp only; omega
      · simp only; omega
noncomputable def bnd (n : Int) : Nat -> List Int × Int
  | 0 => ([], n)
  | i + 1 => ((bnd n i).1 ++ [(Zco (bnd n i).2).1], (Zco (bnd n i).2).2)
theorem Zed {n : Int} (h : 0 <= n) : ∀ i, (bnd n i).1.length = i /\ 0 <= (bnd n i).2 /\ ∀ b ∈ (bnd n i).1, 0 <= b /\ b < 10 ^ 30
  | 0 => ⟨rfl, h, by simp [bnd]⟩
  | i + 1 => by
    obtain ⟨h1, h2, h3⟩ := Zed h i
    obtain ⟨a1, a2, a3⟩ := Zdx h2
    refine ⟨by simp [bnd, h1], a3, fun b hb => ?_⟩
    simp only [bnd, List.mem_append, List.mem_singleton] at hb
    rcases hb with hb | hb
    · exact h3 b hb
    · subst hb; exact ⟨a1, a2⟩
structure Ln where
  up : Option Nat
  bs : List Int
structure Yd where
  T : Nat
  ls : List Ln
noncomputable def Zd5 (ns : List Int) (T k : Nat) : Ln :=
  if k = 0 then ⟨none, (bnd (Zcm ns (1 + (k : Int))) T).1⟩ else ⟨some (Zcm ns (1 + (k : Int)) % (k : Int)).toNat, (bnd (Zcm ns (1 + (k : Int)) / (k : Int)) T).1⟩
noncomputable def Zb3 (ns : List Int) : Nat := (1 + Zg4 (ZaS ns 0) % 8).toNat
noncomputable def Zdc (ns : List Int) : Nat := (1 + Zg4 (ZaS ns 0) / 8 % 5).toNat
noncomputable def ZdN (ns : List Int) : Yd := ⟨Zb3 ns, (List.range (Zdc ns)).map (Zd5 ns (Zb3 ns))⟩
noncomputable def Zc3 (y : Yd) (k : Nat) : Option Nat := (y.ls[k]?).bind (·.up)
structure Yd.Ok (y : Yd) : Prop where
  t1 : 1 <= y.T
  t8 : y.T <= 8
  l1 : 1 <= y.ls.length
  l5 : y.ls.length <= 5
  up0 : Zc3 y 0 = none
  ups : ∀ k, 0 < k -> k < y.ls.length -> ∃ a, Zc3 y k = some a /\ a < k
  bl : ∀ l ∈ y.ls, l.bs.length = y.T
  bb : ∀ l ∈ y.ls, ∀ b ∈ l.bs, 0 <= b /\ b < 10 ^ 300
theorem ZgL {b : Int} (h : b < 10 ^ 30) : b < 10 ^ 300 := Int.lt_trans h (by decide +kernel)
theorem ZfR (ns : List Int) : 1 <= Zb3 ns /\ Zb3 ns <= 8 := by unfold Zb3; have := Zev (ZaS ns 0); omega
theorem ZfV (ns : List Int) : 1 <= Zdc ns /\ Zdc ns <= 5 := by unfold Zdc; have := Zev (ZaS ns 0); omega
theorem Zk5 (ns : List Int) : (ZdN ns).Ok := by
  obtain ⟨t1, t2⟩ := ZfR ns
  obtain ⟨c1, c2⟩ := ZfV ns
  have bo : ∀ k, 0 <= Zcm ns (1 + (k : Int)) := fun k => Zf4 _ _
  refine ⟨t1, t2, by simpa [ZdN] using c1, by simpa [ZdN] using c2, ?_, fun k h0 hk => ?_, fun l hl => ?_, fun l hl => ?_⟩
  · simp only [Zc3, ZdN, List.getElem?_map]
    cases e : (List.range (Zdc ns))[0]? with
    | none => rfl
    | some z =>
      have : z = 0 := by
        have := List.getElem?_eq_some_iff.mp e
        obtain ⟨h1, h2⟩ := this
        simpa using h2.symm
      subst this
      simp [Zd5]
  · have hk' : k < Zdc ns := by simpa [ZdN] using hk
    have e : (List.range (Zdc ns))[k]? = some k := by simp [hk']
    refine ⟨(Zcm ns (1 + (k : Int)) % (k : Int)).toNat, ?_, ?_⟩
    · simp only [Zc3, ZdN, List.getElem?_map, e]
      simp [Zd5, Nat.ne_of_gt h0]
    · have h1 : (0 : Int) < k := by omega
      have := Int.emod_lt_of_pos (Zcm ns (1 + (k : Int))) h1
      have := Int.emod_nonneg (Zcm ns (1 + (k : Int))) (Int.ne_of_gt h1)
      omega
  · simp only [ZdN, List.mem_map, List.mem_range] at hl
    obtain ⟨k, _, rfl⟩ := hl
    unfold Zd5
    split
    · exact (Zed (bo k) _).1
    · exact (Zed (Int.ediv_nonneg (bo k) (by omega)) _).1
  · simp only [ZdN, List.mem_map, List.mem_range] at hl
    obtain ⟨k, _, rfl⟩ := hl
    unfold Zd5
    split
    · exact fun b hb => ⟨((Zed (bo k) _).2.2 b hb).1, ZgL ((Zed (bo k) _).2.2 b hb).2⟩
    · exact fun b hb => ⟨((Zed (Int.ediv_nonneg (bo k) (by omega)) _).2.2 b hb).1, ZgL ((Zed (Int.ediv_nonneg (bo k) (by omega)) _).2.2 b hb).2⟩
noncomputable def upL (y : Yd) (k : Nat) : List Nat :=
  k :: match Zc3 y k with
    | none => []
    | some a => if a < k then upL y a else []
termination_by k
theorem Zl3 {y : Yd} (ok : y.Ok) {k : Nat} (hk : k < y.ls.length) : upL y k = if k = 0 then [0] else k :: upL y ((Zc3 y k).getD 0) := by
  rw [upL]
  by_cases h0 : k = 0
  · subst h0; simp [ok.up0]
  · obtain ⟨a, e, l⟩ := ok.ups k (by omega) hk
    simp [e, l, h0]
theorem Zhj (y : Yd) : ∀ k, ∀ j ∈ upL y k, j <= k := by
  intro k
  induction k using Nat.strongRecOn with
  | ind k ih =>
    intro j hj
    rw [upL] at hj
    rcases List.mem_cons.mp hj with rfl | hj
    · exact Nat.le_refl _
    · cases e : Zc3 y k with
      | none => rw [e] at hj; simp at hj
      | some a =>
        rw [e] at hj
        by_cases hl : a < k
        · simp only [hl, if_true] at hj
          have := ih a hl j hj
          omega
        · simp only [hl, if_false] at hj; simp at hj
theorem ZeT (y : Yd) (k : Nat) : k ∈ upL y k := by rw [upL]; exact List.mem_cons_self
theorem Zja {y : Yd} (ok : y.Ok) {k : Nat} (h0 : 0 < k) (hk : k < y.ls.length) {a : Nat} (e : Zc3 y k = some a) (l : Nat) (hl : l ≠ k) : l ∈ upL y k ↔ l ∈ upL y a := by
  rw [Zl3 ok hk, if_neg (by omega), e]
  simp only [Option.getD_some, List.mem_cons]
  constructor
  · rintro (h | h)
    · exact absurd h hl
    · exact h
  · exact .inr
noncomputable def ZhX (y : Yd) (l n : Nat) : List Nat := ((List.range n).map (l + ·)).filter (fun j => decide (l ∈ upL y j))
theorem Znq (y : Yd) (l : Nat) : ZhX y l 1 = [l] := by
  simp [ZhX, List.range_succ, ZeT]
theorem Zhk (y : Yd) (l n : Nat) : ZhX y l (n + 1) = ZhX y l n ++ (if l ∈ upL y (l + n) then [l + n] else []) := by
  simp only [ZhX, List.range_succ, List.map_append, List.filter_append, List.map_cons, List.map_nil]
  by_cases h : l ∈ upL y (l + n)
  · simp [h]
  · simp [h]
theorem Zjf {y : Yd} {l n j : Nat} : j ∈ ZhX y l n ↔ l <= j /\ j < l + n /\ l ∈ upL y j := by
  simp only [ZhX, List.mem_filter, List.mem_map, List.mem_range, decide_eq_true_eq]
  constructor
  · rintro ⟨⟨i, hi, rfl⟩, h⟩; exact ⟨by omega, by omega, h⟩
  · rintro ⟨h1, h2, h3⟩; exact ⟨⟨j - l, by omega, by omega⟩, h3⟩
theorem Znx {y : Yd} (ok : y.Ok) {l n a : Nat} (hn : 1 <= n) (hl : l + n < y.ls.length) (e : Zc3 y (l + n) = some a) (ha : a < l + n) : a ∈ ZhX y l n ↔ l ∈ upL y (l + n) := by
  rw [Zjf, Zja ok (by omega) hl e l (by omega)]
  constructor
  · exact fun h => h.2.2
  · intro h
    have := Zhj y a l h
    exact ⟨this, ha, h⟩
end Mir
namespace Mir
structure Gs where
  line : Nat
  first : Nat
  last : Nat
  want : Int
  most : Int
structure Gs.Ok (y : Yd) (g : Gs) : Prop where
  ln : g.line < y.ls.length
  fl : g.first <= g.last
  lt : g.last < y.T
  w1 : 1 <= g.want
  w2 : g.want < 10 ^ 300
  m1 : 1 <= g.most
  m2 : g.most < 10 ^ 300
noncomputable def Znn (i : Int) : Int := if i > 1 then i else 1
theorem Zls {i : Int} (h : i < 10 ^ 30) : 1 <= Znn i /\ Znn i < 10 ^ 30 := by
  have e : (10 : Int) ^ 30 = 1000000000000000000000000000000 := by decide
  rw [e] at h ⊢
  unfold Znn
  split <;> omega
noncomputable def gn0 (ns : List Int) (k : Nat) : Int := Zcm ns (6 + (k : Int))
noncomputable def gn1 (ns : List Int) (y : Yd) (k : Nat) : Int := gn0 ns k / (y.ls.length : Int)
noncomputable def gn2 (ns : List Int) (y : Yd) (k : Nat) : Int := gn1 ns y k / (y.T : Int)
noncomputable def gf (ns : List Int) (y : Yd) (k : Nat) : Int := gn1 ns y k % (y.T : Int)
noncomputable def gl (ns : List Int) (y : Yd) (k : Nat) : Int := gf ns y k + gn2 ns y k % ((y.T : Int) - gf ns y k)
noncomputable def gn3 (ns : List Int) (y : Yd) (k : Nat) : Int := gn2 ns y k / ((y.T : Int) - gf ns y k)
noncomputable def Zd3 (ns : List Int) (y : Yd) (k : Nat) : Gs :=
  ⟨(gn0 ns k % (y.ls.length : Int)).toNat, (gf ns y k).toNat, (gl ns y k).toNat, Znn (Zco (gn3 ns y k)).1, Znn (Zco (Zco (gn3 ns y k)).2).1⟩
noncomputable def ZcF (ns : List Int) : Nat := (Zg4 (ZaS ns 0) / 40 % 9).toNat
noncomputable def ZdF (ns : List Int) (y : Yd) : List Gs := (List.range (ZcF ns)).map (Zd3 ns y)
theorem Zm0 {y : Yd} (ok : y.Ok) (ns : List Int) (k : Nat) : 0 <= gf ns y k /\ gf ns y k < y.T := by
  have h : (0 : Int) < (y.T : Int) := by have := ok.t1; omega
  exact ⟨Int.emod_nonneg _ (Int.ne_of_gt h), Int.emod_lt_of_pos _ h⟩
theorem ZqR {y : Yd} (ok : y.Ok) (ns : List Int) (k : Nat) : 0 <= gn0 ns k /\ 0 <= gn1 ns y k /\ 0 <= gn2 ns y k /\ 0 <= gn3 ns y k := by
  have h0 := Zf4 ns (6 + (k : Int))
  have h1 : 0 <= gn1 ns y k := Int.ediv_nonneg h0 (by omega)
  have h2 : 0 <= gn2 ns y k := Int.ediv_nonneg h1 (by omega)
  obtain ⟨f0, f1⟩ := Zm0 ok ns k
  exact ⟨h0, h1, h2, Int.ediv_nonneg h2 (by omega)⟩
theorem Zq5 {y : Yd} (ok : y.Ok) (ns : List Int) (k : Nat) : gf ns y k <= gl ns y k /\ gl ns y k < y.T := by
  obtain ⟨f0, f1⟩ := Zm0 ok ns k
  have h : (0 : Int) < (y.T : Int) - gf ns y k := by omega
  have a := Int.emod_nonneg (gn2 ns y k) (Int.ne_of_gt h)
  have b := Int.emod_lt_of_pos (gn2 ns y k) h
  unfold gl
  omega
theorem ZjB {y : Yd} (ok : y.Ok) (ns : List Int) (k : Nat) : (Zd3 ns y k).Ok y := by
  obtain ⟨f0, f1⟩ := Zm0 ok ns k
  obtain ⟨l0, l1⟩ := Zq5 ok ns k
  obtain ⟨n0, n1, n2, n3⟩ := ZqR ok ns k
  obtain ⟨a1, a2, a3⟩ := Zdx n3
  obtain ⟨b1, b2, b3⟩ := Zdx a3
  obtain ⟨m1, m2⟩ := Zls a2
  obtain ⟨m3, m4⟩ := Zls b2
  have hl : (0 : Int) < (y.ls.length : Int) := by have := ok.l1; omega
  have c1 := Int.emod_nonneg (gn0 ns k) (Int.ne_of_gt hl)
  have c2 := Int.emod_lt_of_pos (gn0 ns k) hl
  refine ⟨?_, ?_, ?_, m1, ZgL m2, m3, ZgL m4⟩
  · simp only [Zd3]; omega
  · simp only [Zd3]; omega
  · simp only [Zd3]; omega
theorem Zi2 {y : Yd} (ok : y.Ok) (ns : List Int) : ∀ g ∈ ZdF ns y, g.Ok y := fun g hg => by
  simp only [ZdF, List.mem_map, List.mem_range] at hg
  obtain ⟨k, _, rfl⟩ := hg
  exact ZjB ok ns k
theorem Zht (ns : List Int) (y : Yd) : (ZdF ns y).length <= 8 := by
  simp only [ZdF, List.length_map, List.length_range, ZcF]
  have := Zev (ZaS ns 0)
  omega
noncomputable def ZaX (g : Gs) (t : Int) : Bool := decide ((g.first : Int) <= t) && decide (t <= (g.last : Int))
noncomputable def Zbw (y : Yd) (l : Nat) (t : Nat) : Int := (((y.ls[l]?).map (·.bs)).getD []).getD t 0
noncomputable def Zd0 (gs : List Gs) (t : Int) (l : Nat) : List Nat -> Int
  | [] => 0
  | k :: r => (match gs[k]? with | some g => if g.line = l /\ ZaX g t = true then g.most else 0 | none => 0) + Zd0 gs t l r
theorem ZcS (gs : List Gs) (t : Int) (l : Nat) (a b : List Nat) : Zd0 gs t l (a ++ b) = Zd0 gs t l a + Zd0 gs t l b := by
  induction a with
  | nil => simp [Zd0]
  | cons k r ih => simp only [List.cons_append, Zd0, ih]; omega
noncomputable def Zi5 (y : Yd) (b : Nat -> Int) (st : Nat -> Int) (j : Nat) : Nat -> Int := fun l => st l + (if Zc3 y j = some l then min (st j) (b j) else 0)
noncomputable def ZcW (y : Yd) (b own : Nat -> Int) : Nat -> Nat -> Int
  | 0 => own
  | i + 1 => Zi5 y b (ZcW y b own i) (y.ls.length - 1 - i)
noncomputable def ZeI (y : Yd) (b own : Nat -> Int) (l : Nat) : Int := ZcW y b own (y.ls.length - 1) l
noncomputable def Zcl (y : Yd) (b own : Nat -> Int) (l : Nat) : Int := min (ZeI y b own l) (b l)
noncomputable def Zb9 (y : Yd) (b own : Nat -> Int) (l : Nat) : Nat -> Int
  | 0 => 0
  | n + 1 => Zb9 y b own l n + (if Zc3 y (l + 1 + n) = some l then Zcl y b own (l + 1 + n) else 0)
theorem ZfU (y : Yd) (ok : y.Ok) (b own : Nat -> Int) (l : Nat) : ∀ i, i <= y.ls.length - 1 -> y.ls.length - 1 - i <= l -> ∀ d, i + d <= y.ls.length - 1 -> ZcW y b own (i + d) l = ZcW y b own i l
  | i, hi, hl, 0, _ => rfl
  | i, hi, hl, d + 1, hd => by
    have ih := ZfU y ok b own l i hi hl d (by omega)
    show Zi5 y b (ZcW y b own (i + d)) (y.ls.length - 1 - (i + d)) l = _
    unfold Zi5
    rw [ih]
    by_cases h0 : 0 < y.ls.length - 1 - (i + d)
    · obtain ⟨a, ea, la⟩ := ok.ups (y.ls.length - 1 - (i + d)) h0 (by omega)
      rw [ea]
      have : ¬ some a = some l := by
        intro z
        injection z with z
        omega
      rw [if_neg this]
      omega
    · have : y.ls.length - 1 - (i + d) = 0 := by omega
      omega
theorem Zke {y : Yd} (ok : y.Ok) (b own : Nat -> Int) {j : Nat} (hj : j < y.ls.length) : ZcW y b own (y.ls.length - 1 - j) j = ZeI y b own j := by
  unfold ZeI
  have := ZfU y ok b own j (y.ls.length - 1 - j) (by omega) (by omega) j (by omega)
  rw [show y.ls.length - 1 - j + j = y.ls.length - 1 by omega] at this
  exact this.symm
theorem ZhN {y : Yd} (ok : y.Ok) (b own : Nat -> Int) (l : Nat) : ∀ i, i <= y.ls.length - 1 -> ZcW y b own i l + Zb9 y b own l (y.ls.length - 1 - i - l) = own l + Zb9 y b own l (y.ls.length - 1 - l)
  | 0, _ => by simp [ZcW]
  | i + 1, hi => by
    have ih := ZhN ok b own l i (by omega)
    have e : ZcW y b own (i + 1) l = ZcW y b own i l + (if Zc3 y (y.ls.length - 1 - i) = some l then Zcl y b own (y.ls.length - 1 - i) else 0) := by
      show Zi5 y b (ZcW y b own i) (y.ls.length - 1 - i) l = _
      unfold Zi5 Zcl
      have hj : y.ls.length - 1 - i < y.ls.length := by have := ok.l1; omega
      have rf := Zke ok b own hj
      rw [show y.ls.length - 1 - (y.ls.length - 1 - i) = i by omega] at rf
      rw [rf]
    rw [e]
    by_cases hl : l < y.ls.length - 1 - i
    · obtain ⟨d, ed⟩ : ∃ d, y.ls.length - 1 - i - l = d + 1 := ⟨y.ls.length - 1 - i - l - 1, by omega⟩
      rw [ed] at ih
      have e2 : y.ls.length - 1 - (i + 1) - l = d := by omega
      rw [e2]
      have e3 : l + 1 + d = y.ls.length - 1 - i := by omega
      simp only [Zb9, e3] at ih
      omega
    · have e1 : y.ls.length - 1 - i - l = 0 := by omega
      have e2 : y.ls.length - 1 - (i + 1) - l = 0 := by omega
      rw [e1] at ih
      rw [e2]
      have : ¬ Zc3 y (y.ls.length - 1 - i) = some l := by
        intro z
        have h0 : 0 < y.ls.length - 1 - i := by omega
        obtain ⟨a, ea, la⟩ := ok.ups (y.ls.length - 1 - i) h0 (by omega)
        rw [ea] at z
        injection z with z
        omega
      rw [if_neg this]
      simp only [Zb9] at ih ⊢
      omega
theorem Znw {y : Yd} (ok : y.Ok) (b own : Nat -> Int) (l : Nat) : ZeI y b own l = own l + Zb9 y b own l (y.ls.length - 1 - l) := by
  have h := ZhN ok b own l (y.ls.length - 1) (Nat.le_refl _)
  rw [show y.ls.length - 1 - (y.ls.length - 1) - l = 0 by omega] at h
  simp only [Zb9] at h
  unfold ZeI
  omega
end Mir
namespace Mir
noncomputable def Za2 (f : Nat -> Int) : Nat -> Int
  | 0 => 0
  | n + 1 => Za2 f n + f n
theorem Zak {f g : Nat -> Int} : ∀ {n : Nat}, (∀ k, k < n -> f k = g k) -> Za2 f n = Za2 g n
  | 0, _ => rfl
  | n + 1, h => by
    simp only [Za2]
    rw [Zak (n := n) fun k hk => h k (by omega), h n (by omega)]
theorem ZcH {f g : Nat -> Int} : ∀ {n : Nat}, (∀ k, k < n -> f k <= g k) -> Za2 f n <= Za2 g n
  | 0, _ => Int.le_refl _
  | n + 1, h => by
    simp only [Za2]
    have := ZcH (n := n) fun k hk => h k (by omega)
    have := h n (by omega)
    omega
theorem ZdZ (f g : Nat -> Int) : ∀ n, Za2 (fun k => f k + g k) n = Za2 f n + Za2 g n
  | 0 => rfl
  | n + 1 => by simp only [Za2]; rw [ZdZ f g n]; omega
theorem ZeY (c : Int) (f : Nat -> Int) : ∀ n, Za2 (fun k => c * f k) n = c * Za2 f n
  | 0 => by simp [Za2]
  | n + 1 => by simp only [Za2]; rw [ZeY c f n, Int.mul_add]
theorem ZaG : ∀ n, Za2 (fun _ => 0) n = 0
  | 0 => rfl
  | n + 1 => by simp only [Za2]; rw [ZaG n]; rfl
theorem Ze0 {a : Nat} {v : Int} : ∀ {n : Nat}, Za2 (fun l => if l = a then v else 0) n = if a < n then v else 0
  | 0 => by simp [Za2]
  | n + 1 => by
    simp only [Za2]
    rw [Ze0 (n := n)]
    by_cases h : n = a
    · subst h; simp
    · by_cases h2 : a < n
      · simp [h, h2]; omega
      · have : ¬ a < n + 1 := by omega
        simp [h, h2, this]
theorem Zpg {f : Nat -> Int} {n : Nat} (h : ∀ k, k < n -> 0 <= f k) : 0 <= Za2 f n := by
  have := ZcH (f := fun _ => 0) (g := f) (n := n) h
  rw [ZaG] at this
  exact this
noncomputable def wgt (gs : List Gs) (t : Int) (l k : Nat) : Int := match gs[k]? with | some g => if g.line = l /\ ZaX g t = true then g.most else 0 | none => 0
theorem ZoO (gs : List Gs) (t : Int) (l k : Nat) : Zd0 gs t l [k] = wgt gs t l k := by
  simp only [Zd0, wgt]
  cases gs[k]? with
  | none => rfl
  | some g => simp
theorem ZjA (gs : List Gs) (t : Int) (l : Nat) (p : Nat -> Bool) (m : Nat) : Zd0 gs t l ((List.range m).filter p) = Za2 (fun k => if p k = true then wgt gs t l k else 0) m := by
  induction m with
  | zero => rfl
  | succ m ih =>
    rw [List.range_succ, List.filter_append, ZcS, ih]
    simp only [Za2]
    cases e : p m with
    | true => simp only [List.filter_cons, e, if_true, List.filter_nil, ZoO]
    | false => simp only [List.filter_cons, e, List.filter_nil, Zd0, Bool.false_eq_true, if_false]
theorem Zeg (f : Nat -> Nat -> Int) (n : Nat) : ∀ m, Za2 (fun l => Za2 (fun k => f l k) m) n = Za2 (fun k => Za2 (fun l => f l k) n) m
  | 0 => by simp only [Za2]; exact ZaG n
  | m + 1 => by
    simp only [Za2]
    rw [ZdZ, Zeg f n m]
end Mir
namespace Mir
section
variable {y : Yd} {b b' own : Nat -> Int} {l0 : Nat}
end
end Mir
section
namespace L2
open PySem PySem.Spec PyProof.Rows
structure Ext (F H F' H' : Hp) : Prop where
  hh : ZaK H H'
  ff : ZaK F F'
  fh : ZaK F' H'
  fr : ∀ a, F' a ≠ none -> F a ≠ none \/ H a = none
theorem Ext.refl {F H : Hp} (s : ZaK F H) : Ext F H F H := ⟨ZaK.refl _, ZaK.refl _, s, fun _ h => .inl h⟩
theorem Ext.trans {F H F1 H1 F2 H2 : Hp} (a : Ext F H F1 H1) (b : Ext F1 H1 F2 H2) : Ext F H F2 H2 :=
  ⟨a.hh.trans b.hh, a.ff.trans b.ff, b.fh, fun p h => by
    rcases b.fr p h with z | z
    · exact a.fr p z
    · exact .inr (a.hh.free z)⟩
theorem Zbs {H : Hp} {a : Addr} {o : HO} (h : H a = some o) : H a ≠ none := by rw [h]; exact fun z => nomatch z
theorem ZgJ {H : Hp} {a : Addr} (h : H a ≠ none) : ∃ o, H a = some o := by
  cases e : H a with
  | none => exact absurd e h
  | some o => exact ⟨o, rfl⟩
theorem Zmn {F H : Hp} {p : Addr} {o : HO} (s : ZaK F H) : ZaK (upd F p o) (upd H p o) := fun b u e => by
  by_cases h : b = p
  · subst h; rw [Zaj] at e ⊢; exact e
  · rw [Zah h] at e ⊢; exact s b u e
theorem Ext.new {F H : Hp} {p : Addr} {o : HO} (s : ZaK F H) (hp : H p = none) : Ext F H (upd F p o) (upd H p o) :=
  ⟨ZaK.new hp, ZaK.new (s.free hp), Zmn s, fun a h => by
    by_cases e : a = p
    · subst e; exact .inr hp
    · rw [Zah e] at h; exact .inl h⟩
theorem Ext.own {F H : Hp} {p : Addr} {o : HO} (s : ZaK F H) (hp : H p = none) : Ext F H F (upd H p o) :=
  ⟨ZaK.new hp, ZaK.refl _, s.upd (s.free hp), fun _ h => .inl h⟩
theorem Ext.freeze {F0 H0 F H : Hp} {a : Addr} {o : HO} (x : Ext F0 H0 F H) (hf : F a = none) (ho : H a = some o) (h0 : H0 a = none) : Ext F0 H0 (upd F a o) H :=
  ⟨x.hh, x.ff.trans (ZaK.new hf), fun b u e => by
    by_cases h : b = a
    · subst h; rw [Zaj] at e; rw [ho]; exact e
    · rw [Zah h] at e; exact x.fh b u e, fun b h => by
    by_cases e : b = a
    · subst e; exact .inr h0
    · rw [Zah e] at h; exact x.fr b h⟩
theorem Ext.free {F H F' H' : Hp} {a : Addr} (x : Ext F H F' H') (hf : F a = none) (hh : H a ≠ none) : F' a = none := by
  cases e : F' a with
  | none => rfl
  | some o =>
    rcases x.fr a (Zbs e) with z | z
    · exact absurd hf z
    · exact absurd z hh
structure OwnP where
  ok : PySem.W.Frag -> Hp -> Hp -> V -> List Addr -> Prop
  there : ∀ {K : PySem.W.Frag} {F H : Hp} {v : V} {p : List Addr}, ok K F H v p -> ∀ a ∈ p, F a = none /\ H a ≠ none
  mono : ∀ {K : PySem.W.Frag} {F F' H H' : Hp} {v : V} {p : List Addr}, ZaK F F' -> (∀ a ∈ p, F' a = none) -> (∀ a ∈ p, H' a = H a) -> ok K F H v p -> ok K F' H' v p
  uniq : ∀ {K : PySem.W.Frag} {F H : Hp} {v : V} {p q : List Addr}, ok K F H v p -> ok K F H v q -> ∀ a ∈ q, a ∈ p
structure ZP where
  ok : PySem.W.Frag -> Hp -> V -> Prop
  mono : ∀ {K : PySem.W.Frag} {F F' : Hp} {v : V}, ZaK F F' -> ok K F v -> ok K F' v
inductive OT where
  /-- an object that stays -/
  | zow (Ψ : ZP)
  /-- data that stays -/
  | fz (d : PyData)
  /-- a list of one's own, its items stay -/
  | ol (ds : List PyData)
  /-- a list of one's own of lists of one's own -/
  | oll (dss : List (List PyData))
  /-- the script -/
  | scr (ns : List Int)
  /-- a thing of one's own, at a value -/
  | own (v : V) (Φ : OwnP)
noncomputable abbrev Zbd := List (Option OT)
noncomputable def ZgR (F H : Hp) (a : Addr) (ds : List PyData) : Prop := F a = none /\ ∃ xs, H a = some (.lst xs) /\ Reps F xs ds
noncomputable def Za6 (F H : Hp) : List Addr -> List (List PyData) -> Prop
  | [], [] => True
  | a :: as, ds :: dss => ZgR F H a ds /\ Za6 F H as dss
  | _, _ => False
noncomputable def ZaH (K : PySem.W.Frag) (F H : Hp) (v : V) : OT -> List Addr -> Prop
  | .fz d, p => p = [] /\ Rep F v d
  | .ol ds, p => ∃ a, v = .ref a /\ p = [a] /\ ZgR F H a ds
  | .oll dss, p => ∃ a as, v = .ref a /\ p = a :: as /\ (a :: as).Nodup /\ F a = none /\ H a = some (.lst (as.map V.ref)) /\ Za6 F H as dss
  | .scr ns, p => p = [] /\ ∃ a, v = .ref a /\ Scr K F a ns
  | .own v0 Φ, p => v = v0 /\ Φ.ok K F H v p
  | .zow Ψ, p => p = [] /\ Ψ.ok K F v
theorem ZaK.at_eq {H H' : Hp} (s : ZaK H H') {a : Addr} (h : H a ≠ none) : H' a = H a := by
  cases e : H a with
  | none => exact absurd e h
  | some o => exact s _ _ e
theorem ZgR.ext {F H F' H' : Hp} {a : Addr} {ds : List PyData} (h : ZgR F H a ds) (x : Ext F H F' H') : ZgR F' H' a ds := by
  obtain ⟨h1, xs, h2, h3⟩ := h
  exact ⟨x.free h1 (Zbs h2), xs, x.hh _ _ h2, h3.mono x.ff⟩
theorem Za6.ext {F H F' H' : Hp} (x : Ext F H F' H') : ∀ {as : List Addr} {dss : List (List PyData)}, Za6 F H as dss -> Za6 F' H' as dss
  | [], [], _ => trivial
  | _ :: _, _ :: _, h => ⟨h.1.ext x, Za6.ext x h.2⟩
  | [], _ :: _, h => False.elim h
  | _ :: _, [], h => False.elim h
theorem Za6.mem {F H : Hp} : ∀ {as : List Addr} {dss : List (List PyData)}, Za6 F H as dss -> ∀ a ∈ as, F a = none /\ H a ≠ none
  | [], [], _, a, ha => by cases ha
  | b :: as, _ :: _, h, a, ha => by
    rcases List.mem_cons.mp ha with rfl | ha
    · obtain ⟨h1, xs, h2, _⟩ := h.1
      exact ⟨h1, Zbs h2⟩
    · exact Za6.mem h.2 a ha
  | [], _ :: _, h, _, _ => False.elim h
  | _ :: _, [], h, _, _ => False.elim h
theorem ZaH.ext {K : PySem.W.Frag} {F H F' H' : Hp} {v : V} {t : OT} {p : List Addr} (h : ZaH K F H v t p) (x : Ext F H F' H') : ZaH K F' H' v t p := by
  cases t with
  | fz d => exact ⟨h.1, h.2.mono x.ff⟩
  | zow Ψ => exact ⟨h.1, Ψ.mono x.ff h.2⟩
  | ol ds => obtain ⟨a, h1, h2, h3⟩ := h; exact ⟨a, h1, h2, h3.ext x⟩
  | oll dss => obtain ⟨a, as, h1, h2, h3, h4, h5, h6⟩ := h; exact ⟨a, as, h1, h2, h3, x.free h4 (Zbs h5), x.hh _ _ h5, h6.ext x⟩
  | scr ns => obtain ⟨h1, a, h2, h3⟩ := h; exact ⟨h1, a, h2, h3.mono x.ff⟩
  | own v0 Φ => exact ⟨h.1, Φ.mono x.ff (fun a ha => x.free (Φ.there h.2 a ha).1 (Φ.there h.2 a ha).2) (fun a ha => x.hh.at_eq (Φ.there h.2 a ha).2) h.2⟩
theorem ZaH.there {K : PySem.W.Frag} {F H : Hp} {v : V} {t : OT} {p : List Addr} (h : ZaH K F H v t p) : ∀ a ∈ p, F a = none /\ H a ≠ none := by
  cases t with
  | fz d => obtain ⟨rfl, _⟩ := h; intro a ha; cases ha
  | zow Ψ => obtain ⟨rfl, _⟩ := h; intro a ha; cases ha
  | ol ds =>
    obtain ⟨a, h1, rfl, h3, xs, h4, _⟩ := h
    intro b hb
    have e : b = a := by simpa using hb
    subst e
    exact ⟨h3, Zbs h4⟩
  | oll dss =>
    obtain ⟨a, as, h1, rfl, h3, h4, h5, h6⟩ := h
    intro b hb
    rcases List.mem_cons.mp hb with rfl | hb
    · exact ⟨h4, Zbs h5⟩
    · exact h6.mem b hb
  | scr ns => obtain ⟨rfl, _⟩ := h; intro a ha; cases ha
  | own v0 Φ => exact Φ.there h.2
theorem ZgR.other {F H : Hp} {a b : Addr} {o : HO} {ds : List PyData} (h : ZgR F H a ds) (n : a ≠ b) : ZgR F (upd H b o) a ds := by
  obtain ⟨h1, xs, h2, h3⟩ := h
  exact ⟨h1, xs, by rw [Zah n]; exact h2, h3⟩
theorem Za6.other {F H : Hp} {b : Addr} {o : HO} : ∀ {as : List Addr} {dss : List (List PyData)}, Za6 F H as dss -> b ∉ as -> Za6 F (upd H b o) as dss
  | [], [], _, _ => trivial
  | a :: as, _ :: _, h, n => ⟨h.1.other (fun z => n (by rw [z]; exact List.mem_cons_self)), Za6.other h.2 fun z => n (List.mem_cons_of_mem _ z)⟩
  | [], _ :: _, h, _ => False.elim h
  | _ :: _, [], h, _ => False.elim h
theorem ZaH.other {K : PySem.W.Frag} {F H : Hp} {v : V} {t : OT} {p : List Addr} {b : Addr} {o : HO} (h : ZaH K F H v t p) (n : b ∉ p) : ZaH K F (upd H b o) v t p := by
  cases t with
  | fz d => exact h
  | zow Ψ => exact h
  | ol ds => obtain ⟨a, h1, rfl, h3⟩ := h; exact ⟨a, h1, rfl, h3.other (fun z => n (by simp [z]))⟩
  | oll dss =>
    obtain ⟨a, as, h1, rfl, h3, h4, h5, h6⟩ := h
    exact ⟨a, as, h1, rfl, h3, h4, by rw [Zah (fun z => n (by simp [z]))]; exact h5, h6.other fun z => n (List.mem_cons_of_mem _ z)⟩
  | scr ns => exact h
  | own v0 Φ => exact ⟨h.1, Φ.mono (ZaK.refl _) (fun a ha => (Φ.there h.2 a ha).1) (fun a ha => Zah fun z => n (by rw [<- z]; exact ha)) h.2⟩
noncomputable def KTs (K : PySem.W.Frag) (F : Hp) : Prop := ∃ gS gE, PySem.W.nsIn K mainGlobals "START" = some (some (.ref gS)) /\ PySem.W.nsIn K mainGlobals "END" = some (some (.ref gE)) /\ F gS = some (.tup [.str "start"]) /\ F gE = some (.tup [.str "end"])
theorem KTs.mono {K : PySem.W.Frag} {F F' : Hp} (h : KTs K F) (s : ZaK F F') : KTs K F' := by
  obtain ⟨gS, gE, h1, h2, h3, h4⟩ := h
  exact ⟨gS, gE, h1, h2, s _ _ h3, s _ _ h4⟩
structure Sta (K : PySem.W.Frag) (H0 F : Hp) (ρ : Zbd) (σ : St) (H : Hp) : Prop where
  kt : KTs K F
  sub : ZaK F H
  len : σ.length = ρ.length
  fp : ∃ fp : Nat -> List Addr, (∀ (i : Nat) (t : OT), ρ[i]? = some (some t) -> ∃ v, σ[i]? = some (some v) /\ ZaH K F H v t (fp i)) /\
    (∀ (i j : Nat) (a : Addr), a ∈ fp i -> a ∈ fp j -> i = j) /\ ∀ (i : Nat) (a : Addr), a ∈ fp i -> H0 a = none /\ H a ≠ none
theorem Sta.ext {K : PySem.W.Frag} {H0 F F' H H' : Hp} {ρ : Zbd} {σ : St} (s : Sta K H0 F ρ σ H) (x : Ext F H F' H') : Sta K H0 F' ρ σ H' := by
  obtain ⟨kt, h1, h2, fp, h3, h4, h5⟩ := s
  refine ⟨kt.mono x.ff, x.fh, h2, fp, fun i t e => ?_, h4, fun i a ha => ?_⟩
  · obtain ⟨v, e1, e2⟩ := h3 i t e
    exact ⟨v, e1, e2.ext x⟩
  · obtain ⟨e1, e2⟩ := h5 i a ha
    obtain ⟨o, e3⟩ := ZgJ e2
    exact ⟨e1, Zbs (x.hh _ _ e3)⟩
noncomputable def Fgt : Zbd -> Zbd -> Prop
  | [], [] => True
  | _ :: r, none :: r' => Fgt r r'
  | s :: r, some x :: r' => s = some x /\ Fgt r r'
  | _, _ => False
theorem Fgt.len : ∀ {ρ ρ' : Zbd}, Fgt ρ ρ' -> ρ.length = ρ'.length
  | [], [], _ => rfl
  | _ :: r, none :: r', h => by
    have h' : Fgt r r' := h
    simp [Fgt.len h']
  | s :: r, some x :: r', h => by
    have h' : s = some x /\ Fgt r r' := h
    simp [Fgt.len h'.2]
  | [], none :: _, h => False.elim h
  | [], some _ :: _, h => False.elim h
  | _ :: _, [], h => False.elim h
theorem Fgt.get : ∀ {ρ ρ' : Zbd}, Fgt ρ ρ' -> ∀ (i : Nat) (t : OT), ρ'[i]? = some (some t) -> ρ[i]? = some (some t)
  | [], [], _, i, t, e => by simp at e
  | _ :: r, none :: r', h, 0, t, e => by simp at e
  | _ :: r, none :: r', h, i + 1, t, e => by
    have h' : Fgt r r' := h
    have := Fgt.get h' i t (by simpa using e)
    simpa using this
  | s :: r, some x :: r', h, 0, t, e => by
    have h' : s = some x /\ Fgt r r' := h
    simp at e; subst e; simp [h'.1]
  | s :: r, some x :: r', h, i + 1, t, e => by
    have h' : s = some x /\ Fgt r r' := h
    have := Fgt.get h'.2 i t (by simpa using e)
    simpa using this
  | [], none :: _, h, _, _, _ => False.elim h
  | [], some _ :: _, h, _, _, _ => False.elim h
  | _ :: _, [], h, _, _, _ => False.elim h
theorem Sta.fgt {K : PySem.W.Frag} {H0 F H : Hp} {ρ ρ' : Zbd} {σ : St} (s : Sta K H0 F ρ σ H) (f : Fgt ρ ρ') : Sta K H0 F ρ' σ H := by
  obtain ⟨kt, h1, h2, fp, h3, h4, h5⟩ := s
  exact ⟨kt, h1, h2.trans f.len, fp, fun i t e => h3 i t (f.get i t e), h4, h5⟩
theorem Sta.set {K : PySem.W.Frag} {H0 F H : Hp} {ρ : Zbd} {σ : St} {i : Nat} {v : V} {t : OT} {p : List Addr} (s : Sta K H0 F ρ σ H) (ok : ZaH K F H v t p)
    (hp : ∀ (a : Addr), a ∈ p -> H0 a = none)
    (hn : ∀ (a : Addr), a ∈ p -> ∀ (j : Nat) (u : V) (t' : OT) (q : List Addr), ρ[j]? = some (some t') -> σ[j]? = some (some u) -> ZaH K F H u t' q -> a ∉ q) :
    Sta K H0 F (ρ.set i (some t)) (σ.set i (some v)) H := by
  obtain ⟨kt, h1, h2, fp, h3, h4, h5⟩ := s
  refine ⟨kt, h1, by simp [h2], fun j => if j = i then p else if (ρ[j]?).join.isSome then fp j else [], fun j t' e => ?_, fun j k a ha hb => ?_, fun j a ha => ?_⟩
  · by_cases hj : j = i
    · subst hj
      have hlt : j < ρ.length := by
        have := (List.getElem?_eq_some_iff.mp e).1
        simpa using this
      rw [List.getElem?_set_self hlt] at e
      cases e
      refine ⟨v, List.getElem?_set_self (by omega), ?_⟩
      dsimp only
      rw [if_pos rfl]
      exact ok
    · rw [List.getElem?_set_ne (Ne.symm hj)] at e
      obtain ⟨u, e1, e2⟩ := h3 j t' e
      refine ⟨u, by rw [List.getElem?_set_ne (Ne.symm hj)]; exact e1, ?_⟩
      dsimp only
      rw [if_neg hj, e, if_pos (by rfl)]
      exact e2
  · have key : ∀ (j : Nat), j ≠ i -> a ∈ (if j = i then p else if (ρ[j]?).join.isSome then fp j else []) -> ∃ t' u, ρ[j]? = some (some t') /\ σ[j]? = some (some u) /\ ZaH K F H u t' (fp j) /\ a ∈ fp j := fun j hj hm => by
      rw [if_neg hj] at hm
      cases e : (ρ[j]?).join with
      | none => rw [e] at hm; simp at hm
      | some t' =>
        rw [e] at hm
        have e' : ρ[j]? = some (some t') := by
          cases z : ρ[j]? with
          | none => rw [z] at e; simp at e
          | some w => rw [z] at e; simp at e; rw [e]
        obtain ⟨u, e1, e2⟩ := h3 j t' e'
        exact ⟨t', u, e', e1, e2, by simpa using hm⟩
    by_cases hj : j = i
    · by_cases hk : k = i
      · omega
      · obtain ⟨t', u, e1, e2, e3, e4⟩ := key k hk hb
        have ha' : a ∈ p := by simpa [hj] using ha
        exact absurd e4 (hn a ha' k u t' _ e1 e2 e3)
    · obtain ⟨t', u, e1, e2, e3, e4⟩ := key j hj ha
      by_cases hk : k = i
      · have hb' : a ∈ p := by simpa [hk] using hb
        exact absurd e4 (hn a hb' j u t' _ e1 e2 e3)
      · obtain ⟨t2, u2, f1, f2, f3, f4⟩ := key k hk hb
        exact h4 j k a e4 f4
  · by_cases hj : j = i
    · have ha' : a ∈ p := by simpa [hj] using ha
      exact ⟨hp a ha', (ok.there a ha').2⟩
    · simp only [if_neg hj] at ha
      split at ha
      · exact h5 j a ha
      · cases ha
theorem Sta.setF {K : PySem.W.Frag} {H0 F H : Hp} {ρ : Zbd} {σ : St} {i : Nat} {v : V} {d : PyData} (s : Sta K H0 F ρ σ H) (r : Rep F v d) : Sta K H0 F (ρ.set i (some (.fz d))) (σ.set i (some v)) H :=
  s.set (p := []) ⟨rfl, r⟩ (fun a ha => nomatch ha) (hn := fun a ha => nomatch ha)
theorem Sta.write {K : PySem.W.Frag} {H0 F H : Hp} {ρ : Zbd} {σ : St} {i : Nat} {ds : List PyData} (s : Sta K H0 F ρ σ H) (e : ρ[i]? = some (some (.ol ds))) :
    ∃ a xs, σ[i]? = some (some (.ref a)) /\ H a = some (.lst xs) /\ Reps F xs ds /\ H0 a = none /\ F a = none /\ ∀ xs' ds', Reps F xs' ds' -> Sta K H0 F (ρ.set i (some (.ol ds'))) σ (upd H a (.lst xs')) := by
  obtain ⟨kt, h1, h2, fp, h3, h4, h5⟩ := s
  obtain ⟨v, e1, a, rfl, e2, e3, xs, e4, e5⟩ := h3 i _ e
  have ha : a ∈ fp i := by rw [e2]; exact List.mem_cons_self
  refine ⟨a, xs, e1, e4, e5, (h5 i a ha).1, e3, fun xs' ds' r => ?_⟩
  have hlt := (List.getElem?_eq_some_iff.mp e).1
  refine ⟨kt, h1.upd e3, by simp [h2], fp, fun j t' e' => ?_, h4, fun j b hb => ?_⟩
  · by_cases hj : j = i
    · subst hj
      rw [List.getElem?_set_self hlt] at e'
      cases e'
      exact ⟨_, e1, a, rfl, e2, e3, xs', Zaj, r⟩
    · rw [List.getElem?_set_ne (Ne.symm hj)] at e'
      obtain ⟨u, f1, f2⟩ := h3 j t' e'
      exact ⟨u, f1, f2.other fun z => hj (h4 j i a z ha)⟩
  · obtain ⟨f1, f2⟩ := h5 j b hb
    refine ⟨f1, ?_⟩
    by_cases z : b = a
    · subst z; rw [Zaj]; exact fun q => nomatch q
    · rw [Zah z]; exact f2
theorem Sta.freeze {K : PySem.W.Frag} {H0 F H : Hp} {ρ : Zbd} {σ : St} {i : Nat} {ds : List PyData} (s : Sta K H0 F ρ σ H) (e : ρ[i]? = some (some (.ol ds))) :
    ∃ a xs, F a = none /\ H a = some (.lst xs) /\ H0 a = none /\ σ[i]? = some (some (.ref a)) /\ Reps F xs ds /\ Sta K H0 (upd F a (.lst xs)) (ρ.set i (some (.fz (.list ds)))) σ H := by
  obtain ⟨kt, h1, h2, fp, h3, h4, h5⟩ := s
  obtain ⟨v, e1, a, rfl, e2, e3, xs, e4, e5⟩ := h3 i _ e
  have ha : a ∈ fp i := by rw [e2]; exact List.mem_cons_self
  have hlt := (List.getElem?_eq_some_iff.mp e).1
  have sm : ZaK F (upd F a (.lst xs)) := ZaK.new e3
  refine ⟨a, xs, e3, e4, (h5 i a ha).1, e1, e5, kt.mono sm, ?_, by simp [h2], fun j => if j = i then [] else fp j, fun j t' e' => ?_, fun j k b hb hc => ?_, fun j b hb => ?_⟩
  · intro b u hb
    by_cases z : b = a
    · subst z; rw [Zaj] at hb; rw [e4]; exact hb
    · rw [Zah z] at hb; exact h1 b u hb
  · by_cases hj : j = i
    · subst hj
      rw [List.getElem?_set_self hlt] at e'
      cases e'
      refine ⟨_, e1, ?_, .lst Zaj (e5.mono sm)⟩
      dsimp only
      rw [if_pos rfl]
    · rw [List.getElem?_set_ne (Ne.symm hj)] at e'
      obtain ⟨u, f1, f2⟩ := h3 j t' e'
      refine ⟨u, f1, ?_⟩
      dsimp only
      rw [if_neg hj]
      have na : a ∉ fp j := fun z => hj (h4 j i a z ha)
      have nb : ∀ b, F b = none -> b ≠ a -> upd F a (.lst xs) b = none := fun b hb hn => by rw [Zah hn]; exact hb
      have go : ∀ {b : Addr} {es : List PyData}, b ≠ a -> ZgR F H b es -> ZgR (upd F a (.lst xs)) H b es := fun {b es} hn ⟨z1, zs, z2, z3⟩ => ⟨nb _ z1 hn, zs, z2, z3.mono sm⟩
      cases t' with
      | fz d => exact ⟨f2.1, f2.2.mono sm⟩
      | zow Ψ => exact ⟨f2.1, Ψ.mono sm f2.2⟩
      | ol es =>
        obtain ⟨b, g1, g2, g3⟩ := f2
        exact ⟨b, g1, g2, go (fun z => na (by rw [g2, z]; exact List.mem_cons_self)) g3⟩
      | oll dss =>
        obtain ⟨b, bs, g1, g2, g3, g4, g5, g6⟩ := f2
        refine ⟨b, bs, g1, g2, g3, nb _ g4 (fun z => na (by rw [g2, z]; exact List.mem_cons_self)), g5, ?_⟩
        have nbs : a ∉ bs := fun z => na (by rw [g2]; exact List.mem_cons_of_mem _ z)
        clear g1 g2 g3 g5
        have all : ∀ (bs : List Addr) (dss : List (List PyData)), a ∉ bs -> Za6 F H bs dss -> Za6 (upd F a (.lst xs)) H bs dss := by
          intro bs
          induction bs with
          | nil =>
            intro dss _ h
            cases dss with
            | nil => exact trivial
            | cons _ _ => exact False.elim h
          | cons c cs ih =>
            intro dss hn h
            cases dss with
            | nil => exact False.elim h
            | cons es ess => exact ⟨go (fun z => hn (by rw [z]; exact List.mem_cons_self)) h.1, ih ess (fun z => hn (List.mem_cons_of_mem _ z)) h.2⟩
        exact all bs dss nbs g6
      | scr ns =>
        obtain ⟨g1, b, g2, g3⟩ := f2
        exact ⟨g1, b, g2, g3.mono sm⟩
      | own v0 Φ => exact ⟨f2.1, Φ.mono sm (fun b hb => nb b (Φ.there f2.2 b hb).1 fun z => na (by rw [<- z]; exact hb)) (fun _ _ => rfl) f2.2⟩
  · by_cases hj : j = i
    · simp [hj] at hb
    · by_cases hk : k = i
      · simp [hk] at hc
      · simp only [if_neg hj] at hb
        simp only [if_neg hk] at hc
        exact h4 j k b hb hc
  · by_cases hj : j = i
    · simp [hj] at hb
    · simp only [if_neg hj] at hb
      exact h5 j b hb
inductive Args (K : PySem.W.Frag) (F : Hp) : List V -> List OT -> Prop
  | nil : Args K F [] []
  | fz {v : V} {d : PyData} {vs : List V} {ts : List OT} : Rep F v d -> Args K F vs ts -> Args K F (v :: vs) (.fz d :: ts)
  | zow {v : V} {Ψ : ZP} {vs : List V} {ts : List OT} : Ψ.ok K F v -> Args K F vs ts -> Args K F (v :: vs) (.zow Ψ :: ts)
  | scr {a : Addr} {ns : List Int} {vs : List V} {ts : List OT} : Scr K F a ns -> Args K F vs ts -> Args K F (.ref a :: vs) (.scr ns :: ts)
theorem Args.length {K : PySem.W.Frag} {F : Hp} : ∀ {vs : List V} {ts : List OT}, Args K F vs ts -> vs.length = ts.length
  | _, _, .nil => rfl
  | _, _, .fz _ t => by simp [Args.length t]
  | _, _, .scr _ t => by simp [Args.length t]
  | _, _, .zow _ t => by simp [Args.length t]
theorem Args.get {K : PySem.W.Frag} {F H : Hp} : ∀ {vs : List V} {ts : List OT}, Args K F vs ts -> ∀ (i : Nat) (t : OT), ts[i]? = some t -> ∃ v, vs[i]? = some v /\ ZaH K F H v t []
  | _, _, .nil, i, t, e => by simp at e
  | _, _, .fz r _, 0, t, e => by simp at e; subst e; exact ⟨_, rfl, rfl, r⟩
  | _, _, .scr r _, 0, t, e => by simp at e; subst e; exact ⟨_, rfl, rfl, _, rfl, r⟩
  | _, _, .zow r _, 0, t, e => by simp at e; subst e; exact ⟨_, rfl, rfl, r⟩
  | _, _, .zow _ q, i + 1, t, e => by
    obtain ⟨v, h1, h2⟩ := Args.get (H := H) q i t (by simpa using e)
    exact ⟨v, by simpa using h1, h2⟩
  | _, _, .fz _ q, i + 1, t, e => by
    obtain ⟨v, h1, h2⟩ := Args.get (H := H) q i t (by simpa using e)
    exact ⟨v, by simpa using h1, h2⟩
  | _, _, .scr _ q, i + 1, t, e => by
    obtain ⟨v, h1, h2⟩ := Args.get (H := H) q i t (by simpa using e)
    exact ⟨v, by simpa using h1, h2⟩
section
variable (K : PySem.W.Frag)
noncomputable def EvE (t : TE) (ρ : Zbd) (d : PyData) : Prop := ∀ (H0 F : Hp) (σ : St) (H : Hp) (Q : VK), Sta K H0 F ρ σ H -> (∀ F' H' v, Ext F H F' H' -> Rep F' v d -> Q v H') -> t σ H Q
noncomputable def EvO (t : TE) (ρ : Zbd) (r : OT) : Prop := ∀ (H0 F : Hp) (σ : St) (H : Hp) (Q : VK), Sta K H0 F ρ σ H -> (∀ F' H' v p, Ext F H F' H' -> (∀ a ∈ p, H a = none) -> ZaH K F' H' v r p -> Q v H') -> t σ H Q
noncomputable def EvT (t : TT) (ρ : Zbd) (b : Bool) : Prop := ∀ (H0 F : Hp) (σ : St) (H : Hp) (Q : Bool -> Hp -> Prop), Sta K H0 F ρ σ H -> (∀ F' H', Ext F H F' H' -> Q b H') -> t σ H Q
noncomputable def EvA (t : TA) (ρ : Zbd) (ts : List OT) : Prop := ∀ (H0 F : Hp) (σ : St) (H : Hp) (Q : List V -> Hp -> Prop), Sta K H0 F ρ σ H -> (∀ F' H' vs, Ext F H F' H' -> Args K F' vs ts -> Q vs H') -> t σ H Q
noncomputable def Zoo (F' : Hp) (J : It) (ds : List PyData) : Prop := ∀ (F'' H'' : Hp), ZaK F' F'' -> ZaK F'' H'' -> J.stop ds.length H'' /\
  ∀ (i : Nat) (d : PyData), ds[i]? = some d -> J.go i H'' /\ ∀ x H3, J.yld i H'' x H3 -> ∃ F3, Ext F'' H'' F3 H3 /\ Rep F3 x d
noncomputable def EvI (wi : TI) (ρ : Zbd) (ds : List PyData) : Prop := ∀ (H0 F : Hp) (σ : St) (H : Hp) (R : It -> Hp -> Prop), Sta K H0 F ρ σ H -> (∀ F' H' J, Ext F H F' H' -> Zoo F' J ds -> R J H') -> wi σ H R
noncomputable def GTo (g : TG) (d : PyData) (ρ ρ' : Zbd) : Prop := ∀ (H0 F : Hp) (σ : St) (H : Hp) (x : V) (Q : St -> Hp -> Prop), Sta K H0 F ρ σ H -> Rep F x d -> (∀ σ', Sta K H0 F ρ' σ' H -> Q σ' H) -> g x σ H Q
noncomputable def Zrf (g : TGs) (ds : List PyData) (ρ ρ' : Zbd) : Prop := ∀ (H0 F : Hp) (σ : St) (H : Hp) (xs : List V) (Q : St -> Hp -> Prop), Sta K H0 F ρ σ H -> Reps F xs ds -> (∀ σ', Sta K H0 F ρ' σ' H -> Q σ' H) -> g xs σ H Q
structure PEnds where
  nx : Zbd -> Prop
  rt : OT -> Prop
  bk : Zbd -> Prop := fun _ => False
  ct : Zbd -> Prop := fun _ => False
structure Cnv (F0 H0 : Hp) (D : PEnds) (E : Ends) : Prop where
  nx : ∀ F σ H ρ, Ext F0 H0 F H -> Sta K H0 F ρ σ H -> D.nx ρ -> E.nx σ H
  rt : ∀ F H v r p, Ext F0 H0 F H -> (∀ a ∈ p, H0 a = none) -> ZaH K F H v r p -> D.rt r -> E.rt v H
  bk : ∀ F σ H ρ, Ext F0 H0 F H -> Sta K H0 F ρ σ H -> D.bk ρ -> E.bk σ H
  ct : ∀ F σ H ρ, Ext F0 H0 F H -> Sta K H0 F ρ σ H -> D.ct ρ -> E.ct σ H
noncomputable def EvS (t : TS) (ρ : Zbd) (D : PEnds) : Prop := ∀ (F0 H0 F : Hp) (σ : St) (H : Hp) (E : Ends), Ext F0 H0 F H -> Sta K H0 F ρ σ H -> Cnv K F0 H0 D E -> t E σ H
end
section
variable {K : PySem.W.Frag} {ρ : Zbd} {ta tb tc : TE} {tA tB' : TT}
theorem EvE.o {t : TE} {d : PyData} (h : EvE K t ρ d) : EvO K t ρ (.fz d) := fun H0 F σ H Q S q => h H0 F σ H Q S fun F' H' v x r => q F' H' v [] x (fun _ z => nomatch z) ⟨rfl, r⟩
theorem EvO.e {t : TE} {d : PyData} (h : EvO K t ρ (.fz d)) : EvE K t ρ d := fun H0 F σ H Q S q => h H0 F σ H Q S fun F' H' v p x _ r => q F' H' v x r.2
theorem EvO.fz {t : TE} {ds : List PyData} (h : EvO K t ρ (.ol ds)) : EvE K t ρ (.list ds) := fun H0 F σ H Q S q => h H0 F σ H Q S fun F' H' v p x hp r => by
  obtain ⟨a, rfl, rfl, r1, xs, r2, r3⟩ := r
  refine q (upd F' a (.lst xs)) H' _ (x.freeze r1 r2 (hp a List.mem_cons_self)) (.lst Zaj (r3.mono (ZaK.new r1)))
theorem Zac {i : Nat} {d : PyData} (e : ρ[i]? = some (some (.fz d))) : EvE K (ZcR i) ρ d := fun H0 F σ H Q S q => by
  obtain ⟨fp, h, _⟩ := S.fp
  obtain ⟨v, e1, e2⟩ := h i _ e
  exact ⟨v, e1, q F H v (Ext.refl S.sub) e2.2⟩
theorem ZbU {i : Int} : EvE K (tC (.int i)) ρ (.int i) := fun H0 F σ H Q S q => q F H _ (Ext.refl S.sub) (.int i)
theorem Zrt {b : Bool} : EvE K (tC (.bl b)) ρ (.bool b) := fun H0 F σ H Q S q => q F H _ (Ext.refl S.sub) (.bl b)
theorem ZpR : EvE K (tC .non) ρ .none := fun H0 F σ H Q S q => q F H _ (Ext.refl S.sub) .non
theorem Zop {x : Str} : EvE K (tC (.str x)) ρ (.str x) := fun H0 F σ H Q S q => q F H _ (Ext.refl S.sub) (.str x)
theorem ZdO {a b : PyData} {Q : VK} {r : R2} {H0 F H : Hp} {σ : St} (ha : EvE K ta ρ a) (hb : EvE K tb ρ b) (S : Sta K H0 F ρ σ H)
    (h : ∀ F' H' x y, Ext F H F' H' -> Rep F' x a -> Rep F' y b -> r x y H' Q) : tOp r ta tb σ H Q :=
  ha H0 F σ H _ S fun F1 H1 x x1 r1 => hb H0 F1 σ H1 _ (S.ext x1) fun F2 H2 y x2 r2 => h F2 H2 x y (x1.trans x2) (r1.mono x2.ff) r2
theorem Zea {g : Int -> Int -> Int} {x y : Int} (ha : EvE K ta ρ (.int x)) (hb : EvE K tb ρ (.int y)) : EvE K (tOp (rI0 fun i j => .int (g i j)) ta tb) ρ (.int (g x y)) := fun H0 F σ H Q S q =>
  ZdO ha hb S fun F' H' u v e r1 r2 => by cases r1; cases r2; exact ⟨x, y, rfl, rfl, q F' H' _ e (.int _)⟩
theorem Zgd {g : Int -> Int -> Bool} {x y : Int} (ha : EvE K ta ρ (.int x)) (hb : EvE K tb ρ (.int y)) : EvE K (tOp (rI0 fun i j => .bl (g i j)) ta tb) ρ (.bool (g x y)) := fun H0 F σ H Q S q =>
  ZdO ha hb S fun F' H' u v e r1 r2 => by cases r1; cases r2; exact ⟨x, y, rfl, rfl, q F' H' _ e (.bl _)⟩
theorem ZhJ {C : Int -> Int -> Prop} {g : Int -> Int -> Int} {x y : Int} (ha : EvE K ta ρ (.int x)) (hb : EvE K tb ρ (.int y)) (hc : C x y) : EvE K (tOp (rI C fun i j => .int (g i j)) ta tb) ρ (.int (g x y)) := fun H0 F σ H Q S q =>
  ZdO ha hb S fun F' H' u v e r1 r2 => by cases r1; cases r2; exact ⟨x, y, rfl, rfl, hc, q F' H' _ e (.int _)⟩
theorem Zsk {g : Int -> Int} {x : Int} (ha : EvE K ta ρ (.int x)) : EvE K (tUn (rU fun i => .int (g i)) ta) ρ (.int (g x)) := fun H0 F σ H Q S q =>
  ha H0 F σ H _ S fun F1 H1 v x1 r1 => by cases r1; exact ⟨x, rfl, q F1 H1 _ x1 (.int _)⟩
noncomputable def Zd8 : PyData -> Option V
  | .none => some .non
  | .bool b => some (.bl b)
  | .int i => some (.int i)
  | .str x => some (.str x)
  | _ => Option.none
theorem Rep.flat {H : Hp} {x v : V} {d : PyData} (r : Rep H x d) (e : Zd8 d = some v) : x = v := by
  cases r <;> simp [Zd8] at e <;> exact e
theorem Zqm {a b : PyData} {v w : V} (ha : EvE K ta ρ a) (hb : EvE K tb ρ b) (e1 : Zd8 a = some v) (e2 : Zd8 b = some w) (hs : ∀ (H : Hp) (Q : VK), Q (.bl (decide (v = w))) H -> rEq v w H Q) :
    EvE K (tOp rEq ta tb) ρ (.bool (decide (v = w))) := fun H0 F σ H Q S q =>
  ZdO ha hb S fun F' H' x y e r1 r2 => by rw [r1.flat e1, r2.flat e2]; exact hs _ _ (q F' H' _ e (.bl _))
theorem ZpT {a b : PyData} {v w : V} (ha : EvE K ta ρ a) (hb : EvE K tb ρ b) (e1 : Zd8 a = some v) (e2 : Zd8 b = some w) (hs : ∀ (H : Hp) (Q : VK), Q (.bl (!decide (v = w))) H -> rNe v w H Q) :
    EvE K (tOp rNe ta tb) ρ (.bool (!decide (v = w))) := fun H0 F σ H Q S q =>
  ZdO ha hb S fun F' H' x y e r1 r2 => by rw [r1.flat e1, r2.flat e2]; exact hs _ _ (q F' H' _ e (.bl _))
theorem ZiS {x y : Int} : decide (V.int x = V.int y) = decide (x = y) := by
  by_cases h : x = y
  · subst h; simp
  · rw [decide_eq_false h, decide_eq_false (fun z => h (by injection z))]
theorem ZnL {x y : Int} (ha : EvE K ta ρ (.int x)) (hb : EvE K tb ρ (.int y)) : EvE K (tOp rEq ta tb) ρ (.bool (decide (x = y))) := by
  rw [<- ZiS]
  exact Zqm ha hb rfl rfl fun H Q q => ⟨rfl, q⟩
theorem Zlf {x y : Int} (ha : EvE K ta ρ (.int x)) (hb : EvE K tb ρ (.int y)) : EvE K (tOp rNe ta tb) ρ (.bool (!decide (x = y))) := by
  rw [<- ZiS]
  exact ZpT ha hb rfl rfl fun H Q q => ⟨rfl, q⟩
noncomputable def ZfO : PyData -> Bool
  | .none => true
  | _ => false
theorem Rep.isNon {H : Hp} {x : V} {d : PyData} (r : Rep H x d) : decide (x = .non) = ZfO d := by cases r <;> rfl
theorem Zqz {a : PyData} (ha : EvE K ta ρ a) : EvE K (ZrY ta) ρ (.bool (ZfO a)) := fun H0 F σ H Q S q =>
  ha H0 F σ H _ S fun F1 H1 v x1 r1 => by rw [r1.isNon]; exact q F1 H1 _ x1 (.bl _)
theorem ZdT {a : PyData} (ha : EvE K ta ρ a) : EvE K (Zqt ta) ρ (.bool (!ZfO a)) := fun H0 F σ H Q S q =>
  ha H0 F σ H _ S fun F1 H1 v x1 r1 => by rw [r1.isNon]; exact q F1 H1 _ x1 (.bl _)
theorem Zbu {b : Bool} (h : EvE K ta ρ (.bool b)) : EvT K (Zou ta) ρ b := fun H0 F σ H Q S q => h H0 F σ H _ S fun F1 H1 v x1 r1 => by cases r1; exact ⟨b, rfl, q F1 H1 x1⟩
theorem ZlZ {b : Bool} (h : EvE K ta ρ (.bool b)) : EvT K (tB ta) ρ b := fun H0 F σ H Q S q => h H0 F σ H _ S fun F1 H1 v x1 r1 => by cases r1; exact ⟨b, rfl, q F1 H1 x1⟩
theorem ZqU : EvT K Zpt ρ true := fun H0 F σ H Q S q => q F H (Ext.refl S.sub)
theorem Zqn {b c : Bool} (h1 : EvT K tA ρ b) (h2 : b = true -> EvT K tB' ρ c) : EvT K (ZrQ tA tB') ρ (b && c) := fun H0 F σ H Q S q => h1 H0 F σ H _ S fun F1 H1 x1 => by
  cases b with
  | true => rw [if_pos rfl]; exact h2 rfl H0 F1 σ H1 Q (S.ext x1) fun F2 H2 x2 => by simpa using q F2 H2 (x1.trans x2)
  | false => rw [if_neg Bool.false_ne_true]; simpa using q F1 H1 x1
theorem Zpe {b c : Bool} (h1 : EvT K tA ρ b) (h2 : b = false -> EvT K tB' ρ c) : EvT K (tOr tA tB') ρ (b || c) := fun H0 F σ H Q S q => h1 H0 F σ H _ S fun F1 H1 x1 => by
  cases b with
  | false => rw [if_neg Bool.false_ne_true]; exact h2 rfl H0 F1 σ H1 Q (S.ext x1) fun F2 H2 x2 => by simpa using q F2 H2 (x1.trans x2)
  | true => rw [if_pos rfl]; simpa using q F1 H1 x1
theorem ZkN {b : Bool} (h1 : EvT K tA ρ b) : EvT K (ZrV tA) ρ (!b) := fun H0 F σ H Q S q => h1 H0 F σ H _ S fun F1 H1 x1 => q F1 H1 x1
theorem ZqD {b c : Bool} (h1 : EvE K ta ρ (.bool b)) (h2 : b = true -> EvE K tb ρ (.bool c)) : EvE K (Zqw ta tb) ρ (.bool (b && c)) := fun H0 F σ H Q S q => h1 H0 F σ H _ S fun F1 H1 v x1 r1 => by
  cases r1
  refine ⟨b, rfl, ?_⟩
  cases b with
  | true => rw [if_pos rfl]; exact h2 rfl H0 F1 σ H1 Q (S.ext x1) fun F2 H2 v x2 r2 => by simpa using q F2 H2 v (x1.trans x2) (by simpa using r2)
  | false => rw [if_neg Bool.false_ne_true]; exact q F1 H1 _ x1 (.bl _)
theorem ZrF {b : Bool} (h1 : EvE K ta ρ (.bool b)) : EvE K (ZqT ta) ρ (.bool (!b)) := fun H0 F σ H Q S q => h1 H0 F σ H _ S fun F1 H1 v x1 r1 => by cases r1; exact ⟨b, rfl, q F1 H1 _ x1 (.bl _)⟩
theorem ZiH {g g' : Int -> Int -> Bool} {x y z : Int} (ha : EvE K ta ρ (.int x)) (hb : EvE K tb ρ (.int y)) (hc : EvE K tc ρ (.int z)) :
    EvE K (ZlR (rI0 fun i j => .bl (g i j)) (rI0 fun i j => .bl (g' i j)) ta tb tc) ρ (.bool (g x y && g' y z)) := fun H0 F σ H Q S q =>
  ha H0 F σ H _ S fun F1 H1 v x1 r1 => hb H0 F1 σ H1 _ (S.ext x1) fun F2 H2 w x2 r2 => by
    cases r1; cases r2
    refine ⟨x, y, rfl, rfl, g x y, rfl, ?_⟩
    cases e : g x y with
    | true => rw [if_pos rfl]; exact hc H0 F2 σ H2 _ (S.ext (x1.trans x2)) fun F3 H3 u x3 r3 => by cases r3; exact ⟨y, z, rfl, rfl, by simpa [e] using q F3 H3 _ ((x1.trans x2).trans x3) (by rw [e]; exact .bl _)⟩
    | false => rw [if_neg Bool.false_ne_true]; simpa [e] using q F2 H2 _ (x1.trans x2) (by rw [e]; exact .bl _)
theorem Zam : EvA K Zds ρ [] := fun H0 F σ H Q S q => q F H [] (Ext.refl S.sub) .nil
theorem Zad {t : TA} {d : PyData} {ts : List OT} (h1 : EvE K ta ρ d) (h2 : EvA K t ρ ts) : EvA K (ZaV ta t) ρ (.fz d :: ts) := fun H0 F σ H Q S q =>
  h1 H0 F σ H _ S fun F1 H1 v x1 r1 => h2 H0 F1 σ H1 _ (S.ext x1) fun F2 H2 vs x2 r2 => q F2 H2 _ (x1.trans x2) (.fz (r1.mono x2.ff) r2)
theorem ZrI {t : TA} {i : Nat} {ns : List Int} {ts : List OT} (e : ρ[i]? = some (some (.scr ns))) (h2 : EvA K t ρ ts) : EvA K (ZaV (ZcR i) t) ρ (.scr ns :: ts) := fun H0 F σ H Q S q => by
  obtain ⟨fp, h, _⟩ := S.fp
  obtain ⟨v, e1, _, a, rfl, e3⟩ := h i _ e
  exact ⟨_, e1, h2 H0 F σ H _ S fun F2 H2 vs x2 r2 => q F2 H2 _ x2 (.scr (e3.mono x2.ff) r2)⟩
theorem ZnS {t : TA} {i : Nat} {Ψ : ZP} {ts : List OT} (e : ρ[i]? = some (some (.zow Ψ))) (h2 : EvA K t ρ ts) : EvA K (ZaV (ZcR i) t) ρ (.zow Ψ :: ts) := fun H0 F σ H Q S q => by
  obtain ⟨fp, h, _⟩ := S.fp
  obtain ⟨v, e1, _, e3⟩ := h i _ e
  exact ⟨_, e1, h2 H0 F σ H _ S fun F2 H2 vs x2 r2 => q F2 H2 _ x2 (.zow (Ψ.mono x2.ff e3) r2)⟩
noncomputable def fzs (ds : List PyData) : List OT := ds.map OT.fz
theorem Args.reps {F : Hp} : ∀ {vs : List V} {ds : List PyData}, Args K F vs (fzs ds) -> Reps F vs ds
  | _, [], .nil => .nil
  | _, _ :: _, .fz r t => .cons r (Args.reps t)
theorem Zj3 {t : TA} {ds : List PyData} (h : EvA K t ρ (fzs ds)) (hl : ds.length <= 1000) : EvE K (Zrj t) ρ (.tuple ds) := fun H0 F σ H Q S q =>
  h H0 F σ H _ S fun F1 H1 vs x1 r1 => ⟨by rw [r1.reps.length]; exact Nat.le_of_lt (ZaN hl), fun p hp => by
    have s1 := x1.fh
    exact q _ _ _ (x1.trans (Ext.new s1 hp)) (.tup Zaj (r1.reps.mono (ZaK.new (s1.free hp))))⟩
theorem Zfs {F0 H0 F H : Hp} {p : Addr} {xs : List V} {ds : List PyData} (x : Ext F0 H0 F H) (hp : H p = none) (r : Reps F xs ds) : Ext F0 H0 F (upd H p (.lst xs)) /\ (∀ a ∈ [p], H0 a = none) /\ ZaH K F (upd H p (.lst xs)) (.ref p) (.ol ds) [p] :=
  ⟨x.trans (Ext.own x.fh hp), fun a ha => by
    have e : a = p := by simpa using ha
    subst e; exact x.hh.free hp, p, rfl, rfl, x.fh.free hp, xs, Zaj, r⟩
theorem ZdM {t : TA} {ds : List PyData} (h : EvA K t ρ (fzs ds)) (hl : ds.length <= 1000) : EvO K (Zrc t) ρ (.ol ds) := fun H0 F σ H Q S q =>
  h H0 F σ H _ S fun F1 H1 vs x1 r1 => ⟨by rw [r1.reps.length]; exact Nat.le_of_lt (ZaN hl), fun p hp => by
    obtain ⟨a, b, c⟩ := Zfs (K := K) x1 hp r1.reps
    exact q _ _ _ _ a b c⟩
theorem Zcc {F H : Hp} {x : V} {ds : List PyData} (r : Rep F x (.list ds)) (s : ZaK F H) : ∃ a xs, x = .ref a /\ SqL K H a xs /\ Reps F xs ds /\ H a = some (.lst xs) := by
  cases r with
  | lst ha rr => exact ⟨_, _, rfl, SqL.of (s _ _ ha), rr, s _ _ ha⟩
theorem ZeM {F H : Hp} {x : V} {ds : List PyData} (r : Rep F x (.tuple ds)) (s : ZaK F H) : ∃ a xs, x = .ref a /\ SqT K H a xs /\ Reps F xs ds /\ H a = some (.tup xs) := by
  cases r with
  | tup ha rr => exact ⟨_, _, rfl, SqT.of (s _ _ ha), rr, s _ _ ha⟩
theorem ZdY {F : Hp} {xs : List V} {ds : List PyData} {i : Int} {d : PyData} (r : Reps F xs ds) (e : atI ds i = some d) : ∃ z, atI xs i = some z /\ Rep F z d := by
  obtain ⟨j, e1, e2⟩ := ZnH e
  obtain ⟨z, z1, z2⟩ := r.get e1
  refine ⟨z, ?_, z2⟩
  unfold atI
  rw [r.length, e2]
  exact z1
theorem Zgg {ds : List PyData} {i : Int} {d : PyData} (ha : EvE K ta ρ (.list ds)) (hb : EvE K tb ρ (.int i)) (e : atI ds i = some d) : EvE K (tOp (rIx K) ta tb) ρ d := fun H0 F σ H Q S q =>
  ZdO ha hb S fun F' H' x y x1 r1 r2 => by
    obtain ⟨a, xs, rfl, h1, h2, _⟩ := Zcc (K := K) r1 x1.fh
    obtain ⟨z, z1, z2⟩ := ZdY h2 e
    cases r2
    exact .inl ⟨a, xs, i, z, rfl, rfl, h1, z1, q F' H' z x1 z2⟩
theorem Zef {ds : List PyData} {i : Int} {d : PyData} (ha : EvE K ta ρ (.tuple ds)) (hb : EvE K tb ρ (.int i)) (e : atI ds i = some d) : EvE K (tOp (rIx K) ta tb) ρ d := fun H0 F σ H Q S q =>
  ZdO ha hb S fun F' H' x y x1 r1 r2 => by
    obtain ⟨a, xs, rfl, h1, h2, _⟩ := ZeM (K := K) r1 x1.fh
    obtain ⟨z, z1, z2⟩ := ZdY h2 e
    cases r2
    exact .inr (.inl ⟨a, xs, i, z, rfl, rfl, h1, z1, q F' H' z x1 z2⟩)
theorem ZrP {i : Nat} {ds : List PyData} {k : Int} {d : PyData} (e0 : ρ[i]? = some (some (.ol ds))) (hb : EvE K tb ρ (.int k)) (e : atI ds k = some d) : EvE K (tOp (rIx K) (ZcR i) tb) ρ d := fun H0 F σ H Q S q => by
  obtain ⟨fp, h, _⟩ := S.fp
  obtain ⟨v, e1, a, rfl, _, o1⟩ := h i _ e0
  refine ⟨_, e1, hb H0 F σ H _ S fun F1 H1 y x1 r1 => ?_⟩
  obtain ⟨f1, xs, f2, f3⟩ := o1.ext x1
  obtain ⟨z, z1, z2⟩ := ZdY f3 e
  cases r1
  exact .inl ⟨a, xs, k, z, rfl, rfl, SqL.of f2, z1, q F1 H1 z x1 z2⟩
theorem ZrG {i : Nat} {ns : List Int} {k n : Int} (e0 : ρ[i]? = some (some (.scr ns))) (hb : EvE K tb ρ (.int k)) (e : atI ns k = some n) : EvE K (tOp (rIx K) (ZcR i) tb) ρ (.int n) := fun H0 F σ H Q S q => by
  obtain ⟨fp, h, _⟩ := S.fp
  obtain ⟨v, e1, _, a, rfl, sc⟩ := h i _ e0
  refine ⟨_, e1, hb H0 F σ H _ S fun F1 H1 y x1 r1 => ?_⟩
  cases r1
  obtain ⟨j, j1, j2⟩ := ZnH e
  have z1 : atI (ns.map V.int) k = some (.int n) := by
    unfold atI
    rw [List.length_map, j2]
    show (ns.map V.int)[j]? = _
    rw [List.getElem?_map, j1]
    rfl
  exact .inl ⟨a, _, k, _, rfl, rfl, (x1.ff.trans x1.fh).seq sc.sq, z1, q F1 H1 _ x1 (.int n)⟩
noncomputable def spO (R : List OT -> OT -> Prop) : Sp := fun vs H Q _ => ∃ F ts r, KTs K F /\ ZaK F H /\ Args K F vs ts /\ R ts r /\ ∀ F' H' v p, Ext F H F' H' -> (∀ a ∈ p, H a = none) -> ZaH K F' H' v r p -> Q v H'
theorem Zd2 {R : List OT -> OT -> Prop} {t : TA} {E : XK} {ts : List OT} {r : OT} (h : EvA K t ρ ts) (hR : R ts r) : EvO K (ZhC (spO (K := K) R) [] E t) ρ r := fun H0 F σ H Q S q =>
  h H0 F σ H _ S fun F1 H1 vs x1 r1 => by
    refine ⟨F1, ts, r, (S.ext x1).kt, x1.fh, by rw [List.append_nil]; exact r1, hR, fun F2 H2 v p x2 hp ok => q F2 H2 v p (x1.trans x2) (fun a ha => x1.hh.free (hp a ha)) ok⟩
theorem Za4 {R : List OT -> OT -> Prop} {t : TA} {E : XK} {ts : List OT} {d : PyData} (h : EvA K t ρ ts) (hR : R ts (.fz d)) : EvE K (ZhC (spO (K := K) R) [] E t) ρ d := (Zd2 h hR).e
theorem Znd {R : List OT -> OT -> Prop} {t : TA} {E : XK} {ts : List OT} {ds : List PyData} (h : EvA K t ρ ts) (hR : R ts (.ol ds)) : EvE K (ZhC (spO (K := K) R) [] E t) ρ (.list ds) := (Zd2 h hR).fz
end
theorem Df.ev {P : Program} {w : World} {K : PySem.W.Frag} {mg : Str -> Option Value} {base : Heap} {x : Str} {st : Stmt} {N ps : List Str} {k : Nat} {R : List OT -> OT -> Prop} (D : Df K mg x st ps) (S : FnScope N ps (Zab st)) (len : ∀ ts r, R ts r -> ts.length = ps.length)
    (hbody : ∀ (f : Addr) (cdv : Value) (A : Around) (outer : List Env) (s : Shared) (H : Hp) (E : XK) (ts : List OT) (r : OT), Room k (A.deeper (envOfC x (Zab st) s.heap.objs.size f cdv)) -> R ts r ->
      ∃ t, PSs (ZhV CX0 P w K mg base N x (Zab st) f cdv A outer s H E).nox (Zan st) t /\ EvS K t (ts.map some ++ List.replicate (N.length - ts.length) none) { nx := fun _ => r = .fz .none, rt := fun r' => r' = r }) : Cal P w K mg base x ps (k + 1) (spO (K := K) R) := by
  refine D.cal S (fun vs H Q E ⟨F, ts, r, _, _, ha, hR, _⟩ => ha.length.trans (len ts r hR)) fun f cdv A outer s H vs Q E hr ⟨F, ts, r, kt, sm, ha, hR, q⟩ => ?_
  obtain ⟨t, h1, h2⟩ := hbody f cdv A outer s H E ts r hr hR
  refine ⟨t, h1, h2 F H F (start N vs) H _ (Ext.refl sm) ⟨kt, sm, ?_, fun _ => [], fun i t' e => ?_, fun i j a h => (nomatch h), fun i a h => (nomatch h)⟩ ⟨fun F' σ' H' ρ' x' _ e => ?_, fun F' H' v r' p x' hp ok e => ?_, fun _ _ _ _ _ _ z => False.elim z, fun _ _ _ _ _ _ z => False.elim z⟩⟩
  · unfold start
    simp [ha.length]
  · have hlt : i < ts.length := by
      by_cases z : i < ts.length
      · exact z
      · rw [List.getElem?_append_right (by simpa using z)] at e
        have := List.mem_of_getElem? e
        simp at this
    rw [List.getElem?_append_left (by simpa using hlt), List.getElem?_map] at e
    have e' : ts[i]? = some t' := by
      cases z : ts[i]? with
      | none => rw [z] at e; simp at e
      | some w => rw [z] at e; simp at e; rw [e]
    obtain ⟨v, e1, e2⟩ := ha.get (H := H) i t' e'
    refine ⟨v, ?_, e2⟩
    unfold start
    have hl2 : i < vs.length := by rw [ha.length]; exact hlt
    rw [List.getElem?_append_left (by simpa using hl2), List.getElem?_map, e1]
    rfl
  · subst e
    exact q F' H' _ [] x' (fun _ z => nomatch z) ⟨rfl, .non⟩
  · subst e
    exact q F' H' v p x' hp ok
end L2
end
section
namespace L2
open PySem PySem.Spec PyProof.Rows
theorem Zfv : ∀ {as bs : List Addr}, as.map V.ref = bs.map V.ref -> as = bs
  | [], [], _ => rfl
  | [], _ :: _, h => by simp at h
  | _ :: _, [], h => by simp at h
  | a :: as, b :: bs, h => by
    simp only [List.map_cons, List.cons.injEq] at h
    obtain ⟨h1, h2⟩ := h
    injection h1 with h1
    rw [h1, Zfv h2]
theorem Zmr (x : Int) (ns : List Int) : inV (.int x) (ns.map V.int) = decide (x ∈ ns) := by
  induction ns with
  | nil => rfl
  | cons b l ih =>
    show (eqV (.int b) (.int x) || inV (.int x) (l.map V.int)) = _
    rw [ih]
    show ((b == x) || decide (x ∈ l)) = _
    by_cases hx : x = b
    · subst hx; simp
    · have : (b == x) = false := by rw [beq_eq_false_iff_ne]; exact fun z => hx z.symm
      rw [this]
      simp [hx]
section
variable {K : PySem.W.Frag} {ρ : Zbd} {ta tb tc te : TE} {tA : TT} {t u : TS} {D : PEnds}
theorem ZaF (h : D.nx ρ) : EvS K Zqp ρ D := fun F0 H0 F σ H E x S C => C.nx F σ H ρ x S h
theorem Zas (h : EvS K t ρ { D with nx := fun ρ' => EvS K u ρ' D }) : EvS K (ZrA t u) ρ D := fun F0 H0 F σ H E x S C =>
  h F0 H0 F σ H { E with nx := u E } x S ⟨fun F' σ' H' ρ' x' S' q => q F0 H0 F' σ' H' E x' S' C, C.rt, C.bk, C.ct⟩
theorem ZnJ (M : Zbd -> Prop) (h : EvS K t ρ { D with nx := M }) (h2 : ∀ ρ', M ρ' -> EvS K u ρ' D) : EvS K (ZrA t u) ρ D := fun F0 H0 F σ H E x S C =>
  h F0 H0 F σ H { E with nx := u E } x S ⟨fun F' σ' H' ρ' x' S' q => h2 ρ' q F0 H0 F' σ' H' E x' S' C, C.rt, C.bk, C.ct⟩
theorem ZcJ {ρ' : Zbd} (f : Fgt ρ ρ') (h : EvS K t ρ' D) : EvS K t ρ D := fun F0 H0 F σ H E x S C => h F0 H0 F σ H E x (S.fgt f) C
theorem Zkj (i : Nat) {ds : List PyData} (e : ρ[i]? = some (some (.ol ds))) (h : EvS K t (ρ.set i (some (.fz (.list ds)))) D) : EvS K t ρ D := fun F0 H0 F σ H E x S C => by
  obtain ⟨a, xs, e1, e2, e3, _, _, S'⟩ := S.freeze e
  exact h F0 H0 _ σ H E (x.freeze e1 e2 e3) S' C
theorem Zfk {r : OT} (h : EvO K te ρ r) (hr : D.rt r) : EvS K (ZpB te) ρ D := fun F0 H0 F σ H E x S C =>
  h H0 F σ H _ S fun F' H' v p x' hp ok => C.rt F' H' v r p (x.trans x') (fun a ha => x.hh.free (hp a ha)) ok hr
theorem ZbX {d : PyData} (h : EvE K te ρ d) (hr : D.rt (.fz d)) : EvS K (ZpB te) ρ D := Zfk h.o hr
theorem Zg3 {i : Nat} {ds : List PyData} (e : ρ[i]? = some (some (.ol ds))) (hr : D.rt (.ol ds)) : EvS K (ZpB (ZcR i)) ρ D := fun F0 H0 F σ H E x S C => by
  obtain ⟨fp, h, _, h5⟩ := S.fp
  obtain ⟨v, e1, ok⟩ := h i _ e
  exact ⟨v, e1, C.rt F H v _ _ x (fun a ha => (h5 i a ha).1) ok hr⟩
theorem Zdm {b : Bool} (h : EvT K tA ρ b) (h1 : b = true -> EvS K t ρ D) (h2 : b = false -> EvS K u ρ D) : EvS K (ZrH tA t u) ρ D := fun F0 H0 F σ H E x S C =>
  h H0 F σ H _ S fun F' H' x' => by
    cases b with
    | true => rw [if_pos rfl]; exact h1 rfl F0 H0 F' σ H' E (x.trans x') (S.ext x') C
    | false => rw [if_neg Bool.false_ne_true]; exact h2 rfl F0 H0 F' σ H' E (x.trans x') (S.ext x') C
theorem ZcZ {i : Nat} {r : OT} (h : EvO K te ρ r) (hn : D.nx (ρ.set i (some r))) : EvS K (Zmc te (Zg7 i)) ρ D := fun F0 H0 F σ H E x S C =>
  h H0 F σ H _ S fun F' H' v p x' hp ok => by
    refine C.nx F' _ H' _ (x.trans x') ((S.ext x').set ok (fun a ha => x.hh.free (hp a ha)) (hn := fun a ha j w t' q e1 e2 ok' => ?_)) hn
    obtain ⟨fp, g1, g2, g3⟩ := S.fp
    obtain ⟨w', f1, f2⟩ := g1 j t' e1
    intro hq
    have f3 := f2.ext x'
    rw [e2] at f1
    cases f1
    have same : ∀ b ∈ q, b ∈ fp j := by
      cases t' with
      | fz d => rw [ok'.1]; intro b hb; cases hb
      | zow Ψ => rw [ok'.1]; intro b hb; cases hb
      | ol ds =>
        obtain ⟨b1, z1, z2, z3⟩ := ok'
        obtain ⟨b2, y1, y2, y3⟩ := f3
        rw [z1] at y1
        cases y1
        rw [z2, y2]
        exact fun _ z => z
      | oll dss =>
        obtain ⟨b1, bs1, z1, z2, z3, z4, z5, z6⟩ := ok'
        obtain ⟨b2, bs2, y1, y2, y3, y4, y5, y6⟩ := f3
        rw [z1] at y1
        cases y1
        rw [z5] at y5
        have e5 : bs1.map V.ref = bs2.map V.ref := by injection y5 with z; injection z
        have e6 : bs1 = bs2 := Zfv e5
        rw [z2, y2, e6]
        exact fun _ z => z
      | scr ns => rw [ok'.1]; intro b hb; cases hb
      | own v0 Φ => exact fun b hb => Φ.uniq f3.2 ok'.2 b hb
    exact (g3 j a (same a hq)).2 (hp a ha)
theorem ZcP {i : Nat} {d : PyData} (h : EvE K te ρ d) (hn : D.nx (ρ.set i (some (.fz d)))) : EvS K (Zmc te (Zg7 i)) ρ D := ZcZ h.o hn
theorem ZbS {i : Nat} {d : PyData} : GTo K (Zg7 i) d ρ (ρ.set i (some (.fz d))) := fun H0 F σ H x Q S r q => q _ (S.setF r)
theorem Zjl : Zrf K Zrn [] ρ ρ := fun H0 F σ H xs Q S r q => by cases r; exact ⟨rfl, q _ S⟩
theorem ZcN {g : TG} {gs : TGs} {d : PyData} {ds : List PyData} {ρ1 ρ2 : Zbd} (h1 : GTo K g d ρ ρ1) (h2 : Zrf K gs ds ρ1 ρ2) : Zrf K (Zp6 g gs) (d :: ds) ρ ρ2 := fun H0 F σ H xs Q S r q => by
  cases r with
  | cons r1 r2 => exact ⟨_, _, rfl, h1 H0 F σ H _ _ S r1 fun σ1 S1 => h2 H0 F σ1 H _ _ S1 r2 q⟩
theorem Zm1 {n : Nat} {gs : TGs} {ds : List PyData} {ρ1 : Zbd} (h : Zrf K gs ds ρ ρ1) (hn : ds.length = n) : GTo K (Zr9 K n gs) (.tuple ds) ρ ρ1 := fun H0 F σ H x Q S r q => by
  obtain ⟨a, xs, rfl, h1, h2, _⟩ := ZeM (K := K) r S.sub
  exact ⟨a, xs, rfl, h1, by rw [h2.length, hn], h H0 F σ H xs Q S h2 q⟩
theorem ZpQ {g : TG} {d : PyData} {ρ' : Zbd} (h : EvE K te ρ d) (hg : GTo K g d ρ ρ') (hn : D.nx ρ') : EvS K (Zmc te g) ρ D := fun F0 H0 F σ H E x S C =>
  h H0 F σ H _ S fun F' H' v x' r => hg H0 F' σ H' v _ (S.ext x') r fun σ' S' => C.nx F' σ' H' ρ' (x.trans x') S' hn
theorem Ext.wr {F0 H0 F H : Hp} {a : Addr} {o : HO} (x : Ext F0 H0 F H) (h0 : H0 a = none) (hf : F a = none) : Ext F0 H0 F (upd H a o) :=
  ⟨x.hh.upd h0, x.ff, x.fh.upd hf, x.fr⟩
theorem Zer {i : Nat} {ds : List PyData} {d : PyData} (e : ρ[i]? = some (some (.ol ds))) (h : EvE K te ρ d) (hl : ds.length < 1000) (hn : D.nx (ρ.set i (some (.ol (ds ++ [d]))))) :
    EvS K (Zit (tBM K "list" Ze2 (ZcR i) (ZaV te Zds))) ρ D := fun F0 H0 F σ H E x S C => by
  obtain ⟨a, xs, e1, e2, e3, _⟩ := S.write e
  refine ⟨_, e1, .inl ⟨rfl, _, SqL.of e2⟩, h H0 F σ H _ S fun F1 H1 v x1 r1 => ?_⟩
  obtain ⟨a', xs', f1, f2, f3, f4, f5, f6⟩ := (S.ext x1).write e
  rw [e1] at f1
  cases f1
  refine ⟨a, xs', v, rfl, rfl, f2, by rw [f3.length]; exact ZaN (by omega), ?_⟩
  exact C.nx F1 σ _ _ ((x.trans x1).wr f4 f5) (f6 _ _ (f3.snoc r1)) hn
theorem Zrg {i : Nat} {ds : List PyData} {d : PyData} {k : Int} {j : Nat} (e : ρ[i]? = some (some (.ol ds))) (h : EvE K te ρ d) (hi : EvE K tb ρ (.int k)) (hj : ixN ds.length k = some j) (hn : D.nx (ρ.set i (some (.ol (ds.set j d))))) :
    EvS K (Zmc te (ZrC (ZcR i) tb Zn0)) ρ D := fun F0 H0 F σ H E x S C =>
  h H0 F σ H _ S fun F1 H1 v x1 r1 => by
    obtain ⟨a, xs, e1, e2, e3, _⟩ := (S.ext x1).write e
    refine ⟨_, e1, hi H0 F1 σ H1 _ (S.ext x1) fun F2 H2 y x2 r2 => ?_⟩
    obtain ⟨a', xs', f1, f2, f3, f4, f5, f6⟩ := (S.ext (x1.trans x2)).write e
    rw [e1] at f1
    cases f1
    cases r2
    refine ⟨a, xs', k, j, rfl, rfl, f2, by rw [f3.length]; exact hj, ?_⟩
    exact C.nx F2 σ _ _ ((x.trans (x1.trans x2)).wr f4 f5) (f6 _ _ (f3.set (r1.mono x2.ff) j)) hn
theorem Ext.base {F0 H0 F H : Hp} (x : Ext F0 H0 F H) : Ext F H0 F H := ⟨x.hh, ZaK.refl _, x.fh, fun _ h => .inl h⟩
theorem Ext.rebase {F0 H0 F H F' H' : Hp} (x : Ext F0 H0 F H) (y : Ext F H0 F' H') : Ext F0 H0 F' H' :=
  ⟨y.hh, x.ff.trans y.ff, y.fh, fun a h => (y.fr a h).elim (fun z => x.fr a z) .inr⟩
theorem Zej {wi : TI} {g : TG} {tbd : TS} {ds : List PyData} (P : Nat -> Zbd -> Prop) (hi : EvI K wi ρ ds) (h0 : P 0 ρ)
    (hs : ∀ (i : Nat) (d : PyData) (ρ' : Zbd), ds[i]? = some d -> P i ρ' -> ∃ ρ2, GTo K g d ρ' ρ2 /\ EvS K tbd ρ2 { nx := P (i + 1), ct := P (i + 1), bk := D.nx, rt := D.rt }) (hd : ∀ ρ', P ds.length ρ' -> D.nx ρ') : EvS K (Zrd wi g tbd) ρ D := fun F0 H0 F σ H E x S C =>
  hi H0 F σ H _ S fun F1 H1 J x1 W => by
    refine ⟨fun i m σ H => m = ds.length - i /\ i <= ds.length /\ ∃ F ρ', Ext F0 H0 F H /\ ZaK F1 F /\ Sta K H0 F ρ' σ H /\ P i ρ', ⟨ds.length, by simp, Nat.zero_le _, F1, ρ, x.trans x1, ZaK.refl _, S.ext x1, h0⟩, ?_⟩
    rintro i m σ' H' ⟨rfl, hle, F', ρ', x', s', S', p⟩
    obtain ⟨w1, w2⟩ := W F' H' s' S'.sub
    by_cases hlt : i < ds.length
    · have e : ds[i]? = some ds[i] := by simp [hlt]
      obtain ⟨go, yl⟩ := w2 i _ e
      refine .inr ⟨go, fun σ2 H2 => ∃ F2 ρ2, Ext F0 H0 F2 H2 /\ ZaK F1 F2 /\ Sta K H0 F2 ρ2 σ2 H2 /\ P (i + 1) ρ2, fun σ2 H2 q => ⟨ds.length - (i + 1), by omega, rfl, hlt, q⟩, fun v H3 y => ?_⟩
      obtain ⟨F3, x3, r3⟩ := yl v H3 y
      obtain ⟨ρ2, hg, hb⟩ := hs i _ ρ' e p
      refine hg H0 F3 σ' H3 v _ (S'.ext x3) r3 fun σ2 S2 => ?_
      have big : Ext F0 H0 F3 H3 := x'.trans x3
      have s13 := s'.trans x3.ff
      exact hb F3 H0 F3 σ2 H3 _ big.base S2 ⟨fun F4 σ4 H4 ρ4 x4 S4 q4 => ⟨F4, ρ4, big.rebase x4, s13.trans x4.ff, S4, q4⟩, fun F4 H4 v4 r4 p4 x4 => C.rt F4 H4 v4 r4 p4 (big.rebase x4),
        fun F4 σ4 H4 ρ4 x4 => C.nx F4 σ4 H4 ρ4 (big.rebase x4), fun F4 σ4 H4 ρ4 x4 S4 q4 => ⟨F4, ρ4, big.rebase x4, s13.trans x4.ff, S4, q4⟩⟩
    · have e : i = ds.length := by omega
      subst e
      exact .inl ⟨w1, C.nx F' σ' H' ρ' x' S' (hd ρ' p)⟩
theorem ZbK {wi : TI} {g : TG} {tbd : TS} {ds : List PyData} (R : Nat -> Zbd) (hi : EvI K wi ρ ds) (h0 : Fgt ρ (R 0))
    (hs : ∀ (i : Nat) (d : PyData), ds[i]? = some d -> ∃ ρ2, GTo K g d (R i) ρ2 /\ EvS K tbd ρ2 { nx := fun ρ' => Fgt ρ' (R (i + 1)), ct := fun ρ' => Fgt ρ' (R (i + 1)), bk := D.nx, rt := D.rt }) (hd : ∀ ρ', Fgt ρ' (R ds.length) -> D.nx ρ') : EvS K (Zrd wi g tbd) ρ D := by
  refine Zej (fun i ρ' => Fgt ρ' (R i)) hi h0 (fun i d ρ' e f => ?_) hd
  obtain ⟨ρ2, h1, h2⟩ := hs i d e
  exact ⟨ρ2, fun H0 F σ H x Q S r q => h1 H0 F σ H x Q (S.fgt f) r q, h2⟩
theorem ZeQ {c : TT} {tbd : TS} (P : Nat -> Zbd -> Prop) (m0 : Nat) (h0 : P m0 ρ)
    (hs : ∀ (m : Nat) (ρ' : Zbd), P m ρ' -> ∃ b, EvT K c ρ' b /\ (b = true -> EvS K tbd ρ' { nx := fun ρ2 => ∃ m', m' < m /\ P m' ρ2, ct := fun ρ2 => ∃ m', m' < m /\ P m' ρ2, bk := D.nx, rt := D.rt }) /\ (b = false -> D.nx ρ')) : EvS K (ZnZ c tbd) ρ D := fun F0 H0 F σ H E x S C => by
  refine ⟨fun m σ H => ∃ F ρ', Ext F0 H0 F H /\ Sta K H0 F ρ' σ H /\ P m ρ', ⟨m0, F, ρ, x, S, h0⟩, ?_⟩
  rintro m σ' H' ⟨F', ρ', x', S', p⟩
  obtain ⟨b, h1, h2, h3⟩ := hs m ρ' p
  refine h1 H0 F' σ' H' _ S' fun F1 H1 x1 => ?_
  have X1 := x'.trans x1
  have S1 := S'.ext x1
  cases b with
  | false => rw [if_neg Bool.false_ne_true]; exact C.nx F1 σ' H1 ρ' X1 S1 (h3 rfl)
  | true =>
    rw [if_pos rfl]
    refine ⟨fun σ2 H2 => ∃ m', m' < m /\ ∃ F2 ρ2, Ext F0 H0 F2 H2 /\ Sta K H0 F2 ρ2 σ2 H2 /\ P m' ρ2, fun σ2 H2 h => h, ?_⟩
    have go : ∀ F4 σ4 H4 ρ4, Ext F0 H0 F4 H4 -> Sta K H0 F4 ρ4 σ4 H4 -> (∃ m', m' < m /\ P m' ρ4) -> ∃ m', m' < m /\ ∃ F2 ρ2, Ext F0 H0 F2 H4 /\ Sta K H0 F2 ρ2 σ4 H4 /\ P m' ρ2 := fun F4 σ4 H4 ρ4 x4 S4 ⟨m', q1, q2⟩ => ⟨m', q1, F4, ρ4, x4, S4, q2⟩
    exact h2 rfl F0 H0 F1 σ' H1 _ X1 S1 ⟨go, C.rt, C.nx, go⟩
theorem Zd7 {ds : List PyData} (h : EvE K ta ρ (.list ds)) : EvI K (ZpM K ta) ρ ds := fun H0 F σ H R S q =>
  h H0 F σ H _ S fun F1 H1 v x1 r1 => by
    obtain ⟨a, xs, rfl, h1, h2, h3⟩ := Zcc (K := K) r1 x1.fh
    have hF : F1 a = some (.lst xs) := by
      cases r1 with
      | lst ha rr =>
        have := x1.fh _ _ ha
        rw [h3] at this
        cases this
        exact ha
    refine ⟨a, rfl, ⟨xs, h1⟩, q F1 H1 _ x1 fun F2 H2 s2 s3 => ?_⟩
    have hq : SqL K H2 a xs := SqL.of (s3 _ _ (s2 _ _ hF))
    refine ⟨⟨xs, hq, by rw [h2.length]; exact Nat.le_refl _⟩, fun i d e => ?_⟩
    obtain ⟨z, z1, z2⟩ := h2.get e
    refine ⟨⟨xs, z, hq, z1⟩, fun y H3 hy => ?_⟩
    obtain ⟨rfl, hy⟩ := hy
    have e2 := hy xs hq
    rw [z1] at e2
    cases e2
    exact ⟨F2, Ext.refl s3, z2.mono s2⟩
theorem ZpK {ds : List PyData} (h : EvE K ta ρ (.tuple ds)) : EvI K (ZrZ K ta) ρ ds := fun H0 F σ H R S q =>
  h H0 F σ H _ S fun F1 H1 v x1 r1 => by
    obtain ⟨a, xs, rfl, h1, h2, h3⟩ := ZeM (K := K) r1 x1.fh
    have hF : F1 a = some (.tup xs) := by
      cases r1 with
      | tup ha rr =>
        have := x1.fh _ _ ha
        rw [h3] at this
        cases this
        exact ha
    refine ⟨a, rfl, ⟨xs, h1⟩, q F1 H1 _ x1 fun F2 H2 s2 s3 => ?_⟩
    have hq : SqT K H2 a xs := SqT.of (s3 _ _ (s2 _ _ hF))
    refine ⟨⟨xs, hq, by rw [h2.length]; exact Nat.le_refl _⟩, fun i d e => ?_⟩
    obtain ⟨z, z1, z2⟩ := h2.get e
    refine ⟨⟨xs, z, hq, z1⟩, fun y H3 hy => ?_⟩
    obtain ⟨rfl, hy⟩ := hy
    have e2 := hy xs hq
    rw [z1] at e2
    cases e2
    exact ⟨F2, Ext.refl s3, z2.mono s2⟩
noncomputable def ZeJ (lo : Int) (n : Nat) : List PyData := (List.range n).map fun (i : Nat) => PyData.int (lo + (i : Int))
theorem Zbv {lo : Int} {n i : Nat} {d : PyData} (e : (ZeJ lo n)[i]? = some d) : i < n /\ d = .int (lo + (i : Int)) := by
  unfold ZeJ at e
  rw [List.getElem?_map] at e
  by_cases h : i < n
  · simp [h] at e; exact ⟨h, e.symm⟩
  · simp [h] at e
theorem ZbJ {lo : Int} {n : Nat} : (ZeJ lo n).length = n := by simp [ZeJ]
theorem Zhx {F : Hp} {lo : Int} {n : Nat} : Zoo F (Itr lo n) (ZeJ lo n) := fun F2 H2 s2 s3 => by
  refine ⟨by show n <= _; rw [ZbJ]; exact Nat.le_refl _, fun i d e => ?_⟩
  obtain ⟨h1, rfl⟩ := Zbv e
  refine ⟨h1, fun x H3 hy => ?_⟩
  obtain ⟨rfl, rfl⟩ := hy
  exact ⟨F2, Ext.refl s3, .int _⟩
theorem Zc4 {t : TA} {n : Int} (h : EvA K t ρ [.fz (.int n)]) (h1 : -(2 ^ 62) <= n) (h2 : n < 2 ^ 62) : EvI K (ZqH t) ρ (ZeJ 0 n.toNat) := fun H0 F σ H R S q =>
  h H0 F σ H _ S fun F1 H1 vs x1 r1 => by
    cases r1 with
    | fz r r1 => cases r1; cases r; exact ⟨n, rfl, h1, h2, q F1 H1 _ x1 Zhx⟩
theorem Zlc {t : TA} {m n : Int} (h : EvA K t ρ [.fz (.int m), .fz (.int n)]) (h1 : -(2 ^ 62) <= m /\ m < 2 ^ 62 /\ -(2 ^ 62) <= n /\ n < 2 ^ 62) : EvI K (ZqV t) ρ (ZeJ m (n - m).toNat) := fun H0 F σ H R S q =>
  h H0 F σ H _ S fun F1 H1 vs x1 r1 => by
    cases r1 with
    | fz r r1 =>
      cases r1 with
      | fz r' r1 => cases r1; cases r; cases r'; exact ⟨m, n, rfl, h1, q F1 H1 _ x1 Zhx⟩
noncomputable def Zoi (hi : Int) (n : Nat) : List PyData := (List.range n).map fun (i : Nat) => PyData.int (hi - (i : Int))
theorem Zjo {hi : Int} {n i : Nat} {d : PyData} (e : (Zoi hi n)[i]? = some d) : i < n /\ d = .int (hi - (i : Int)) := by
  unfold Zoi at e
  rw [List.getElem?_map] at e
  by_cases h : i < n
  · simp [h] at e; exact ⟨h, e.symm⟩
  · simp [h] at e
theorem Zjt {hi : Int} {n : Nat} : (Zoi hi n).length = n := by simp [Zoi]
theorem Zq8 {t : TA} {m n : Int} (h : EvA K t ρ [.fz (.int m), .fz (.int n), .fz (.int (-1))]) (h1 : -(2 ^ 62) <= m /\ m < 2 ^ 62 /\ -(2 ^ 62) <= n /\ n < 2 ^ 62) : EvI K (ZpP t) ρ (Zoi m (m - n).toNat) := fun H0 F σ H R S q =>
  h H0 F σ H _ S fun F1 H1 vs x1 r1 => by
    cases r1 with
    | fz r r1 =>
      cases r1 with
      | fz r' r1 =>
        cases r1 with
        | fz r2 r1 =>
          cases r1; cases r; cases r'; cases r2
          refine ⟨m, n, rfl, h1, q F1 H1 _ x1 fun F2 H2 s2 s3 => ⟨by show _ <= _; rw [Zjt]; exact Nat.le_refl _, fun i d e => ?_⟩⟩
          obtain ⟨h1, rfl⟩ := Zjo e
          refine ⟨h1, fun x H3 hy => ?_⟩
          obtain ⟨rfl, rfl⟩ := hy
          exact ⟨F2, Ext.refl s3, .int _⟩
noncomputable def ZdK : Option OT -> Option OT
  | some (.fz d) => some (.fz d)
  | some (.scr ns) => some (.scr ns)
  | some (.zow Ψ) => some (.zow Ψ)
  | _ => none
noncomputable def ZhG (f : List (Option Nat)) (ρ : Zbd) : Zbd := f.map fun o => match o with | some i => ZdK (ρ[i]?).join | none => none
theorem Sta.inner {H0 F H : Hp} {σ : St} (f : List (Option Nat)) (S : Sta K H0 F ρ σ H) : Sta K H0 F (ZhG f ρ) (Zj0 f σ) H := by
  obtain ⟨kt, h1, h2, fp, h3, h4, h5⟩ := S
  refine ⟨kt, h1, by simp [ZhG, Zj0], fun _ => [], fun i t e => ?_, fun i j a h => (nomatch h), fun i a h => (nomatch h)⟩
  unfold ZhG at e
  rw [List.getElem?_map] at e
  cases z : f[i]? with
  | none => rw [z] at e; simp at e
  | some o =>
    rw [z] at e
    simp only [Option.map_some, Option.some.injEq] at e
    cases o with
    | none => cases e
    | some k =>
      simp only at e
      have e' : ρ[k]? = some (some t) /\ ((∃ d, t = .fz d) \/ (∃ ns, t = .scr ns) \/ ∃ Ψ, t = .zow Ψ) := by
        cases y : ρ[k]? with
        | none => rw [y] at e; simp [ZdK] at e
        | some w =>
          rw [y] at e
          simp only [Option.join_some] at e
          cases w with
          | none => simp [ZdK] at e
          | some w =>
            cases w with
            | fz d => simp [ZdK] at e; subst e; exact ⟨rfl, .inl ⟨_, rfl⟩⟩
            | scr ns => simp [ZdK] at e; subst e; exact ⟨rfl, .inr (.inl ⟨_, rfl⟩)⟩
            | zow Ψ => simp [ZdK] at e; subst e; exact ⟨rfl, .inr (.inr ⟨_, rfl⟩)⟩
            | ol ds => simp [ZdK] at e
            | oll ds => simp [ZdK] at e
            | own v0 Φ => simp [ZdK] at e
      obtain ⟨v, e1, e2⟩ := h3 k t e'.1
      refine ⟨v, ?_, ?_⟩
      · unfold Zj0
        rw [List.getElem?_map, z]
        simp [e1]
      · rcases e'.2 with ⟨d, rfl⟩ | ⟨ns, rfl⟩ | ⟨Ψ, rfl⟩
        · exact ⟨rfl, e2.2⟩
        · exact ⟨rfl, e2.2⟩
        · exact ⟨rfl, e2.2⟩
theorem ZnU {α : Type} {f : List (Option Nat)} {wi : TI} {g : CIn -> TG} {tcc : CIn -> TT} {tee : CIn -> TE} {xs : List α} {enc h : α -> PyData} {p : α -> Bool} (hi : EvI K wi ρ (xs.map enc)) (hl : xs.length <= 1000)
    (hs : ∀ x ∈ xs, ∀ c, ∃ ρ2, GTo K (g c) (enc x) (ZhG f ρ) ρ2 /\ EvT K (tcc c) ρ2 (p x) /\ (p x = true -> EvE K (tee c) ρ2 (h x))) : EvO K (tLC f wi g tcc tee) ρ (.ol ((xs.filter p).map h)) := fun H0 F σ H Q S q =>
  hi H0 F σ H _ S fun F1 H1 J x1 W c => by
    have hn : xs.length <= sizeLine := Nat.le_of_lt (ZaN hl)
    refine ⟨fun i m ys H => m = xs.length - i /\ i <= xs.length /\ ∃ F', Ext F1 H1 F' H /\ Reps F' ys (((xs.take i).filter p).map h), ⟨xs.length, by simp, Nat.zero_le _, F1, Ext.refl x1.fh, .nil⟩, ?_⟩
    rintro i m ys H' ⟨rfl, hle, F', x', r'⟩
    obtain ⟨w1, w2⟩ := W F' H' x'.ff x'.fh
    by_cases hlt : i < xs.length
    · have e : (xs.map enc)[i]? = some (enc xs[i]) := by simp [hlt]
      obtain ⟨go, yl⟩ := w2 i _ e
      refine .inr ⟨go, fun v H3 y => ?_⟩
      obtain ⟨F3, x3, r3⟩ := yl v H3 y
      obtain ⟨ρ2, k1, k2, k3⟩ := hs xs[i] (List.getElem_mem hlt) c
      have S3 := (S.ext (x1.trans (x'.trans x3))).inner f
      have tk : xs.take (i + 1) = xs.take i ++ [xs[i]] := by rw [List.take_succ]; simp [hlt]
      have ly := r'.length
      have ly2 : ys.length <= i := by
        rw [ly, List.length_map]
        refine Nat.le_trans (List.length_filter_le _ _) ?_
        rw [List.length_take]; omega
      refine k1 H0 F3 _ H3 v _ S3 r3 fun σ2 S4 => k2 H0 F3 σ2 H3 _ S4 fun F4 H4 x4 => ?_
      cases ep : p xs[i] with
      | true =>
        rw [if_pos rfl]
        refine k3 ep H0 F4 σ2 H4 _ (S4.ext x4) fun F5 H5 z x5 r5 => ⟨by omega, xs.length - (i + 1), by omega, rfl, hlt, F5, x'.trans (x3.trans (x4.trans x5)), ?_⟩
        rw [tk, List.filter_append, List.map_append]
        simp only [List.filter_cons, ep, if_true, List.filter_nil, List.map_cons, List.map_nil]
        exact (r'.mono (x3.trans (x4.trans x5)).ff).snoc r5
      | false =>
        rw [if_neg Bool.false_ne_true]
        refine ⟨xs.length - (i + 1), by omega, rfl, hlt, F4, x'.trans (x3.trans x4), ?_⟩
        rw [tk, List.filter_append, List.map_append]
        simp only [List.filter_cons, ep, List.filter_nil, List.map_nil, List.append_nil, Bool.false_eq_true, if_false]
        exact r'.mono (x3.trans x4).ff
    · have e : i = xs.length := by omega
      subst e
      refine .inl ⟨by simpa using w1, fun a ha => ?_⟩
      rw [List.take_length] at r'
      obtain ⟨z1, z2, z3⟩ := Zfs (K := K) (x1.trans x') ha r'
      exact q _ _ _ _ z1 z2 z3
theorem ZgE {α : Type} {f : List (Option Nat)} {wi : TI} {g : CIn -> TG} {tee : CIn -> TE} {xs : List α} {enc h : α -> PyData} (hi : EvI K wi ρ (xs.map enc)) (hl : xs.length <= 1000)
    (hs : ∀ x ∈ xs, ∀ c, ∃ ρ2, GTo K (g c) (enc x) (ZhG f ρ) ρ2 /\ EvE K (tee c) ρ2 (h x)) : EvO K (tLC f wi g (fun _ => Zpt) tee) ρ (.ol (xs.map h)) := by
  have := ZnU (K := K) (ρ := ρ) (f := f) (wi := wi) (g := g) (tcc := fun _ => Zpt) (tee := tee) (xs := xs) (enc := enc) (h := h) (p := fun _ => true) hi hl fun x hx c => by
    obtain ⟨ρ2, h1, h2⟩ := hs x hx c
    exact ⟨ρ2, h1, ZqU, fun _ => h2⟩
  have e : xs.filter (fun _ => true) = xs := List.filter_eq_self.mpr fun _ _ => rfl
  rw [e] at this
  exact this
noncomputable def Zrl : List V -> Hp -> VK -> Prop := fun xs H Q => ∃ i, xs = [.int i] /\ Q (.int (if i < 0 then -i else i)) H
noncomputable def Zoq : List V -> Hp -> VK -> Prop := fun xs H Q => ∃ i j, xs = [.int i, .int j] /\ Q (.int (if j > i then j else i)) H
noncomputable def Zot : List V -> Hp -> VK -> Prop := fun xs H Q => ∃ i j, xs = [.int i, .int j] /\ Q (.int (if j < i then j else i)) H
noncomputable def ZqP : List V -> Hp -> VK -> Prop := fun xs H Q => (∃ i, xs = [.int i] /\ Q (.int i) H) \/ ∃ k, xs = [.bl k] /\ Q (.int (if k then 1 else 0)) H
noncomputable def Zsa : List V -> Hp -> VK -> Prop := fun xs H Q => ∃ x T c b, xs = [x, .ty c] /\ TyN H x T /\ ZkE T c = some b /\ Q (.bl b) H
noncomputable def ZoS (K : PySem.W.Frag) : List V -> Hp -> VK -> Prop := fun xs H Q => ∃ p ys, xs = [.ref p] /\ (SqL K H p ys \/ SqT K H p ys) /\ Q (.int ys.length) H
noncomputable def Zi4 (K : PySem.W.Frag) : List V -> Hp -> VK -> Prop := fun xs H Q => ∃ p ys, xs = [.ref p] /\ (SqL K H p ys \/ SqT K H p ys) /\ ∀ l, H l = none -> Q (.ref l) (upd H l (.lst ys))
noncomputable def ZnX (K : PySem.W.Frag) : List V -> Hp -> VK -> Prop := fun xs H Q => ∃ p ys, xs = [.ref p] /\ ((SqL K H p ys /\ ∀ l, H l = none -> Q (.ref l) (upd H l (.tup ys))) \/ (SqT K H p ys /\ Q (.ref p) H))
noncomputable def Zrp (X : Cx) : List V -> Hp -> VK -> Prop := fun xs H Q => X.calm = true /\ ∃ (x : V) (ns : List Int), xs = [x] /\ Rep H x (.list (ns.map PyData.int)) /\ Q (.int ns.sum) H
noncomputable def Zqq : V -> List V -> Hp -> VK -> Prop := fun x xs H Q => ∃ i, x = .int i /\ xs = [] /\ Q (.int (Builtin.Int.intBits i)) H
theorem ZkG {X : Cx} : Zde X (.builtin "abs") Zrl := ZmO
theorem Zom {X : Cx} (h : X.calm = true) : Zde X (.builtin "max") Zoq := ZlF h
theorem ZnV {X : Cx} (h : X.calm = true) : Zde X (.builtin "min") Zot := ZlG h
theorem Zrb {X : Cx} : Zde X (.type "int") ZqP := Zlb
theorem ZnQ {X : Cx} : Zde X (.builtin "isinstance") Zsa := Zmv
theorem Zdu {X : Cx} : Zde X (.builtin "len") (ZoS X.K) := ZhM
theorem Zis {X : Cx} : Zde X (.type "list") (Zi4 X.K) := Zhv
theorem Zjr {X : Cx} : Zde X (.type "tuple") (ZnX X.K) := ZgD
theorem Ze9 {X : Cx} : Zde X (.builtin "sum") (Zrp X) := Zkv
theorem Zp0 {X : Cx} : MtR X "int.bit_length" Zqq := Zp2
theorem Zqd {x : Int} (h : EvE K ta ρ (.int x)) : EvE K (tCB Zrl (ZaV ta Zds)) ρ (.int (if x < 0 then -x else x)) := fun H0 F σ H Q S q =>
  h H0 F σ H _ S fun F1 H1 v x1 r1 => by cases r1; exact ⟨x, rfl, q F1 H1 _ x1 (.int _)⟩
theorem Zoj {x y : Int} {r : List V -> Hp -> VK -> Prop} {H0 F H : Hp} {σ : St} {Q : VK} (ha : EvE K ta ρ (.int x)) (hb : EvE K tb ρ (.int y)) (S : Sta K H0 F ρ σ H) (h : ∀ F' H', Ext F H F' H' -> r [.int x, .int y] H' Q) : tCB r (ZaV ta (ZaV tb Zds)) σ H Q :=
  ha H0 F σ H _ S fun F1 H1 v x1 r1 => hb H0 F1 σ H1 _ (S.ext x1) fun F2 H2 w x2 r2 => by cases r1; cases r2; exact h F2 H2 (x1.trans x2)
theorem Zq2 {x y : Int} (ha : EvE K ta ρ (.int x)) (hb : EvE K tb ρ (.int y)) : EvE K (tCB Zoq (ZaV ta (ZaV tb Zds))) ρ (.int (if y > x then y else x)) := fun H0 F σ H Q S q =>
  Zoj ha hb S fun F' H' e => ⟨x, y, rfl, q F' H' _ e (.int _)⟩
theorem Zql {x y : Int} (ha : EvE K ta ρ (.int x)) (hb : EvE K tb ρ (.int y)) : EvE K (tCB Zot (ZaV ta (ZaV tb Zds))) ρ (.int (if y < x then y else x)) := fun H0 F σ H Q S q =>
  Zoj ha hb S fun F' H' e => ⟨x, y, rfl, q F' H' _ e (.int _)⟩
theorem ZoN {b : Bool} (h : EvE K ta ρ (.bool b)) : EvE K (tCB ZqP (ZaV ta Zds)) ρ (.int (if b then 1 else 0)) := fun H0 F σ H Q S q =>
  h H0 F σ H _ S fun F1 H1 v x1 r1 => by cases r1; exact .inr ⟨b, rfl, q F1 H1 _ x1 (.int _)⟩
theorem ZrL {a : PyData} {c : String} {b : Bool} (h : EvE K ta ρ a) (hb : ZkE (tyD a) c = some b) : EvE K (tCB Zsa (ZaV ta (ZaV (tC (.ty c)) Zds))) ρ (.bool b) := fun H0 F σ H Q S q =>
  h H0 F σ H _ S fun F1 H1 v x1 r1 => ⟨v, _, c, b, rfl, (r1.mono x1.fh).ty, hb, q F1 H1 _ x1 (.bl _)⟩
theorem Zg8 {ds : List PyData} (h : EvE K ta ρ (.list ds)) : EvE K (tCB (ZoS K) (ZaV ta Zds)) ρ (.int (ds.length : Int)) := fun H0 F σ H Q S q =>
  h H0 F σ H _ S fun F1 H1 v x1 r1 => by
    obtain ⟨a, xs, rfl, h1, h2, _⟩ := Zcc (K := K) r1 x1.fh
    exact ⟨a, xs, rfl, .inl h1, by rw [h2.length]; exact q F1 H1 _ x1 (.int _)⟩
theorem Zr2 {ds : List PyData} (h : EvE K ta ρ (.tuple ds)) : EvE K (tCB (ZoS K) (ZaV ta Zds)) ρ (.int (ds.length : Int)) := fun H0 F σ H Q S q =>
  h H0 F σ H _ S fun F1 H1 v x1 r1 => by
    obtain ⟨a, xs, rfl, h1, h2, _⟩ := ZeM (K := K) r1 x1.fh
    exact ⟨a, xs, rfl, .inr h1, by rw [h2.length]; exact q F1 H1 _ x1 (.int _)⟩
theorem Zr7 {i : Nat} {ns : List Int} (e0 : ρ[i]? = some (some (.scr ns))) : EvE K (tCB (ZoS K) (ZaV (ZcR i) Zds)) ρ (.int (ns.length : Int)) := fun H0 F σ H Q S q => by
  obtain ⟨fp, h, _⟩ := S.fp
  obtain ⟨v, e1, _, a, rfl, sc⟩ := h i _ e0
  exact ⟨_, e1, a, ns.map V.int, rfl, .inl (S.sub.seq sc.sq), by rw [List.length_map]; exact q F H _ (Ext.refl S.sub) (.int _)⟩
theorem Zrk {i : Nat} {ds : List PyData} (e0 : ρ[i]? = some (some (.ol ds))) : EvE K (tCB (ZoS K) (ZaV (ZcR i) Zds)) ρ (.int (ds.length : Int)) := fun H0 F σ H Q S q => by
  obtain ⟨fp, h, _⟩ := S.fp
  obtain ⟨v, e1, a, rfl, _, _, xs, o2, o3⟩ := h i _ e0
  exact ⟨_, e1, a, xs, rfl, .inl (SqL.of o2), by rw [o3.length]; exact q F H _ (Ext.refl S.sub) (.int _)⟩
theorem Zm2 {ds : List PyData} (h : EvE K ta ρ (.list ds)) : EvO K (tCB (Zi4 K) (ZaV ta Zds)) ρ (.ol ds) := fun H0 F σ H Q S q =>
  h H0 F σ H _ S fun F1 H1 v x1 r1 => by
    obtain ⟨a, xs, rfl, h1, h2, _⟩ := Zcc (K := K) r1 x1.fh
    refine ⟨a, xs, rfl, .inl h1, fun p hp => ?_⟩
    obtain ⟨z1, z2, z3⟩ := Zfs (K := K) x1 hp h2
    exact q _ _ _ _ z1 z2 z3
theorem Zr4 {i : Nat} {ds : List PyData} (e0 : ρ[i]? = some (some (.ol ds))) : EvE K (tCB (ZnX K) (ZaV (ZcR i) Zds)) ρ (.tuple ds) := fun H0 F σ H Q S q => by
  obtain ⟨fp, h, _⟩ := S.fp
  obtain ⟨v, e1, a, rfl, _, _, xs, o2, o3⟩ := h i _ e0
  refine ⟨_, e1, a, xs, rfl, .inl ⟨SqL.of o2, fun p hp => ?_⟩⟩
  exact q _ _ _ (Ext.new S.sub hp) (.tup Zaj (o3.mono (ZaK.new (S.sub.free hp))))
theorem Zfy {X : Cx} {ns : List Int} (h : EvE K ta ρ (.list (ns.map PyData.int))) (hc : X.calm = true) : EvE K (tCB (Zrp X) (ZaV ta Zds)) ρ (.int ns.sum) := fun H0 F σ H Q S q =>
  h H0 F σ H _ S fun F1 H1 v x1 r1 => ⟨hc, v, ns, rfl, r1.mono x1.fh, q F1 H1 _ x1 (.int _)⟩
theorem Zov {x : Int} (h : EvE K ta ρ (.int x)) : EvE K (ZrU K "int" Zqq ta) ρ (.int (Builtin.Int.intBits x : Int)) := fun H0 F σ H Q S q =>
  h H0 F σ H _ S fun F1 H1 v x1 r1 => by cases r1; exact ⟨rfl, x, rfl, rfl, q F1 H1 _ x1 (.int _)⟩
theorem Zoa {as bs : List PyData} (ha : EvE K ta ρ (.list as)) (hb : EvE K tb ρ (.list bs)) (hl : as.length + bs.length <= 1000) : EvO K (tOp ZrM ta tb) ρ (.ol (as ++ bs)) := fun H0 F σ H Q S q =>
  ZdO ha hb S fun F' H' x y e r1 r2 => by
    obtain ⟨a, xs, rfl, h1, h2, h3⟩ := Zcc (K := K) r1 e.fh
    obtain ⟨b, ys, rfl, g1, g2, g3⟩ := Zcc (K := K) r2 e.fh
    refine ⟨a, b, xs, ys, rfl, rfl, h3, g3, by rw [h2.length, g2.length]; exact Nat.le_of_lt (ZaN hl), fun p hp => ?_⟩
    obtain ⟨z1, z2, z3⟩ := Zfs (K := K) e hp (h2.append g2)
    exact q _ _ _ _ z1 z2 z3
theorem ZpI {x : Int} {ns : List Int} (ha : EvE K ta ρ (.int x)) (hb : EvE K tb ρ (.list (ns.map PyData.int))) : EvE K (tOp (rIn K false) ta tb) ρ (.bool (decide (x ∈ ns))) := fun H0 F σ H Q S q =>
  ZdO ha hb S fun F' H' u y e r1 r2 => by
    obtain ⟨a, xs, rfl, h1, h2, h3⟩ := Zcc (K := K) r2 e.fh
    cases r1
    have ex := Zeo h2
    subst ex
    refine ⟨a, _, rfl, .inl h1, rfl, ?_, ?_⟩
    · rw [List.all_eq_true]
      intro v hv
      obtain ⟨j, _, rfl⟩ := List.mem_map.mp hv
      rfl
    · have : (if false = true then !inV (.int x) (ns.map V.int) else inV (.int x) (ns.map V.int)) = decide (x ∈ ns) := by
        rw [if_neg Bool.false_ne_true]; exact Zmr x ns
      rw [this]
      exact q F' H' _ e (.bl _)
end
end L2
end
section
namespace L2
open PySem PySem.Spec PyProof.Rows
theorem ZcX {K : PySem.W.Frag} {ρ : Zbd} {ta : TE} {t : TA} {d : PyData} {ds : List PyData} (h1 : EvE K ta ρ d) (h2 : EvA K t ρ (fzs ds)) : EvA K (ZaV ta t) ρ (fzs (d :: ds)) := Zad h1 h2
theorem EvI.cast {K : PySem.W.Frag} {wi : TI} {ρ : Zbd} {ds ds' : List PyData} (h : EvI K wi ρ ds) (e : ds = ds') : EvI K wi ρ ds' := e ▸ h
theorem Zbx {a b : Int} {m n : Nat} (h : a = b) (h2 : m = n) : ZeJ a m = ZeJ b n := by rw [h, h2]
theorem ZhB {a b : Int} {m n : Nat} (h : a = b) (h2 : m = n) : Zoi a m = Zoi b n := by rw [h, h2]
theorem Zrv {K : PySem.W.Frag} {ρ : Zbd} {ta : TE} {x : Int} (h : EvE K ta ρ (.int x)) : EvE K (tCB Zrl (ZaV ta Zds)) ρ (.int (Mir.Zg4 x)) := Zqd h
theorem Zrw {K : PySem.W.Frag} {ρ : Zbd} {ta tb : TE} {x y : Int} (ha : EvE K ta ρ (.int x)) (hb : EvE K tb ρ (.int y)) : EvE K (tCB Zoq (ZaV ta (ZaV tb Zds))) ρ (.int (max x y)) := by
  have e : max x y = if y > x then y else x := by split <;> omega
  rw [e]
  exact Zq2 ha hb
theorem Zrx {K : PySem.W.Frag} {ρ : Zbd} {ta tb : TE} {x y : Int} (ha : EvE K ta ρ (.int x)) (hb : EvE K tb ρ (.int y)) : EvE K (tCB Zot (ZaV ta (ZaV tb Zds))) ρ (.int (min x y)) := by
  have e : min x y = if y < x then y else x := by split <;> omega
  rw [e]
  exact Zql ha hb
theorem ZnY {K : PySem.W.Frag} {ρ : Zbd} {f : List (Option Nat)} {wi : TI} {g : CIn -> TG} {tee : CIn -> TE} {lo : Int} {n : Nat} {h : Nat -> PyData} (hi : EvI K wi ρ (ZeJ lo n)) (hl : n <= 1000)
    (hs : ∀ (x : Nat), x < n -> ∀ c, ∃ ρ2, GTo K (g c) (.int (lo + (x : Int))) (ZhG f ρ) ρ2 /\ EvE K (tee c) ρ2 (h x)) : EvO K (tLC f wi g (fun _ => Zpt) tee) ρ (.ol ((List.range n).map h)) :=
  ZgE (xs := List.range n) (enc := fun (i : Nat) => PyData.int (lo + (i : Int))) hi (by simpa using hl) fun x hx c => hs x (List.mem_range.mp hx) c
theorem EvE.cast {K : PySem.W.Frag} {t : TE} {ρ : Zbd} {d d' : PyData} (h : EvE K t ρ d) (e : d = d') : EvE K t ρ d' := e ▸ h
theorem EvO.cast {K : PySem.W.Frag} {t : TE} {ρ : Zbd} {d d' : OT} (h : EvO K t ρ d) (e : d = d') : EvO K t ρ d' := e ▸ h
theorem EvT.cast {K : PySem.W.Frag} {t : TT} {ρ : Zbd} {d d' : Bool} (h : EvT K t ρ d) (e : d = d') : EvT K t ρ d' := e ▸ h
noncomputable def ZiR (K : PySem.W.Frag) : Sp := fun vs H Q _ => ∃ (a : Addr) (ns : List Int), vs = [.ref a] /\ KTs K H /\ Scr K H a ns /\ ∀ H', Q (.bl true) H'
theorem Fun.evLaw {P : Program} {w : World} {K : PySem.W.Frag} {mg : Str -> Option Value} {base : Heap} {x qual p : Str} {st : Stmt} {f : Addr} {fd : FuncData} {N : List Str} {k : Nat} (F : Fun K x qual st f fd) (S : FnScope N [p] (Zab st))
    (hbody : ∀ (cdv : Value) (A : Around) (outer : List Env) (s : Shared) (H : Hp) (E : XK) (ns : List Int), Room k (A.deeper (envOfC qual (Zab st) s.heap.objs.size f cdv)) -> ns.length <= 63 -> (∀ i ∈ ns, Builtin.Int.intBits i <= 2 ^ 20) ->
      ∃ t, PSs (ZhV CX0 P w K mg base N qual (Zab st) f cdv A outer s H E).nox (Zan st) t /\ EvS K t (some (.scr ns) :: List.replicate (N.length - 1) none) { nx := fun _ => False, rt := fun r => r = .fz (.bool true) }) : FnOk P w K mg base CX0 (k + 1) f fd [p] (ZiR K) := by
  refine F.ok S (fun vs H Q E ⟨a, ns, e, _⟩ => by rw [e]; rfl) fun cdv A outer s H vs Q E hr ⟨a, ns, e, kt, sc, q⟩ => ?_
  subst e
  obtain ⟨t, h1, h2⟩ := hbody cdv A outer s H E ns hr sc.len sc.bits
  refine ⟨t, h1, h2 H H H (start N [.ref a]) H _ (Ext.refl (ZaK.refl _)) ⟨kt, ZaK.refl _, ?_, fun _ => [], fun i t' e => ?_, fun i j a h => (nomatch h), fun i a h => (nomatch h)⟩ ⟨fun F' σ' H' ρ' x' _ e => False.elim e, fun F' H' v r' p x' hp ok e => ?_, fun _ _ _ _ _ _ z => False.elim z, fun _ _ _ _ _ _ z => False.elim z⟩⟩
  · unfold start
    simp
  · cases i with
    | zero =>
      simp at e
      subst e
      exact ⟨_, rfl, rfl, a, rfl, sc⟩
    | succ i =>
      rw [List.getElem?_cons_succ] at e
      have := List.mem_of_getElem? e
      simp at this
  · subst e
    obtain ⟨_, r⟩ := ok
    cases r
    exact q H'
theorem Fgt.trans : ∀ {a b c : Zbd}, Fgt a b -> Fgt b c -> Fgt a c
  | [], [], [], _, _ => trivial
  | _ :: r, none :: r', none :: r2, h, h2 => by
    have h' : Fgt r r' := h
    have h2' : Fgt r' r2 := h2
    exact (show Fgt r r2 from Fgt.trans h' h2')
  | s :: r, some x :: r', none :: r2, h, h2 => by
    have h' : s = some x /\ Fgt r r' := h
    have h2' : Fgt r' r2 := h2
    exact (show Fgt r r2 from Fgt.trans h'.2 h2')
  | _ :: r, none :: r', some z :: r2, h, h2 => by
    have h2' : none = some z /\ Fgt r' r2 := h2
    exact absurd h2'.1 (by simp)
  | s :: r, some x :: r', some z :: r2, h, h2 => by
    have h' : s = some x /\ Fgt r r' := h
    have h2' : some x = some z /\ Fgt r' r2 := h2
    exact ⟨h'.1.trans h2'.1, Fgt.trans h'.2 h2'.2⟩
  | [], none :: _, _, h, _ => False.elim h
  | [], some _ :: _, _, h, _ => False.elim h
  | _ :: _, [], _, h, _ => False.elim h
  | [], [], none :: _, _, h => False.elim h
  | [], [], some _ :: _, _, h => False.elim h
  | _ :: _, none :: _, [], _, h => False.elim h
  | _ :: _, some _ :: _, [], _, h => False.elim h
theorem Zce {K : PySem.W.Frag} {ρ : Zbd} : EvA K Zds ρ (fzs []) := Zam
theorem ZrJ {i j : Int} (h1 : -18446744073709551616 < j) (h2 : j < 18446744073709551616) : Zrh i j := .inr ⟨h1, h2⟩
theorem z62 : (2 : Int) ^ 62 = 4611686018427387904 := by decide
theorem Zsb : ZrW 10 30 := ⟨by decide, by decide, by decide⟩
theorem Zqc {CX : CXT} {P : Program} {w : World} {K : PySem.W.Frag} {mg : Str -> Option Value} {base : Heap} {N : List Str} {q : Str} {sc : Scope} {f : Addr} {cd : Value} {A : Around} {o : List Env} {s : Shared} {H : Hp} {E : XK} : (ZhV CX P w K mg base N q sc f cd A o s H E).nox.K = K := rfl
theorem ZmR {X : Cx} {N : List Str} {sc : Scope} {c : CIn} : (ZbW X N sc c).K = X.K := rfl
end L2
end
section
namespace L2
open PySem PySem.Spec PyProof.Rows
section
variable {K : PySem.W.Frag} {ρ : Zbd} {ta tb te : TE}
noncomputable def cut {α : Type} (xs : List α) (lo hi : Option Int) : List α := (xs.drop (HT.sIx xs.length 0 lo)).take (HT.sIx xs.length xs.length hi - HT.sIx xs.length 0 lo)
theorem Zo7 {t : TT} (i : Nat) {ds : List PyData} {b : Bool} (e : ρ[i]? = some (some (.ol ds))) (h : EvT K t (ρ.set i (some (.fz (.list ds)))) b) : EvT K t ρ b := fun H0 F σ H Q S q => by
  obtain ⟨a, xs, e1, e2, e3, e4, e5, S'⟩ := S.freeze e
  refine h H0 _ σ H Q S' fun F' H' x => ?_
  refine q (fun b => if b = a then none else F' b) H' ⟨x.hh, fun b u hb => ?_, fun b u hb => ?_, fun b hb => ?_⟩
  · have nb : b ≠ a := Zau hb e1
    simp only [if_neg nb]
    exact x.ff b u (by rw [Zah nb]; exact hb)
  · by_cases z : b = a
    · simp [z] at hb
    · simp only [if_neg z] at hb; exact x.fh b u hb
  · by_cases z : b = a
    · simp [z] at hb
    · simp only [if_neg z] at hb
      rcases x.fr b hb with y | y
      · rw [Zah z] at y; exact .inl y
      · exact .inr y
theorem Zqo {a b : Int} {m n : Nat} (h0 : 0 <= a) (h1 : a < 2 ^ m) (h2 : 0 <= b) (h3 : b < 2 ^ n) (h4 : m + n <= 100000) : IntMulOk a b := by
  have bl : ∀ {x : Int} {m : Nat}, 0 <= x -> x < 2 ^ m -> Builtin.Int.intBits x <= m := fun {x m} h0 h => by
    unfold Builtin.Int.intBits
    by_cases e : x = 0
    · subst e; simp
    · have e1 : (x == 0) = false := by simpa using e
      rw [e1]
      have h1 : x.natAbs ≠ 0 := by omega
      have h2 : x.natAbs < 2 ^ m := by
        have : ((x.natAbs : Nat) : Int) < ((2 ^ m : Nat) : Int) := by
          have e2 : ((2 ^ m : Nat) : Int) = (2 : Int) ^ m := by rw [Int.natCast_pow]; rfl
          rw [e2]
          omega
        exact Int.ofNat_lt.mp this
      have := (Nat.log2_lt h1).mpr h2
      simp only [Bool.false_eq_true, if_false]
      omega
  have ba := bl h0 h1
  have bb := bl h2 h3
  unfold IntMulOk
  have : Builtin.Int.intTooBig (Builtin.Int.intBits a + Builtin.Int.intBits b) = false := by
    unfold Builtin.Int.intTooBig
    have hb : (100000 : Nat) <= bitsLine := by decide
    exact decide_eq_false (by omega)
  rw [this]
  simp
end
end L2
end
section
namespace L2
open PySem PySem.Spec PyProof.Rows
section
variable {K : PySem.W.Frag} {ρ : Zbd} {ta tb te : TE}
noncomputable def ZiN (as bs : List PyData) : List PyData := (as.zip bs).map fun p => PyData.tuple [p.1, p.2]
theorem ZeR (as bs : List PyData) : (ZiN as bs).length = min as.length bs.length := by simp [ZiN]
theorem ZgH {as bs : List PyData} {i : Nat} {d : PyData} (e : (ZiN as bs)[i]? = some d) : ∃ a b, as[i]? = some a /\ bs[i]? = some b /\ d = .tuple [a, b] := by
  unfold ZiN at e
  rw [List.getElem?_map] at e
  cases z : (as.zip bs)[i]? with
  | none => rw [z] at e; cases e
  | some p =>
    rw [z] at e
    have e' := Option.some.inj e
    obtain ⟨h1, h2⟩ := List.getElem?_zip_eq_some.mp z
    exact ⟨p.1, p.2, h1, h2, e'.symm⟩
noncomputable def ZeK (as : List PyData) : List PyData := as.zipIdx.map fun p => PyData.tuple [.int (p.2 : Int), p.1]
theorem Zdh (as : List PyData) : (ZeK as).length = as.length := by simp [ZeK]
theorem ZdX {as : List PyData} {i : Nat} {d : PyData} (e : (ZeK as)[i]? = some d) : ∃ a, as[i]? = some a /\ d = .tuple [.int (i : Int), a] := by
  unfold ZeK at e
  rw [List.getElem?_map, List.getElem?_zipIdx] at e
  cases z : as[i]? with
  | none => rw [z] at e; cases e
  | some a => rw [z] at e; simp at e; exact ⟨a, rfl, e.symm⟩
theorem ZfC {F H : Hp} {x : V} {ds : List PyData} (r : Rep F x (.list ds)) : ∃ a xs, x = .ref a /\ F a = some (.lst xs) /\ Reps F xs ds := by
  cases r with
  | lst ha rr => exact ⟨_, _, rfl, ha, rr⟩
theorem Zhu {t : TA} {as bs : List PyData} (h : EvA K t ρ [.fz (.list as), .fz (.list bs)]) : EvI K (ZrX K t) ρ (ZiN as bs) := fun H0 F σ H R S q =>
  h H0 F σ H _ S fun F1 H1 vs x1 r1 => by
    cases r1 with
    | fz r r1 =>
      cases r1 with
      | fz r' r1 =>
        cases r1
        obtain ⟨a, xs, rfl, ha, ra⟩ := ZfC (H := H1) r
        obtain ⟨b, ys, rfl, hb, rb⟩ := ZfC (H := H1) r'
        refine ⟨a, b, rfl, ⟨xs, SqL.of (x1.fh _ _ ha)⟩, ⟨ys, SqL.of (x1.fh _ _ hb)⟩, q F1 H1 _ x1 fun F2 H2 s2 s3 => ?_⟩
        have qa : SqL K H2 a xs := SqL.of (s3 _ _ (s2 _ _ ha))
        have qb : SqL K H2 b ys := SqL.of (s3 _ _ (s2 _ _ hb))
        refine ⟨⟨xs, ys, qa, qb, by rw [ZeR, ra.length, rb.length]⟩, fun i d e => ?_⟩
        obtain ⟨d1, d2, e1, e2, rfl⟩ := ZgH e
        obtain ⟨z1, f1, g1⟩ := ra.get e1
        obtain ⟨z2, f2, g2⟩ := rb.get e2
        refine ⟨⟨xs, ys, z1, z2, qa, qb, f1, f2⟩, fun v H3 hy => ?_⟩
        obtain ⟨p, x, y, hp, rfl, rfl, k1, k2⟩ := hy
        have ex := k1 xs qa
        rw [f1] at ex; cases ex
        have ey := k2 ys qb
        rw [f2] at ey; cases ey
        have sn : ZaK F2 (upd F2 p (.tup [z1, z2])) := ZaK.new (s3.free hp)
        exact ⟨_, Ext.new s3 hp, .tup Zaj (.cons ((g1.mono s2).mono sn) (.cons ((g2.mono s2).mono sn) .nil))⟩
theorem Zet {t : TA} {as : List PyData} (h : EvA K t ρ [.fz (.list as)]) : EvI K (Zqx K t) ρ (ZeK as) := fun H0 F σ H R S q =>
  h H0 F σ H _ S fun F1 H1 vs x1 r1 => by
    cases r1 with
    | fz r r1 =>
      cases r1
      obtain ⟨a, xs, rfl, ha, ra⟩ := ZfC (H := H1) r
      refine ⟨a, rfl, ⟨xs, SqL.of (x1.fh _ _ ha)⟩, q F1 H1 _ x1 fun F2 H2 s2 s3 => ?_⟩
      have qa : SqL K H2 a xs := SqL.of (s3 _ _ (s2 _ _ ha))
      refine ⟨⟨xs, qa, by rw [Zdh, ra.length]⟩, fun i d e => ?_⟩
      obtain ⟨d1, e1, rfl⟩ := ZdX e
      obtain ⟨z1, f1, g1⟩ := ra.get e1
      refine ⟨⟨xs, z1, qa, f1⟩, fun v H3 hy => ?_⟩
      obtain ⟨p, x, hp, rfl, rfl, k1⟩ := hy
      have ex := k1 xs qa
      rw [f1] at ex; cases ex
      have sn : ZaK F2 (upd F2 p (.tup [.int (i : Int), z1])) := ZaK.new (s3.free hp)
      exact ⟨_, Ext.new s3 hp, .tup Zaj (.cons (.int _) (.cons ((g1.mono s2).mono sn) .nil))⟩
theorem ZpA {X : Cx} {ns : List Int} (h : EvE K ta ρ (.list (ns.map PyData.int))) (hc : X.calm = true) (hn : ns ≠ []) : EvE K (tCB (ZqX X) (ZaV ta Zds)) ρ (.int (Zj6 ns)) := fun H0 F σ H Q S q =>
  h H0 F σ H _ S fun F1 H1 v x1 r1 => ⟨hc, v, ns, rfl, r1.mono x1.fh, hn, q F1 H1 _ x1 (.int _)⟩
noncomputable def ZnN : OT -> Option PyData
  | .fz d => some d
  | .ol ds => some (.list ds)
  | .oll dss => some (.list (dss.map PyData.list))
  | .scr _ => none
  | .own _ _ => none
  | .zow _ => none
noncomputable def frF (F H : Hp) (p : List Addr) : Hp := fun b => if b ∈ p then H b else F b
theorem Zge {F H : Hp} {p : List Addr} {b : Addr} (h : b ∈ p) : frF F H p b = H b := by unfold frF; rw [if_pos h]
theorem Zcf {F H : Hp} {p : List Addr} {b : Addr} (h : b ∉ p) : frF F H p b = F b := by unfold frF; rw [if_neg h]
theorem ZcC {F H : Hp} {p : List Addr} (h : ∀ a ∈ p, F a = none) : ZaK F (frF F H p) := fun b u e => by
  rw [Zcf fun z => by rw [h b z] at e; cases e]; exact e
theorem Zew {F H : Hp} {p : List Addr} (s : ZaK F H) : ZaK (frF F H p) H := fun b u e => by
  by_cases z : b ∈ p
  · rw [Zge z] at e; exact e
  · rw [Zcf z] at e; exact s b u e
theorem ZiW {F F' H : Hp} (sm : ZaK F F') : ∀ {as : List Addr} {dss : List (List PyData)}, Za6 F H as dss -> (∀ a ∈ as, F' a = H a) -> Reps F' (as.map V.ref) (dss.map PyData.list)
  | [], [], _, _ => .nil
  | a :: as, ds :: dss, h, he => by
    obtain ⟨⟨h1, xs, h2, h3⟩, h4⟩ := h
    exact .cons (.lst (by rw [he a List.mem_cons_self]; exact h2) (h3.mono sm)) (ZiW sm h4 fun b hb => he b (List.mem_cons_of_mem _ hb))
  | [], _ :: _, h, _ => False.elim h
  | _ :: _, [], h, _ => False.elim h
theorem ZaH.frz {F H : Hp} {v : V} {t : OT} {p : List Addr} {d : PyData} (ok : ZaH K F H v t p) (e : ZnN t = some d) : Rep (frF F H p) v d := by
  have sm : ZaK F (frF F H p) := ZcC fun a ha => (ok.there a ha).1
  cases t with
  | fz d' => cases e; exact ok.2.mono sm
  | ol ds =>
    cases e
    obtain ⟨a, rfl, rfl, h1, xs, h2, h3⟩ := ok
    exact .lst (by rw [Zge List.mem_cons_self]; exact h2) (h3.mono sm)
  | oll dss =>
    cases e
    obtain ⟨a, as, rfl, rfl, hn, h1, h2, h3⟩ := ok
    exact .lst (by rw [Zge List.mem_cons_self]; exact h2) (ZiW sm h3 fun b hb => Zge (List.mem_cons_of_mem _ hb))
  | scr ns => cases e
  | own v0 Φ => cases e
  | zow Ψ => cases e
theorem Za6.frOther {F H : Hp} {p : List Addr} (sm : ZaK F (frF F H p)) : ∀ {as : List Addr} {dss : List (List PyData)}, (∀ a ∈ as, a ∉ p) -> Za6 F H as dss -> Za6 (frF F H p) H as dss
  | [], [], _, _ => trivial
  | a :: as, ds :: dss, hn, h => by
    obtain ⟨⟨h1, xs, h2, h3⟩, h4⟩ := h
    exact ⟨⟨by rw [Zcf (hn a List.mem_cons_self)]; exact h1, xs, h2, h3.mono sm⟩, Za6.frOther sm (fun b hb => hn b (List.mem_cons_of_mem _ hb)) h4⟩
  | [], _ :: _, _, h => False.elim h
  | _ :: _, [], _, h => False.elim h
theorem ZaH.frOther {F H : Hp} {v : V} {t : OT} {p q : List Addr} (sm : ZaK F (frF F H p)) (ok : ZaH K F H v t q) (hn : ∀ a ∈ q, a ∉ p) : ZaH K (frF F H p) H v t q := by
  cases t with
  | fz d => exact ⟨ok.1, ok.2.mono sm⟩
  | zow Ψ => exact ⟨ok.1, Ψ.mono sm ok.2⟩
  | ol ds =>
    obtain ⟨a, rfl, rfl, h1, xs, h2, h3⟩ := ok
    exact ⟨a, rfl, rfl, by rw [Zcf (hn a List.mem_cons_self)]; exact h1, xs, h2, h3.mono sm⟩
  | oll dss =>
    obtain ⟨a, as, rfl, rfl, hd, h1, h2, h3⟩ := ok
    exact ⟨a, as, rfl, rfl, hd, by rw [Zcf (hn a List.mem_cons_self)]; exact h1, h2, h3.frOther sm fun b hb => hn b (List.mem_cons_of_mem _ hb)⟩
  | scr ns => obtain ⟨h1, a, h2, h3⟩ := ok; exact ⟨h1, a, h2, h3.mono sm⟩
  | own v0 Φ => exact ⟨ok.1, Φ.mono sm (fun a ha => by rw [Zcf (hn a ha)]; exact (Φ.there ok.2 a ha).1) (fun _ _ => rfl) ok.2⟩
theorem Sta.freezeG {H0 F H : Hp} {σ : St} {i : Nat} {t : OT} {d : PyData} (s : Sta K H0 F ρ σ H) (e : ρ[i]? = some (some t)) (ed : ZnN t = some d) :
    ∃ p, (∀ a ∈ p, F a = none /\ H a ≠ none /\ H0 a = none) /\ Sta K H0 (frF F H p) (ρ.set i (some (.fz d))) σ H := by
  obtain ⟨kt, h1, h2, fp, h3, h4, h5⟩ := s
  obtain ⟨v, e1, ok⟩ := h3 i _ e
  have hlt := (List.getElem?_eq_some_iff.mp e).1
  have sm : ZaK F (frF F H (fp i)) := ZcC fun a ha => (ok.there a ha).1
  refine ⟨fp i, fun a ha => ⟨(ok.there a ha).1, (ok.there a ha).2, (h5 i a ha).1⟩, kt.mono sm, Zew h1, by simp [h2], fun j => if j = i then [] else fp j, fun j t' e' => ?_, fun j k b hb hc => ?_, fun j b hb => ?_⟩
  · by_cases hj : j = i
    · subst hj
      rw [List.getElem?_set_self hlt] at e'
      cases e'
      refine ⟨_, e1, ?_, ok.frz ed⟩
      dsimp only
      rw [if_pos rfl]
    · rw [List.getElem?_set_ne (Ne.symm hj)] at e'
      obtain ⟨u, f1, f2⟩ := h3 j t' e'
      refine ⟨u, f1, ?_⟩
      dsimp only
      rw [if_neg hj]
      exact f2.frOther sm fun a ha z => hj (h4 j i a ha z)
  · by_cases hj : j = i
    · simp [hj] at hb
    · by_cases hk : k = i
      · simp [hk] at hc
      · simp only [if_neg hj] at hb
        simp only [if_neg hk] at hc
        exact h4 j k b hb hc
  · by_cases hj : j = i
    · simp [hj] at hb
    · simp only [if_neg hj] at hb
      exact h5 j b hb
theorem ZnK {t : TS} {D : PEnds} (i : Nat) {r : OT} {d : PyData} (e : ρ[i]? = some (some r)) (ed : ZnN r = some d) (h : EvS K t (ρ.set i (some (.fz d))) D) : EvS K t ρ D := fun F0 H0 F σ H E x S C => by
  obtain ⟨p, hp, S'⟩ := S.freezeG e ed
  refine h F0 H0 _ σ H E ⟨x.hh, x.ff.trans (ZcC fun a ha => (hp a ha).1), S'.sub, fun a ha => ?_⟩ S' C
  by_cases z : a ∈ p
  · exact .inr (hp a z).2.2
  · rw [Zcf z] at ha; exact x.fr a ha
theorem ZgO {F H F' H' : Hp} {p : List Addr} (hp : ∀ a ∈ p, F a = none /\ H a ≠ none) (x : Ext (frF F H p) H F' H') : Ext F H (fun b => if b ∈ p then none else F' b) H' :=
  ⟨x.hh, fun b u hb => by
    have nb : b ∉ p := fun z => by rw [(hp b z).1] at hb; cases hb
    simp only [if_neg nb]
    exact x.ff b u (by rw [Zcf nb]; exact hb), fun b u hb => by
    by_cases z : b ∈ p
    · simp [z] at hb
    · simp only [if_neg z] at hb; exact x.fh b u hb, fun b hb => by
    by_cases z : b ∈ p
    · simp [z] at hb
    · simp only [if_neg z] at hb
      rcases x.fr b hb with y | y
      · rw [Zcf z] at y; exact .inl y
      · exact .inr y⟩
theorem Zm5 {t : TE} (i : Nat) {r : OT} {d0 d : PyData} {w : V} (e : ρ[i]? = some (some r)) (ed : ZnN r = some d0) (hf : Zd8 d = some w) (h : EvE K t (ρ.set i (some (.fz d0))) d) : EvE K t ρ d := fun H0 F σ H Q S q => by
  obtain ⟨p, hp, S'⟩ := S.freezeG e ed
  refine h H0 _ σ H Q S' fun F' H' v x rr => ?_
  have hv := rr.flat hf
  refine q _ H' v (ZgO (fun a ha => ⟨(hp a ha).1, (hp a ha).2.1⟩) x) ?_
  subst hv
  cases rr <;> simp [Zd8] at hf
  · exact .non
  · exact .bl _
  · exact .int _
  · exact .str _
noncomputable def Zjx (ds : List PyData) : Prop := ∀ d ∈ ds, ∃ w, Zd8 d = some w
theorem Reps.flats {F F' : Hp} : ∀ {xs : List V} {ds : List PyData}, Zjx ds -> Reps F xs ds -> Reps F' xs ds
  | _, _, _, .nil => .nil
  | _ :: _, d :: _, h, .cons r t => by
    obtain ⟨w, e⟩ := h d List.mem_cons_self
    refine .cons ?_ (Reps.flats (fun c hc => h c (List.mem_cons_of_mem _ hc)) t)
    cases r <;> simp [Zd8] at e
    · exact .non
    · exact .bl _
    · exact .int _
    · exact .str _
theorem Zmg {t : TE} (i : Nat) {r : OT} {d0 : PyData} {ds : List PyData} (e : ρ[i]? = some (some r)) (ed : ZnN r = some d0) (hf : Zjx ds) (h : EvO K t (ρ.set i (some (.fz d0))) (.ol ds)) : EvO K t ρ (.ol ds) := fun H0 F σ H Q S q => by
  obtain ⟨p, hp, S'⟩ := S.freezeG e ed
  refine h H0 _ σ H Q S' fun F' H' v pp x hpp ok => ?_
  obtain ⟨a, rfl, rfl, h1, xs, h2, h3⟩ := ok
  refine q _ H' _ [a] (ZgO (fun a ha => ⟨(hp a ha).1, (hp a ha).2.1⟩) x) hpp ⟨a, rfl, rfl, ?_, xs, h2, h3.flats hf⟩
  dsimp only
  by_cases z : a ∈ p
  · rw [if_pos z]
  · rw [if_neg z]; exact h1
end
end L2
end
section
namespace L2
open PySem PySem.Spec PyProof.Rows
section
variable {K : PySem.W.Frag} {ρ : Zbd} {ta tb tc te ti tj : TE} {D : PEnds}
theorem Za6.snoc {F H : Hp} {b : Addr} {ds : List PyData} : ∀ {as : List Addr} {dss : List (List PyData)}, Za6 F H as dss -> ZgR F H b ds -> Za6 F H (as ++ [b]) (dss ++ [ds])
  | [], [], _, h => ⟨h, trivial⟩
  | _ :: _, _ :: _, h, h2 => ⟨h.1, Za6.snoc h.2 h2⟩
  | [], _ :: _, h, _ => False.elim h
  | _ :: _, [], h, _ => False.elim h
theorem Za6.length {F H : Hp} : ∀ {as : List Addr} {dss : List (List PyData)}, Za6 F H as dss -> as.length = dss.length
  | [], [], _ => rfl
  | _ :: _, _ :: _, h => by simp [Za6.length h.2]
  | [], _ :: _, h => False.elim h
  | _ :: _, [], h => False.elim h
theorem Za6.get {F H : Hp} : ∀ {as : List Addr} {dss : List (List PyData)} {k : Nat} {ds : List PyData}, Za6 F H as dss -> dss[k]? = some ds -> ∃ c, as[k]? = some c /\ ZgR F H c ds
  | [], [], _, _, _, e => by simp at e
  | a :: _, _ :: _, 0, ds, h, e => by simp at e; subst e; exact ⟨a, rfl, h.1⟩
  | _ :: as, _ :: dss, k + 1, ds, h, e => by
    obtain ⟨c, h1, h2⟩ := Za6.get (k := k) (ds := ds) h.2 (by simpa using e)
    exact ⟨c, by simpa using h1, h2⟩
  | [], _ :: _, _, _, h, _ => False.elim h
  | _ :: _, [], _, _, h, _ => False.elim h
theorem Za6.set {F H : Hp} {c : Addr} {xs : List V} {ds : List PyData} (r : Reps F xs ds) (hf : F c = none) : ∀ {as : List Addr} {dss : List (List PyData)} {k : Nat}, Za6 F H as dss -> as.Nodup -> as[k]? = some c -> Za6 F (upd H c (.lst xs)) as (dss.set k ds)
  | [], [], _, _, _, e => by simp at e
  | a :: as, d :: dss, 0, h, hn, e => by
    simp at e
    subst e
    exact ⟨⟨hf, xs, Zaj, r⟩, h.2.other (List.nodup_cons.mp hn).1⟩
  | a :: as, d :: dss, k + 1, h, hn, e => by
    have e' : as[k]? = some c := by simpa using e
    have hm := List.mem_of_getElem? e'
    exact ⟨h.1.other (fun z => (List.nodup_cons.mp hn).1 (by rw [z]; exact hm)), Za6.set r hf h.2 (List.nodup_cons.mp hn).2 e'⟩
  | [], _ :: _, _, h, _, _ => False.elim h
  | _ :: _, [], _, h, _, _ => False.elim h
theorem ZjD {i : Nat} {dss : List (List PyData)} {ds : List PyData} {d : PyData} {k m : Int} {k' m' : Nat} (e : ρ[i]? = some (some (.oll dss))) (h : EvE K te ρ d) (hk : EvE K ti ρ (.int k)) (hm : EvE K tj ρ (.int m)) (e1 : ixN dss.length k = some k') (e2 : dss[k']? = some ds) (e3 : ixN ds.length m = some m')
    (hn : D.nx (ρ.set i (some (.oll (dss.set k' (ds.set m' d)))))) : EvS K (Zmc te (ZrC (tOp (rIx K) (ZcR i) ti) tj Zn0)) ρ D := fun F0 H0 F σ H E x S C =>
  h H0 F σ H _ S fun F1 H1 v x1 r1 => by
    have S1 := S.ext x1
    obtain ⟨fp1, g1, g2, g3⟩ := S1.fp
    obtain ⟨v1, q1, a, as, rfl, p1, nd1, fa1, ha1, oa1⟩ := g1 i _ e
    refine ⟨_, q1, hk H0 F1 σ H1 _ S1 fun F2 H2 y x2 r2 => ?_⟩
    cases r2
    obtain ⟨c, hc, oc⟩ := (oa1.ext x2).get e2
    have ea : atI (as.map V.ref) k = some (.ref c) := by
      unfold atI
      rw [List.length_map, oa1.length, e1]
      show (as.map V.ref)[k']? = _
      rw [List.getElem?_map, hc]
      rfl
    refine .inl ⟨a, as.map V.ref, k, .ref c, rfl, rfl, SqL.of (x2.hh _ _ ha1), ea, hm H0 F2 σ H2 _ (S1.ext x2) fun F3 H3 z x3 r3 => ?_⟩
    cases r3
    have x23 := x2.trans x3
    obtain ⟨oc1, xs, oc2, oc3⟩ := oc.ext x3
    refine ⟨c, xs, m, m', rfl, rfl, oc2, by rw [oc3.length]; exact e3, ?_⟩
    have S3 := S1.ext x23
    have X3 := x.trans (x1.trans x23)
    have hcm : c ∈ fp1 i := by rw [p1]; exact List.mem_cons_of_mem _ (List.mem_of_getElem? hc)
    have nca : c ≠ a := fun z => (List.nodup_cons.mp nd1).1 (by rw [<- z]; exact List.mem_of_getElem? hc)
    have hlt := (List.getElem?_eq_some_iff.mp e).1
    have rr := (oc3.set (r1.mono x23.ff) m')
    refine C.nx F3 σ _ _ (X3.wr (g3 i c hcm).1 oc1) ⟨S3.kt, S3.sub.upd oc1, by simp [S3.len], fp1, fun j t ej => ?_, g2, fun j b hb => ?_⟩ hn
    · by_cases hj : j = i
      · subst hj
        rw [List.getElem?_set_self hlt] at ej
        cases ej
        have ok3 := (g1 j _ e)
        refine ⟨_, q1, a, as, rfl, p1, nd1, x23.free fa1 (Zbs ha1), by rw [Zah nca.symm]; exact x23.hh _ _ ha1, (oa1.ext x23).set rr oc1 (List.nodup_cons.mp nd1).2 hc⟩
      · rw [List.getElem?_set_ne (Ne.symm hj)] at ej
        obtain ⟨u, f1, f2⟩ := g1 j t ej
        exact ⟨u, f1, (f2.ext x23).other fun z => hj (g2 j i c z hcm)⟩
    · obtain ⟨f1, f2⟩ := g3 j b hb
      refine ⟨f1, ?_⟩
      by_cases z : b = c
      · subst z; rw [Zaj]; exact fun q => nomatch q
      · rw [Zah z]
        obtain ⟨o, ho⟩ := ZgJ f2
        exact Zbs (x23.hh _ _ ho)
theorem ZlL {α : Type} {f : List (Option Nat)} {wi : TI} {g : CIn -> TG} {tee : CIn -> TE} {xs : List α} {enc : α -> PyData} {h : α -> List PyData} (hi : EvI K wi ρ (xs.map enc)) (hl : xs.length <= 1000)
    (hs : ∀ x ∈ xs, ∀ c, ∃ ρ2, GTo K (g c) (enc x) (ZhG f ρ) ρ2 /\ EvO K (tee c) ρ2 (.ol (h x))) : EvO K (tLC f wi g (fun _ => Zpt) tee) ρ (.oll (xs.map h)) := fun H0 F σ H Q S q =>
  hi H0 F σ H _ S fun F1 H1 J x1 W c => by
    have hn : xs.length <= sizeLine := Nat.le_of_lt (ZaN hl)
    refine ⟨fun i m ys H => m = xs.length - i /\ i <= xs.length /\ ∃ F' as, Ext F1 H1 F' H /\ ys = as.map V.ref /\ as.Nodup /\ (∀ a ∈ as, H1 a = none) /\ Za6 F' H as ((xs.take i).map h), ⟨xs.length, by simp, Nat.zero_le _, F1, [], Ext.refl x1.fh, rfl, by simp, fun a ha => (nomatch ha), trivial⟩, ?_⟩
    rintro i m ys H' ⟨rfl, hle, F', as, x', rfl, nd, hfr, oa⟩
    obtain ⟨w1, w2⟩ := W F' H' x'.ff x'.fh
    by_cases hlt : i < xs.length
    · have e : (xs.map enc)[i]? = some (enc xs[i]) := by simp [hlt]
      obtain ⟨go, yl⟩ := w2 i _ e
      refine .inr ⟨go, fun v H3 y => ?_⟩
      obtain ⟨F3, x3, r3⟩ := yl v H3 y
      obtain ⟨ρ2, k1, k2⟩ := hs xs[i] (List.getElem_mem hlt) c
      have S3 := (S.ext (x1.trans (x'.trans x3))).inner f
      have tk : xs.take (i + 1) = xs.take i ++ [xs[i]] := by rw [List.take_succ]; simp [hlt]
      have ol := oa.length
      refine k1 H0 F3 _ H3 v _ S3 r3 fun σ2 S4 => ?_
      dsimp only [Zpt]
      rw [if_pos rfl]
      refine k2 H0 F3 σ2 H3 _ S4 fun F5 H5 z p x5 hp ok => ⟨?_, xs.length - (i + 1), by omega, rfl, hlt, F5, as ++ [?_], x'.trans (x3.trans x5), ?_, ?_, ?_, ?_⟩
      · rw [List.length_map, ol, List.length_map, List.length_take]; omega
      · exact (match z with | .ref b => b | _ => 0)
      all_goals obtain ⟨b, rfl, rfl, o1⟩ := ok
      · simp
      · rw [List.nodup_append]
        refine ⟨nd, by simp, fun c' hc' d hd => ?_⟩
        have hd' : d = b := by simpa using hd
        subst hd'
        intro z
        subst z
        have hb : H3 c' = none := hp c' List.mem_cons_self
        have := (oa.mem c' hc').2
        obtain ⟨o, ho⟩ := ZgJ this
        rw [x3.hh _ _ ho] at hb
        cases hb
      · intro c' hc'
        rcases List.mem_append.mp hc' with hc' | hc'
        · exact hfr c' hc'
        · have : c' = b := by simpa using hc'
          subst this
          exact (x'.trans x3).hh.free (hp c' List.mem_cons_self)
      · rw [tk, List.map_append]
        exact (oa.ext (x3.trans x5)).snoc o1
    · have e : i = xs.length := by omega
      subst e
      refine .inl ⟨by simpa using w1, fun a ha => ?_⟩
      rw [List.take_length] at oa
      have na : a ∉ as := fun z => (oa.mem a z).2 ha
      refine q F' _ _ (a :: as) ((x1.trans x').trans (Ext.own x'.fh ha)) (fun b hb => ?_) ⟨a, as, rfl, rfl, List.nodup_cons.mpr ⟨na, nd⟩, x'.fh.free ha, Zaj, oa.other na⟩
      rcases List.mem_cons.mp hb with rfl | hb
      · exact (x1.trans x').hh.free ha
      · exact x1.hh.free (hfr b hb)
theorem Zra {ds : List PyData} {k : Int} (ha : EvE K ta ρ (.list ds)) (hb : EvE K tb ρ (.int k)) (h0 : 0 <= k) (hl : ds.length * k.toNat <= 1000) (hk : k <= 1000000) : EvO K (tOp ZrR ta tb) ρ (.ol (List.replicate k.toNat ds).flatten) := fun H0 F σ H Q S q =>
  ZdO ha hb S fun F' H' x y e r1 r2 => by
    obtain ⟨a, xs, rfl, h1, h2, h3⟩ := Zcc (K := K) r1 e.fh
    cases r2
    have h63 : (2 : Int) ^ 63 = 9223372036854775808 := by decide
    refine ⟨a, k, xs, rfl, rfl, h3, by rw [h63]; omega, by rw [h63]; omega, by rw [h2.length]; exact Nat.le_of_lt (ZaN hl), fun p hp => ?_⟩
    have rr : ∀ n : Nat, Reps F' (List.replicate n xs).flatten (List.replicate n ds).flatten := fun n => by
      induction n with
      | zero => exact .nil
      | succ n ih => rw [List.replicate_succ, List.replicate_succ, List.flatten_cons, List.flatten_cons]; exact h2.append ih
    obtain ⟨z1, z2, z3⟩ := Zfs (K := K) e hp (rr k.toNat)
    exact q _ _ _ _ z1 z2 z3
theorem ZlO {α : Type} (d : α) : ∀ n : Nat, (List.replicate n [d]).flatten = List.replicate n d
  | 0 => rfl
  | n + 1 => by rw [List.replicate_succ, List.flatten_cons, ZlO d n]; rfl
end
end L2
end
namespace L2
open PySem PySem.Spec PyProof.Rows
section
variable {κ : Type} [DecidableEq κ]
noncomputable def ZdE (kvs : List (κ × V)) (k : κ) : Option V := (kvs.find? fun kv => decide (kv.1 = k)).map (·.2)
noncomputable def ZiQ (kvs : List (κ × V)) (k : κ) (v : V) : List (κ × V) :=
  if (kvs.any fun kv => decide (kv.1 = k)) = true then kvs.map (fun kv => if kv.1 = k then (kv.1, v) else kv) else kvs ++ [(k, v)]
theorem Zcg {p : κ × V} {r : List (κ × V)} {k : κ} (e : p.1 = k) : ZdE (p :: r) k = some p.2 := by simp [ZdE, List.find?_cons, e]
theorem Zci {p : κ × V} {r : List (κ × V)} {k : κ} (e : ¬ p.1 = k) : ZdE (p :: r) k = ZdE r k := by simp [ZdE, List.find?_cons, e]
theorem Zjc (k : κ) : ∀ kvs : List (κ × V), (kvs.any fun kv => decide (kv.1 = k)) = (ZdE kvs k).isSome
  | [] => rfl
  | p :: r => by
    rw [List.any_cons]
    by_cases e : p.1 = k
    · simp only [Zcg e, decide_eq_true e, Bool.true_or, Option.isSome_some]
    · rw [Zci e, decide_eq_false e, Bool.false_or]; exact Zjc k r
theorem ZhU (k j : κ) (y : V) : ∀ kvs : List (κ × V), ZdE kvs k = none -> ZdE (kvs ++ [(k, y)]) j = if j = k then some y else ZdE kvs j
  | [], _ => by
    by_cases e : k = j
    · rw [if_pos e.symm]; exact Zcg (p := (k, y)) e
    · rw [if_neg (fun z => e z.symm)]; exact Zci (p := (k, y)) e
  | p :: r, hn => by
    rw [List.cons_append]
    have hk : ¬ p.1 = k := fun z => by rw [Zcg z] at hn; cases hn
    rw [Zci hk] at hn
    have ih := ZhU k j y r hn
    by_cases e : p.1 = j
    · rw [Zcg e, Zcg e, if_neg (fun z => hk (e.trans z))]
    · rw [Zci e, Zci e, ih]
theorem Zfi (kvs : List (κ × V)) (k : κ) (v : V) : (ZiQ kvs k v).length <= kvs.length + 1 := by
  unfold ZiQ
  split
  · rw [List.length_map]; omega
  · rw [List.length_append, List.length_cons, List.length_nil]; omega
theorem Zff.isSome_eq {o : Option V} {u : Option Value} (r : Zff o u) : o.isSome = u.isSome := by
  cases o with
  | none => cases u with
    | none => rfl
    | some _ => exact (show False from r).elim
  | some _ => cases u with
    | none => exact (show False from r).elim
    | some _ => rfl
theorem Zff.getD {o : Option V} {u : Option Value} {d : V} {d' : Value} (r : Zff o u) (rd : Zbc d d') : Zbc (o.getD d) (u.getD d') := by
  cases o with
  | none => cases u with
    | none => exact rd
    | some _ => exact (show False from r).elim
  | some _ => cases u with
    | none => exact (show False from r).elim
    | some _ => exact r
theorem KV.val {kvs : List (κ × V)} {vs : List (κ × Value)} (r : KV kvs vs) (k : κ) : Zff (ZdE kvs k) (valueAt vs k) := by
  unfold KV at r
  induction r with
  | nil => exact True.intro
  | @cons p q ps qs h t ih =>
    obtain ⟨h1, h2⟩ := h
    by_cases e : p.1 = k
    · have e' : q.1 = k := h1.symm.trans e
      have b : valueAt (q :: qs) k = some q.2 := by simp [valueAt, List.find?_cons, e']
      rw [Zcg e, b]; exact h2
    · have e' : ¬ q.1 = k := fun z => e (h1.trans z)
      have b : valueAt (q :: qs) k = valueAt qs k := by simp [valueAt, List.find?_cons, e']
      rw [Zci e, b]; exact ih
theorem KV.any {kvs : List (κ × V)} {vs : List (κ × Value)} (r : KV kvs vs) (k : κ) : (kvs.any fun kv => decide (kv.1 = k)) = vs.any fun kv => decide (kv.1 = k) := by
  unfold KV at r
  induction r with
  | nil => rfl
  | cons h t ih => rw [List.any_cons, List.any_cons, ih, h.1]
theorem KV.repl {kvs : List (κ × V)} {vs : List (κ × Value)} (r : KV kvs vs) (k : κ) {y : V} {u : Value} (ry : Zbc y u) :
    KV (kvs.map fun kv => if kv.1 = k then (kv.1, y) else kv) (vs.map fun kv => if kv.1 = k then (kv.1, u) else kv) := by
  unfold KV at r ⊢
  induction r with
  | nil => exact .nil
  | @cons p q ps qs h t ih =>
    rw [List.map_cons, List.map_cons]
    refine .cons ?_ ih
    obtain ⟨h1, h2⟩ := h
    by_cases e : p.1 = k
    · rw [if_pos e, if_pos (h1.symm.trans e)]; exact ⟨h1, ry⟩
    · rw [if_neg e, if_neg (fun z => e (h1.trans z))]; exact ⟨h1, h2⟩
theorem KV.put {kvs : List (κ × V)} {vs : List (κ × Value)} (r : KV kvs vs) (k : κ) {y : V} {u : Value} (ry : Zbc y u) : KV (ZiQ kvs k y) (stored vs k u) := by
  unfold ZiQ stored
  rw [r.any k]
  by_cases e : (vs.any fun kv => decide (kv.1 = k)) = true
  · rw [if_pos e, if_pos e]; exact r.repl k ry
  · rw [if_neg e, if_neg e]; exact Paired.snoc r ⟨rfl, ry⟩
theorem KV.length {kvs : List (κ × V)} {vs : List (κ × Value)} (r : KV kvs vs) : kvs.length = vs.length := Paired.length r
end
theorem ZjR {P : Program} {w : World} {k : Key} {u : Value} (r : Zbc (kV k) u) : (ZaZ P w).is k u = true := by
  cases k with
  | inl i => obtain ⟨t, e⟩ := (show ∃ t, u = Value.int i t from r); subst e; exact Zir P w i t
  | inr x => obtain ⟨t, e⟩ := (show ∃ t, u = Value.str x t from r); subst e; exact Zix P w x t
theorem ZgU {P : Program} {w : World} : ∀ {ks : List Key} {us : List Value}, ZbE (ks.map kV) us -> ItemsAre (ZaZ P w) ks us
  | [], _, r => by rw [List.map_nil] at r; cases r; exact .nil
  | k :: ks, _, r => by
    rw [List.map_cons] at r
    cases r with
    | cons h t => exact .cons (ZjR h) (ZgU t)
noncomputable abbrev KT (H : Hp) : List (List Key × V) -> List (List Key × Addr × Value) -> Prop := Paired fun p q => p.1 = q.1 /\ H q.2.1 = some (.tup (p.1.map kV)) /\ Zbc p.2 q.2.2
theorem KT.val {H : Hp} {kvs : List (List Key × V)} {xs : List (List Key × Addr × Value)} (r : KT H kvs xs) (k : List Key) : Zff (ZdE kvs k) ((atKey xs k).map (·.2)) := by
  induction r with
  | nil => exact True.intro
  | @cons p q ps qs h t ih =>
    obtain ⟨h1, _, h2⟩ := h
    by_cases e : p.1 = k
    · have e' : q.1 = k := h1.symm.trans e
      have b : atKey (q :: qs) k = some q.2 := by simp [atKey, List.find?_cons, e']
      rw [Zcg e, b]; exact h2
    · have e' : ¬ q.1 = k := fun z => e (h1.trans z)
      have b : atKey (q :: qs) k = atKey qs k := by simp [atKey, List.find?_cons, e']
      rw [Zci e, b]; exact ih
theorem KT.repl {H : Hp} {kvs : List (List Key × V)} {xs : List (List Key × Addr × Value)} (r : KT H kvs xs) (k : List Key) {y : V} {u : Value} (ry : Zbc y u) :
    KT H (kvs.map fun kv => if kv.1 = k then (kv.1, y) else kv) (xs.map (putAt k u)) := by
  induction r with
  | nil => exact .nil
  | @cons p q ps qs h t ih =>
    rw [List.map_cons, List.map_cons]
    refine .cons ?_ ih
    obtain ⟨h1, h2, h3⟩ := h
    unfold putAt
    by_cases e : p.1 = k
    · rw [if_pos e, if_pos (h1.symm.trans e)]; exact ⟨h1, h2, ry⟩
    · rw [if_neg e, if_neg (fun z => e (h1.trans z))]; exact ⟨h1, h2, h3⟩
theorem KT.put {H : Hp} {kvs : List (List Key × V)} {xs : List (List Key × Addr × Value)} (r : KT H kvs xs) (k : List Key) {b : Addr} {y : V} {u : Value} (hb : H b = some (.tup (k.map kV))) (ry : Zbc y u) :
    KT H (ZiQ kvs k y) (storedH xs k b u) := by
  have e : (kvs.any fun kv => decide (kv.1 = k)) = (atKey xs k).isSome := by
    rw [Zjc, (r.val k).isSome_eq, Option.isSome_map]
  unfold ZiQ storedH
  rw [e]
  by_cases q : (atKey xs k).isSome = true
  · rw [if_pos q, if_pos q]; exact r.repl k ry
  · rw [if_neg q, if_neg q]; exact Paired.snoc r ⟨rfl, hb, ry⟩
theorem KT.keeps {H H' : Hp} {kvs : List (List Key × V)} {xs : List (List Key × Addr × Value)} (r : KT H kvs xs) (ht : ∀ b ys, H b = some (.tup ys) -> H' b = some (.tup ys)) : KT H' kvs xs :=
  Paired.mapP r fun _ _ z => ⟨z.1, ht _ _ z.2.1, z.2.2⟩
section
variable {P : Program} {w : World} {H : Hp} {h : Heap} {a : Addr}
theorem ZqK {u : HO} (ok : HOk P w H h) (e : Rd H a u) : Zct P w H h a u := e.ok ok
theorem Zib {kvs : List (Key × V)} (ok : HOk P w H h) (e : Rd H a (.dK kvs)) : kvs.length <= sizeLine /\ (a == sysModules) = false /\ ∃ vs, KV kvs vs /\ h.DictOf (ZaZ P w) a vs :=
  show Zct P w H h a (.dK kvs) from ZqK ok e
theorem Zrs {kvs : List (Key × V)} (ok : HOk P w H h) (e : H a = some (.dK kvs)) : kvs.length <= sizeLine /\ (a == sysModules) = false /\ ∃ vs, KV kvs vs /\ h.DictOf (ZaZ P w) a vs := Zib ok (.inl e)
theorem ZdL {ks : List Key} (ok : HOk P w H h) (e : H a = some (.tup (ks.map kV))) : (tupleKind (ZaZ P w)).is h ks a := by
  obtain ⟨_, its, r, o, h1, h2, n, h3⟩ := (show Zct P w H h a (.tup (ks.map kV)) from ok a _ e)
  exact ⟨o, its.toArray, n, h1, h2, h3, by simpa using ZgU r⟩
theorem Zih {kvs : List (List Key × V)} (ok : HOk P w H h) (e : Rd H a (.dT kvs)) : kvs.length <= sizeLine /\ (a == sysModules) = false /\
    ∃ xs, KT H kvs xs /\ h.DictOfH (tupleKind (ZaZ P w)) a xs := by
  obtain ⟨z, y, xs, r, o, es, ep, h1, h2, h3, h4, h5⟩ := (show Zct P w H h a (.dT kvs) from ZqK ok e)
  refine ⟨z, y, xs, r, o, es, ep, h1, h2, h3, h4, fun x hx => ?_, h5⟩
  have all : ∀ {l : List (List Key × V)} {m : List (List Key × Addr × Value)}, KT H l m -> ∀ x ∈ m, (tupleKind (ZaZ P w)).is h x.1 x.2.1 := by
    intro l m q
    induction q with
    | nil => intro x hx; exact nomatch hx
    | @cons p q ps qs hq t ih =>
      intro x hx
      rcases List.mem_cons.mp hx with e | hx
      · subst e
        exact ZdL ok (by rw [<- hq.1]; exact hq.2.1)
      · exact ih x hx
  exact all r x hx
theorem Zpk {kvs : List (List Key × V)} (ok : HOk P w H h) (e : H a = some (.dT kvs)) : kvs.length <= sizeLine /\ (a == sysModules) = false /\
    ∃ xs, KT H kvs xs /\ h.DictOfH (tupleKind (ZaZ P w)) a xs := Zih ok (.inl e)
end
noncomputable def ZgT (H : Hp) (a : Addr) (y : V) (r : Option V) : Prop :=
  (∃ kvs k, Rd H a (.dK kvs) /\ y = kV k /\ r = ZdE kvs k) \/ ∃ kvs k b, Rd H a (.dT kvs) /\ y = .ref b /\ H b = some (.tup (k.map kV)) /\ r = ZdE kvs k
noncomputable def Zo0 (H : Hp) (a : Addr) (y v : V) (H' : Hp) : Prop :=
  (∃ kvs k, H a = some (.dK kvs) /\ y = kV k /\ kvs.length < sizeLine /\ H' = upd H a (.dK (ZiQ kvs k v))) \/
  ∃ kvs k b, H a = some (.dT kvs) /\ y = .ref b /\ H b = some (.tup (k.map kV)) /\ kvs.length < sizeLine /\ H' = upd H a (.dT (ZiQ kvs k v))
theorem ZgT.k {H : Hp} {a : Addr} {kvs : List (Key × V)} {k : Key} (e : H a = some (.dK kvs)) : ZgT H a (kV k) (ZdE kvs k) := .inl ⟨kvs, k, .inl e, rfl, rfl⟩
theorem ZgT.t {H : Hp} {a b : Addr} {kvs : List (List Key × V)} {k : List Key} (e : H a = some (.dT kvs)) (eb : H b = some (.tup (k.map kV))) : ZgT H a (.ref b) (ZdE kvs k) := .inr ⟨kvs, k, b, .inl e, rfl, eb, rfl⟩
theorem Zo0.k {H : Hp} {a : Addr} {kvs : List (Key × V)} {k : Key} {v : V} (e : H a = some (.dK kvs)) (hl : kvs.length < sizeLine) : Zo0 H a (kV k) v (upd H a (.dK (ZiQ kvs k v))) := .inl ⟨kvs, k, e, rfl, hl, rfl⟩
theorem Zo0.t {H : Hp} {a b : Addr} {kvs : List (List Key × V)} {k : List Key} {v : V} (e : H a = some (.dT kvs)) (eb : H b = some (.tup (k.map kV))) (hl : kvs.length < sizeLine) :
    Zo0 H a (.ref b) v (upd H a (.dT (ZiQ kvs k v))) := .inr ⟨kvs, k, b, e, rfl, eb, hl, rfl⟩
section
variable {X : Cx} {pins : List (Addr × Obj)} {σ : St} {H : Hp} {s : Shared} {a : Addr} {y v : V} {u r : Value} {o : Option V} {A : Around} {E : Value -> Shared -> Prop}
theorem Inv.big (I : Inv X pins σ H s) : sysModules < s.heap.objs.size := by
  have h : mainGlobals < s.heap.objs.size := (I.mod.glob.keeps I.bk).lt
  exact Nat.lt_trans (by decide) h
theorem Zkx {Q : Value -> Shared -> Prop} (hu : A.units + 1 < cLine) (I : Inv X pins σ H s) (g : ZgT H a y (some v)) (ry : Zbc y u) (h : ∀ w' s', Inv X pins σ H s' -> Zbc v w' -> Q w' s') :
    wpAny (model X.prog X.w) A (getItem (.ref a) u) Q E s := by
  rcases g with ⟨kvs, k, e, ey, l⟩ | ⟨kvs, k, b, e, ey, eb, l⟩
  · subst ey
    obtain ⟨z, hd, vs, rel, dd⟩ := Zib I.hok e
    obtain ⟨w', hw, rw'⟩ := Zff.some_of (v := v) (o := valueAt vs k) (by rw [l]; exact rel.val k)
    exact wpAny_getItem_of (ZjR ry) dd.mapOf hw (h w' _ (I.tok _) rw')
  · subst ey
    cases (show u = Value.ref b from ry)
    obtain ⟨z, hd, xs, rel, dd⟩ := Zih I.hok e
    obtain ⟨w', hw, rw'⟩ := Zff.some_of (v := v) (o := (atKey xs k).map (·.2)) (by rw [l]; exact rel.val k)
    obtain ⟨p, hp, hp2⟩ := Option.map_eq_some_iff.mp hw
    refine wpAny_getItem_heap (tupleKind_room_in1 hu) (ZdL I.hok eb) dd hp ?_
    rw [hp2]
    exact h w' _ (I.tok _) rw'
theorem Zsg {Q : Value -> Shared -> Prop} (hu : A.units + 1 < cLine) (I : Inv X pins σ H s) (g : ZgT H a y o) (ry : Zbc y u) (h : ∀ s', Inv X pins σ H s' -> Q (.bool o.isSome) s') :
    wpAny (model X.prog X.w) A (compareOp .In u (.ref a)) Q E s := by
  rcases g with ⟨kvs, k, e, ey, l⟩ | ⟨kvs, k, b, e, ey, eb, l⟩
  · subst ey
    obtain ⟨z, hd, vs, rel, dd⟩ := Zib I.hok e
    refine wpAny_in_of (ZjR ry) hd dd.mapOf ?_
    rw [<- (rel.val k).isSome_eq, <- l]
    exact h _ (I.tok _)
  · subst ey
    cases (show u = Value.ref b from ry)
    obtain ⟨z, hd, xs, rel, dd⟩ := Zih I.hok e
    refine wpAny_in_heap (tupleKind_room_in1 hu) (ZdL I.hok eb) hd dd ?_
    have q := (rel.val k).isSome_eq
    rw [Option.isSome_map] at q
    rw [<- q, <- l]
    exact h _ (I.tok _)
theorem Zpd {Q : Value -> Shared -> Prop} (hu : A.units + 1 < cLine) (I : Inv X pins σ H s) (g : ZgT H a y o) (ry : Zbc y u) (h : ∀ s', Inv X pins σ H s' -> Q (.bool (!o.isSome)) s') :
    wpAny (model X.prog X.w) A (compareOp .NotIn u (.ref a)) Q E s := by
  rcases g with ⟨kvs, k, e, ey, l⟩ | ⟨kvs, k, b, e, ey, eb, l⟩
  · subst ey
    obtain ⟨z, hd, vs, rel, dd⟩ := Zib I.hok e
    refine wpAny_notIn_of (ZjR ry) hd dd.mapOf ?_
    rw [<- (rel.val k).isSome_eq, <- l]
    exact h _ (I.tok _)
  · subst ey
    cases (show u = Value.ref b from ry)
    obtain ⟨z, hd, xs, rel, dd⟩ := Zih I.hok e
    refine wpAny_notIn_heap (tupleKind_room_in1 hu) (ZdL I.hok eb) hd dd ?_
    have q := (rel.val k).isSome_eq
    rw [Option.isSome_map] at q
    rw [<- q, <- l]
    exact h _ (I.tok _)
theorem Zft {h' : Heap} {t' : Nat} {ob : HO} (I : Inv X pins σ H s) (mu : Mut (H a)) (hs : Heap.SameBut a s.heap h') (he : ∃ q, h'.get? a = some q) (new : Zct X.prog X.w (upd H a ob) h' a ob) :
    Inv X pins σ (upd H a ob) { s with heap := h', toks := t' } :=
  I.write (x := a) (e := a) mu (.inl rfl) (fun b q hb z => (hs.2 b hb).trans z) he new
theorem ZqO {P : Program} {w : World} {H' : Hp} {h' : Heap} {kvs : List (Key × V)} {vs : List (Key × Value)} (z : kvs.length <= sizeLine) (hd : (a == sysModules) = false) (rel : KV kvs vs) (dd : h'.DictOf (ZaZ P w) a vs) :
    Zct P w H' h' a (.dK kvs) := ⟨z, hd, vs, rel, dd⟩
theorem Zlx {H' : Hp} {Q : Unit -> Shared -> Prop} (hu : A.units + 1 < cLine) (I : Inv X pins σ H s) (g : Zo0 H a y v H') (ry : Zbc y u) (rv : Zbc v r) (h : ∀ s', Inv X pins σ H' s' -> Q () s') :
    wpAny (model X.prog X.w) A (setItem (.ref a) u r) Q E s := by
  rcases g with ⟨kvs, k, e, ey, l, eH⟩ | ⟨kvs, k, b, e, ey, eb, l, eH⟩
  · subst ey eH
    obtain ⟨z, hd, vs, rel, dd⟩ := Zrs I.hok e
    have hz : vs.length <= sizeLine := by rw [<- rel.length]; exact z
    have hl : (ZiQ kvs k v).length <= sizeLine := by have := Zfi kvs k v; omega
    refine wpAny_setItem_pairs (hsz := hz) (ZjR ry) dd fun h' dd' hs => h _ ?_
    have he : ∃ q, h'.get? a = some q := let ⟨q, _, _, hq, _⟩ := dd'; ⟨q, hq⟩
    exact Zft I (by rw [e]; exact True.intro) hs he (ZqO hl hd (rel.put k rv) dd')
  · subst ey eH
    cases (show u = Value.ref b from ry)
    obtain ⟨z, hd, xs, rel, dd⟩ := Zpk I.hok e
    have hz : xs.length <= sizeLine := by rw [<- Paired.length rel]; exact z
    have hl : (ZiQ kvs k v).length <= sizeLine := by have := Zfi kvs k v; omega
    refine wpAny_setItem_heap (hsz := hz) (tupleKind_room_in1 hu) (ZdL I.hok eb) dd fun h' dd' hs => h _ ?_
    obtain ⟨q, es, ep, hq, h2, h3, h4, _, h5⟩ := dd'
    refine Zft I (by rw [e]; exact True.intro) hs ⟨q, hq⟩ ⟨hl, hd, _, (rel.put k eb rv).keeps fun c ys ec => ?_, q, es, ep, hq, h2, h3, h4, h5⟩
    rw [Zah (Zqf ec e (fun z => nomatch z))]
    exact ec
end
section
variable {X : Cx} {pins : List (Addr × Obj)} {σ : St} {H : Hp} {s : Shared} {a : Addr} {kvs : List (Key × V)} {k : Key} {u : Value} {A : Around} {E : Value -> Shared -> Prop}
end
noncomputable def Zr8 (i : Expr) : Prop := ∀ ov iv, subscripted i false ov iv = operate [ov, iv] (getItem ov iv)
theorem ZkH {prog : Program} {w : World} {A : Around} {E : Value -> Shared -> Prop} {s : Shared} {env : Env} {value slice : Expr} {pos : Pos} {T id : String} {Q : Value -> Shared -> Prop}
    (hl : typeLookup (.type T) "__getitem__" = pure (some (.builtin id))) (hs : Zr8 slice)
    (h : wpAny (model prog w) A (eval value env) (fun o s₁ => wpAny (model prog w) A (eval slice env) (fun i s₂ => s₂.TypeIs o T /\ wpAny (model prog w) A (getItem o i) Q E s₂) E s₁) E s) :
    wpAny (model prog w) A (eval (.Subscript value slice pos) env) Q E s := by
  refine Subscript_ (wpAny_mono h (fun o s₁ h₁ => wpAny_mono h₁ (fun i s₂ h₂ => ?_) fun _ _ x => x) fun _ _ x => x)
  obtain ⟨hT, h₂⟩ := h₂
  unfold subscriptTail
  refine wpAny_bind ?_
  rw [getitemInPython_of_ne hT.not_modules]
  refine wpAny_bind (wpAny_specialOf hT hl ?_)
  have fin : wpAny (model prog w) A (subscripted slice false o i) (fun r s₃ => wpAny (model prog w) A (letTemporaryGo value o r >>= fun _ => pure r) Q E s₃) E s₂ := by
    rw [hs o i]
    exact wpAny_operating (wpAny_mono h₂ (fun r s₃ h₃ => wpAny_bind (wpAny_letTemporaryGo (wpAny_pure h₃))) fun _ _ x => x)
  first
    | exact wpAny_pure (wpAny_bind fin)
    | exact wpAny_bind (wpAny_pure (wpAny_bind fin))
    | exact wpAny_bind fin
theorem ZiC {X : Cx} {pins : List (Addr × Obj)} {σ : St} {H : Hp} {s : Shared} {a : Addr} {y : V} {o : Option V} (I : Inv X pins σ H s) (g : ZgT H a y o) : s.TypeIs (.ref a) "dict" := by
  rcases g with ⟨kvs, k, e, _, _⟩ | ⟨kvs, k, b, e, _, _, _⟩
  · obtain ⟨_, _, vs, _, dd⟩ := Zib I.hok e
    exact dd.typeIs
  · obtain ⟨_, _, xs, _, dd⟩ := Zih I.hok e
    exact dd.typeIs
noncomputable def Zqr (td ty : TE) : TE := fun σ H Q => td σ H fun x H1 => ty σ H1 fun y H2 => ∃ a v, x = .ref a /\ ZgT H2 a y (some v) /\ Q v H2
noncomputable def Zro (ty td : TE) : TE := fun σ H Q => ty σ H fun y H1 => td σ H1 fun x H2 => ∃ a o, x = .ref a /\ ZgT H2 a y o /\ Q (.bl o.isSome) H2
noncomputable def ZlV (ty td : TE) : TE := fun σ H Q => ty σ H fun y H1 => td σ H1 fun x H2 => ∃ a o, x = .ref a /\ ZgT H2 a y o /\ Q (.bl (!o.isSome)) H2
noncomputable def ZqE (td ty tv : TE) : TS := fun D σ H => tv σ H fun v H1 => td σ H1 fun x H2 => ty σ H2 fun y H3 => ∃ a H4, x = .ref a /\ Zo0 H3 a y v H4 /\ D.nx σ H4
section
variable {X : Cx} {o i e value : Expr} {pos pos' tpos : Pos} {td ty tv : TE}
theorem Zkw (hu : X.A.units + 1 < cLine) (ho : PE X o td) (hi : PE X i ty) (hs : Zr8 i) : PE X (.Subscript o i pos) (Zqr td ty) := by
  intro pins s σ H Q I h
  refine ZkH PySem.F.slot_dict_getitem.lookup hs (thn (ho pins s σ H _ I h) fun u s1 ⟨x, H1, I1, rx, q1⟩ => thn (hi pins s1 σ H1 _ I1 q1) fun iv s2 ⟨y, H2, I2, ry, a, v, ex, g, q2⟩ => ?_)
  subst ex
  obtain rfl : u = Value.ref a := rx
  exact ⟨ZiC I2 g, Zkx hu I2 g ry fun w' s3 I3 rw' => ⟨v, H2, I3, rw', q2⟩⟩
theorem ZnB (hu : X.A.units + 1 < cLine) (hi : PE X i ty) (ho : PE X o td) : PC X .In i o (Zro ty td) := by
  intro pins s σ H Q I h
  refine thn (hi pins s σ H _ I h) fun iv s1 ⟨y, H1, I1, ry, q1⟩ => thn (ho pins s1 σ H1 _ I1 q1) fun u s2 ⟨x, H2, I2, rx, a, ov, ex, g, q2⟩ => ?_
  subst ex
  obtain rfl : u = Value.ref a := rx
  exact Zsg hu I2 g ry fun s3 I3 => ⟨.bl ov.isSome, H2, I3, rfl, q2⟩
theorem ZkM (hu : X.A.units + 1 < cLine) (hi : PE X i ty) (ho : PE X o td) : PC X .NotIn i o (ZlV ty td) := by
  intro pins s σ H Q I h
  refine thn (hi pins s σ H _ I h) fun iv s1 ⟨y, H1, I1, ry, q1⟩ => thn (ho pins s1 σ H1 _ I1 q1) fun u s2 ⟨x, H2, I2, rx, a, ov, ex, g, q2⟩ => ?_
  subst ex
  obtain rfl : u = Value.ref a := rx
  exact Zpd hu I2 g ry fun s3 I3 => ⟨.bl (!ov.isSome), H2, I3, rfl, q2⟩
theorem Zo5 (hu : X.A.units + 1 < cLine) (ho : PE X o td) (hi : PE X i ty) (hv : PE X value tv) (hs : swapsWith value (some (.Subscript o i pos')) pos.line X.env = pure false) :
    PS X (.Assign [.Subscript o i pos'] value pos) (ZqE td ty tv) := by
  intro pins s σ H D I h
  refine wpAny_Assign_Subscript (thn (hv pins s σ H _ I h) fun r s1 ⟨v, H1, I1, rv, q1⟩ => thn (ho pins s1 σ H1 _ I1 q1) fun u s2 ⟨x, H2, I2, rx, q2⟩ => thn (hi pins s2 σ H2 _ I2 q2) fun iv s3 ⟨y, H3, I3, ry, a, H4, ex, g, q3⟩ => ?_) hs
  subst ex
  obtain rfl : u = Value.ref a := rx
  exact Zlx hu I3 g ry rv fun s4 I4 => ⟨σ, H4, I4, q3⟩
end
theorem ZiX {P : Program} {w : World} {H : Hp} (h : Heap) (hb : sysModules < h.objs.size) : Zct P w H (h.push { cls := .type "dict", data := .dict #[] }) h.objs.size (.dT []) :=
  ⟨Nat.zero_le _, beq_eq_false_iff_ne.mpr (Ne.symm (Nat.ne_of_lt hb)), [], .nil, _, #[], 0, Heap.get?_push_size _ rfl, ⟨rfl, rfl, rfl⟩, rfl, rfl, List.nodup_nil⟩
noncomputable def ZqY : TE := fun _ H Q => ∀ p, H p = none -> Q (.ref p) (upd H p (.dT []))
section
variable {X : Cx} {pos : Pos}
theorem Zmz : PE X (.Dict [] [] pos) ZqY := fun pins s σ H Q I h =>
  wpAny_Dict_empty ⟨.ref s.heap.objs.size, _, I.laid (a := s.heap.objs.size) (o := .dT []) (t' := s.toks) (fun _ _ q => Heap.get?_push_of_some _ q) (Nat.le_refl _) (ZiX s.heap I.big), rfl, h _ (I.hok.fresh (Nat.le_refl _))⟩
end
structure M2 (X : Cx) (o : Expr) (m : Str) (apos : Pos) (e f : Expr) (cpos : Pos) : Prop where
  base : attributeBase o m X.env (eval o X.env) = eval o X.env
  few : ((backTo cpos (starEach [e, f] X.env)).all (fun x => !x.1) && (backToKw cpos (keywordEach [] X.env)).all (fun x => x.1.isSome)
    && decide (([e, f] : List Expr).length + ([] : List Keyword).length + (if ([] : List Keyword).isEmpty then 0 else 1) < 30)) = true
  line : (apos.endLine == cpos.line) = true
  trees : backTo cpos (starEach [e, f] X.env) = [(false, eval e X.env), (false, eval f X.env)]
noncomputable def IsD (H : Hp) (a : Addr) : Prop := (∃ kvs, Rd H a (.dK kvs)) \/ ∃ kvs, Rd H a (.dT kvs)
theorem ZnA {X : Cx} {pins : List (Addr × Obj)} {σ : St} {H : Hp} {s : Shared} {a : Addr} (I : Inv X pins σ H s) (d : IsD H a) :
    s.TypeIs (.ref a) "dict" /\ (∀ b, Value.ref a = .ref b -> ∃ ob, s.heap.get? b = some ob /\ ob.dict = none) /\ (a == sysModules) = false := by
  rcases d with ⟨kvs, e⟩ | ⟨kvs, e⟩
  · obtain ⟨_, hd, vs, _, dd⟩ := Zib I.hok e
    refine ⟨dd.typeIs, fun b q => ?_, hd⟩
    cases q
    obtain ⟨ob, _, _, h1, h2, _⟩ := dd
    exact ⟨ob, h1, h2.2.1⟩
  · obtain ⟨_, hd, xs, _, dd⟩ := Zih I.hok e
    refine ⟨dd.typeIs, fun b q => ?_, hd⟩
    cases q
    obtain ⟨ob, _, _, h1, h2, _⟩ := dd
    exact ⟨ob, h1, h2.2.1⟩
section
variable {X : Cx} {pins : List (Addr × Obj)} {σ : St} {H : Hp} {s : Shared} {a : Addr} {y d : V} {u r : Value} {o : Option V} {A : Around} {E : Value -> Shared -> Prop}
theorem Zqv {Q : Value -> Shared -> Prop} (hu : A.units + 1 < cLine) (I : Inv X pins σ H s) (g : ZgT H a y o) (ry : Zbc y u) (rd : Zbc d r) (h : ∀ w' s', Inv X pins σ H s' -> Zbc (o.getD d) w' -> Q w' s') :
    wpAny (model X.prog X.w) A (call (.builtin "dict.get") [.ref a, u, r]) Q E s := by
  rcases g with ⟨kvs, k, e, ey, l⟩ | ⟨kvs, k, b, e, ey, eb, l⟩
  · subst ey
    obtain ⟨z, hd, vs, rel, dd⟩ := Zib I.hok e
    refine call_meetsIn PySem.F.slot_dict_get dd.typeIs PySem.F.entry_dict_get (PySem.F.args_dict_get_3 _ _ _) (meets_dict_get_default (ZaZ X.prog X.w) a (ZjR ry) hd r) ⟨_, dd.mapOf, h _ _ (I.tok _) ?_⟩
    rw [l]
    exact (rel.val k).getD rd
  · subst ey
    cases (show u = Value.ref b from ry)
    obtain ⟨z, hd, xs, rel, dd⟩ := Zih I.hok e
    refine call_meetsIn PySem.F.slot_dict_get dd.typeIs PySem.F.entry_dict_get (PySem.F.args_dict_get_3 _ _ _) (meetsH_dict_get_default (tupleKind (ZaZ X.prog X.w)) a b hd r) ⟨tupleKind_room_in1 hu, k, xs, ZdL I.hok eb, dd, h _ _ (I.tok _) ?_⟩
    rw [l]
    exact (rel.val k).getD rd
end
noncomputable def ZnC (td ty tx : TE) : TE := fun σ H Q => td σ H fun x H1 => ∃ a, x = .ref a /\ IsD H1 a /\ ty σ H1 fun y H2 => tx σ H2 fun z H3 => ∃ o, ZgT H3 a y o /\ Q (o.getD z) H3
section
variable {X : Cx} {o e f : Expr} {apos cpos : Pos} {td ty tx : TE}
theorem ZmG (hu : X.A.units + 1 < cLine) (ho : PE X o td) (he : PE X e ty) (hf : PE X f tx) (m : M2 X o "get" apos e f cpos) : PE X (.Call (.Attribute o "get" apos) [e, f] [] cpos) (ZnC td ty tx) := by
  intro pins s σ H Q I h
  refine wpAny_Call_method m.base m.few m.line PySem.F.plainAttrs_dict PySem.F.slot_dict_get PySem.F.type_dict_get (thn (ho pins s σ H _ I h) fun u s1 ⟨x, H1, I1, rx, a, ex, d, q1⟩ => ?_)
  subst ex
  obtain rfl : u = Value.ref a := rx
  obtain ⟨t1, t2, _⟩ := ZnA I1 d
  refine ⟨t1, t2, ?_⟩
  rw [m.trees]
  refine Calls.callWith_builtin rfl (Calls.evalArgs_plain (Calls.spliced_cons (thn (he pins s1 σ H1 _ I1 q1) fun iv s2 ⟨y, H2, I2, ry, q2⟩ =>
    Calls.spliced_cons (thn (hf pins s2 σ H2 _ I2 q2) fun fv s3 ⟨z, H3, I3, rz, ov, g, q3⟩ => Calls.spliced_nil ?_))))
  exact Zqv hu I3 g ry rz fun w' s4 I4 rw' => ⟨_, H3, I4, rw', q3⟩
end
section
variable {X : Cx} {pins : List (Addr × Obj)} {σ : St} {H : Hp} {s : Shared} {a : Addr} {kvs : List (Key × V)} {A : Around} {E : Value -> Shared -> Prop}
end
section
variable {X : Cx} {pins : List (Addr × Obj)} {σ : St} {H : Hp} {s : Shared} {a : Addr} {y : V} {u : Value} {A : Around} {E : Value -> Shared -> Prop}
end
end L2
namespace Mir
theorem ZhF {g : Nat -> Int} {l : Nat} (h : ∀ c, c <= l -> g c = 0) : ∀ m, Za2 g (l + 1 + m) = Za2 (fun j => g (l + 1 + j)) m
  | 0 => by
    show Za2 g (l + 1) = 0
    rw [Zak (g := fun _ => 0) fun k hk => h k (by omega), ZaG]
  | m + 1 => by
    show Za2 g (l + 1 + m) + g (l + 1 + m) = _
    rw [ZhF h m]
    rfl
theorem ZeE (y : Yd) (b own : Nat -> Int) (l : Nat) : ∀ m, Zb9 y b own l m = Za2 (fun j => if Zc3 y (l + 1 + j) = some l then Zcl y b own (l + 1 + j) else 0) m
  | 0 => rfl
  | m + 1 => by simp only [Zb9, Za2]; rw [ZeE y b own l m]
theorem Zh3 {y : Yd} (ok : y.Ok) {c l : Nat} (hc : c < y.ls.length) (e : Zc3 y c = some l) : l < c := by
  by_cases h0 : c = 0
  · subst h0; rw [ok.up0] at e; cases e
  · obtain ⟨a, ea, la⟩ := ok.ups c (by omega) hc
    rw [ea] at e
    cases e
    exact la
theorem ZgY {y : Yd} (ok : y.Ok) (b own : Nat -> Int) {l : Nat} (hl : l < y.ls.length) : ZeI y b own l = own l + Za2 (fun c => if Zc3 y c = some l then Zcl y b own c else 0) y.ls.length := by
  rw [Znw ok, ZeE]
  have e : y.ls.length = l + 1 + (y.ls.length - 1 - l) := by omega
  have h := ZhF (g := fun c => if Zc3 y c = some l then Zcl y b own c else 0) (l := l) (fun c hc => if_neg fun z => by
    have := Zh3 ok (by omega) z
    omega) (y.ls.length - 1 - l)
  rw [<- e] at h
  rw [h]
section
variable (y : Yd) (b own : Nat -> Int)
end
section
variable {y : Yd} {b own : Nat -> Int}
theorem ZmB (ok : y.Ok) {c a : Nat} (hc : c < y.ls.length) (e : Zc3 y c = some a) : upL y c = c :: upL y a := by
  have := Zh3 ok hc e
  rw [Zl3 ok hc, if_neg (by omega), e]
  rfl
theorem Zgn (ok : y.Ok) : upL y 0 = [0] := by
  have := ok.l1
  rw [Zl3 ok (by omega), if_pos rfl]
end
end Mir
namespace Mir
noncomputable def ind (p : Prop) [Decidable p] : Int := if p then 1 else 0
theorem Zjh {y : Yd} (ok : y.Ok) (l : Nat) (hl : l < y.ls.length) : ∀ n j, j < n -> j < y.ls.length ->
    ind (l ∈ upL y j) = ind (j = l) + Za2 (fun c => if Zc3 y c = some l then ind (c ∈ upL y j) else 0) y.ls.length
  | 0, j, h, _ => by omega
  | n + 1, j, h, hj => by
    by_cases e : j = l
    · subst e
      have z : Za2 (fun c => if Zc3 y c = some j then ind (c ∈ upL y j) else 0) y.ls.length = 0 := by
        rw [Zak (g := fun _ => 0) fun c hc => ?_, ZaG]
        by_cases u : Zc3 y c = some j
        · have := Zh3 ok hc u
          have w : ¬ c ∈ upL y j := fun z => by have := Zhj y j c z; omega
          simp [u, ind, w]
        · simp [u]
      rw [z]
      simp [ind, ZeT]
    · by_cases j0 : j = 0
      · subst j0
        have w : ¬ l ∈ upL y 0 := fun z => by rw [Zgn ok] at z; simp at z; exact e z.symm
        have z : Za2 (fun c => if Zc3 y c = some l then ind (c ∈ upL y 0) else 0) y.ls.length = 0 := by
          rw [Zak (g := fun _ => 0) fun c hc => ?_, ZaG]
          by_cases u : Zc3 y c = some l
          · have c0 : ¬ c ∈ upL y 0 := fun z => by
              rw [Zgn ok] at z
              simp at z
              subst z
              rw [ok.up0] at u
              cases u
            simp [u, ind, c0]
          · simp [u]
        rw [z]
        simp [ind, w, e]
      · obtain ⟨a, ea, la⟩ := ok.ups j (by omega) hj
        have ih := Zjh ok l hl n a (by omega) (by omega)
        have m1 : (l ∈ upL y j) ↔ (l ∈ upL y a) := Zja ok (by omega) hj ea l (fun z => e z.symm)
        have e1 : ind (l ∈ upL y j) = ind (l ∈ upL y a) := by unfold ind; simp only [m1]
        have e2 : ∀ c, c < y.ls.length -> (if Zc3 y c = some l then ind (c ∈ upL y j) else 0) = (if Zc3 y c = some l then ind (c ∈ upL y a) else 0) + (if c = j then ind (a = l) else 0) := by
          intro c hc
          by_cases z : c = j
          · subst z
            have w : ¬ c ∈ upL y a := fun q => by have := Zhj y a c q; omega
            rw [ea]
            by_cases q : a = l
            · subst q; simp [ind, ZeT, w]
            · have : ¬ some a = some l := fun z => q (by injection z)
              simp [ind, q]
          · have m2 : (c ∈ upL y j) ↔ (c ∈ upL y a) := Zja ok (by omega) hj ea c z
            have : ind (c ∈ upL y j) = ind (c ∈ upL y a) := by unfold ind; simp only [m2]
            rw [this, if_neg z, Int.add_zero]
        rw [e1, ih, Zak e2, ZdZ, Ze0, if_pos hj]
        have : ind (j = l) = 0 := by unfold ind; rw [if_neg e]
        omega
noncomputable def ZeL (y : Yd) (m : Nat) (ln : Nat -> Nat) (f : Nat -> Int) (l : Nat) : Int := Za2 (fun k => f k * ind (l ∈ upL y (ln k))) m
theorem Zdy {y : Yd} (ok : y.Ok) {m : Nat} {ln : Nat -> Nat} (hln : ∀ k, k < m -> ln k < y.ls.length) (f : Nat -> Int) {l : Nat} (hl : l < y.ls.length) :
    ZeL y m ln f l = Za2 (fun k => f k * ind (ln k = l)) m + Za2 (fun c => if Zc3 y c = some l then ZeL y m ln f c else 0) y.ls.length := by
  unfold ZeL
  have h1 : ∀ k, k < m -> f k * ind (l ∈ upL y (ln k)) = f k * ind (ln k = l) + Za2 (fun c => if Zc3 y c = some l then f k * ind (c ∈ upL y (ln k)) else 0) y.ls.length := by
    intro k hk
    rw [Zjh ok l hl _ (ln k) (Nat.lt_succ_self _) (hln k hk), Int.mul_add, <- ZeY]
    congr 1
    refine Zak fun c _ => ?_
    by_cases u : Zc3 y c = some l
    · rw [if_pos u, if_pos u]
    · rw [if_neg u, if_neg u, Int.mul_zero]
  rw [Zak h1, ZdZ, Zeg]
  congr 1
  refine Zak fun c _ => ?_
  by_cases u : Zc3 y c = some l
  · simp only [if_pos u]
  · simp only [if_neg u]
    rw [ZaG]
theorem no_more {y : Yd} (ok : y.Ok) {m : Nat} {ln : Nat -> Nat} (hln : ∀ k, k < m -> ln k < y.ls.length) {f : Nat -> Int} {b own : Nat -> Int} (ho : ∀ l, l < y.ls.length -> Za2 (fun k => f k * ind (ln k = l)) m <= own l) (hb : ∀ l, l < y.ls.length -> ZeL y m ln f l <= b l) :
    ∀ n l, y.ls.length <= l + n -> l < y.ls.length -> ZeL y m ln f l <= Zcl y b own l
  | 0, l, h, hl => by omega
  | n + 1, l, h, hl => by
    have h1 : ZeL y m ln f l <= ZeI y b own l := by
      rw [Zdy ok hln f hl, ZgY ok b own hl]
      refine Int.add_le_add (ho l hl) (ZcH fun c hc => ?_)
      by_cases u : Zc3 y c = some l
      · rw [if_pos u, if_pos u]
        have := Zh3 ok hc u
        exact no_more ok hln ho hb n c (by omega) hc
      · rw [if_neg u, if_neg u]
        exact Int.le_refl _
    have h2 := hb l hl
    unfold Zcl
    omega
end Mir
namespace Mir
noncomputable def Zma (f : Nat -> Nat -> Int) (a t : Nat) (v : Int) : Nat -> Nat -> Int := fun k s => if k = a /\ s = t then v else f k s
noncomputable def ZfI (y : Yd) (line t : Nat) (v : Int) (g : Nat -> Nat -> Int) : Nat -> Nat -> Int := fun l s => if s = t /\ l ∈ upL y line then g l s + v else g l s
section
variable (y : Yd) (lf : (Nat -> Nat -> Int) -> Nat -> Nat -> Int) (gs : Nat -> Gs)
end
section
variable {y : Yd} {lf : (Nat -> Nat -> Int) -> Nat -> Nat -> Int} {gs : Nat -> Gs} {m : Nat}
end
end Mir
namespace Mir
theorem Zll {y : Yd} {m : Nat} {ln : Nat -> Nat} {f g : Nat -> Int} (h : ∀ k, k < m -> f k <= g k) (l : Nat) : ZeL y m ln f l <= ZeL y m ln g l :=
  ZcH fun k hk => by
    unfold ind
    split
    · have := h k hk; omega
    · omega
theorem Zpo {y : Yd} {m : Nat} {ln : Nat -> Nat} {f : Nat -> Int} (h : ∀ k, k < m -> 0 <= f k) (l : Nat) : 0 <= ZeL y m ln f l :=
  Zpg fun k hk => by
    unfold ind
    split
    · have := h k hk; omega
    · omega
structure Shut (y : Yd) (m : Nat) (ln : Nat -> Nat) (f mo : Nat -> Int) (b : Nat -> Int) (S R : Nat -> Bool) : Prop where
  nn : ∀ k, k < m -> 0 <= f k
  full : ∀ k, k < m -> S k = true -> R (ln k) = false -> f k = mo k
  none : ∀ k, k < m -> S k = false -> R (ln k) = true -> f k = 0
  top : R 0 = true -> ZeL y m ln f 0 = b 0
  out : ∀ c a, c < y.ls.length -> Zc3 y c = some a -> R c = true -> R a = false -> ZeL y m ln f c = b c
  inn : ∀ c a, c < y.ls.length -> Zc3 y c = some a -> R c = false -> R a = true -> ZeL y m ln f c = 0
noncomputable def ZaU (S : Nat -> Bool) (f : Nat -> Int) : Nat -> Int := fun k => if S k = true then f k else 0
theorem Zg9 {S : Nat -> Bool} {f : Nat -> Int} {k : Nat} (h : 0 <= f k) : ZaU S f k <= f k := by
  unfold ZaU
  split <;> omega
theorem Zng {S : Nat -> Bool} {f : Nat -> Int} {k : Nat} (h : 0 <= f k) : 0 <= ZaU S f k := by
  unfold ZaU
  split <;> omega
theorem Shut.alike {y : Yd} (ok : y.Ok) {m : Nat} {ln : Nat -> Nat} (hln : ∀ k, k < m -> ln k < y.ls.length) {f mo b : Nat -> Int} {S R : Nat -> Bool} (h : Shut y m ln f mo b S R) :
    ∀ n l, y.ls.length <= l + n -> l < y.ls.length -> R l = true -> ZeL y m ln f l = ZeL y m ln (ZaU S f) l
  | 0, l, h0, hl, _ => by omega
  | n + 1, l, h0, hl, hR => by
    rw [Zdy ok hln f hl, Zdy ok hln (ZaU S f) hl]
    congr 1
    · refine Zak fun k hk => ?_
      by_cases e : ln k = l
      · have : f k = ZaU S f k := by
          unfold ZaU
          cases s : S k with
          | true => simp
          | false => simp; exact h.none k hk s (by rw [e]; exact hR)
        rw [this]
      · simp [ind, e]
    · refine Zak fun c hc => ?_
      by_cases u : Zc3 y c = some l
      · rw [if_pos u, if_pos u]
        have := Zh3 ok hc u
        cases r : R c with
        | true => exact Shut.alike ok hln h n c (by omega) hc r
        | false =>
          have e := h.inn c l hc u r hR
          have q1 := Zll (y := y) (ln := ln) (f := ZaU S f) (g := f) (fun k hk => Zg9 (S := S) (h.nn k hk)) c
          have q2 := Zpo (y := y) (ln := ln) (f := ZaU S f) (fun k hk => Zng (S := S) (h.nn k hk)) c
          omega
      · rw [if_neg u, if_neg u]
theorem Shut.all {y : Yd} (ok : y.Ok) {m : Nat} {ln : Nat -> Nat} (hln : ∀ k, k < m -> ln k < y.ls.length) {f mo b own : Nat -> Int} {S R : Nat -> Bool} (h : Shut y m ln f mo b S R)
    (ho : ∀ l, l < y.ls.length -> own l = Za2 (fun k => ZaU S mo k * ind (ln k = l)) m) :
    ∀ n l, y.ls.length <= l + n -> l < y.ls.length -> (R l = true -> l = 0 \/ ∃ a, Zc3 y l = some a /\ R a = false) -> Zcl y b own l <= ZeL y m ln (ZaU S f) l
  | 0, l, h0, hl, _ => by omega
  | n + 1, l, h0, hl, hU => by
    cases r : R l with
    | true =>
      have e : ZeL y m ln f l = b l := by
        rcases hU r with z | ⟨a, u, ra⟩
        · subst z; exact h.top r
        · exact h.out l a hl u r ra
      rw [<- h.alike ok hln (n + 1) l h0 hl r, e]
      unfold Zcl
      omega
    | false =>
      have h1 : ZeI y b own l <= ZeL y m ln (ZaU S f) l := by
        rw [Zdy ok hln _ hl, ZgY ok b own hl]
        refine Int.add_le_add ?_ (ZcH fun c hc => ?_)
        · rw [ho l hl]
          refine ZcH fun k hk => ?_
          by_cases e : ln k = l
          · have : ZaU S mo k = ZaU S f k := by
              unfold ZaU
              cases s : S k with
              | true => simp; exact (h.full k hk s (by rw [e]; exact r)).symm
              | false => simp
            rw [this]
            exact Int.le_refl _
          · simp [ind, e]
        · by_cases u : Zc3 y c = some l
          · rw [if_pos u, if_pos u]
            have := Zh3 ok hc u
            exact Shut.all ok hln h ho n c (by omega) hc (fun _ => .inr ⟨l, u, r⟩)
          · rw [if_neg u, if_neg u]
            exact Int.le_refl _
      unfold Zcl
      omega
end Mir
namespace Mir
section
variable {ν : Type} [DecidableEq ν]
noncomputable abbrev Lay (ν : Type) := List (ν × ν × Int)
noncomputable abbrev Phi (ν : Type) := ν -> ν -> Int
noncomputable def ZfH (L : Lay ν) : List ν := L.flatMap fun x => [x.2.1, x.1]
noncomputable def Zcb (L : Lay ν) (φ : Phi ν) : List Int := L.flatMap fun x => [x.2.2 - φ x.1 x.2.1, φ x.1 x.2.1]
noncomputable def Dis (L : Lay ν) : Prop := (L.map fun x => (x.1, x.2.1)).Nodup
noncomputable def ZgV (φ : Phi ν) (s e : ν) (a : Int) : Phi ν := fun p q => if p = s /\ q = e then φ p q + a else φ p q
theorem Zlw {α β : Type} (f g : α -> β) : ∀ (L : List α) (e : Nat), (L.flatMap fun x => [f x, g x])[e]? = L[e / 2]?.map (if e % 2 = 0 then f else g)
  | [], e => by simp
  | x :: L, 0 => by simp
  | x :: L, 1 => by simp
  | x :: L, e + 2 => by
    have h := Zlw f g L e
    have e1 : (e + 2) / 2 = e / 2 + 1 := by omega
    have e2 : (e + 2) % 2 = e % 2 := by omega
    rw [e1, e2, List.flatMap_cons, List.getElem?_cons_succ]
    simpa using h
noncomputable def hdE (L : Lay ν) (e : Nat) : Option ν := L[e / 2]?.map fun x => if e % 2 = 0 then x.2.1 else x.1
noncomputable def tlE (L : Lay ν) (e : Nat) : Option ν := L[e / 2]?.map fun x => if e % 2 = 0 then x.1 else x.2.1
noncomputable def rmE (L : Lay ν) (φ : Phi ν) (e : Nat) : Option Int := L[e / 2]?.map fun x => if e % 2 = 0 then x.2.2 - φ x.1 x.2.1 else φ x.1 x.2.1
theorem Zic (L : Lay ν) (e : Nat) : (ZfH L)[e]? = hdE L e := by
  unfold ZfH hdE
  rw [Zlw]
  congr 1
  split <;> rfl
theorem ZdG (L : Lay ν) (φ : Phi ν) (e : Nat) : (Zcb L φ)[e]? = rmE L φ e := by
  unfold Zcb rmE
  rw [Zlw]
  congr 1
  split <;> rfl
noncomputable def Zeb (e : Nat) : Nat := if e % 2 = 0 then e + 1 else e - 1
theorem ZlA (L : Lay ν) (e : Nat) : (ZfH L)[Zeb e]? = tlE L e := by
  rw [Zic]
  unfold hdE tlE Zeb
  by_cases h : e % 2 = 0
  · have h1 : (e + 1) / 2 = e / 2 := by omega
    have h2 : ¬ (e + 1) % 2 = 0 := by omega
    simp only [h, if_true, h1, h2, if_false]
  · have h1 : (e - 1) / 2 = e / 2 := by omega
    have h2 : (e - 1) % 2 = 0 := by omega
    simp only [h, if_false, h1, h2, if_true]
noncomputable def Zfj (L : Lay ν) (F : ν -> ν -> Int) : Int := (L.map fun x => F x.1 x.2.1).sum
noncomputable def Zgy (L : Lay ν) (φ : Phi ν) (n : ν) : Int := Zfj L fun s e => φ s e * (ind (s = n) - ind (e = n))
theorem Zj4 {φ : Phi ν} {s e : ν} {a : Int} {L : Lay ν} (h : (s, e) ∉ L.map fun x => (x.1, x.2.1)) (G : Int -> ν -> ν -> Int) :
    Zfj L (fun p q => G (ZgV φ s e a p q) p q) = Zfj L fun p q => G (φ p q) p q := by
  unfold Zfj
  congr 1
  refine List.map_congr_left fun x hx => ?_
  have : ¬ (x.1 = s /\ x.2.1 = e) := fun ⟨z1, z2⟩ => h (List.mem_map.mpr ⟨x, hx, by rw [z1, z2]⟩)
  unfold ZgV
  dsimp only
  rw [if_neg this]
theorem ZhH {φ : Phi ν} {a : Int} (G : Int -> ν -> ν -> Int) : ∀ {L : Lay ν}, Dis L -> ∀ {x : ν × ν × Int}, x ∈ L ->
    Zfj L (fun p q => G (ZgV φ x.1 x.2.1 a p q) p q) = Zfj L (fun p q => G (φ p q) p q) - G (φ x.1 x.2.1) x.1 x.2.1 + G (φ x.1 x.2.1 + a) x.1 x.2.1
  | [], _, _, h => by cases h
  | y :: L, hd, x, h => by
    unfold Dis at hd
    rw [List.map_cons, List.nodup_cons] at hd
    rcases List.mem_cons.mp h with rfl | h
    · have := Zj4 (φ := φ) (a := a) hd.1 G
      have e : ZgV φ x.1 x.2.1 a x.1 x.2.1 = φ x.1 x.2.1 + a := by unfold ZgV; rw [if_pos ⟨rfl, rfl⟩]
      unfold Zfj at this ⊢
      rw [List.map_cons, List.sum_cons, List.map_cons, List.sum_cons, this]
      dsimp only
      rw [e]
      omega
    · have ih := ZhH (φ := φ) (a := a) G (L := L) hd.2 h
      have ne : ¬ (y.1 = x.1 /\ y.2.1 = x.2.1) := fun ⟨z1, z2⟩ => hd.1 (List.mem_map.mpr ⟨x, h, by rw [z1, z2]⟩)
      have e : ZgV φ x.1 x.2.1 a y.1 y.2.1 = φ y.1 y.2.1 := by unfold ZgV; rw [if_neg ne]
      unfold Zfj at ih ⊢
      rw [List.map_cons, List.sum_cons, List.map_cons, List.sum_cons, ih]
      dsimp only
      rw [e]
      omega
noncomputable def ZdI (L : Lay ν) (a : Int) (φ : Phi ν) (e : Nat) : Phi ν :=
  match L[e / 2]? with
  | some x => ZgV φ x.1 x.2.1 (if e % 2 = 0 then a else -a)
  | none => φ
theorem Zk9 {L : Lay ν} (hd : Dis L) {φ : Phi ν} {a : Int} {e : Nat} {s t : ν} (ht : hdE L e = some t) (hs : tlE L e = some s) (n : ν) :
    Zgy L (ZdI L a φ e) n = Zgy L φ n + a * (ind (s = n) - ind (t = n)) := by
  unfold hdE at ht
  unfold tlE at hs
  cases ex : L[e / 2]? with
  | none => rw [ex] at ht; cases ht
  | some x =>
    rw [ex] at ht hs
    have hx : x ∈ L := List.mem_of_getElem? ex
    have hp : ZdI L a φ e = ZgV φ x.1 x.2.1 (if e % 2 = 0 then a else -a) := by unfold ZdI; rw [ex]
    rw [hp]
    unfold Zgy
    rw [ZhH (fun v p q => v * (ind (p = n) - ind (q = n))) hd hx]
    simp only [Option.map_some, Option.some.injEq] at ht hs
    by_cases z : e % 2 = 0
    · rw [if_pos z] at ht hs ⊢
      subst ht hs
      rw [Int.add_mul]
      omega
    · rw [if_neg z] at ht hs ⊢
      subst ht hs
      rw [Int.add_mul, Int.neg_mul, Int.mul_sub a, Int.mul_sub a]
      omega
inductive Chain (L : Lay ν) (s : ν) : ν -> List Nat -> Prop
  | nil : Chain L s s []
  | cons {n m : ν} {e : Nat} {w : List Nat} (h : hdE L e = some n) (t : tlE L e = some m) (c : Chain L s m w) : Chain L s n (e :: w)
noncomputable def Zfz (L : Lay ν) (a : Int) (φ : Phi ν) (w : List Nat) : Phi ν := w.foldl (ZdI L a) φ
theorem ZgG {L : Lay ν} (hd : Dis L) {s : ν} {a : Int} (p : ν) : ∀ {w : List Nat} {n : ν} {φ : Phi ν}, Chain L s n w -> Zgy L (Zfz L a φ w) p = Zgy L φ p + a * (ind (s = p) - ind (n = p))
  | _, _, φ, .nil => by
    show Zgy L φ p = _
    rw [Int.sub_self, Int.mul_zero, Int.add_zero]
  | e :: w, n, φ, .cons (m := m) h t c => by
    show Zgy L (Zfz L a (ZdI L a φ e) w) p = _
    rw [ZgG hd p c, Zk9 hd h t, Int.mul_sub, Int.mul_sub, Int.mul_sub]
    omega
noncomputable def Within (L : Lay ν) (φ : Phi ν) : Prop := ∀ x ∈ L, 0 <= φ x.1 x.2.1 /\ φ x.1 x.2.1 <= x.2.2
theorem Zii : ∀ {L : Lay ν}, Dis L -> ∀ {i j : Nat} {x y : ν × ν × Int}, L[i]? = some x -> L[j]? = some y -> x.1 = y.1 -> x.2.1 = y.2.1 -> i = j := fun {L} hd {i j x y} hi hj e1 e2 => by
  have a : (L.map fun x => (x.1, x.2.1))[i]? = some (x.1, x.2.1) := by rw [List.getElem?_map, hi]; rfl
  have b : (L.map fun x => (x.1, x.2.1))[j]? = some (x.1, x.2.1) := by rw [List.getElem?_map, hj, e1, e2]; rfl
  have li : i < (L.map fun x => (x.1, x.2.1)).length := (List.getElem?_eq_some_iff.mp a).1
  exact (List.getElem?_inj li hd).mp (a.trans b.symm)
theorem Ziy {L : Lay ν} (hd : Dis L) {φ : Phi ν} (h : Within L φ) {a : Int} (ha : 0 <= a) {e : Nat} {r : Int} (he : rmE L φ e = some r) (hr : a <= r) : Within L (ZdI L a φ e) := by
  unfold rmE at he
  cases ex : L[e / 2]? with
  | none => rw [ex] at he; cases he
  | some x =>
    rw [ex] at he
    simp only [Option.map_some, Option.some.injEq] at he
    have hx := h x (List.mem_of_getElem? ex)
    intro y hy
    have hyv := h y hy
    have hp : ZdI L a φ e = ZgV φ x.1 x.2.1 (if e % 2 = 0 then a else -a) := by unfold ZdI; rw [ex]
    rw [hp]
    unfold ZgV
    by_cases z : y.1 = x.1 /\ y.2.1 = x.2.1
    · rw [if_pos z]
      obtain ⟨j, hj⟩ := List.mem_iff_getElem?.mp hy
      have ij := Zii hd hj ex z.1 z.2
      subst ij
      rw [ex] at hj
      cases hj
      by_cases q : e % 2 = 0
      · rw [if_pos q] at he ⊢; omega
      · rw [if_neg q] at he ⊢; omega
    · rw [if_neg z]; exact hyv
theorem ZkP {L : Lay ν} (hd : Dis L) {φ : Phi ν} {a : Int} (ha : 0 <= a) {e e' : Nat} (ne : e' ≠ e) {r : Int} (he : rmE L φ e' = some r) : ∃ r', rmE L (ZdI L a φ e) e' = some r' /\ r <= r' := by
  unfold rmE at he ⊢
  cases ey : L[e' / 2]? with
  | none => rw [ey] at he; cases he
  | some y =>
    rw [ey] at he
    simp only [Option.map_some, Option.some.injEq] at he ⊢
    refine ⟨_, rfl, ?_⟩
    unfold ZdI
    cases ex : L[e / 2]? with
    | none => simp only []; omega
    | some x =>
      simp only []
      unfold ZgV
      by_cases z : y.1 = x.1 /\ y.2.1 = x.2.1
      · rw [if_pos z]
        have ij := Zii hd ey ex z.1 z.2
        by_cases q : e % 2 = 0
        · have q' : ¬ e' % 2 = 0 := by omega
          rw [if_neg q'] at he ⊢
          rw [if_pos q]; omega
        · have q' : e' % 2 = 0 := by omega
          rw [if_pos q'] at he ⊢
          rw [if_neg q]; omega
      · rw [if_neg z]; omega
theorem ZfY {L : Lay ν} (hd : Dis L) {a : Int} (ha : 0 <= a) : ∀ {w : List Nat} {φ : Phi ν}, Within L φ -> w.Nodup -> (∀ e ∈ w, ∃ r, rmE L φ e = some r /\ a <= r) -> Within L (Zfz L a φ w)
  | [], _, h, _, _ => h
  | e :: w, φ, h, hn, hw => by
    obtain ⟨h1, h2⟩ := List.nodup_cons.mp hn
    obtain ⟨r, er, lr⟩ := hw e List.mem_cons_self
    show Within L (Zfz L a (ZdI L a φ e) w)
    refine ZfY hd ha (Ziy hd h ha er lr) h2 fun e' he' => ?_
    obtain ⟨r', er', lr'⟩ := hw e' (List.mem_cons_of_mem _ he')
    obtain ⟨q, eq, lq⟩ := ZkP hd ha (e := e) (fun z => h1 (z ▸ he')) er'
    exact ⟨q, eq, by omega⟩
noncomputable abbrev Got (ν : Type) := List (ν × Option Nat)
noncomputable def Za3 (es : Got ν) : List ν := es.map (·.1)
inductive Tree (L : Lay ν) (φ : Phi ν) (s : ν) : Got ν -> Prop
  | root : Tree L φ s [(s, none)]
  | add {es : Got ν} {e : Nat} {n m : ν} {r : Int} (t : Tree L φ s es) (hn : n ∉ Za3 es) (hh : hdE L e = some n) (ht : tlE L e = some m) (hm : m ∈ Za3 es) (hr : rmE L φ e = some r) (h0 : 0 < r) : Tree L φ s (es ++ [(n, some e)])
noncomputable def ZgZ (es : Got ν) (n : ν) : Option (Option Nat) := es.lookup n
theorem Zio {es : Got ν} {n : ν} : n ∉ Za3 es -> es.lookup n = none := by
  induction es with
  | nil => intro _; rfl
  | cons p es ih =>
    intro h
    have h1 : n ≠ p.1 := fun z => h (by rw [z]; exact List.mem_cons_self)
    have h2 : n ∉ Za3 es := fun z => h (List.mem_cons_of_mem _ z)
    obtain ⟨k, v⟩ := p
    rw [List.lookup_cons]
    have : (n == k) = false := by rw [beq_eq_false_iff_ne]; exact h1
    rw [this]
    exact ih h2
theorem Ze5 {es fs : Got ν} {n : ν} : (es ++ fs).lookup n = (es.lookup n).or (fs.lookup n) := by
  induction es with
  | nil => rfl
  | cons p es ih =>
    obtain ⟨k, v⟩ := p
    rw [List.cons_append, List.lookup_cons, List.lookup_cons]
    cases (n == k)
    · exact ih
    · rfl
inductive Back (L : Lay ν) (es : Got ν) : ν -> List Nat -> Prop
  | nil {n : ν} (h : ZgZ es n = some none) : Back L es n []
  | cons {n m : ν} {e : Nat} {w : List Nat} (h : ZgZ es n = some (some e)) (t : tlE L e = some m) (b : Back L es m w) : Back L es n (e :: w)
theorem Back.app {L : Lay ν} {es fs : Got ν} : ∀ {w : List Nat} {n : ν}, Back L es n w -> Back L (es ++ fs) n w
  | _, _, .nil h => .nil (by unfold ZgZ at h ⊢; rw [Ze5, h]; rfl)
  | _, _, .cons h t b => .cons (by unfold ZgZ at h ⊢; rw [Ze5, h]; rfl) t b.app
structure WayOk (L : Lay ν) (φ : Phi ν) (s : ν) (es : Got ν) (n : ν) (w : List Nat) : Prop where
  back : Back L es n w
  chain : Chain L s n w
  nodup : w.Nodup
  room : ∀ e ∈ w, ∃ r, rmE L φ e = some r /\ 0 < r
  heads : ∀ e ∈ w, ∃ m, hdE L e = some m /\ m ∈ Za3 es
theorem Tree.way {L : Lay ν} {φ : Phi ν} {s : ν} : ∀ {es : Got ν}, Tree L φ s es -> ∀ n ∈ Za3 es, ∃ w, WayOk L φ s es n w
  | _, .root, n, hn => by
    have e : n = s := by simpa [Za3] using hn
    subst e
    exact ⟨[], .nil (by simp [ZgZ]), .nil, List.nodup_nil, (fun e h => nomatch h), (fun e h => nomatch h)⟩
  | _, .add (es := es) (e := e) (n := k) (m := m) t hk hh ht hm hr h0, n, hn => by
    have hn' : n ∈ Za3 es \/ n = k := by simpa [Za3] using hn
    have sub : ∀ p, p ∈ Za3 es -> p ∈ Za3 (es ++ [(k, some e)]) := fun p hp => by
      unfold Za3 at hp ⊢
      rw [List.map_append]
      exact List.mem_append_left _ hp
    rcases hn' with hn' | rfl
    · obtain ⟨w, q⟩ := t.way n hn'
      exact ⟨w, q.back.app, q.chain, q.nodup, q.room, fun e' he' => let ⟨m', a, b⟩ := q.heads e' he'; ⟨m', a, sub _ b⟩⟩
    · obtain ⟨w, q⟩ := t.way m hm
      refine ⟨e :: w, .cons ?_ ht q.back.app, .cons hh ht q.chain, List.nodup_cons.mpr ⟨fun z => ?_, q.nodup⟩, fun e' he' => ?_, fun e' he' => ?_⟩
      · unfold ZgZ
        rw [Ze5, Zio hk]
        simp
      · obtain ⟨m', a, b⟩ := q.heads e z
        rw [hh] at a
        cases a
        exact hk b
      · rcases List.mem_cons.mp he' with rfl | he'
        · exact ⟨_, hr, h0⟩
        · exact q.room e' he'
      · rcases List.mem_cons.mp he' with rfl | he'
        · exact ⟨n, hh, by simp [Za3]⟩
        · obtain ⟨m', a, b⟩ := q.heads e' he'
          exact ⟨m', a, sub _ b⟩
theorem Tree.nodup {L : Lay ν} {φ : Phi ν} {s : ν} : ∀ {es : Got ν}, Tree L φ s es -> (Za3 es).Nodup
  | _, .root => by simp [Za3]
  | _, .add (n := k) t hk _ _ _ _ _ => by
    have := t.nodup
    unfold Za3 at this hk ⊢
    rw [List.map_append, List.nodup_append]
    refine ⟨this, by simp, fun a ha b hb => ?_⟩
    have e : b = k := by simpa using hb
    exact fun z => hk (e ▸ z ▸ ha)
theorem Tree.start {L : Lay ν} {φ : Phi ν} {s : ν} : ∀ {es : Got ν}, Tree L φ s es -> s ∈ Za3 es
  | _, .root => by simp [Za3]
  | _, .add t _ _ _ _ _ _ => by
    have := t.start
    unfold Za3 at this ⊢
    rw [List.map_append]
    exact List.mem_append_left _ this
theorem Tree.sub {L : Lay ν} {φ : Phi ν} {s : ν} : ∀ {es : Got ν}, Tree L φ s es -> ∀ n ∈ Za3 es, n ∈ s :: ZfH L
  | _, .root, n, hn => by
    have e : n = s := by simpa [Za3] using hn
    rw [e]
    exact List.mem_cons_self
  | _, .add (es := es) (n := k) t hk hh _ _ _ _, n, hn => by
    have hn' : n ∈ Za3 es \/ n = k := by simpa [Za3] using hn
    rcases hn' with hn' | rfl
    · exact t.sub n hn'
    · exact List.mem_cons_of_mem _ (List.mem_of_getElem? ((Zic L _).trans hh))
theorem Zfg {α : Type} [DecidableEq α] : ∀ {xs ys : List α}, xs.Nodup -> (∀ x ∈ xs, x ∈ ys) -> xs.length <= ys.length
  | [], _, _, _ => Nat.zero_le _
  | x :: xs, ys, hd, h => by
    obtain ⟨h1, h2⟩ := List.nodup_cons.mp hd
    have hx := h x List.mem_cons_self
    have := Zfg (xs := xs) (ys := ys.erase x) h2 fun z hz => by
      have ne : z ≠ x := fun q => h1 (q ▸ hz)
      exact (List.mem_erase_of_ne ne).mpr (h z (List.mem_cons_of_mem _ hz))
    rw [List.length_erase_of_mem hx] at this
    have : 0 < ys.length := List.length_pos_of_mem hx
    rw [List.length_cons]
    omega
theorem Tree.len {L : Lay ν} {φ : Phi ν} {s : ν} {es : Got ν} (t : Tree L φ s es) : es.length <= (ZfH L).length + 1 := by
  have := Zfg t.nodup t.sub
  simpa [Za3] using this
noncomputable def ZcB (L : Lay ν) (φ : Phi ν) (es : Got ν) : Prop := ∀ e m n r, tlE L e = some m -> hdE L e = some n -> rmE L φ e = some r -> 0 < r -> m ∈ Za3 es -> n ∈ Za3 es
end
end Mir
namespace Mir
inductive Nd where
  | start | fin
  | guest (k : Nat)
  | line (l t : Nat)
deriving DecidableEq
structure Gv where
  m : Nat
  ln : Nat -> Nat
  wa : Nat -> Int
  mo : Nat -> Int
  th : Nat -> Nat -> Bool
noncomputable def upN (y : Yd) (l : Nat) : Nat := (Zc3 y l).getD 0
noncomputable def Zfl (y : Yd) (G : Gv) (k : Nat) : Lay Nd := (.start, .guest k, G.wa k) :: (List.range y.T).flatMap fun t => if G.th k t = true then [(.guest k, .line (G.ln k) t, G.mo k)] else []
noncomputable def ZgQ (y : Yd) (t : Nat) : Lay Nd := (.line 0 t, .fin, Zbw y 0 t) :: (List.range (y.ls.length - 1)).flatMap fun i => [(.line (i + 1) t, .line (upN y (i + 1)) t, Zbw y (i + 1) t)]
noncomputable def Zc7 (y : Yd) (G : Gv) : Lay Nd := (List.range G.m).flatMap (Zfl y G) ++ (List.range y.T).flatMap (ZgQ y)
theorem Zjk (A B : Lay Nd) (F : Nd -> Nd -> Int) : Zfj (A ++ B) F = Zfj A F + Zfj B F := by
  unfold Zfj
  rw [List.map_append, List.sum_append]
theorem Zdg (f : Nat -> Lay Nd) (F : Nd -> Nd -> Int) : ∀ n, Zfj ((List.range n).flatMap f) F = Za2 (fun k => Zfj (f k) F) n
  | 0 => rfl
  | n + 1 => by
    rw [List.range_succ, List.flatMap_append, Zjk, Zdg f F n]
    simp [Za2]
theorem ZiJ (x : Nd × Nd × Int) (F : Nd -> Nd -> Int) : Zfj [x] F = F x.1 x.2.1 := by simp [Zfj]
theorem Zh8 (x : Nd × Nd × Int) (L : Lay Nd) (F : Nd -> Nd -> Int) : Zfj (x :: L) F = F x.1 x.2.1 + Zfj L F := by simp [Zfj]
theorem Zld (y : Yd) (G : Gv) (F : Nd -> Nd -> Int) (k : Nat) : Zfj (Zfl y G k) F = F .start (.guest k) + Za2 (fun t => if G.th k t = true then F (.guest k) (.line (G.ln k) t) else 0) y.T := by
  unfold Zfl
  rw [Zh8, Zdg]
  congr 1
  refine Zak fun t _ => ?_
  split
  · rw [ZiJ]
  · rfl
theorem ZkO (y : Yd) (F : Nd -> Nd -> Int) (t : Nat) : Zfj (ZgQ y t) F = F (.line 0 t) .fin + Za2 (fun i => F (.line (i + 1) t) (.line (upN y (i + 1)) t)) (y.ls.length - 1) := by
  unfold ZgQ
  rw [Zh8, Zdg]
  congr 1
  refine Zak fun t _ => ?_
  rw [ZiJ]
theorem Zfr (y : Yd) (G : Gv) (F : Nd -> Nd -> Int) : Zfj (Zc7 y G) F =
    Za2 (fun k => F .start (.guest k) + Za2 (fun t => if G.th k t = true then F (.guest k) (.line (G.ln k) t) else 0) y.T) G.m +
    Za2 (fun t => F (.line 0 t) .fin + Za2 (fun i => F (.line (i + 1) t) (.line (upN y (i + 1)) t)) (y.ls.length - 1)) y.T := by
  unfold Zc7
  rw [Zjk, Zdg, Zdg]
  congr 1
  · exact Zak fun k _ => Zld y G F k
  · exact Zak fun t _ => ZkO y F t
theorem Zca {y : Yd} {G : Gv} {x : Nd × Nd × Int} {k : Nat} : x ∈ Zfl y G k ↔ x = (.start, .guest k, G.wa k) \/ ∃ t, t < y.T /\ G.th k t = true /\ x = (.guest k, .line (G.ln k) t, G.mo k) := by
  unfold Zfl
  rw [List.mem_cons, List.mem_flatMap]
  refine or_congr Iff.rfl ⟨fun ⟨t, ht, hx⟩ => ?_, fun ⟨t, ht, hc, hx⟩ => ⟨t, List.mem_range.mpr ht, by rw [if_pos hc]; exact List.mem_singleton.mpr hx⟩⟩
  by_cases c : G.th k t = true
  · rw [if_pos c] at hx
    exact ⟨t, List.mem_range.mp ht, c, List.mem_singleton.mp hx⟩
  · rw [if_neg c] at hx; cases hx
theorem ZcD {y : Yd} {x : Nd × Nd × Int} {t : Nat} : x ∈ ZgQ y t ↔ x = (.line 0 t, .fin, Zbw y 0 t) \/ ∃ i, i < y.ls.length - 1 /\ x = (.line (i + 1) t, .line (upN y (i + 1)) t, Zbw y (i + 1) t) := by
  unfold ZgQ
  rw [List.mem_cons, List.mem_flatMap]
  exact or_congr Iff.rfl ⟨fun ⟨i, hi, hx⟩ => ⟨i, List.mem_range.mp hi, List.mem_singleton.mp hx⟩, fun ⟨i, hi, hx⟩ => ⟨i, List.mem_range.mpr hi, List.mem_singleton.mpr hx⟩⟩
theorem ZdB {y : Yd} {G : Gv} {x : Nd × Nd × Int} : x ∈ Zc7 y G ↔ (∃ k, k < G.m /\ x ∈ Zfl y G k) \/ ∃ t, t < y.T /\ x ∈ ZgQ y t := by
  unfold Zc7
  rw [List.mem_append, List.mem_flatMap, List.mem_flatMap]
  simp only [List.mem_range]
theorem ZeX (n : Nat) : (List.range n).Pairwise (· ≠ ·) := List.nodup_range
theorem ZeS (y : Yd) (G : Gv) : Dis (Zc7 y G) := by
  unfold Dis List.Nodup
  rw [List.pairwise_map]
  unfold Zc7
  rw [List.pairwise_append]
  refine ⟨?_, ?_, ?_⟩
  · rw [List.pairwise_flatMap]
    refine ⟨fun k _ => ?_, (ZeX _).imp fun {k j} hkj x hx z hz => ?_⟩
    · unfold Zfl
      rw [List.pairwise_cons]
      refine ⟨fun x hx => ?_, ?_⟩
      · obtain ⟨t, _, hx⟩ := List.mem_flatMap.mp hx
        split at hx
        · rw [List.mem_singleton.mp hx]; intro q; cases q
        · cases hx
      · rw [List.pairwise_flatMap]
        refine ⟨fun t _ => ?_, (ZeX _).imp fun {t u} htu x hx z hz => ?_⟩
        · split
          · exact List.pairwise_singleton _ _
          · exact List.Pairwise.nil
        · split at hx
          · split at hz
            · rw [List.mem_singleton.mp hx, List.mem_singleton.mp hz]
              intro q
              simp at q
              exact htu q
            · cases hz
          · cases hx
    · rcases Zca.mp hx with rfl | ⟨t, _, _, rfl⟩ <;> rcases Zca.mp hz with rfl | ⟨u, _, _, rfl⟩ <;> intro q <;> simp at q
      · exact hkj q
      · exact hkj q.1
  · rw [List.pairwise_flatMap]
    refine ⟨fun t _ => ?_, (ZeX _).imp fun {t u} htu x hx z hz => ?_⟩
    · unfold ZgQ
      rw [List.pairwise_cons]
      refine ⟨fun x hx => ?_, ?_⟩
      · obtain ⟨i, _, hx⟩ := List.mem_flatMap.mp hx
        rw [List.mem_singleton.mp hx]; intro q; cases q
      · rw [List.pairwise_flatMap]
        refine ⟨fun t _ => List.pairwise_singleton _ _, (ZeX _).imp fun {i j} hij x hx z hz => ?_⟩
        rw [List.mem_singleton.mp hx, List.mem_singleton.mp hz]
        intro q
        simp at q
        exact hij q.1
    · rcases ZcD.mp hx with rfl | ⟨i, _, rfl⟩ <;> rcases ZcD.mp hz with rfl | ⟨j, _, rfl⟩ <;> intro q <;> simp at q
      · exact htu q
      · exact htu q.1.2
  · intro x hx z hz
    obtain ⟨k, _, hx⟩ := List.mem_flatMap.mp hx
    obtain ⟨t, _, hz⟩ := List.mem_flatMap.mp hz
    rcases Zca.mp hx with rfl | ⟨t', _, _, rfl⟩ <;> rcases ZcD.mp hz with rfl | ⟨j, _, rfl⟩ <;> intro q <;> simp at q
end Mir
namespace Mir
noncomputable def Zck (G : Gv) (φ : Phi Nd) (t k : Nat) : Int := if G.th k t = true then φ (.guest k) (.line (G.ln k) t) else 0
noncomputable def upF (y : Yd) (φ : Phi Nd) (t l : Nat) : Int := if l = 0 then φ (.line 0 t) .fin else φ (.line l t) (.line (upN y l) t)
theorem Zf6 (f : Nat -> Int) : ∀ n, Za2 f (n + 1) = f 0 + Za2 (fun i => f (i + 1)) n
  | 0 => by simp [Za2]
  | n + 1 => by
    show Za2 f (n + 1) + f (n + 1) = _
    rw [Zf6 f n]
    simp [Za2]
    omega
theorem Zbp {p : Prop} [Decidable p] (h : ¬ p) : ind p = 0 := if_neg h
theorem Zg5 {p q : Prop} [Decidable p] [Decidable q] (h : p ↔ q) : ind p = ind q := by unfold ind; simp only [h]
theorem Zkc (y : Yd) (G : Gv) (φ : Phi Nd) {k0 : Nat} (hk : k0 < G.m) : Zgy (Zc7 y G) φ (.guest k0) = Za2 (fun t => Zck G φ t k0) y.T - φ .start (.guest k0) := by
  unfold Zgy
  rw [Zfr]
  have h2 : Za2 (fun t => φ (.line 0 t) .fin * (ind (Nd.line 0 t = .guest k0) - ind (Nd.fin = .guest k0)) + Za2 (fun i => φ (.line (i + 1) t) (.line (upN y (i + 1)) t) * (ind (Nd.line (i + 1) t = .guest k0) - ind (Nd.line (upN y (i + 1)) t = .guest k0))) (y.ls.length - 1)) y.T = 0 := by
    rw [Zak (g := fun _ => 0) fun t _ => ?_, ZaG]
    rw [Zbp (fun z => nomatch z), Zbp (fun z => nomatch z), Zak (g := fun _ => 0) fun i _ => ?_, ZaG]
    · simp
    · rw [Zbp (fun z => nomatch z), Zbp (fun z => nomatch z)]; simp
  rw [h2, Int.add_zero]
  rw [Zak (g := fun k => if k = k0 then Za2 (fun t => Zck G φ t k0) y.T - φ .start (.guest k0) else 0) fun k _ => ?_, Ze0, if_pos hk]
  rw [Zbp (p := Nd.start = .guest k0) (fun z => nomatch z)]
  by_cases e : k = k0
  · subst e
    rw [if_pos rfl]
    have : Za2 (fun t => if G.th k t = true then φ (.guest k) (.line (G.ln k) t) * (ind (Nd.guest k = .guest k) - ind (Nd.line (G.ln k) t = .guest k)) else 0) y.T = Za2 (fun t => Zck G φ t k) y.T := by
      refine Zak fun t _ => ?_
      unfold Zck
      split
      · rw [Zbp (p := Nd.line (G.ln k) t = .guest k) (fun z => nomatch z)]
        simp [ind]
      · rfl
    rw [this]
    simp [ind]
    omega
  · have ne : ¬ Nd.guest k = .guest k0 := fun z => e (by injection z)
    rw [if_neg e, Zbp ne, Zak (g := fun _ => 0) fun t _ => ?_, ZaG]
    · simp
    · rw [Zbp (p := Nd.line (G.ln k) t = .guest k0) (fun z => nomatch z)]
      simp
theorem Zgz {y : Yd} (ok : y.Ok) {c l : Nat} (h0 : 0 < c) (hc : c < y.ls.length) : upN y c = l ↔ Zc3 y c = some l := by
  obtain ⟨a, ea, _⟩ := ok.ups c h0 hc
  unfold upN
  rw [ea]
  simp
theorem Zlj {y : Yd} (ok : y.Ok) (G : Gv) (φ : Phi Nd) {l t0 : Nat} (hl : l < y.ls.length) (ht : t0 < y.T) : Zgy (Zc7 y G) φ (.line l t0) =
    upF y φ t0 l - Za2 (fun k => Zck G φ t0 k * ind (G.ln k = l)) G.m - Za2 (fun c => if Zc3 y c = some l then upF y φ t0 c else 0) y.ls.length := by
  unfold Zgy
  rw [Zfr]
  have h1 : Za2 (fun k => φ .start (.guest k) * (ind (Nd.start = .line l t0) - ind (Nd.guest k = .line l t0)) + Za2 (fun t => if G.th k t = true then φ (.guest k) (.line (G.ln k) t) * (ind (Nd.guest k = .line l t0) - ind (Nd.line (G.ln k) t = .line l t0)) else 0) y.T) G.m = - Za2 (fun k => Zck G φ t0 k * ind (G.ln k = l)) G.m := by
    rw [show - Za2 (fun k => Zck G φ t0 k * ind (G.ln k = l)) G.m = (-1) * Za2 (fun k => Zck G φ t0 k * ind (G.ln k = l)) G.m by omega, <- ZeY]
    refine Zak fun k _ => ?_
    rw [Zbp (p := Nd.start = .line l t0) (fun z => nomatch z), Zbp (p := Nd.guest k = .line l t0) (fun z => nomatch z)]
    rw [Zak (g := fun t => if t = t0 then - (Zck G φ t0 k * ind (G.ln k = l)) else 0) fun t _ => ?_, Ze0, if_pos ht]
    · simp
    · by_cases e : t = t0
      · subst e
        rw [if_pos rfl, Zg5 (p := Nd.line (G.ln k) t = .line l t) (q := G.ln k = l) (by simp)]
        unfold Zck
        split
        · rw [Int.zero_sub, Int.mul_neg]
        · simp
      · rw [if_neg e, Zbp (p := Nd.line (G.ln k) t = .line l t0) (fun z => e (by injection z))]
        simp
  rw [h1]
  have h2 : Za2 (fun t => φ (.line 0 t) .fin * (ind (Nd.line 0 t = .line l t0) - ind (Nd.fin = .line l t0)) + Za2 (fun i => φ (.line (i + 1) t) (.line (upN y (i + 1)) t) * (ind (Nd.line (i + 1) t = .line l t0) - ind (Nd.line (upN y (i + 1)) t = .line l t0))) (y.ls.length - 1)) y.T
      = upF y φ t0 l - Za2 (fun c => if Zc3 y c = some l then upF y φ t0 c else 0) y.ls.length := by
    rw [Zak (g := fun t => if t = t0 then upF y φ t0 l - Za2 (fun c => if Zc3 y c = some l then upF y φ t0 c else 0) y.ls.length else 0) fun t _ => ?_, Ze0, if_pos ht]
    rw [Zbp (p := Nd.fin = .line l t0) (fun z => nomatch z)]
    by_cases e : t = t0
    · subst e
      rw [if_pos rfl, Zg5 (p := Nd.line 0 t = .line l t) (q := 0 = l) (by simp)]
      have hn : y.ls.length = (y.ls.length - 1) + 1 := by omega
      have e1 : upF y φ t l = Za2 (fun c => if c = l then upF y φ t l else 0) y.ls.length := by rw [Ze0, if_pos hl]
      have e2 : ∀ c, c < y.ls.length -> (if c = l then upF y φ t l else 0) = upF y φ t c * ind (c = l) := fun c _ => by
        by_cases q : c = l
        · subst q; simp [ind]
        · simp [ind, q]
      rw [e1, Zak e2, hn, Zf6, Zf6]
      have u0 : ¬ Zc3 y 0 = some l := fun z => by rw [ok.up0] at z; cases z
      have f0 : upF y φ t 0 = φ (.line 0 t) .fin := by unfold upF; rw [if_pos rfl]
      rw [if_neg u0, f0, <- hn]
      have e3 : Za2 (fun i => φ (.line (i + 1) t) (.line (upN y (i + 1)) t) * (ind (Nd.line (i + 1) t = .line l t) - ind (Nd.line (upN y (i + 1)) t = .line l t))) (y.ls.length - 1)
          = Za2 (fun i => upF y φ t (i + 1) * ind (i + 1 = l)) (y.ls.length - 1) + Za2 (fun i => -1 * (if Zc3 y (i + 1) = some l then upF y φ t (i + 1) else 0)) (y.ls.length - 1) := by
        rw [<- ZdZ]
        refine Zak fun i hi => ?_
        rw [Zg5 (p := Nd.line (i + 1) t = .line l t) (q := i + 1 = l) (by simp), Zg5 (p := Nd.line (upN y (i + 1)) t = .line l t) (q := Zc3 y (i + 1) = some l) (by rw [<- Zgz ok (by omega) (by omega)]; simp)]
        have : upF y φ t (i + 1) = φ (.line (i + 1) t) (.line (upN y (i + 1)) t) := by unfold upF; rw [if_neg (by omega)]
        rw [this, Int.mul_sub]
        by_cases q : Zc3 y (i + 1) = some l
        · rw [if_pos q]; simp [ind, q]; omega
        · rw [if_neg q]; simp [ind, q]
      rw [e3, ZeY]
      simp only [Int.sub_zero]
      omega
    · rw [if_neg e, Zbp (p := Nd.line 0 t = .line l t0) (fun z => e (by injection z)), Zak (g := fun _ => 0) fun i _ => ?_, ZaG]
      · simp
      · rw [Zbp (p := Nd.line (i + 1) t = .line l t0) (fun z => e (by injection z)), Zbp (p := Nd.line (upN y (i + 1)) t = .line l t0) (fun z => e (by injection z))]
        simp
  rw [h2]
  omega
end Mir
namespace Mir
section
variable {ν : Type} [DecidableEq ν]
theorem ZcB.fwd {L : Lay ν} {φ : Phi ν} (hw : Within L φ) {es : Got ν} (hc : ZcB L φ es) {x : ν × ν × Int} (hx : x ∈ L) (h1 : x.1 ∈ Za3 es) (h2 : x.2.1 ∉ Za3 es) : φ x.1 x.2.1 = x.2.2 := by
  obtain ⟨i, hi⟩ := List.mem_iff_getElem?.mp hx
  have e : (2 * i) / 2 = i := by omega
  have e2 : (2 * i) % 2 = 0 := by omega
  by_cases z : φ x.1 x.2.1 = x.2.2
  · exact z
  · have := hw x hx
    exact absurd (hc (2 * i) x.1 x.2.1 (x.2.2 - φ x.1 x.2.1) (by unfold tlE; rw [e, hi, e2]; rfl) (by unfold hdE; rw [e, hi, e2]; rfl) (by unfold rmE; rw [e, hi, e2]; rfl) (by omega) h1) h2
theorem ZcB.bwd {L : Lay ν} {φ : Phi ν} (hw : Within L φ) {es : Got ν} (hc : ZcB L φ es) {x : ν × ν × Int} (hx : x ∈ L) (h1 : x.1 ∉ Za3 es) (h2 : x.2.1 ∈ Za3 es) : φ x.1 x.2.1 = 0 := by
  obtain ⟨i, hi⟩ := List.mem_iff_getElem?.mp hx
  have e : (2 * i + 1) / 2 = i := by omega
  have e2 : ¬ (2 * i + 1) % 2 = 0 := by omega
  by_cases z : φ x.1 x.2.1 = 0
  · exact z
  · have := hw x hx
    exact absurd (hc (2 * i + 1) x.2.1 x.1 (φ x.1 x.2.1) (by unfold tlE; rw [e, hi]; simp [e2]) (by unfold hdE; rw [e, hi]; simp [e2]) (by unfold rmE; rw [e, hi]; simp [e2]) (by omega) h2) h1
end
structure Flow (y : Yd) (G : Gv) (φ : Phi Nd) : Prop where
  wi : Within (Zc7 y G) φ
  kp : ∀ n, n ≠ .start -> n ≠ .fin -> Zgy (Zc7 y G) φ n = 0
theorem ZkA {y : Yd} {G : Gv} {k : Nat} (hk : k < G.m) : ((.start, .guest k, G.wa k) : Nd × Nd × Int) ∈ Zc7 y G := ZdB.mpr (.inl ⟨k, hk, Zca.mpr (.inl rfl)⟩)
theorem ZgI {y : Yd} {G : Gv} {k t : Nat} (hk : k < G.m) (ht : t < y.T) (h : G.th k t = true) : ((.guest k, .line (G.ln k) t, G.mo k) : Nd × Nd × Int) ∈ Zc7 y G := ZdB.mpr (.inl ⟨k, hk, Zca.mpr (.inr ⟨t, ht, h, rfl⟩)⟩)
theorem Zof {y : Yd} {G : Gv} {t : Nat} (ht : t < y.T) : ((.line 0 t, .fin, Zbw y 0 t) : Nd × Nd × Int) ∈ Zc7 y G := ZdB.mpr (.inr ⟨t, ht, ZcD.mpr (.inl rfl)⟩)
theorem Zp5 {y : Yd} {G : Gv} {t l : Nat} (ht : t < y.T) (h0 : 0 < l) (hl : l < y.ls.length) : ((.line l t, .line (upN y l) t, Zbw y l t) : Nd × Nd × Int) ∈ Zc7 y G :=
  ZdB.mpr (.inr ⟨t, ht, ZcD.mpr (.inr ⟨l - 1, by omega, by rw [show l - 1 + 1 = l by omega]⟩)⟩)
noncomputable def moT (G : Gv) (t k : Nat) : Int := if G.th k t = true then G.mo k else 0
section
variable {y : Yd} {G : Gv} {φ : Phi Nd} (F : Flow y G φ)
include F
theorem Flow.tak {k t : Nat} (hk : k < G.m) (ht : t < y.T) : 0 <= Zck G φ t k /\ Zck G φ t k <= moT G t k := by
  unfold Zck moT
  by_cases c : G.th k t = true
  · rw [if_pos c, if_pos c]
    exact F.wi _ (ZgI hk ht c)
  · rw [if_neg c, if_neg c]
    omega
theorem Flow.total {k : Nat} (hk : k < G.m) : Za2 (fun t => Zck G φ t k) y.T = φ .start (.guest k) := by
  have := F.kp (.guest k) (fun z => nomatch z) (fun z => nomatch z)
  rw [Zkc y G φ hk] at this
  omega
theorem Flow.want {k : Nat} (hk : k < G.m) : 0 <= φ .start (.guest k) /\ φ .start (.guest k) <= G.wa k := F.wi _ (ZkA hk)
theorem Flow.up (ok : y.Ok) (hln : ∀ k, k < G.m -> G.ln k < y.ls.length) {t : Nat} (ht : t < y.T) : ∀ n l, y.ls.length <= l + n -> l < y.ls.length -> upF y φ t l = ZeL y G.m G.ln (Zck G φ t) l
  | 0, l, h, hl => by omega
  | n + 1, l, h, hl => by
    have z := F.kp (.line l t) (fun z => nomatch z) (fun z => nomatch z)
    rw [Zlj ok G φ hl ht] at z
    have e : Za2 (fun c => if Zc3 y c = some l then upF y φ t c else 0) y.ls.length = Za2 (fun c => if Zc3 y c = some l then ZeL y G.m G.ln (Zck G φ t) c else 0) y.ls.length := by
      refine Zak fun c hc => ?_
      by_cases u : Zc3 y c = some l
      · rw [if_pos u, if_pos u]
        have := Zh3 ok hc u
        exact Flow.up ok hln ht n c (by omega) hc
      · rw [if_neg u, if_neg u]
    rw [Zdy ok hln _ hl, <- e]
    omega
theorem Flow.up_ok (ok : y.Ok) {t l : Nat} (ht : t < y.T) (hl : l < y.ls.length) : 0 <= upF y φ t l /\ upF y φ t l <= Zbw y l t := by
  unfold upF
  by_cases z : l = 0
  · subst z
    rw [if_pos rfl]
    exact F.wi _ (Zof ht)
  · rw [if_neg z]
    exact F.wi _ (Zp5 ht (by omega) hl)
theorem Flow.load (ok : y.Ok) (hln : ∀ k, k < G.m -> G.ln k < y.ls.length) {t l : Nat} (ht : t < y.T) (hl : l < y.ls.length) : ZeL y G.m G.ln (Zck G φ t) l <= Zbw y l t := by
  rw [<- F.up ok hln ht y.ls.length l (by omega) hl]
  exact (F.up_ok ok ht hl).2
noncomputable def ZfD (es : Got Nd) (k : Nat) : Bool := decide (Nd.guest k ∈ Za3 es)
noncomputable def Zsj (es : Got Nd) (t l : Nat) : Bool := decide (Nd.line l t ∈ Za3 es)
omit F in
theorem not_of {p : Prop} [Decidable p] (h : decide p = false) : ¬ p := of_decide_eq_false h
theorem Flow.shut (ok : y.Ok) (hln : ∀ k, k < G.m -> G.ln k < y.ls.length) {es : Got Nd} (hc : ZcB (Zc7 y G) φ es) (hf : Nd.fin ∉ Za3 es) {t : Nat} (ht : t < y.T) :
    Shut y G.m G.ln (Zck G φ t) (moT G t) (fun l => Zbw y l t) (ZfD es) (Zsj es t) where
  nn k hk := (F.tak hk ht).1
  full k hk hS hR := by
    unfold Zck moT
    by_cases c : G.th k t = true
    · rw [if_pos c, if_pos c]
      exact hc.fwd F.wi (ZgI hk ht c) (of_decide_eq_true hS) (not_of hR)
    · rw [if_neg c, if_neg c]
  none k hk hS hR := by
    unfold Zck
    by_cases c : G.th k t = true
    · rw [if_pos c]
      exact hc.bwd F.wi (ZgI hk ht c) (not_of hS) (of_decide_eq_true hR)
    · rw [if_neg c]
  top hR := by
    have h0 := ok.l1
    rw [<- F.up ok hln ht y.ls.length 0 (by omega) (by omega)]
    unfold upF
    rw [if_pos rfl]
    exact hc.fwd F.wi (Zof ht) (of_decide_eq_true hR) hf
  out c a hcl u h1 h2 := by
    have c0 : c ≠ 0 := fun z => by subst z; rw [ok.up0] at u; cases u
    have ea : upN y c = a := (Zgz ok (by omega) hcl).mpr u
    rw [<- F.up ok hln ht y.ls.length c (by omega) hcl]
    unfold upF
    rw [if_neg c0]
    exact hc.fwd F.wi (Zp5 ht (by omega) hcl) (of_decide_eq_true h1) (by rw [ea]; exact not_of h2)
  inn c a hcl u h1 h2 := by
    have c0 : c ≠ 0 := fun z => by subst z; rw [ok.up0] at u; cases u
    have ea : upN y c = a := (Zgz ok (by omega) hcl).mpr u
    rw [<- F.up ok hln ht y.ls.length c (by omega) hcl]
    unfold upF
    rw [if_neg c0]
    exact hc.bwd F.wi (Zp5 ht (by omega) hcl) (not_of h1) (by rw [ea]; exact of_decide_eq_true h2)
theorem Flow.filled {es : Got Nd} (hc : ZcB (Zc7 y G) φ es) (hs : Nd.start ∈ Za3 es) {k : Nat} (hk : k < G.m) (hS : ZfD es k = false) : Za2 (fun t => Zck G φ t k) y.T = G.wa k := by
  rw [F.total hk]
  exact hc.fwd F.wi (ZkA hk) hs (not_of hS)
noncomputable def ZmP (G : Gv) (S : Nat -> Bool) (t l : Nat) : Int := Za2 (fun k => ZaU S (moT G t) k * ind (G.ln k = l)) G.m
omit F in
theorem ZkD {y : Yd} (ok : y.Ok) : ∀ n j, j < n -> j < y.ls.length -> 0 ∈ upL y j
  | 0, j, h, _ => by omega
  | n + 1, j, h, hj => by
    by_cases z : j = 0
    · subst z; exact ZeT y 0
    · obtain ⟨a, ea, la⟩ := ok.ups j (by omega) hj
      exact (Zja ok (by omega) hj ea 0 (fun q => z q.symm)).mpr (ZkD ok n a (by omega) (by omega))
omit F in
theorem Zje {y : Yd} (ok : y.Ok) {m : Nat} {ln : Nat -> Nat} (hln : ∀ k, k < m -> ln k < y.ls.length) (f : Nat -> Int) : ZeL y m ln f 0 = Za2 f m :=
  Zak fun k hk => by
    unfold ind
    rw [if_pos (ZkD ok _ _ (Nat.lt_succ_self _) (hln k hk)), Int.mul_one]
theorem Flow.no_more (ok : y.Ok) (hln : ∀ k, k < G.m -> G.ln k < y.ls.length) (S : Nat -> Bool) {t : Nat} (ht : t < y.T) : Za2 (ZaU S (Zck G φ t)) G.m <= Zcl y (fun l => Zbw y l t) (ZmP G S t) 0 := by
  have l1 := ok.l1
  rw [<- Zje ok hln]
  refine Mir.no_more ok hln (fun l hl => ?_) (fun l hl => ?_) y.ls.length 0 (by omega) (by omega)
  · refine ZcH fun k hk => ?_
    have q := F.tak hk ht
    by_cases e : G.ln k = l
    · unfold ZaU ind
      rw [if_pos e]
      split <;> omega
    · rw [Zbp e]; omega
  · have q := F.load ok hln ht hl
    have q2 := Zll (y := y) (ln := G.ln) (f := ZaU S (Zck G φ t)) (g := Zck G φ t) (fun k hk => Zg9 (F.tak hk ht).1) l
    omega
theorem Flow.meet (ok : y.Ok) (hln : ∀ k, k < G.m -> G.ln k < y.ls.length) {es : Got Nd} (hc : ZcB (Zc7 y G) φ es) (hf : Nd.fin ∉ Za3 es) {t : Nat} (ht : t < y.T) :
    Zcl y (fun l => Zbw y l t) (ZmP G (ZfD es) t) 0 = Za2 (ZaU (ZfD es) (Zck G φ t)) G.m := by
  have l1 := ok.l1
  have a := F.no_more ok hln (ZfD es) ht
  have b := (F.shut ok hln hc hf ht).all ok hln (own := ZmP G (ZfD es) t) (fun l hl => rfl) y.ls.length 0 (by omega) (by omega) (fun _ => .inl rfl)
  rw [Zje ok hln] at b
  omega
omit F in
theorem Zgp (f g : Nat -> Int) : ∀ n, Za2 (fun k => f k - g k) n = Za2 f n - Za2 g n
  | 0 => rfl
  | n + 1 => by
    simp only [Za2]
    rw [Zgp f g n]
    omega
theorem Flow.lack (ok : y.Ok) (hln : ∀ k, k < G.m -> G.ln k < y.ls.length) {es : Got Nd} (hc : ZcB (Zc7 y G) φ es) (hs : Nd.start ∈ Za3 es) (hf : Nd.fin ∉ Za3 es) :
    Za2 (fun k => G.wa k - Za2 (fun t => Zck G φ t k) y.T) G.m = Za2 (ZaU (ZfD es) G.wa) G.m - Za2 (fun t => Zcl y (fun l => Zbw y l t) (ZmP G (ZfD es) t) 0) y.T := by
  rw [Zak (n := y.T) fun t ht => F.meet ok hln hc hf ht, Zeg, <- Zgp]
  refine Zak fun k hk => ?_
  cases s : ZfD es k with
  | true =>
    have : Za2 (fun t => ZaU (ZfD es) (Zck G φ t) k) y.T = Za2 (fun t => Zck G φ t k) y.T := Zak fun t _ => by unfold ZaU; rw [if_pos s]
    rw [this]
    unfold ZaU
    rw [if_pos s]
  | false =>
    have : Za2 (fun t => ZaU (ZfD es) (Zck G φ t) k) y.T = 0 := by
      rw [Zak (g := fun _ => 0) fun t _ => ?_, ZaG]
      unfold ZaU
      rw [if_neg (by rw [s]; decide)]
    rw [this, F.filled hc hs hk s]
    unfold ZaU
    rw [if_neg (by rw [s]; decide)]
    omega
omit F in
theorem Zj5 (y : Yd) (G : Gv) (φ : Phi Nd) : Zgy (Zc7 y G) φ .start = Za2 (fun k => φ .start (.guest k)) G.m := by
  unfold Zgy
  rw [Zfr]
  have h2 : Za2 (fun t => φ (.line 0 t) .fin * (ind (Nd.line 0 t = .start) - ind (Nd.fin = .start)) + Za2 (fun i => φ (.line (i + 1) t) (.line (upN y (i + 1)) t) * (ind (Nd.line (i + 1) t = .start) - ind (Nd.line (upN y (i + 1)) t = .start))) (y.ls.length - 1)) y.T = 0 := by
    rw [Zak (g := fun _ => 0) fun t _ => ?_, ZaG]
    rw [Zbp (fun z => nomatch z), Zbp (fun z => nomatch z), Zak (g := fun _ => 0) fun i _ => ?_, ZaG]
    · simp
    · rw [Zbp (fun z => nomatch z), Zbp (fun z => nomatch z)]; simp
  rw [h2, Int.add_zero]
  refine Zak fun k _ => ?_
  rw [Zbp (p := Nd.guest k = .start) (fun z => nomatch z), Zak (g := fun _ => 0) fun t _ => ?_, ZaG]
  · simp [ind]
  · rw [Zbp (p := Nd.line (G.ln k) t = .start) (fun z => nomatch z)]; simp
theorem Flow.push {a : Int} (ha : 0 <= a) {w : List Nat} (hw : Chain (Zc7 y G) .start .fin w) (hn : w.Nodup) (hr : ∀ e ∈ w, ∃ r, rmE (Zc7 y G) φ e = some r /\ a <= r) :
    Flow y G (Zfz (Zc7 y G) a φ w) /\ Zgy (Zc7 y G) (Zfz (Zc7 y G) a φ w) .start = Zgy (Zc7 y G) φ .start + a := by
  refine ⟨⟨ZfY (ZeS y G) ha F.wi hn hr, fun n h1 h2 => ?_⟩, ?_⟩
  · rw [ZgG (ZeS y G) n hw, F.kp n h1 h2, Zbp (fun z => h1 z.symm), Zbp (fun z => h2 z.symm)]
    simp
  · rw [ZgG (ZeS y G) .start hw, Zbp (p := Nd.fin = .start) (fun z => nomatch z)]
    simp [ind]
theorem Flow.most : Zgy (Zc7 y G) φ .start <= Za2 G.wa G.m := by
  rw [Zj5]
  exact ZcH fun k hk => (F.want hk).2
end
theorem Zru {y : Yd} {G : Gv} (h : ∀ x ∈ Zc7 y G, 0 <= x.2.2) : Flow y G (fun _ _ => 0) := by
  refine ⟨fun x hx => ⟨Int.le_refl _, h x hx⟩, fun n _ _ => ?_⟩
  unfold Zgy Zfj
  have : ∀ L : Lay Nd, (L.map fun x => (0 : Int) * (ind (x.1 = n) - ind (x.2.1 = n))).sum = 0 := fun L => by
    induction L with
    | nil => rfl
    | cons x L ih => rw [List.map_cons, List.sum_cons, ih]; simp
  exact this _
end Mir
section
namespace L2
open PySem PySem.Spec PyProof.Rows
theorem ZbE.at {xs : List V} {us : List Value} (r : ZbE xs us) : ∀ i : Nat, (xs[i]? = none /\ us[i]? = none) \/ ∃ x u, xs[i]? = some x /\ us[i]? = some u /\ Zbc x u := by
  induction r with
  | nil => intro i; exact .inl ⟨rfl, rfl⟩
  | cons a b ih =>
    intro i
    cases i with
    | zero => exact .inr ⟨_, _, rfl, rfl, a⟩
    | succ i => exact ih i
section
variable {X : Cx} {e : Expr} {te : TE} {lo hi : Option Expr} {se : Expr} {tl th ts : TO} {pos p2 : Pos}
end
section
variable {K : PySem.W.Frag} {ρ : Zbd} {te : TE}
end
end L2
end
section
namespace L2
open PySem PySem.Spec PyProof.Rows
section
variable {K : PySem.W.Frag} {ρ : Zbd} {D : PEnds}
end
end L2
end
section
namespace L2
open PySem PySem.Spec PyProof.Rows
section
variable {es : List Expr} {env : Env}
end
section
variable {X : Cx} {e : Expr} {es : List Expr} {te : TE} {t : TA} {pos : Pos}
end
section
variable {X : Cx} {a : Expr} {ta : TE}
end
section
variable {K : PySem.W.Frag} {ρ : Zbd} {ta tb tc td : TE}
end
section
variable {X : Cx} {a b c d : Expr} {ta tb tc td : TE} {pos : Pos}
end
section
variable {K : PySem.W.Frag} {ρ : Zbd} {ta tb tc td : TE}
end
end L2
end
namespace PySem
section
variable {prog : Program} {w : World} {K : Type} [DecidableEq K] (knd : KeyKind prog w K)
noncomputable def ZaO (h : Heap) (xy : List K × List K) (a : Addr) : Prop := ∃ o n p q, h.get? a = some o /\ o.cls = .type "tuple" /\ o.data = .seq #[.ref p, .ref q] n /\ IsTupleKey knd h xy.1 p /\ IsTupleKey knd h xy.2 q
variable {knd}
theorem ZaO.typeIs {s : Shared} {ks : List K × List K} {a : Addr} (x : ZaO knd s.heap ks a) : s.TypeIs (.ref a) "tuple" := let ⟨o, _, _, _, ho, hc, _⟩ := x; ⟨o, ho, hc⟩
theorem ZaO.inj {h : Heap} {a : Addr} {x y : List K × List K} (hx : ZaO knd h x a) (hy : ZaO knd h y a) : x = y := by
  obtain ⟨o, n, p, q, ho, _, hd, h1, h2⟩ := hx
  obtain ⟨o', n', p', q', ho', _, hd', h1', h2'⟩ := hy
  cases Option.some.inj (ho.symm.trans ho')
  rw [hd] at hd'
  injection hd' with z _
  have z1 := congrArg Array.toList z
  simp at z1
  obtain ⟨rfl, rfl⟩ := z1
  exact Prod.ext (h1.inj h1') (h2.inj h2')
theorem ZaO.keeps {h h' : Heap} {ks : List K × List K} {a d : Addr} {o : Obj} {es ep} (x : ZaO knd h ks a) (ho : h.get? d = some o) (hd : o.data = .dict es ep) (hs : Heap.SameBut d h h') : ZaO knd h' ks a := by
  obtain ⟨o', n, p, q, ho', hc, hd', h1, h2⟩ := x
  have hne : a ≠ d := fun z => by
    subst z
    cases Option.some.inj (ho'.symm.trans ho)
    rw [hd] at hd'
    exact nomatch hd'
  exact ⟨o', n, p, q, (hs.2 a hne).trans ho', hc, hd', h1.keeps ho hd hs, h2.keeps ho hd hs⟩
noncomputable def Zgj (knd : KeyKind prog w K) (ks : List K × List K) : Int := reduceHash (Builtin.Tuple.tupleHashOf [tupleKeyHash knd ks.1, tupleKeyHash knd ks.2])
variable {A : Around} {E : Value -> Shared -> Prop} {s : Shared}
theorem Ze1 {ks : List K × List K} {a : Addr} {Q : Int -> Shared -> Prop} (hu : A.units + 5 < cLine) (hk : ZaO knd s.heap ks a) (h : Q (Zgj knd ks) { s with toks := s.toks + (ks.1.length + ks.2.length + 3) }) :
    wpAny (model prog w) A (pyHash (.ref a)) Q E s := by
  have hT := hk.typeIs
  obtain ⟨o, n, p, q, ho, _, hd, h1, h2⟩ := hk
  unfold pyHash pyHashByItsType
  refine wpAny_bind (wpAny_cRoomFor_or (.inr (by omega)) ?_)
  refine wpAny_bind (wpAny_specialOf hT F.slot_tuple_hash.lookup ?_)
  show wpAny _ _ (if (some (Value.builtin "tuple.__hash__") == some Value.none) = true then _ else _) Q E s
  rw [if_neg (by rw [beq_builtin_none]; exact Bool.false_ne_true)]
  refine wpAny_bind (wpAny_specialOf hT F.slot_tuple_hash.lookup ?_)
  show wpAny _ _ (callSpecialIfBoundUnlessNone? (.ref a) "__hash__" _ >>= _) Q E s
  refine wpAny_bind (wpAny_callSpecialIfBoundUnlessNone?_slot hT F.slot_tuple_hash (wpAny_call_entry F.slot_tuple_hash hT F.entry_tuple_hash ?_ (F.args_tuple_hash_1 _)))
  show wpAny _ _ (Builtin.Tuple.tupleItemsOf (.ref a) >>= _) _ _ s
  refine wpAny_bind (wpAny_tupleItemsOf ho hd ?_)
  refine wpAny_bind ?_
  rw [<- Array.forIn_toList]
  refine wpAny_forIn_list _
    (fun rest (b : Array Int) s' => (rest = [.ref p, .ref q] /\ b.toList = [] /\ s' = s) \/ (rest = [.ref q] /\ b.toList = [tupleKeyHash knd ks.1] /\ s' = { s with toks := s.toks + (ks.1.length + 1) }) \/
      (rest = [] /\ b.toList = [tupleKeyHash knd ks.1, tupleKeyHash knd ks.2] /\ s' = { s with toks := s.toks + (ks.1.length + 1) + (ks.2.length + 1) }))
    _ ?_ ?_ _ _ (.inl ⟨rfl, rfl, rfl⟩)
  · rintro x rest b s' (⟨hr, hb, rfl⟩ | ⟨hr, hb, rfl⟩ | ⟨hr, _⟩)
    · injection hr with e1 e2
      subst e1 e2
      refine wpAny_bind (wpAny_pyHash_tuple ?hu1 h1 ?_)
      case hu1 => show A.units + 1 < cLine; omega
      exact wpAny_pure (.inr (.inl ⟨rfl, by simp [hb], rfl⟩))
    · injection hr with e1 e2
      subst e1 e2
      refine wpAny_bind (wpAny_pyHash_tuple ?hu2 h2 ?_)
      case hu2 => show A.units + 1 < cLine; omega
      exact wpAny_pure (.inr (.inr ⟨rfl, by simp [hb], rfl⟩))
    · cases hr
  · rintro b s' (⟨hr, _⟩ | ⟨hr, _⟩ | ⟨_, hb, rfl⟩)
    · cases hr
    · cases hr
    show wpAny _ _ (retInt (Builtin.Tuple.tupleHashOf b.toList)) _ _ _
    rw [hb]
    refine wpAny_ret_mkInt ?_
    show wpAny _ _ (if (decide (-(2 : Int) ^ 63 <= Builtin.Tuple.tupleHashOf [tupleKeyHash knd ks.1, tupleKeyHash knd ks.2]) && decide (Builtin.Tuple.tupleHashOf [tupleKeyHash knd ks.1, tupleKeyHash knd ks.2] < 2 ^ 63)) = true then _ else _) Q E _
    unfold Zgj reduceHash at h
    have et : s.toks + (ks.1.length + ks.2.length + 3) = s.toks + (ks.1.length + 1) + (ks.2.length + 1) + 1 := by omega
    rw [et] at h
    split
    · rename_i hr
      rw [if_pos hr] at h
      exact wpAny_pure h
    · rename_i hr
      rw [if_neg hr] at h
      exact wpAny_bind (wpAny_rule (wpAny_pure h))
theorem ZhK {x y : List K × List K} {a b : Addr} {P : Fin -> Shared -> Prop} (hu : A.units + 1 < cLine) (hx : ZaO knd s.heap x a) (hy : ZaO knd s.heap y b) (h : P (.done (.ret (.bool (decide (x = y))))) s) :
    wpAny (model prog w) A (Builtin.«tuple.__eq__» ⟨[.ref a, .ref b], []⟩) P E s := by
  have hTb := hy.typeIs
  obtain ⟨oa, na, p, q, hoa, _, hda, ha1, ha2⟩ := hx
  obtain ⟨ob, nb, p', q', hob, _, hdb, hb1, hb2⟩ := hy
  show wpAny _ _ (isInstance (.ref b) (.type "tuple") >>= _) _ _ s
  refine wpAny_bind (wpAny_isInstance hTb isSubtype_tuple_tuple ?_)
  simp only [Bool.not_true, Bool.false_eq_true, if_false]
  refine wpAny_bind (wpAny_tupleItemsOf hoa hda ?_)
  refine wpAny_bind (wpAny_tupleItemsOf hob hdb ?_)
  refine wpAny_bind ?_
  have e2 : decide (x = y) = (decide (x.1 = y.1) && decide (x.2 = y.2)) := by
    obtain ⟨x1, x2⟩ := x
    obtain ⟨y1, y2⟩ := y
    simp
  refine wpAny_forIn_list _
    (fun rest r s' => r.1 = none /\ s' = s /\ ((rest = [(.ref p, .ref p'), (.ref q, .ref q')]) \/ (rest = [(.ref q, .ref q')] /\ x.1 = y.1) \/ (rest = [] /\ x = y)))
    _ ?_ ?_ _ _ ⟨rfl, rfl, .inl rfl⟩
  · rintro ⟨u, v⟩ rest r s' ⟨hr, rfl, (hz | ⟨hz, e1⟩ | ⟨hz, _⟩)⟩
    · injection hz with z1 z2
      injection z1 with z3 z4
      subst z2 z3 z4
      refine wpAny_bind (wpAny_eqBool_tuple (by omega) ha1 hb1 ?_)
      by_cases hk : x.1 = y.1
      · rw [decide_eq_true hk]
        simp only [Bool.not_true, Bool.false_eq_true, if_false]
        exact wpAny_pure ⟨rfl, rfl, .inr (.inl ⟨trivial, hk⟩)⟩
      · rw [decide_eq_false hk]
        simp only [Bool.not_false, if_true]
        rw [e2, decide_eq_false hk, Bool.false_and] at h
        exact wpAny_bind (wpAny_pure (wpAny_pure (wpAny_pure h)))
    · injection hz with z1 z2
      injection z1 with z3 z4
      subst z2 z3 z4
      refine wpAny_bind (wpAny_eqBool_tuple (by omega) ha2 hb2 ?_)
      by_cases hk : x.2 = y.2
      · rw [decide_eq_true hk]
        simp only [Bool.not_true, Bool.false_eq_true, if_false]
        exact wpAny_pure ⟨rfl, rfl, .inr (.inr ⟨trivial, Prod.ext e1 hk⟩)⟩
      · rw [decide_eq_false hk]
        simp only [Bool.not_false, if_true]
        rw [e2, decide_eq_false hk, Bool.and_false] at h
        exact wpAny_bind (wpAny_pure (wpAny_pure (wpAny_pure h)))
    · cases hz
  · rintro ⟨r1, r2⟩ s' ⟨hr, rfl, (hz | ⟨hz, _⟩ | ⟨_, e⟩)⟩
    · cases hz
    · cases hz
    simp only at hr
    subst hr
    refine wpAny_pure ?_
    rw [decide_eq_true e] at h
    exact h
theorem Ze6 {x y : List K × List K} {a b : Addr} {Q : Bool -> Shared -> Prop} (hu : A.units + 5 < cLine) (hx : ZaO knd s.heap x a) (hy : ZaO knd s.heap y b) (h : Q (decide (x = y)) s) :
    wpAny (model prog w) A (eqBool (.ref a) (.ref b)) Q E s := by
  unfold eqBool
  try with_reducible refine wpAny_holding ?_
  show wpAny _ _ (if (Value.ref a == Value.ref b) = true then _ else _) Q E s
  by_cases hab : (Value.ref a == Value.ref b) = true
  · rw [if_pos hab]
    have e : a = b := by have := eq_of_beq hab; injection this
    subst e
    cases hx.inj hy
    exact wpAny_bind (wpAny_rule (wpAny_pure (by simpa using h)))
  · rw [if_neg hab]
    exact wpAny_bind (wpAny_richCompare_same_room (op := .Eq) hx.typeIs hy.typeIs F.slot_tuple_eq
      (wpAny_call_entry F.slot_tuple_eq hx.typeIs F.entry_tuple_eq (ZhK (by show _ + 1 < cLine; simp; omega) hx hy ⟨_, rfl, (fun e => nomatch e), wpAny_truthy_bool h⟩) (F.args_tuple_eq_2 _ _)) (by omega))
theorem Ziw (n : Nat) {ks : List K} {a : Addr} {Q : Bool -> Shared -> Prop} (hk : IsTupleKey knd s.heap ks a) (h : Q true s) : wpAny (model prog w) A (eqIsQuiet (n + 1) (.ref a)) Q E s := by
  have hT := hk.typeIs
  obtain ⟨o, items, m, ho, _, hd, hi⟩ := hk
  unfold eqIsQuiet
  refine wpAny_bind (wpAny_specialOf hT F.slot_tuple_eq.lookup ?_)
  show wpAny _ _ (isInstance (.ref a) (.type "tuple") >>= _) _ _ s
  refine wpAny_bind (wpAny_isInstance hT isSubtype_tuple_tuple ?_)
  simp only [Bool.not_true, Bool.false_eq_true, if_false]
  refine wpAny_bind (wpAny_seqItems ho hd ?_)
  refine wpAny_bind ?_
  show wpAny _ _ (forIn items _ _) _ _ s
  rw [<- Array.forIn_toList]
  refine wpAny_forIn_list _ (fun rest r s' => r.1 = none /\ s' = s /\ ∀ v ∈ rest, carriedByValue v = true) _ ?_ ?_ _ _ ⟨rfl, rfl, hi.byValue⟩
  · rintro v rest r s' ⟨hr, rfl, hall⟩
    rw [eqIsQuiet_byValue _ (hall v List.mem_cons_self)]
    refine wpAny_bind (wpAny_pure ?_)
    simp only [Bool.not_true, Bool.false_eq_true, if_false]
    exact wpAny_pure ⟨rfl, rfl, fun u hu' => hall u (List.mem_cons_of_mem _ hu')⟩
  · rintro ⟨r1, r2⟩ s' ⟨hr, rfl, _⟩
    simp only at hr
    subst hr
    exact wpAny_pure h
theorem ZdH {ks : List K × List K} {a : Addr} {Q : Bool -> Shared -> Prop} (hk : ZaO knd s.heap ks a) (h : Q true s) : wpAny (model prog w) A (eqIsQuiet 8 (.ref a)) Q E s := by
  have hT := hk.typeIs
  obtain ⟨o, n, p, q, ho, _, hd, h1, h2⟩ := hk
  unfold eqIsQuiet
  refine wpAny_bind (wpAny_specialOf hT F.slot_tuple_eq.lookup ?_)
  show wpAny _ _ (isInstance (.ref a) (.type "tuple") >>= _) _ _ s
  refine wpAny_bind (wpAny_isInstance hT isSubtype_tuple_tuple ?_)
  simp only [Bool.not_true, Bool.false_eq_true, if_false]
  refine wpAny_bind (wpAny_seqItems ho hd ?_)
  refine wpAny_bind ?_
  show wpAny _ _ (forIn #[Value.ref p, Value.ref q] _ _) _ _ s
  rw [<- Array.forIn_toList]
  refine wpAny_forIn_list _ (fun rest r s' => r.1 = none /\ s' = s /\ ∀ v ∈ rest, ∃ z zs, v = .ref z /\ IsTupleKey knd s.heap zs z) _ ?_ ?_ _ _ ⟨rfl, rfl, fun v hv => ?_⟩
  · rintro v rest r s' ⟨hr, rfl, hall⟩
    obtain ⟨z, zs, rfl, hz⟩ := hall v List.mem_cons_self
    refine wpAny_bind (Ziw 6 hz ?_)
    simp only [Bool.not_true, Bool.false_eq_true, if_false]
    exact wpAny_pure ⟨rfl, rfl, fun u hu' => hall u (List.mem_cons_of_mem _ hu')⟩
  · rintro ⟨r1, r2⟩ s' ⟨hr, rfl, _⟩
    simp only at hr
    subst hr
    exact wpAny_pure h
  · rcases List.mem_cons.mp hv with rfl | hv
    · exact ⟨p, _, rfl, h1⟩
    · rcases List.mem_cons.mp hv with rfl | hv
      · exact ⟨q, _, rfl, h2⟩
      · cases hv
end
noncomputable def Zgt {prog : Program} {w : World} {K : Type} [DecidableEq K] (knd : KeyKind prog w K) : HeapKind prog w (List K × List K) where
  is := ZaO knd
  hash := Zgj knd
  draws := fun ks => ks.1.length + ks.2.length + 3
  room := fun A => A.units + 5 < cLine
  inj := fun hx hy => hx.inj hy
  keeps := fun x ho hd hs => x.keeps ho hd hs
  pyHash := fun hu hk h => Ze1 hu hk h
  eqBool := fun hu hx hy h => Ze6 hu hx hy h
  quiet := fun hk h => ZdH hk h
section
variable {prog : Program} {w : World} {K : Type} [DecidableEq K] {knd : HeapKind prog w K} {A : Around} {E : Value -> Shared -> Prop} {s : Shared}
theorem Zdd {d a : Addr} {xs : List (K × Addr × Value)} {k : K} {dflt : Value} {Q : Value -> Shared -> Prop} (hu : knd.room A) (hkey : knd.is s.heap k a) (hm : s.heap.DictOfH knd d xs)
    (hthere : ∀ p, atKey xs k = some p -> Q p.2 { s with toks := s.toks + knd.draws k })
    (hnew : atKey xs k = none -> ∀ h', h'.DictOfH knd d (xs ++ [(k, a, dflt)]) -> Heap.SameBut d s.heap h' -> Q dflt { s with heap := h', toks := s.toks + knd.draws k })
    (hsz : xs.length <= sizeLine) :
    wpAny (model prog w) A (dictSetDefault d (.ref a) dflt) Q E s := by
  obtain ⟨o, es, ep, ho, hc, hd, he, his, hn⟩ := hm
  unfold dictSetDefault
  try with_reducible refine wpAny_holding ?_
  refine wpAny_bind (knd.pyHash hu hkey ?_)
  refine wpAny_bind (wpAny_dictFind_heap (s := { s with toks := s.toks + knd.draws k }) hu hkey ho hd he his hn ?_ ?_)
  · intro hno
    have hnot : k ∉ xs.map (·.1) := not_mem_keys_of_get hno
    refine wpAny_bind (wpAny_rule (wpAny_bind (wpAny_updateDictKeys (hz := by have e := size_of_entries he; omega) (s := { s with toks := s.toks + knd.draws k }) ho hd (wpAny_pure (hnew (atKey_none_of_get hno) _ ⟨_, _, ep + 1, Heap.get?_update_self _ ho (Obj.isFreed_of_dict (Obj.data_mapDictKeys hd _)),
      hc.mapDictKeys _, Obj.data_mapDictKeys hd _, ?_, ?_, ?_⟩ (Heap.SameBut.update ..))))))
    · simp [he, entryOfKey]
    · intro x hx
      rcases List.mem_append.mp hx with hx | hx
      · exact knd.keeps (his x hx) ho hd (Heap.SameBut.update ..)
      · simp only [List.mem_singleton] at hx
        subst hx
        exact knd.keeps hkey ho hd (Heap.SameBut.update ..)
    · rw [List.map_append, List.nodup_append]
      refine ⟨hn, by simp, ?_⟩
      intro x hx y hy
      simp only [List.map_cons, List.map_nil, List.mem_singleton] at hy
      subst hy
      exact fun e => hnot (e ▸ hx)
  · intro j p hj
    refine wpAny_bind (wpAny_dictEntries (s := { s with toks := s.toks + knd.draws k }) ho hd ?_)
    rw [entry_at he j, hj]
    exact wpAny_bind (wpAny_rule (wpAny_pure (hthere _ (atKey_of_get hn hj))))
theorem Zdv (knd : HeapKind prog w K) (d a : Addr) (hd : (d == sysModules) = false) (dflt : Value) :
    MeetsIn prog w (Builtin.«dict.setdefault» ⟨[.ref d, .ref a, dflt], []⟩) (fun A R s => knd.room A.in1 /\ ∃ k xs, knd.is s.heap k a /\ s.heap.DictOfH knd d xs /\ xs.length <= sizeLine /\
      (∀ p, atKey xs k = some p -> R (.ok (.ret p.2)) { s with toks := s.toks + knd.draws k }) /\
      (atKey xs k = none -> ∀ h', h'.DictOfH knd d (xs ++ [(k, a, dflt)]) -> Heap.SameBut d s.heap h' -> R (.ok (.ret dflt)) { s with heap := h', toks := s.toks + knd.draws k })) :=
  .of_wp fun A R s ⟨hu, k, xs, hkey, hm, hz, h1, h2⟩ => by
    unfold Builtin.«dict.setdefault»
    refine wpAny_bind ?_
    unfold Builtin.Dict.keyAndDefault
    refine wpAny_bind (wpAny_notOrdered_dict hm.typeIs ?_)
    show wpAny _ _ (pure (d, Value.ref a, some dflt)) _ _ s
    refine wpAny_pure ?_
    show wpAny _ _ (if (d == sysModules) = true then _ else (dictSetDefault d (.ref a) dflt >>= _)) _ _ s
    rw [if_neg (by rw [hd]; exact Bool.false_ne_true)]
    exact wpAny_bind (Zdd hu hkey hm (fun p hp => wpAny_pure ⟨p.2, rfl, h1 p hp⟩) (fun hn h' hm' hs' => wpAny_pure ⟨dflt, rfl, h2 hn h' hm' hs'⟩) hz)
end
end PySem
namespace My
end My
namespace L2
open PySem
theorem Za6.keep {F H H' : Hp} : ∀ {as : List Addr} {dss : List (List PyData)}, (∀ b ∈ as, H' b = H b) -> Za6 F H as dss -> Za6 F H' as dss
  | [], [], _, _ => trivial
  | a :: as, _ :: _, h, o => by
    obtain ⟨⟨h1, xs, h2, h3⟩, o2⟩ := o
    exact ⟨⟨h1, xs, by rw [h a List.mem_cons_self]; exact h2, h3⟩, Za6.keep (fun b hb => h b (List.mem_cons_of_mem _ hb)) o2⟩
  | [], _ :: _, _, h => False.elim h
  | _ :: _, [], _, h => False.elim h
theorem ZaH.keep {K : PySem.W.Frag} {F H H' : Hp} {v : V} {t : OT} {p : List Addr} (k : ∀ b ∈ p, H' b = H b) (h : ZaH K F H v t p) : ZaH K F H' v t p := by
  cases t with
  | fz d => exact h
  | zow Ψ => exact h
  | ol ds =>
    obtain ⟨a, rfl, rfl, h1, xs, h2, h3⟩ := h
    exact ⟨a, rfl, rfl, h1, xs, by rw [k a List.mem_cons_self]; exact h2, h3⟩
  | oll dss =>
    obtain ⟨a, as, rfl, rfl, h1, h2, h3, h4⟩ := h
    exact ⟨a, as, rfl, rfl, h1, h2, by rw [k a List.mem_cons_self]; exact h3, h4.keep fun b hb => k b (List.mem_cons_of_mem _ hb)⟩
  | scr ns => exact h
  | own v0 Φ =>
    obtain ⟨h1, h2⟩ := h
    exact ⟨h1, Φ.mono (ZaK.refl _) (fun a ha => (Φ.there h2 a ha).1) k h2⟩
theorem Sta.writeOwn {K : PySem.W.Frag} {H0 F H : Hp} {ρ : Zbd} {σ : St} {i : Nat} {v : V} {Φ : OwnP} (s : Sta K H0 F ρ σ H) (e : ρ[i]? = some (some (.own v Φ))) :
    σ[i]? = some (some v) /\ ∃ p, Φ.ok K F H v p /\ (∀ a ∈ p, H0 a = none /\ F a = none /\ H a ≠ none) /\
      ∀ (H' : Hp) (Φ' : OwnP) (p' : List Addr), ZaK F H' -> (∀ b, b ∉ p -> H b ≠ none -> H' b = H b) -> (∀ b, H b ≠ none -> H' b ≠ none) -> Φ'.ok K F H' v p' -> (∀ a ∈ p', a ∈ p \/ (H a = none /\ H0 a = none)) ->
        Sta K H0 F (ρ.set i (some (.own v Φ'))) σ H' := by
  obtain ⟨kt, h1, h2, fp, h3, h4, h5⟩ := s
  obtain ⟨u, e1, rfl, e2⟩ := h3 i _ e
  refine ⟨e1, fp i, e2, fun a ha => ⟨(h5 i a ha).1, (Φ.there e2 a ha).1, (h5 i a ha).2⟩, fun H' Φ' p' sm kp st ok sub => ?_⟩
  have hlt := (List.getElem?_eq_some_iff.mp e).1
  refine ⟨kt, sm, by simp [h2], fun j => if j = i then p' else fp j, fun j t' e' => ?_, fun j k a ha hb => ?_, fun j a ha => ?_⟩
  · by_cases hj : j = i
    · subst hj
      rw [List.getElem?_set_self hlt] at e'
      cases e'
      refine ⟨_, e1, rfl, ?_⟩
      simp only [if_true]
      exact ok
    · rw [List.getElem?_set_ne (Ne.symm hj)] at e'
      obtain ⟨u', f1, f2⟩ := h3 j t' e'
      refine ⟨u', f1, ?_⟩
      simp only [if_neg hj]
      exact f2.keep fun b hb => kp b (fun z => hj (h4 j i b hb z)) (h5 j b hb).2
  · by_cases hj : j = i
    · by_cases hk : k = i
      · omega
      · simp only [if_pos hj] at ha
        simp only [if_neg hk] at hb
        rcases sub a ha with z | z
        · exact absurd (h4 k i a hb z) hk
        · exact absurd z.1 (h5 k a hb).2
    · simp only [if_neg hj] at ha
      by_cases hk : k = i
      · simp only [if_pos hk] at hb
        rcases sub a hb with z | z
        · exact absurd (h4 j i a ha z) hj
        · exact absurd z.1 (h5 j a ha).2
      · simp only [if_neg hk] at hb
        exact h4 j k a ha hb
  · by_cases hj : j = i
    · simp only [if_pos hj] at ha
      rcases sub a ha with z | z
      · exact ⟨(h5 i a z).1, st a (h5 i a z).2⟩
      · exact ⟨z.2, (Φ'.there ok a ha).2⟩
    · simp only [if_neg hj] at ha
      exact ⟨(h5 j a ha).1, st a (h5 j a ha).2⟩
end L2
namespace L2
open PySem
noncomputable def Zrm : Key -> PyData
  | .inl i => .int i
  | .inr x => .str x
noncomputable def Zb8 (k : List Key) : PyData := .tuple (k.map Zrm)
theorem Znr {F : Hp} {y : V} {k : Key} (r : Rep F y (Zrm k)) : y = kV k := by
  cases k with
  | inl i => cases r; rfl
  | inr x => cases r; rfl
theorem ZhD {F : Hp} : ∀ {ys : List V} {k : List Key}, Reps F ys (k.map Zrm) -> ys = k.map kV
  | _, [], .nil => rfl
  | _, k :: ks, .cons r rs => by rw [Znr r, ZhD rs]; rfl
theorem Zdb {F : Hp} {y : V} {k : List Key} (r : Rep F y (Zb8 k)) : ∃ b, y = .ref b /\ F b = some (.tup (k.map kV)) := by
  unfold Zb8 at r
  cases r with
  | tup h rs => exact ⟨_, rfl, by rw [h, ZhD rs]⟩
noncomputable abbrev ZeU := List (List Key × PyData)
noncomputable def ZhY (kvs : ZeU) (k : List Key) : Option PyData := (kvs.find? fun kv => decide (kv.1 = k)).map (·.2)
noncomputable def ZpD (kvs : ZeU) (k : List Key) (d : PyData) : ZeU := if (kvs.any fun kv => decide (kv.1 = k)) = true then kvs.map (fun kv => if kv.1 = k then (kv.1, d) else kv) else kvs ++ [(k, d)]
inductive PairD (F : Hp) : List (List Key × V) -> ZeU -> Prop
  | nil : PairD F [] []
  | cons {k : List Key} {x : V} {d : PyData} {xs : List (List Key × V)} {kvs : ZeU} : Rep F x d -> PairD F xs kvs -> PairD F ((k, x) :: xs) ((k, d) :: kvs)
theorem PairD.mono {F F' : Hp} (s : ZaK F F') : ∀ {xs : List (List Key × V)} {kvs : ZeU}, PairD F xs kvs -> PairD F' xs kvs
  | _, _, .nil => .nil
  | _, _, .cons r t => .cons (r.mono s) (t.mono s)
theorem PairD.length {F : Hp} : ∀ {xs : List (List Key × V)} {kvs : ZeU}, PairD F xs kvs -> xs.length = kvs.length
  | _, _, .nil => rfl
  | _, _, .cons _ t => by simp [t.length]
theorem PairD.val {F : Hp} (k : List Key) : ∀ {xs : List (List Key × V)} {kvs : ZeU}, PairD F xs kvs -> (ZdE xs k = none /\ ZhY kvs k = none) \/ ∃ x d, ZdE xs k = some x /\ ZhY kvs k = some d /\ Rep F x d
  | _, _, .nil => .inl ⟨rfl, rfl⟩
  | _, _, .cons (k := k') (x := x) (d := d) (xs := xs) (kvs := kvs) r t => by
    by_cases e : k' = k
    · exact .inr ⟨x, d, Zcg e, by simp [ZhY, List.find?_cons, e], r⟩
    · have q : ZhY ((k', d) :: kvs) k = ZhY kvs k := by simp [ZhY, List.find?_cons, e]
      rw [Zci (p := (k', x)) e, q]
      exact t.val k
theorem PairD.any {F : Hp} (k : List Key) : ∀ {xs : List (List Key × V)} {kvs : ZeU}, PairD F xs kvs -> (xs.any fun kv => decide (kv.1 = k)) = (kvs.any fun kv => decide (kv.1 = k))
  | _, _, .nil => rfl
  | _, _, .cons _ t => by simp [t.any k]
theorem PairD.mapP {F : Hp} (k : List Key) {y : V} {d : PyData} (r : Rep F y d) : ∀ {xs : List (List Key × V)} {kvs : ZeU}, PairD F xs kvs -> PairD F (xs.map fun kv => if kv.1 = k then (kv.1, y) else kv) (kvs.map fun kv => if kv.1 = k then (kv.1, d) else kv)
  | _, _, .nil => .nil
  | _, _, .cons (k := k') r' t => by
    rw [List.map_cons, List.map_cons]
    by_cases e : k' = k
    · simp only [e, if_true]
      exact .cons r (t.mapP k r)
    · simp only [e, if_false]
      exact .cons r' (t.mapP k r)
theorem PairD.snoc {F : Hp} (k : List Key) {y : V} {d : PyData} (r : Rep F y d) : ∀ {xs : List (List Key × V)} {kvs : ZeU}, PairD F xs kvs -> PairD F (xs ++ [(k, y)]) (kvs ++ [(k, d)])
  | _, _, .nil => .cons r .nil
  | _, _, .cons r' t => .cons r' (t.snoc k r)
theorem PairD.put {F : Hp} (k : List Key) {y : V} {d : PyData} (r : Rep F y d) {xs : List (List Key × V)} {kvs : ZeU} (t : PairD F xs kvs) : PairD F (ZiQ xs k y) (ZpD kvs k d) := by
  unfold ZiQ ZpD
  rw [t.any k]
  split
  · exact t.mapP k r
  · exact t.snoc k r
noncomputable def Zgx (kvs : ZeU) : OwnP where
  ok K F H v p := ∃ a xs, v = .ref a /\ p = [a] /\ F a = none /\ H a = some (.dT xs) /\ PairD F xs kvs
  there := by
    rintro K F H v p ⟨a, xs, rfl, rfl, h1, h2, h3⟩ b hb
    cases List.mem_singleton.mp hb
    exact ⟨h1, Zbs h2⟩
  mono := by
    rintro K F F' H H' v p s hF hH ⟨a, xs, rfl, rfl, h1, h2, h3⟩
    exact ⟨a, xs, rfl, rfl, hF a List.mem_cons_self, by rw [hH a List.mem_cons_self]; exact h2, h3.mono s⟩
  uniq := by
    rintro K F H v p q ⟨a, xs, rfl, rfl, _⟩ ⟨b, ys, e, rfl, _⟩ c hc
    cases e
    exact hc
section
variable {K : PySem.W.Frag} {ρ : Zbd} {te ty tv : TE} {D : PEnds} {i : Nat} {v : V} {kvs : ZeU} {k : List Key} {d : PyData}
theorem Sta.dct {H0 F H : Hp} {σ : St} (S : Sta K H0 F ρ σ H) (e : ρ[i]? = some (some (.own v (Zgx kvs)))) :
    ∃ a xs, v = .ref a /\ σ[i]? = some (some (.ref a)) /\ F a = none /\ H0 a = none /\ H a = some (.dT xs) /\ PairD F xs kvs := by
  obtain ⟨e1, p, ⟨a, xs, rfl, rfl, h1, h2, h3⟩, hp, _⟩ := S.writeOwn e
  exact ⟨a, xs, rfl, e1, h1, (hp a List.mem_cons_self).1, h2, h3⟩
theorem Ze3 {F : Hp} {xs : List (List Key × V)} (t : PairD F xs kvs) : (ZdE xs k).isSome = (ZhY kvs k).isSome := by
  rcases t.val k with ⟨z1, z2⟩ | ⟨x, d', z1, z2, _⟩ <;> rw [z1, z2] <;> rfl
theorem Zo4 (hy : EvE K ty ρ (Zb8 k)) (e : ρ[i]? = some (some (.own v (Zgx kvs)))) : EvE K (Zro ty (ZcR i)) ρ (.bool (ZhY kvs k).isSome) := fun H0 F σ H Q S q =>
  hy H0 F σ H _ S fun F1 H1 y x1 r1 => by
    obtain ⟨a, xs, rfl, e1, _, _, f2, f3⟩ := (S.ext x1).dct e
    obtain ⟨b, rfl, hb⟩ := Zdb r1
    exact ⟨_, e1, a, _, rfl, ZgT.t f2 (x1.fh _ _ hb), q F1 H1 _ x1 (by rw [Ze3 f3]; exact .bl _)⟩
theorem ZjI (hy : EvE K ty ρ (Zb8 k)) (e : ρ[i]? = some (some (.own v (Zgx kvs)))) : EvE K (ZlV ty (ZcR i)) ρ (.bool (!(ZhY kvs k).isSome)) := fun H0 F σ H Q S q =>
  hy H0 F σ H _ S fun F1 H1 y x1 r1 => by
    obtain ⟨a, xs, rfl, e1, _, _, f2, f3⟩ := (S.ext x1).dct e
    obtain ⟨b, rfl, hb⟩ := Zdb r1
    exact ⟨_, e1, a, _, rfl, ZgT.t f2 (x1.fh _ _ hb), q F1 H1 _ x1 (by rw [Ze3 f3]; exact .bl _)⟩
theorem Zmy (e : ρ[i]? = some (some (.own v (Zgx kvs)))) (hv : EvE K tv ρ d) (hy : EvE K ty ρ (Zb8 k)) (hz : kvs.length < sizeLine) (hn : D.nx (ρ.set i (some (.own v (Zgx (ZpD kvs k d)))))) : EvS K (ZqE (ZcR i) ty tv) ρ D := fun F0 H0 F σ H E x S C =>
  hv H0 F σ H _ S fun F1 H1 u x1 r1 => by
    obtain ⟨a, xs, rfl, e1, _⟩ := (S.ext x1).dct e
    refine ⟨_, e1, hy H0 F1 σ H1 _ (S.ext x1) fun F2 H2 y x2 r2 => ?_⟩
    have S2 := S.ext (x1.trans x2)
    obtain ⟨a', xs', ea, _, g1, g0, g2, g3⟩ := S2.dct e
    cases ea
    obtain ⟨b, rfl, hb⟩ := Zdb r2
    refine ⟨a, _, rfl, Zo0.t g2 (x2.fh _ _ hb) (by rw [g3.length]; exact hz), ?_⟩
    obtain ⟨_, p, ok, hp, w⟩ := S2.writeOwn e
    obtain ⟨a'', xs'', ea, rfl, _, g4, _⟩ := ok
    cases ea
    refine C.nx F2 σ _ _ ((x.trans (x1.trans x2)).wr g0 g1) (w _ (Zgx (ZpD kvs k d)) [a] (S2.sub.upd g1) (fun c hc _ => Zah fun z => hc (by rw [z]; exact List.mem_cons_self)) (fun c hc => ?_) ⟨a, _, rfl, rfl, g1, Zaj, g3.put k (r1.mono x2.ff)⟩ (fun c hc => .inl hc)) hn
    by_cases z : c = a
    · subst z; rw [Zaj]; exact fun q => nomatch q
    · rw [Zah z]; exact hc
noncomputable def EvX (K : PySem.W.Frag) (t : TE) (ρ : Zbd) (Φ : OwnP) : Prop := ∀ (H0 F : Hp) (σ : St) (H : Hp) (Q : VK), Sta K H0 F ρ σ H -> (∀ F' H' v p, Ext F H F' H' -> (∀ a ∈ p, H a = none) -> Φ.ok K F' H' v p -> Q v H') -> t σ H Q
theorem ZiV : ∀ {as bs : List Addr}, as.map V.ref = bs.map V.ref -> as = bs
  | [], [], _ => rfl
  | a :: as, b :: bs, h => by
    rw [List.map_cons, List.map_cons] at h
    injection h with h1 h2
    cases h1
    rw [ZiV h2]
  | [], _ :: _, h => by cases h
  | _ :: _, [], h => by cases h
theorem Zhg {F H : Hp} {w : V} {t : OT} {p q : List Addr} (h : ZaH K F H w t p) (h' : ZaH K F H w t q) : ∀ b ∈ q, b ∈ p := by
  cases t with
  | fz d => rw [h'.1]; intro b hb; cases hb
  | zow Ψ => rw [h'.1]; intro b hb; cases hb
  | ol ds =>
    obtain ⟨b1, z1, z2, z3⟩ := h'
    obtain ⟨b2, y1, y2, y3⟩ := h
    rw [z1] at y1
    cases y1
    rw [z2, y2]
    exact fun _ z => z
  | oll dss =>
    obtain ⟨a, as, z1, z2, _, _, z3, _⟩ := h'
    obtain ⟨b, bs, y1, y2, _, _, y3, _⟩ := h
    rw [z1] at y1
    cases y1
    rw [z3] at y3
    injection y3 with y4
    injection y4 with y5
    rw [z2, y2, ZiV y5]
    exact fun _ z => z
  | scr ns => rw [h'.1]; intro b hb; cases hb
  | own v0 Φ => exact Φ.uniq h.2 h'.2
theorem Zkt {Φ : OwnP} (h : EvX K te ρ Φ) (hn : ∀ v, D.nx (ρ.set i (some (.own v Φ)))) : EvS K (Zmc te (Zg7 i)) ρ D := fun F0 H0 F σ H E x S C =>
  h H0 F σ H _ S fun F' H' v p x' hp ok => by
    refine C.nx F' _ H' _ (x.trans x') ((S.ext x').set (t := .own v Φ) ⟨rfl, ok⟩ (fun a ha => x.hh.free (hp a ha)) (hn := fun a ha j w t' q e1 e2 ok' => ?_)) (hn v)
    obtain ⟨fp, g1, g2, g3⟩ := S.fp
    obtain ⟨w', f1, f2⟩ := g1 j t' e1
    intro hq
    have f3 := f2.ext x'
    rw [e2] at f1
    cases f1
    exact (g3 j a (Zhg (K := K) f3 ok' a hq)).2 (hp a ha)
end
end L2
namespace Mir
open PySem
theorem ZjN (e : Nat) : Builtin.bitAnd (e : Int) 1 = ((e % 2 : Nat) : Int) := by
  unfold Builtin.bitAnd
  have h1 : decide ((0 : Int) <= (e : Int)) = true := decide_eq_true (by omega)
  have h2 : decide ((0 : Int) <= 1) = true := rfl
  rw [h1, h2]
  show ((((e : Int).toNat &&& (1 : Int).toNat : Nat)) : Int) = _
  rw [Int.toNat_natCast, show (1 : Int).toNat = 1 from rfl, Nat.and_one_is_mod]
theorem ZqJ (e : Nat) : e ||| 1 = e + 1 - e % 2 := by
  apply Nat.eq_of_testBit_eq
  intro i
  rw [Nat.testBit_or]
  have h2 : e % 2 = 0 \/ e % 2 = 1 := by omega
  cases i with
  | zero =>
    rw [Nat.testBit_zero, Nat.testBit_zero, Nat.testBit_zero]
    have : (e + 1 - e % 2) % 2 = 1 := by omega
    rw [this]
    rcases h2 with h | h <;> rw [h] <;> rfl
  | succ i =>
    rw [Nat.testBit_succ, Nat.testBit_succ, Nat.testBit_succ]
    have : (e + 1 - e % 2) / 2 = e / 2 := by omega
    rw [this]
    simp
theorem Zln (e : Nat) : Builtin.bitOr (e : Int) 1 = ((e + 1 - e % 2 : Nat) : Int) := by
  unfold Builtin.bitOr
  have a : Builtin.bitNot (e : Int) = -(e : Int) - 1 := rfl
  have b : Builtin.bitNot 1 = -2 := rfl
  have c : Builtin.bitAnd (Builtin.bitNot (e : Int)) (Builtin.bitNot 1) = Builtin.bitNot (((e ||| 1 : Nat)) : Int) := by
    rw [a, b]
    unfold Builtin.bitAnd
    have h1 : decide ((0 : Int) <= -(e : Int) - 1) = false := decide_eq_false (by omega)
    have h2 : decide ((0 : Int) <= -2) = false := rfl
    rw [h1, h2]
    show Builtin.bitNot ((((Builtin.bitNot (-(e : Int) - 1)).toNat ||| (Builtin.bitNot (-2)).toNat : Nat)) : Int) = _
    have e1 : (Builtin.bitNot (-(e : Int) - 1)).toNat = e := by show (-(-(e : Int) - 1) - 1).toNat = e; omega
    have e2 : (Builtin.bitNot (-2)).toNat = 1 := rfl
    rw [e1, e2]
  rw [c, ZqJ]
  show -(-(((e + 1 - e % 2 : Nat)) : Int) - 1) - 1 = _
  omega
theorem ZdR (e : Nat) : Builtin.bitXor (e : Int) 1 = (Zeb e : Int) := by
  unfold Builtin.bitXor
  rw [ZjN, Zln]
  unfold Zeb
  split <;> omega
end Mir
namespace L2
open PySem PySem.Spec PyProof.Rows
noncomputable abbrev KK := List Key × List Key
noncomputable def Zn9 (P : Program) (w : World) (a : Addr) (xs : List (KK × Addr × V)) (h : Heap) : Prop := xs.length <= sizeLine /\ (a == sysModules) = false /\ ∃ vs : List (KK × Addr × Value),
  Paired (fun (x : KK × Addr × V) (y : KK × Addr × Value) => x.1 = y.1 /\ x.2.1 = y.2.1 /\ Zbc x.2.2 y.2.2) xs vs /\
  ∃ o es ep, h.get? a = some o /\ o.ExactDict /\ o.data = .dict es ep /\ es.toList = vs.map (entryOfKey (Zgt (ZaZ P w))) /\ (vs.map (·.1)).Nodup
noncomputable def pdO (P : Program) (w : World) (a : Addr) (xs : List (KK × Addr × V)) : HO := .ext (Zn9 P w a xs)
theorem Zn9.move {P : Program} {w : World} {a : Addr} {xs : List (KK × Addr × V)} {h1 h2 : Heap} (x : Zn9 P w a xs h1) (k : ∀ o, h1.get? a = some o -> h2.get? a = some o) : Zn9 P w a xs h2 := by
  obtain ⟨z, y, vs, r, o, es, ep, e1, e2, e3, e4, e5⟩ := x
  exact ⟨z, y, vs, r, o, es, ep, k _ e1, e2, e3, e4, e5⟩
theorem Zn9.ok {P : Program} {w : World} {a : Addr} {xs : List (KK × Addr × V)} {H : Hp} {h : Heap} (x : Zn9 P w a xs h) : Zct P w H h a (pdO P w a xs) := by
  refine ⟨x, ?_, fun h1 h2 y k => y.move k⟩
  obtain ⟨z, y, vs, r, o, es, ep, e1, _⟩ := x
  exact ⟨o, e1⟩
noncomputable def ZbC (H : Hp) (k : KK) (b : Addr) : Prop := ∃ p q, H b = some (.tup [.ref p, .ref q]) /\ H p = some (.tup (k.1.map kV)) /\ H q = some (.tup (k.2.map kV))
theorem ZbC.mono {H H' : Hp} (s : ∀ b ys, H b = some (.tup ys) -> H' b = some (.tup ys)) {k : KK} {b : Addr} (x : ZbC H k b) : ZbC H' k b := by
  obtain ⟨p, q, h1, h2, h3⟩ := x
  exact ⟨p, q, s _ _ h1, s _ _ h2, s _ _ h3⟩
section
variable {P : Program} {w : World} {H : Hp} {h : Heap} {a b : Addr}
theorem ZeP {k : KK} (ok : HOk P w H h) (x : ZbC H k b) : (Zgt (ZaZ P w)).is h k b := by
  obtain ⟨p, q, h1, h2, h3⟩ := x
  obtain ⟨_, its, r, o, e1, e2, n, e3⟩ := (show Zct P w H h b (.tup [.ref p, .ref q]) from ok b _ h1)
  cases r with
  | cons r1 r =>
    cases r with
    | cons r2 r =>
      cases r
      cases (show _ = Value.ref p from r1)
      cases (show _ = Value.ref q from r2)
      exact ⟨o, n, p, q, e1, e2, e3, ZdL ok h2, ZdL ok h3⟩
theorem ZoK {xs : List (KK × Addr × V)} (ok : HOk P w H h) (e : H a = some (pdO P w a xs)) (hk : ∀ x ∈ xs, ZbC H x.1 x.2.1) : xs.length <= sizeLine /\ (a == sysModules) = false /\ ∃ vs,
    Paired (fun (x : KK × Addr × V) (y : KK × Addr × Value) => x.1 = y.1 /\ x.2.1 = y.2.1 /\ Zbc x.2.2 y.2.2) xs vs /\ h.DictOfH (Zgt (ZaZ P w)) a vs := by
  obtain ⟨⟨z, y, vs, r, o, es, ep, e1, e2, e3, e4, e5⟩, hst⟩ := (show Zct P w H h a (pdO P w a xs) from ok a _ e)
  refine ⟨z, y, vs, r, o, es, ep, e1, e2, e3, e4, ?_, e5⟩
  clear e5 e4 z e hst
  induction r with
  | nil => intro x hx; exact nomatch hx
  | @cons p q ps qs hq t ih =>
    intro x hx
    rcases List.mem_cons.mp hx with rfl | hx
    · have := ZeP ok (hk p List.mem_cons_self)
      rw [hq.1, hq.2.1] at this
      exact this
    · exact ih (fun z hz => hk z (List.mem_cons_of_mem _ hz)) x hx
end
noncomputable def Zim (xs : List (KK × Addr × V)) (k : KK) : Option V := (xs.find? fun x => decide (x.1 = k)).map (·.2.2)
noncomputable abbrev RPD := Paired (fun (x : KK × Addr × V) (y : KK × Addr × Value) => x.1 = y.1 /\ x.2.1 = y.2.1 /\ Zbc x.2.2 y.2.2)
theorem RPD.val (k : KK) {xs : List (KK × Addr × V)} {vs : List (KK × Addr × Value)} (r : RPD xs vs) : Zff (Zim xs k) ((atKey vs k).map (·.2)) := by
  induction r with
  | nil => exact True.intro
  | @cons p q ps qs hq t ih =>
    by_cases e : p.1 = k
    · have e1 : Zim (p :: ps) k = some p.2.2 := by simp [Zim, List.find?_cons, e]
      have e2 : (atKey (q :: qs) k).map (·.2) = some q.2.2 := by simp [atKey, List.find?_cons, <- hq.1, e]
      rw [e1, e2]
      exact hq.2.2
    · have e1 : Zim (p :: ps) k = Zim ps k := by simp [Zim, List.find?_cons, e]
      have e2 : (atKey (q :: qs) k).map (·.2) = (atKey qs k).map (·.2) := by simp [atKey, List.find?_cons, <- hq.1, e]
      rw [e1, e2]
      exact ih
noncomputable def Zoc (xs : List (KK × Addr × V)) (k : KK) (b : Addr) (v : V) : List (KK × Addr × V) := if (Zim xs k).isSome = true then xs.map (fun x => if x.1 = k then (x.1, x.2.1, v) else x) else xs ++ [(k, b, v)]
theorem RPD.repl (k : KK) {v : V} {u : Value} (rv : Zbc v u) {xs : List (KK × Addr × V)} {vs : List (KK × Addr × Value)} (r : RPD xs vs) : RPD (xs.map fun x => if x.1 = k then (x.1, x.2.1, v) else x) (vs.map (putAt k u)) := by
  induction r with
  | nil => exact .nil
  | @cons p q ps qs hq t ih =>
    rw [List.map_cons, List.map_cons]
    refine .cons ?_ ih
    unfold putAt
    by_cases e : p.1 = k
    · rw [if_pos e, if_pos (hq.1 ▸ e)]
      exact ⟨hq.1, hq.2.1, rv⟩
    · rw [if_neg e, if_neg (hq.1 ▸ e)]
      exact hq
theorem Zff.some_eq : ∀ {x : Option V} {y : Option Value}, Zff x y -> x.isSome = y.isSome
  | none, none, _ => rfl
  | some _, some _, _ => rfl
  | none, some _, h => by cases h
  | some _, none, h => by cases h
theorem RPD.put (k : KK) (b : Addr) {v : V} {u : Value} (rv : Zbc v u) {xs : List (KK × Addr × V)} {vs : List (KK × Addr × Value)} (r : RPD xs vs) : RPD (Zoc xs k b v) (storedH vs k b u) := by
  have e := Zff.some_eq (r.val k)
  rw [Option.isSome_map] at e
  unfold Zoc storedH
  rw [e]
  split
  · exact r.repl k rv
  · exact Paired.snoc r ⟨rfl, rfl, rv⟩
theorem ZiD (xs : List (KK × Addr × V)) (k : KK) (b : Addr) (v : V) : (Zoc xs k b v).length <= xs.length + 1 := by
  unfold Zoc
  split <;> simp
section
variable {X : Cx} {pins : List (Addr × Obj)} {σ : St} {H : Hp} {s : Shared} {a b : Addr} {v : V} {r : Value} {A : Around} {E : Value -> Shared -> Prop} {xs : List (KK × Addr × V)} {k : KK}
theorem Zlt {Q : Unit -> Shared -> Prop} (hu : A.units + 6 < cLine) (I : Inv X pins σ H s) (e : H a = some (pdO X.prog X.w a xs)) (hk : ∀ x ∈ xs, ZbC H x.1 x.2.1) (hb : ZbC H k b) (l : xs.length < sizeLine) (rv : Zbc v r)
    (h : ∀ s', Inv X pins σ (upd H a (pdO X.prog X.w a (Zoc xs k b v))) s' -> Q () s') : wpAny (model X.prog X.w) A (setItem (.ref a) (.ref b) r) Q E s := by
  obtain ⟨z, hd, vs, rel, dd⟩ := ZoK I.hok e hk
  have hz : vs.length <= sizeLine := by rw [<- Paired.length rel]; exact z
  refine wpAny_setItem_heap (hsz := hz) (show A.units + 1 + 5 < cLine by omega) (ZeP I.hok hb) dd fun h' dd' hs => h _ ?_
  obtain ⟨q, es, ep, hq, h2, h3, h4, _, h5⟩ := dd'
  exact Zft I (by rw [e]; exact True.intro) hs ⟨q, hq⟩ (Zn9.ok ⟨by have := ZiD xs k b v; omega, hd, _, RPD.put k b rv rel, q, es, ep, hq, h2, h3, h4, h5⟩)
theorem ZlI {Q : Value -> Shared -> Prop} (hu : A.units + 6 < cLine) (I : Inv X pins σ H s) (e : H a = some (pdO X.prog X.w a xs)) (hk : ∀ x ∈ xs, ZbC H x.1 x.2.1) (hb : ZbC H k b) (hv : Zim xs k = some v)
    (h : ∀ u s', Inv X pins σ H s' -> Zbc v u -> Q u s') : wpAny (model X.prog X.w) A (getItem (.ref a) (.ref b)) Q E s := by
  obtain ⟨z, hd, vs, rel, dd⟩ := ZoK I.hok e hk
  have rr := RPD.val k rel
  rw [hv] at rr
  cases ek : atKey vs k with
  | none => rw [ek] at rr; cases rr
  | some p =>
    rw [ek] at rr
    exact wpAny_getItem_heap (show A.units + 1 + 5 < cLine by omega) (ZeP I.hok hb) dd ek (h _ _ (I.tok _) rr)
theorem Zpj {Q : Value -> Shared -> Prop} (hu : A.units + 6 < cLine) (I : Inv X pins σ H s) (e : H a = some (pdO X.prog X.w a xs)) (hk : ∀ x ∈ xs, ZbC H x.1 x.2.1) (hb : ZbC H k b)
    (h : ∀ s', Inv X pins σ H s' -> Q (.bool (!(Zim xs k).isSome)) s') : wpAny (model X.prog X.w) A (compareOp .NotIn (.ref b) (.ref a)) Q E s := by
  obtain ⟨z, hd, vs, rel, dd⟩ := ZoK I.hok e hk
  have rr := Zff.some_eq (RPD.val k rel)
  rw [Option.isSome_map] at rr
  refine wpAny_notIn_heap (show A.units + 1 + 5 < cLine by omega) (ZeP I.hok hb) hd dd ?_
  rw [<- rr]
  exact h _ (I.tok _)
end
end L2
namespace L2
open PySem PySem.Spec PyProof.Rows
section
variable {X : Cx} {pins : List (Addr × Obj)} {σ : St} {H : Hp} {s : Shared} {a b : Addr} {d : V} {r : Value} {A : Around} {E : Value -> Shared -> Prop} {kvs : List (List Key × V)} {k : List Key}
theorem Zmm {Q : Value -> Shared -> Prop} (hu : A.units + 1 < cLine) (I : Inv X pins σ H s) (e : H a = some (.dT kvs)) (eb : H b = some (.tup (k.map kV))) (l : kvs.length < sizeLine) (rd : Zbc d r)
    (h1 : ∀ v u s', ZdE kvs k = some v -> Inv X pins σ H s' -> Zbc v u -> Q u s') (h2 : ZdE kvs k = none -> ∀ s', Inv X pins σ (upd H a (.dT (kvs ++ [(k, d)]))) s' -> Q r s') :
    wpAny (model X.prog X.w) A (call (.builtin "dict.setdefault") [.ref a, .ref b, r]) Q E s := by
  obtain ⟨z, hd, xs, rel, dd⟩ := Zpk I.hok e
  have hz : xs.length <= sizeLine := by rw [<- Paired.length rel]; exact z
  have rr := rel.val k
  refine call_meetsIn PySem.F.slot_dict_setdefault dd.typeIs PySem.F.entry_dict_setdefault (PySem.F.args_dict_setdefault_3 _ _ _) (Zdv (tupleKind (ZaZ X.prog X.w)) a b hd r)
    ⟨tupleKind_room_in1 hu, k, xs, ZdL I.hok eb, dd, hz, fun p hp => ?_, fun hn h' dd' hs => ?_⟩
  · rw [hp] at rr
    cases ev : ZdE kvs k with
    | none => rw [ev] at rr; cases rr
    | some v => rw [ev] at rr; exact h1 v _ _ ev (I.tok _) rr
  · have ev : ZdE kvs k = none := by
      rw [hn] at rr
      cases ev : ZdE kvs k with
      | none => rfl
      | some v => rw [ev] at rr; cases rr
    refine h2 ev _ ?_
    obtain ⟨q, es, ep, hq, g2, g3, g4, _, g5⟩ := dd'
    refine Zft I (by rw [e]; exact True.intro) hs ⟨q, hq⟩ ⟨by simp; omega, hd, _, (show KT H (kvs ++ [(k, d)]) (xs ++ [(k, b, r)]) from Paired.snoc rel ⟨rfl, eb, rd⟩).keeps fun c ys ec => ?_, q, es, ep, hq, g2, g3, g4, g5⟩
    rw [Zah (fun z => by subst z; rw [e] at ec; cases ec)]
    exact ec
end
noncomputable def ZnM (td ty tx : TE) : TE := fun σ H Q => td σ H fun x H1 => ∃ a, x = .ref a /\ IsD H1 a /\ ty σ H1 fun y H2 => tx σ H2 fun z H3 => ∃ kvs k b, y = .ref b /\ H3 a = some (.dT kvs) /\ H3 b = some (.tup (k.map kV)) /\ kvs.length < sizeLine /\
  (∀ v, ZdE kvs k = some v -> Q v H3) /\ (ZdE kvs k = none -> Q z (upd H3 a (.dT (kvs ++ [(k, z)]))))
section
variable {X : Cx} {o e f value : Expr} {apos cpos pos pos' : Pos} {td ty tx tv : TE}
theorem Zmh (hu : X.A.units + 1 < cLine) (ho : PE X o td) (he : PE X e ty) (hf : PE X f tx) (m : M2 X o "setdefault" apos e f cpos) : PE X (.Call (.Attribute o "setdefault" apos) [e, f] [] cpos) (ZnM td ty tx) := by
  intro pins s σ H Q I h
  refine wpAny_Call_method m.base m.few m.line PySem.F.plainAttrs_dict PySem.F.slot_dict_setdefault PySem.F.type_dict_setdefault (thn (ho pins s σ H _ I h) fun u s1 ⟨x, H1, I1, rx, a, ex, d, q1⟩ => ?_)
  subst ex
  obtain rfl : u = Value.ref a := rx
  obtain ⟨t1, t2, _⟩ := ZnA I1 d
  refine ⟨t1, t2, ?_⟩
  rw [m.trees]
  refine Calls.callWith_builtin rfl (Calls.evalArgs_plain (Calls.spliced_cons (thn (he pins s1 σ H1 _ I1 q1) fun iv s2 ⟨y, H2, I2, ry, q2⟩ =>
    Calls.spliced_cons (thn (hf pins s2 σ H2 _ I2 q2) fun fv s3 ⟨z, H3, I3, rz, kvs, k, b, ey, e1, e2, l, q3, q4⟩ => Calls.spliced_nil ?_))))
  subst ey
  cases (show iv = Value.ref b from ry)
  exact Zmm hu I3 e1 e2 l rz (fun v u s' ev I4 rv => ⟨v, H3, I4, rv, q3 v ev⟩) (fun ev s' I4 => ⟨z, _, I4, rz, q4 ev⟩)
noncomputable def ZpY (P : Program) (w : World) (td ty : TE) : TE := fun σ H Q => td σ H fun x H1 => ty σ H1 fun y H2 => ∃ a b xs k v, x = .ref a /\ y = .ref b /\ H2 a = some (pdO P w a xs) /\ (∀ x ∈ xs, ZbC H2 x.1 x.2.1) /\ ZbC H2 k b /\ Zim xs k = some v /\ Q v H2
noncomputable def Zlq (P : Program) (w : World) (ty td : TE) : TE := fun σ H Q => ty σ H fun y H1 => td σ H1 fun x H2 => ∃ a b xs k, x = .ref a /\ y = .ref b /\ H2 a = some (pdO P w a xs) /\ (∀ x ∈ xs, ZbC H2 x.1 x.2.1) /\ ZbC H2 k b /\ Q (.bl (!(Zim xs k).isSome)) H2
noncomputable def Zqk (P : Program) (w : World) (td ty tv : TE) : TS := fun D σ H => tv σ H fun v H1 => td σ H1 fun x H2 => ty σ H2 fun y H3 => ∃ a b xs k, x = .ref a /\ y = .ref b /\ H3 a = some (pdO P w a xs) /\ (∀ x ∈ xs, ZbC H3 x.1 x.2.1) /\ ZbC H3 k b /\ xs.length < sizeLine /\
  D.nx σ (upd H3 a (pdO P w a (Zoc xs k b v)))
theorem Zlu {pins : List (Addr × Obj)} {σ : St} {H : Hp} {s : Shared} {a : Addr} {xs : List (KK × Addr × V)} (I : Inv X pins σ H s) (e : H a = some (pdO X.prog X.w a xs)) : s.TypeIs (.ref a) "dict" := by
  obtain ⟨⟨_, _, vs, _, o, es, ep, e1, e2, _⟩, _⟩ := (show Zct X.prog X.w H s.heap a (pdO X.prog X.w a xs) from I.hok a _ e)
  exact ⟨o, e1, e2.1⟩
theorem ZoF (hu : X.A.units + 6 < cLine) (ho : PE X o td) (hi : PE X e ty) (hs : Zr8 e) : PE X (.Subscript o e pos) (ZpY X.prog X.w td ty) := by
  intro pins s σ H Q I h
  refine ZkH PySem.F.slot_dict_getitem.lookup hs (thn (ho pins s σ H _ I h) fun u s1 ⟨x, H1, I1, rx, q1⟩ => thn (hi pins s1 σ H1 _ I1 q1) fun iv s2 ⟨y, H2, I2, ry, a, b, xs, k, v, ex, ey, e1, e2, e3, e4, q2⟩ => ?_)
  subst ex ey
  obtain rfl : u = Value.ref a := rx
  obtain rfl : iv = Value.ref b := ry
  exact ⟨Zlu I2 e1, ZlI hu I2 e1 e2 e3 e4 fun w' s3 I3 rw' => ⟨v, H2, I3, rw', q2⟩⟩
theorem Zk7 (hu : X.A.units + 6 < cLine) (hi : PE X e ty) (ho : PE X o td) : PC X .NotIn e o (Zlq X.prog X.w ty td) := by
  intro pins s σ H Q I h
  refine thn (hi pins s σ H _ I h) fun iv s1 ⟨y, H1, I1, ry, q1⟩ => thn (ho pins s1 σ H1 _ I1 q1) fun u s2 ⟨x, H2, I2, rx, a, b, xs, k, ex, ey, e1, e2, e3, q2⟩ => ?_
  subst ex ey
  obtain rfl : u = Value.ref a := rx
  obtain rfl : iv = Value.ref b := ry
  exact Zpj hu I2 e1 e2 e3 fun s3 I3 => ⟨.bl (!(Zim xs k).isSome), H2, I3, rfl, q2⟩
theorem Zpl (hu : X.A.units + 6 < cLine) (ho : PE X o td) (hi : PE X e ty) (hv : PE X value tv) (hs : swapsWith value (some (.Subscript o e pos')) pos.line X.env = pure false) :
    PS X (.Assign [.Subscript o e pos'] value pos) (Zqk X.prog X.w td ty tv) := by
  intro pins s σ H D I h
  refine wpAny_Assign_Subscript (thn (hv pins s σ H _ I h) fun r s1 ⟨v, H1, I1, rv, q1⟩ => thn (ho pins s1 σ H1 _ I1 q1) fun u s2 ⟨x, H2, I2, rx, q2⟩ => thn (hi pins s2 σ H2 _ I2 q2) fun iv s3 ⟨y, H3, I3, ry, a, b, xs, k, ex, ey, e1, e2, e3, l, q3⟩ => ?_) hs
  subst ex ey
  obtain rfl : u = Value.ref a := rx
  obtain rfl : iv = Value.ref b := ry
  exact Zlt hu I3 e1 e2 e3 l rv fun s4 I4 => ⟨σ, _, I4, q3⟩
end
end L2
namespace L2
open PySem PySem.Spec PyProof.Rows
noncomputable def ZqC (P : Program) (w : World) : TE := fun _ H Q => ∀ p, H p = none -> Q (.ref p) (upd H p (pdO P w p []))
theorem Zmp {X : Cx} {pos : Pos} : PE X (.Dict [] [] pos) (ZqC X.prog X.w) := fun pins s σ H Q I h =>
  wpAny_Dict_empty ⟨.ref s.heap.objs.size, _, I.laid (a := s.heap.objs.size) (o := pdO X.prog X.w s.heap.objs.size []) (t' := s.toks) (fun _ _ q => Heap.get?_push_of_some _ q) (Nat.le_refl _)
    (Zn9.ok ⟨Nat.zero_le _, beq_eq_false_iff_ne.mpr (Ne.symm (Nat.ne_of_lt I.big)), [], .nil, _, #[], 0, Heap.get?_push_size _ rfl, ⟨rfl, rfl, rfl⟩, rfl, rfl, List.nodup_nil⟩), rfl, h _ (I.hok.fresh (Nat.le_refl _))⟩
structure NetS where
  ends : List (List Key)
  rooms : List Int
  leav : List (List Key × List Int)
  laid : List (KK × Int)
inductive LaidD (F : Hp) : List (KK × Addr × V) -> List (KK × Int) -> Prop
  | nil : LaidD F [] []
  | cons {k : KK} {b : Addr} {n : Int} {xs : List (KK × Addr × V)} {ls : List (KK × Int)} : ZbC F k b -> LaidD F xs ls -> LaidD F ((k, b, .int n) :: xs) ((k, n) :: ls)
theorem LaidD.mono {F F' : Hp} (s : ZaK F F') : ∀ {xs : List (KK × Addr × V)} {ls : List (KK × Int)}, LaidD F xs ls -> LaidD F' xs ls
  | _, _, .nil => .nil
  | _, _, .cons h t => .cons (h.mono fun b ys e => s _ _ e) (t.mono s)
theorem LaidD.at {F H : Hp} (s : ZaK F H) : ∀ {xs : List (KK × Addr × V)} {ls : List (KK × Int)}, LaidD F xs ls -> ∀ x ∈ xs, ZbC H x.1 x.2.1
  | _, _, .nil, x, hx => nomatch hx
  | _, _, .cons h t, x, hx => by
    rcases List.mem_cons.mp hx with rfl | hx
    · exact h.mono fun b ys e => s _ _ e
    · exact t.at s x hx
inductive LeavD (F H : Hp) : List (List Key × V) -> List (List Key × List Int) -> List Addr -> Prop
  | nil : LeavD F H [] [] []
  | cons {k : List Key} {a : Addr} {ns : List Int} {xs : List (List Key × V)} {ls : List (List Key × List Int)} {as : List Addr} : ZgR F H a (ns.map PyData.int) -> LeavD F H xs ls as -> LeavD F H ((k, .ref a) :: xs) ((k, ns) :: ls) (a :: as)
theorem LeavD.mem {F H : Hp} : ∀ {xs : List (List Key × V)} {ls : List (List Key × List Int)} {as : List Addr}, LeavD F H xs ls as -> ∀ a ∈ as, F a = none /\ H a ≠ none
  | _, _, _, .nil, a, ha => nomatch ha
  | _, _, _, .cons h t, a, ha => by
    rcases List.mem_cons.mp ha with rfl | ha
    · obtain ⟨h1, xs, h2, _⟩ := h
      exact ⟨h1, Zbs h2⟩
    · exact t.mem a ha
theorem LeavD.mono {F F' H H' : Hp} (s : ZaK F F') : ∀ {xs : List (List Key × V)} {ls : List (List Key × List Int)} {as : List Addr}, (∀ a ∈ as, F' a = none) -> (∀ a ∈ as, H' a = H a) -> LeavD F H xs ls as -> LeavD F' H' xs ls as
  | _, _, _, _, _, .nil => .nil
  | _, _, _, hF, hH, .cons h t => by
    obtain ⟨h1, xs, h2, h3⟩ := h
    exact .cons ⟨hF _ List.mem_cons_self, xs, by rw [hH _ List.mem_cons_self]; exact h2, h3.mono s⟩ (t.mono s (fun a ha => hF a (List.mem_cons_of_mem _ ha)) (fun a ha => hH a (List.mem_cons_of_mem _ ha)))
theorem LeavD.addrs {F F' H H' : Hp} : ∀ {xs : List (List Key × V)} {ls ls' : List (List Key × List Int)} {as bs : List Addr}, LeavD F H xs ls as -> LeavD F' H' xs ls' bs -> as = bs
  | _, _, _, _, _, .nil, .nil => rfl
  | _, _, _, _, _, .cons _ t, .cons _ t' => by rw [t.addrs t']
structure NetOk (P : Program) (w : World) (C : Addr) (N : NetS) (F H : Hp) (a dx e r l d : Addr) (xs : List (List Key × V)) (ys : List (KK × Addr × V)) (as : List Addr) : Prop where
  nd : (a :: dx :: e :: r :: l :: d :: as).Nodup
  ins : F a = none /\ H a = some (.ins C dx [("ends", .ref e), ("rooms", .ref r), ("leaving", .ref l), ("laid", .ref d)])
  own : F dx = none /\ H dx = some (.own a)
  ends : ZgR F H e (N.ends.map Zb8)
  rooms : ZgR F H r (N.rooms.map PyData.int)
  leav : F l = none /\ H l = some (.dT xs) /\ LeavD F H xs N.leav as
  laid : F d = none /\ H d = some (pdO P w d ys) /\ LaidD F ys N.laid
noncomputable def Zc0 (P : Program) (w : World) (C : Addr) (N : NetS) : OwnP where
  ok K F H v p := ∃ a dx e r l d xs ys as, v = .ref a /\ p = a :: dx :: e :: r :: l :: d :: as /\ NetOk P w C N F H a dx e r l d xs ys as
  there := by
    rintro K F H v p ⟨a, dx, e, r, l, d, xs, ys, as, rfl, rfl, o⟩ b hb
    obtain ⟨_, ⟨i1, i2⟩, ⟨o1, o2⟩, ⟨e1, ex, e2, _⟩, ⟨r1, rx, r2, _⟩, ⟨l1, l2, l3⟩, ⟨d1, d2, _⟩⟩ := o
    simp only [List.mem_cons] at hb
    rcases hb with rfl | rfl | rfl | rfl | rfl | rfl | hb
    · exact ⟨i1, Zbs i2⟩
    · exact ⟨o1, Zbs o2⟩
    · exact ⟨e1, Zbs e2⟩
    · exact ⟨r1, Zbs r2⟩
    · exact ⟨l1, Zbs l2⟩
    · exact ⟨d1, Zbs d2⟩
    · exact l3.mem b hb
  mono := by
    rintro K F F' H H' v p s hF hH ⟨a, dx, e, r, l, d, xs, ys, as, rfl, rfl, o⟩
    obtain ⟨nd, ⟨i1, i2⟩, ⟨o1, o2⟩, ⟨e1, ex, e2, e3⟩, ⟨r1, rx, r2, r3⟩, ⟨l1, l2, l3⟩, ⟨d1, d2, d3⟩⟩ := o
    refine ⟨a, dx, e, r, l, d, xs, ys, as, rfl, rfl, nd, ⟨hF _ (by simp), by rw [hH _ (by simp)]; exact i2⟩, ⟨hF _ (by simp), by rw [hH _ (by simp)]; exact o2⟩, ⟨hF _ (by simp), ex, by rw [hH _ (by simp)]; exact e2, e3.mono s⟩,
      ⟨hF _ (by simp), rx, by rw [hH _ (by simp)]; exact r2, r3.mono s⟩, ⟨hF _ (by simp), by rw [hH _ (by simp)]; exact l2, l3.mono s (fun b hb => hF b (by simp [hb])) (fun b hb => hH b (by simp [hb]))⟩, ⟨hF _ (by simp), by rw [hH _ (by simp)]; exact d2, d3.mono s⟩⟩
  uniq := by
    rintro K F H v p q ⟨a, dx, e, r, l, d, xs, ys, as, rfl, rfl, o⟩ ⟨a', dx', e', r', l', d', xs', ys', as', ev, rfl, o'⟩ c hc
    cases ev
    have i := o.ins.2.symm.trans o'.ins.2
    injection i with i
    injection i with _ i1 i2
    subst i1
    simp only [List.cons.injEq, Prod.mk.injEq, true_and, and_true, V.ref.injEq] at i2
    obtain ⟨rfl, rfl, rfl, rfl⟩ := i2
    have j := o.leav.2.1.symm.trans o'.leav.2.1
    injection j with j
    injection j with j
    subst j
    rw [o.leav.2.2.addrs o'.leav.2.2]
    exact hc
end L2
namespace L2
open PySem PySem.Spec PyProof.Rows
structure NetC (K : PySem.W.Frag) (C : Addr) : Prop where
  cl : Cls K C
  ends : ZdJ K C "ends"
  rooms : ZdJ K C "rooms"
  leav : ZdJ K C "leaving"
  laid : ZdJ K C "laid"
section
variable {K : PySem.W.Frag} {ρ : Zbd} {tb te ty tx : TE} {D : PEnds} {i : Nat} {v : V} {P : Program} {w : World} {C : Addr} {N : NetS}
theorem Sta.net {H0 F H : Hp} {σ : St} (S : Sta K H0 F ρ σ H) (e : ρ[i]? = some (some (.own v (Zc0 P w C N)))) :
    ∃ a dx el r l d xs ys as, v = .ref a /\ σ[i]? = some (some (.ref a)) /\ NetOk P w C N F H a dx el r l d xs ys as /\ (∀ b ∈ a :: dx :: el :: r :: l :: d :: as, H0 b = none /\ F b = none /\ H b ≠ none) /\
      ∀ (H' : Hp) (N' : NetS) (xs' : List (List Key × V)) (ys' : List (KK × Addr × V)) (as' : List Addr), ZaK F H' -> (∀ b, b ∉ a :: dx :: el :: r :: l :: d :: as -> H b ≠ none -> H' b = H b) -> (∀ b, H b ≠ none -> H' b ≠ none) ->
        NetOk P w C N' F H' a dx el r l d xs' ys' as' -> (∀ b ∈ as', b ∈ as \/ (H b = none /\ H0 b = none)) -> Sta K H0 F (ρ.set i (some (.own v (Zc0 P w C N')))) σ H' := by
  obtain ⟨e1, p, ⟨a, dx, el, r, l, d, xs, ys, as, rfl, rfl, ok⟩, hp, w'⟩ := S.writeOwn e
  refine ⟨a, dx, el, r, l, d, xs, ys, as, rfl, e1, ok, hp, fun H' N' xs' ys' as' h1 h2 h3 h4 h5 => w' H' _ _ h1 h2 h3 ⟨a, dx, el, r, l, d, xs', ys', as', rfl, rfl, h4⟩ fun b hb => ?_⟩
  simp only [List.mem_cons] at hb ⊢
  rcases hb with h | h | h | h | h | h | hb
  · exact .inl (.inl h)
  · exact .inl (.inr (.inl h))
  · exact .inl (.inr (.inr (.inl h)))
  · exact .inl (.inr (.inr (.inr (.inl h))))
  · exact .inl (.inr (.inr (.inr (.inr (.inl h)))))
  · exact .inl (.inr (.inr (.inr (.inr (.inr (.inl h))))))
  · rcases h5 b hb with z | z
    · exact .inl (.inr (.inr (.inr (.inr (.inr (.inr z))))))
    · exact .inr z
theorem LeavD.other {F H : Hp} {b : Addr} {o : HO} {xs : List (List Key × V)} {ls : List (List Key × List Int)} {as : List Addr} (h : LeavD F H xs ls as) (n : b ∉ as) : LeavD F (upd H b o) xs ls as :=
  h.mono (ZaK.refl _) (fun a ha => (h.mem a ha).1) (fun a ha => Zah fun z => n (z ▸ ha))
theorem NetOk.setRooms {F H : Hp} {a dx el r l d : Addr} {xs : List (List Key × V)} {ys : List (KK × Addr × V)} {as : List Addr} (ok : NetOk P w C N F H a dx el r l d xs ys as) {ns : List Int} {zs : List V} (hr : Reps F zs (ns.map PyData.int)) :
    NetOk P w C { N with rooms := ns } F (upd H r (.lst zs)) a dx el r l d xs ys as := by
  obtain ⟨nd, ⟨i1, i2⟩, ⟨o1, o2⟩, ⟨e1, ex, e2, e3⟩, ⟨r1, rx, r2, r3⟩, ⟨l1, l2, l3⟩, ⟨d1, d2, d3⟩⟩ := ok
  have nd' := nd
  simp only [List.nodup_cons, List.mem_cons, not_or] at nd'
  obtain ⟨⟨a1, a2, a3, _⟩, ⟨b1, b2, _⟩, ⟨c1, _⟩, ⟨g1, g2, g3⟩, _⟩ := nd'
  exact ⟨nd, ⟨i1, by rw [Zah a3]; exact i2⟩, ⟨o1, by rw [Zah b2]; exact o2⟩, ⟨e1, ex, by rw [Zah c1]; exact e2, e3⟩, ⟨r1, zs, Zaj, hr⟩, ⟨l1, by rw [Zah (Ne.symm g1)]; exact l2, l3.other g3⟩, ⟨d1, by rw [Zah (Ne.symm g2)]; exact d2, d3⟩⟩
theorem Zc5 {H : Hp} {a : Addr} {o : HO} : ∀ b, H b ≠ none -> upd H a o b ≠ none := fun b hb => by
  by_cases z : b = a
  · subst z; rw [Zaj]; exact fun q => nomatch q
  · rw [Zah z]; exact hb
theorem ZhT {f : Int -> Int -> Int} (c : NetC K C) (e : ρ[i]? = some (some (.own v (Zc0 P w C N)))) {k m n : Int} (hi : EvE K tb ρ (.int k)) (h0 : 0 <= k) (hm : N.rooms[k.toNat]? = some m) (h : EvE K te ρ (.int n))
    (hn : D.nx (ρ.set i (some (.own v (Zc0 P w C { N with rooms := N.rooms.set k.toNat (f m n) }))))) : EvS K (Zq6 (ZjX K (ZcR i) "rooms") tb te (Zqb K) (ipI f) Zn0) ρ D := fun F0 H0 F σ H E x S C' => by
  obtain ⟨a, dx, el, r, l, d, xs, ys, as, rfl, e1, ok, _⟩ := S.net e
  refine ⟨_, e1, a, C, dx, _, .ref r, rfl, ok.ins.2, c.cl, c.rooms, rfl, hi H0 F σ H _ S fun F1 H1 y x1 r1 => ?_⟩
  cases r1
  obtain ⟨_, rx, r2, r3⟩ := ok.rooms
  have hm' : (N.rooms.map PyData.int)[k.toNat]? = some (.int m) := by rw [List.getElem?_map, hm]; rfl
  obtain ⟨z, z1, z2⟩ := (r3.mono x1.ff).get hm'
  refine ⟨r, rx, k, z, rfl, rfl, SqL.of (x1.hh _ _ r2), h0, z1, h H0 F1 σ H1 _ (S.ext x1) fun F2 H2 u x2 r2' => ?_⟩
  cases r2'
  cases z2
  refine ⟨m, n, rfl, rfl, ?_⟩
  obtain ⟨a', dx', el', r', l', d', xs', ys', as', ea, g1, ok', hp, wr⟩ := (S.ext (x1.trans x2)).net e
  cases ea
  have hi2 := ok'.ins.2.symm.trans ((x1.trans x2).hh _ _ ok.ins.2)
  injection hi2 with hi2
  injection hi2 with _ _ hi3
  simp only [List.cons.injEq, Prod.mk.injEq, true_and, and_true, V.ref.injEq] at hi3
  obtain ⟨rfl, rfl, rfl, rfl⟩ := hi3
  obtain ⟨q1, qx, q2, q3⟩ := ok'.rooms
  have hlt : k.toNat < N.rooms.length := (List.getElem?_eq_some_iff.mp hm).1
  have hr : Reps F2 (qx.set k.toNat (.int (f m n))) ((N.rooms.set k.toNat (f m n)).map PyData.int) := by
    rw [List.map_set]
    exact q3.set (.int _) _
  refine ⟨r', qx, k, k.toNat, rfl, rfl, q2, ?_, ?_⟩
  · rw [q3.length, List.length_map]
    unfold ixN; rw [if_pos h0, if_pos (by omega)]
  · have hr0 := hp r' (by simp)
    exact C'.nx F2 σ _ _ ((x.trans (x1.trans x2)).wr hr0.1 hr0.2.1) (wr _ { N with rooms := N.rooms.set k.toNat (f m n) } xs' ys' as' ((S.ext (x1.trans x2)).sub.upd hr0.2.1) (fun b hb _ => Zah fun z => hb (by rw [z]; simp)) Zc5 (ok'.setRooms hr) (fun b hb => .inl hb)) hn
end
end L2
namespace L2
open PySem PySem.Spec PyProof.Rows
section
variable {K : PySem.W.Frag} {ρ : Zbd} {tb te ty tx : TE} {D : PEnds} {i : Nat} {v : V} {P : Program} {w : World} {C : Addr} {N : NetS}
theorem NetOk.same {N' : NetS} {F H F' H' : Hp} {a dx el r l d dx' el' r' l' d' : Addr} {xs xs' : List (List Key × V)} {ys ys' : List (KK × Addr × V)} {as as' : List Addr}
    (ok : NetOk P w C N F H a dx el r l d xs ys as) (ok' : NetOk P w C N' F' H' a dx' el' r' l' d' xs' ys' as') (s : H' a = H a) : dx' = dx /\ el' = el /\ r' = r /\ l' = l /\ d' = d := by
  have h := ok'.ins.2
  rw [s, ok.ins.2] at h
  injection h with h
  injection h with _ h1 h2
  simp only [List.cons.injEq, Prod.mk.injEq, true_and, and_true, V.ref.injEq] at h2
  obtain ⟨z1, z2, z3, z4⟩ := h2
  exact ⟨h1.symm, z1.symm, z2.symm, z3.symm, z4.symm⟩
theorem NetOk.setEnds {F H : Hp} {a dx el r l d : Addr} {xs : List (List Key × V)} {ys : List (KK × Addr × V)} {as : List Addr} (ok : NetOk P w C N F H a dx el r l d xs ys as) {ns : List (List Key)} {zs : List V} (hr : Reps F zs (ns.map Zb8)) :
    NetOk P w C { N with ends := ns } F (upd H el (.lst zs)) a dx el r l d xs ys as := by
  obtain ⟨nd, ⟨i1, i2⟩, ⟨o1, o2⟩, ⟨e1, ex, e2, e3⟩, ⟨r1, rx, r2, r3⟩, ⟨l1, l2, l3⟩, ⟨d1, d2, d3⟩⟩ := ok
  have nd' := nd
  simp only [List.nodup_cons, List.mem_cons, not_or] at nd'
  obtain ⟨⟨a1, a2, a3, _⟩, ⟨b1, b2, _⟩, ⟨c1, c2, c3, c4⟩, _⟩ := nd'
  exact ⟨nd, ⟨i1, by rw [Zah a2]; exact i2⟩, ⟨o1, by rw [Zah b1]; exact o2⟩, ⟨e1, zs, Zaj, hr⟩, ⟨r1, rx, by rw [Zah (Ne.symm c1)]; exact r2, r3⟩, ⟨l1, by rw [Zah (Ne.symm c2)]; exact l2, l3.other c4⟩, ⟨d1, by rw [Zah (Ne.symm c3)]; exact d2, d3⟩⟩
theorem ZjO (c : NetC K C) (e : ρ[i]? = some (some (.own v (Zc0 P w C N)))) {n : Int} (h : EvE K te ρ (.int n)) (hl : N.rooms.length < 1000)
    (hn : D.nx (ρ.set i (some (.own v (Zc0 P w C { N with rooms := N.rooms ++ [n] }))))) : EvS K (Zit (tBM K "list" Ze2 (ZjX K (ZcR i) "rooms") (ZaV te Zds))) ρ D := fun F0 H0 F σ H E x S C' => by
  obtain ⟨a, dx, el, r, l, d, xs, ys, as, rfl, e1, ok, _⟩ := S.net e
  refine ⟨_, e1, a, C, dx, _, .ref r, rfl, ok.ins.2, c.cl, c.rooms, rfl, .inl ⟨rfl, _, SqL.of ok.rooms.2.choose_spec.1⟩, h H0 F σ H _ S fun F1 H1 u x1 r1 => ?_⟩
  cases r1
  obtain ⟨a', dx', el', r', l', d', xs', ys', as', ea, g1, ok', hp, wr⟩ := (S.ext x1).net e
  cases ea
  obtain ⟨rfl, rfl, rfl, rfl, rfl⟩ := ok.same ok' ((x1.hh _ _ ok.ins.2).trans ok.ins.2.symm)
  obtain ⟨q1, qx, q2, q3⟩ := ok'.rooms
  have hr0 := hp r' (by simp)
  refine ⟨r', qx, .int n, rfl, rfl, q2, by rw [q3.length, List.length_map]; exact ZaN (by omega), ?_⟩
  exact C'.nx F1 σ _ _ ((x.trans x1).wr hr0.1 hr0.2.1) (wr _ { N with rooms := N.rooms ++ [n] } xs' ys' as' ((S.ext x1).sub.upd hr0.2.1) (fun b hb _ => Zah fun z => hb (by rw [z]; simp)) Zc5 (ok'.setRooms (by rw [List.map_append]; exact q3.snoc (.int n))) (fun b hb => .inl hb)) hn
theorem ZjZ (c : NetC K C) (e : ρ[i]? = some (some (.own v (Zc0 P w C N)))) {n : List Key} (h : EvE K te ρ (Zb8 n)) (hl : N.ends.length < 1000)
    (hn : D.nx (ρ.set i (some (.own v (Zc0 P w C { N with ends := N.ends ++ [n] }))))) : EvS K (Zit (tBM K "list" Ze2 (ZjX K (ZcR i) "ends") (ZaV te Zds))) ρ D := fun F0 H0 F σ H E x S C' => by
  obtain ⟨a, dx, el, r, l, d, xs, ys, as, rfl, e1, ok, _⟩ := S.net e
  refine ⟨_, e1, a, C, dx, _, .ref el, rfl, ok.ins.2, c.cl, c.ends, rfl, .inl ⟨rfl, _, SqL.of ok.ends.2.choose_spec.1⟩, h H0 F σ H _ S fun F1 H1 u x1 r1 => ?_⟩
  obtain ⟨a', dx', el', r', l', d', xs', ys', as', ea, g1, ok', hp, wr⟩ := (S.ext x1).net e
  cases ea
  obtain ⟨rfl, rfl, rfl, rfl, rfl⟩ := ok.same ok' ((x1.hh _ _ ok.ins.2).trans ok.ins.2.symm)
  obtain ⟨q1, qx, q2, q3⟩ := ok'.ends
  have hr0 := hp el' (by simp)
  refine ⟨el', qx, u, rfl, rfl, q2, by rw [q3.length, List.length_map]; exact ZaN (by omega), ?_⟩
  exact C'.nx F1 σ _ _ ((x.trans x1).wr hr0.1 hr0.2.1) (wr _ { N with ends := N.ends ++ [n] } xs' ys' as' ((S.ext x1).sub.upd hr0.2.1) (fun b hb _ => Zah fun z => hb (by rw [z]; simp)) Zc5 (ok'.setEnds (by rw [List.map_append]; exact q3.snoc r1)) (fun b hb => .inl hb)) hn
theorem Zhf (c : NetC K C) (e : ρ[i]? = some (some (.own v (Zc0 P w C N)))) : EvE K (tCB (ZoS K) (ZaV (ZjX K (ZcR i) "ends") Zds)) ρ (.int (N.ends.length : Int)) := fun H0 F σ H Q S q => by
  obtain ⟨a, dx, el, r, l, d, xs, ys, as, rfl, e1, ok, _⟩ := S.net e
  obtain ⟨_, ex, e2, e3⟩ := ok.ends
  refine ⟨_, e1, a, C, dx, _, .ref el, rfl, ok.ins.2, c.cl, c.ends, rfl, el, ex, rfl, .inl (SqL.of e2), ?_⟩
  have : ex.length = N.ends.length := by rw [e3.length, List.length_map]
  rw [this]
  exact q F H _ (Ext.refl S.sub) (.int _)
end
end L2
namespace L2
open PySem PySem.Spec PyProof.Rows
noncomputable def ZeB (ls : List (KK × Int)) (k : KK) : Option Int := (ls.find? fun x => decide (x.1 = k)).map (·.2)
noncomputable def ZjM (ls : List (KK × Int)) (k : KK) (n : Int) : List (KK × Int) := if (ZeB ls k).isSome = true then ls.map (fun x => if x.1 = k then (x.1, n) else x) else ls ++ [(k, n)]
theorem LaidD.val {F : Hp} (k : KK) : ∀ {xs : List (KK × Addr × V)} {ls : List (KK × Int)}, LaidD F xs ls -> Zim xs k = (ZeB ls k).map V.int
  | _, _, .nil => rfl
  | _, _, .cons (k := k') h t => by
    by_cases e : k' = k
    · simp [Zim, ZeB, List.find?_cons, e]
    · have := t.val k
      simpa [Zim, ZeB, List.find?_cons, e] using this
theorem LaidD.length {F : Hp} : ∀ {xs : List (KK × Addr × V)} {ls : List (KK × Int)}, LaidD F xs ls -> xs.length = ls.length
  | _, _, .nil => rfl
  | _, _, .cons h t => by simp [t.length]
theorem LaidD.repl {F : Hp} (k : KK) (n : Int) : ∀ {xs : List (KK × Addr × V)} {ls : List (KK × Int)}, LaidD F xs ls -> LaidD F (xs.map fun x => if x.1 = k then (x.1, x.2.1, .int n) else x) (ls.map fun x => if x.1 = k then (x.1, n) else x)
  | _, _, .nil => .nil
  | _, _, .cons (k := k') h t => by
    rw [List.map_cons, List.map_cons]
    by_cases e : k' = k
    · simp only [e, if_true]
      exact .cons (e ▸ h) (t.repl k n)
    · simp only [e, if_false]
      exact .cons h (t.repl k n)
theorem LaidD.snoc {F : Hp} {k : KK} {b : Addr} (n : Int) (hb : ZbC F k b) : ∀ {xs : List (KK × Addr × V)} {ls : List (KK × Int)}, LaidD F xs ls -> LaidD F (xs ++ [(k, b, .int n)]) (ls ++ [(k, n)])
  | _, _, .nil => .cons hb .nil
  | _, _, .cons h t => .cons h (t.snoc n hb)
theorem LaidD.put {F : Hp} {k : KK} {b : Addr} (n : Int) (hb : ZbC F k b) {xs : List (KK × Addr × V)} {ls : List (KK × Int)} (t : LaidD F xs ls) : LaidD F (Zoc xs k b (.int n)) (ZjM ls k n) := by
  unfold Zoc ZjM
  rw [t.val k, Option.isSome_map]
  split
  · exact t.repl k n
  · exact t.snoc n hb
theorem Zgo {F : Hp} {y : V} {k1 k2 : List Key} (r : Rep F y (.tuple [Zb8 k1, Zb8 k2])) : ∃ b, y = .ref b /\ ZbC F (k1, k2) b := by
  cases r with
  | tup h rs =>
    cases rs with
    | cons r1 rs =>
      cases rs with
      | cons r2 rs =>
        cases rs
        obtain ⟨p, rfl, hp⟩ := Zdb r1
        obtain ⟨q, rfl, hq⟩ := Zdb r2
        exact ⟨_, rfl, p, q, h, hp, hq⟩
section
variable {K : PySem.W.Frag} {ρ : Zbd} {tb te ty tx tv : TE} {D : PEnds} {i : Nat} {v : V} {P : Program} {w : World} {C : Addr} {N : NetS} {k1 k2 : List Key}
theorem NetOk.setLaid {F H : Hp} {a dx el r l d : Addr} {xs : List (List Key × V)} {ys ys' : List (KK × Addr × V)} {as : List Addr} (ok : NetOk P w C N F H a dx el r l d xs ys as) {ls : List (KK × Int)} (hr : LaidD F ys' ls) :
    NetOk P w C { N with laid := ls } F (upd H d (pdO P w d ys')) a dx el r l d xs ys' as := by
  obtain ⟨nd, ⟨i1, i2⟩, ⟨o1, o2⟩, ⟨e1, ex, e2, e3⟩, ⟨r1, rx, r2, r3⟩, ⟨l1, l2, l3⟩, ⟨d1, d2, d3⟩⟩ := ok
  have nd' := nd
  simp only [List.nodup_cons, List.mem_cons, not_or] at nd'
  obtain ⟨⟨a1, a2, a3, a4, a5, _⟩, ⟨b1, b2, b3, b4, _⟩, ⟨c1, c2, c3, c4⟩, ⟨g1, g2, g3⟩, ⟨h1, h2⟩, f1, _⟩ := nd'
  exact ⟨nd, ⟨i1, by rw [Zah a5]; exact i2⟩, ⟨o1, by rw [Zah b4]; exact o2⟩, ⟨e1, ex, by rw [Zah c3]; exact e2, e3⟩, ⟨r1, rx, by rw [Zah g2]; exact r2, r3⟩, ⟨l1, by rw [Zah h1]; exact l2, l3.other f1⟩, ⟨d1, Zaj, hr⟩⟩
theorem ZlM (c : NetC K C) (e : ρ[i]? = some (some (.own v (Zc0 P w C N)))) {n : Int} (hv : EvE K tv ρ (.int n)) (hy : EvE K ty ρ (.tuple [Zb8 k1, Zb8 k2])) (hl : N.laid.length < 1000)
    (hn : D.nx (ρ.set i (some (.own v (Zc0 P w C { N with laid := ZjM N.laid (k1, k2) n }))))) : EvS K (Zqk P w (ZjX K (ZcR i) "laid") ty tv) ρ D := fun F0 H0 F σ H E x S C' =>
  hv H0 F σ H _ S fun F1 H1 u x1 r1 => by
    cases r1
    obtain ⟨a, dx, el, r, l, d, xs, ys, as, rfl, e1, ok, _⟩ := (S.ext x1).net e
    refine ⟨_, e1, a, C, dx, _, .ref d, rfl, ok.ins.2, c.cl, c.laid, rfl, hy H0 F1 σ H1 _ (S.ext x1) fun F2 H2 y x2 r2 => ?_⟩
    have S2 := S.ext (x1.trans x2)
    obtain ⟨a', dx', el', r', l', d', xs', ys', as', ea, g1, ok', hp, wr⟩ := S2.net e
    cases ea
    obtain ⟨rfl, rfl, rfl, rfl, rfl⟩ := ok.same ok' ((x2.hh _ _ ok.ins.2).trans ok.ins.2.symm)
    obtain ⟨b, rfl, hb⟩ := Zgo r2
    obtain ⟨d1, d2, d3⟩ := ok'.laid
    refine ⟨d', b, ys', (k1, k2), rfl, rfl, d2, d3.at S2.sub, hb.mono fun c' z ez => S2.sub _ _ ez, by rw [d3.length]; exact ZaN (by omega), ?_⟩
    have hr0 := hp d' (by simp)
    exact C'.nx F2 σ _ _ ((x.trans (x1.trans x2)).wr hr0.1 hr0.2.1) (wr _ { N with laid := ZjM N.laid (k1, k2) n } xs' _ as' (S2.sub.upd hr0.2.1) (fun b' hb' _ => Zah fun z => hb' (by rw [z]; simp)) Zc5 (ok'.setLaid (d3.put n hb)) (fun b' hb' => .inl hb')) hn
end
end L2
namespace L2
open PySem PySem.Spec PyProof.Rows
noncomputable def Zbq (ls : List (List Key × List Int)) (k : List Key) : Option (List Int) := (ls.find? fun x => decide (x.1 = k)).map (·.2)
noncomputable def Zha : List (List Key × List Int) -> List Key -> Int -> List (List Key × List Int)
  | [], _, _ => []
  | (k', ns) :: r, k, n => if k' = k then (k', ns ++ [n]) :: r else (k', ns) :: Zha r k n
theorem LeavD.val {F H : Hp} (k : List Key) : ∀ {xs : List (List Key × V)} {ls : List (List Key × List Int)} {as : List Addr}, LeavD F H xs ls as -> (ZdE xs k = none /\ Zbq ls k = none) \/
    ∃ a ns, ZdE xs k = some (.ref a) /\ Zbq ls k = some ns /\ a ∈ as /\ ZgR F H a (ns.map PyData.int)
  | _, _, _, .nil => .inl ⟨rfl, rfl⟩
  | _, _, _, .cons (k := k') (a := a) (ns := ns) (xs := xs) (ls := ls) h t => by
    by_cases e : k' = k
    · exact .inr ⟨a, ns, Zcg e, by simp [Zbq, List.find?_cons, e], List.mem_cons_self, h⟩
    · have q : Zbq ((k', ns) :: ls) k = Zbq ls k := by simp [Zbq, List.find?_cons, e]
      rw [Zci (p := (k', V.ref a)) e, q]
      rcases t.val k with z | ⟨a', ns', z1, z2, z3, z4⟩
      · exact .inl z
      · exact .inr ⟨a', ns', z1, z2, List.mem_cons_of_mem _ z3, z4⟩
theorem LeavD.app {F H : Hp} (k : List Key) {a : Addr} {n : Int} {zs : List V} : ∀ {xs : List (List Key × V)} {ls : List (List Key × List Int)} {as : List Addr} {ns : List Int}, LeavD F H xs ls as -> as.Nodup -> ZdE xs k = some (.ref a) -> Zbq ls k = some ns ->
    Reps F zs ((ns ++ [n]).map PyData.int) -> LeavD F (upd H a (.lst zs)) xs (Zha ls k n) as
  | _, _, _, _, .nil, _, h, _, _ => by cases h
  | _, _, _, ns, .cons (k := k') (a := a') (ns := ns') (xs := xs) (ls := ls) (as := as) h t, nd, hv, he, hr => by
    obtain ⟨n1, n2⟩ := List.nodup_cons.mp nd
    unfold Zha
    by_cases e : k' = k
    · rw [Zcg (p := (k', V.ref a')) e] at hv
      have q : Zbq ((k', ns') :: ls) k = some ns' := by simp [Zbq, List.find?_cons, e]
      rw [q] at he
      cases hv
      cases he
      rw [if_pos e]
      exact .cons ⟨h.1, zs, Zaj, hr⟩ (t.other n1)
    · rw [Zci (p := (k', V.ref a')) e] at hv
      have q : Zbq ((k', ns') :: ls) k = Zbq ls k := by simp [Zbq, List.find?_cons, e]
      rw [q] at he
      rw [if_neg e]
      have ha : a ∈ as := by
        rcases t.val k with z | ⟨a2, ns2, z1, z2, z3, z4⟩
        · rw [hv] at z; cases z.1
        · rw [hv] at z1; cases z1; exact z3
      refine .cons ?_ (t.app k n2 hv he hr)
      obtain ⟨h1, xs', h2, h3⟩ := h
      have ne : a' ≠ a := fun z => n1 (by rw [z]; exact ha)
      exact ⟨h1, xs', by rw [Zah ne]; exact h2, h3⟩
theorem LeavD.snoc {F H : Hp} (k : List Key) {a : Addr} (o : ZgR F H a []) : ∀ {xs : List (List Key × V)} {ls : List (List Key × List Int)} {as : List Addr}, LeavD F H xs ls as -> LeavD F H (xs ++ [(k, .ref a)]) (ls ++ [(k, [])]) (as ++ [a])
  | _, _, _, .nil => .cons o .nil
  | _, _, _, .cons h t => .cons h (t.snoc k o)
theorem LeavD.length {F H : Hp} : ∀ {xs : List (List Key × V)} {ls : List (List Key × List Int)} {as : List Addr}, LeavD F H xs ls as -> xs.length = ls.length
  | _, _, _, .nil => rfl
  | _, _, _, .cons h t => by simp [t.length]
noncomputable def Zhh (ls : List (List Key × List Int)) (k : List Key) : List (List Key × List Int) := if (Zbq ls k).isSome = true then ls else ls ++ [(k, [])]
section
variable {K : PySem.W.Frag} {ρ : Zbd} {tb te ty tx tv : TE} {D : PEnds} {i : Nat} {v : V} {P : Program} {w : World} {C : Addr} {N : NetS} {k : List Key}
theorem NetOk.appLeav {F H : Hp} {a dx el r l d : Addr} {xs : List (List Key × V)} {ys : List (KK × Addr × V)} {as : List Addr} (ok : NetOk P w C N F H a dx el r l d xs ys as) {b : Addr} {ns : List Int} {n : Int} {zs : List V}
    (hv : ZdE xs k = some (.ref b)) (he : Zbq N.leav k = some ns) (hb : b ∈ as) (hr : Reps F zs ((ns ++ [n]).map PyData.int)) : NetOk P w C { N with leav := Zha N.leav k n } F (upd H b (.lst zs)) a dx el r l d xs ys as := by
  obtain ⟨nd, ⟨i1, i2⟩, ⟨o1, o2⟩, ⟨e1, ex, e2, e3⟩, ⟨r1, rx, r2, r3⟩, ⟨l1, l2, l3⟩, ⟨d1, d2, d3⟩⟩ := ok
  have nd' := nd
  simp only [List.nodup_cons, List.mem_cons, not_or] at nd'
  obtain ⟨⟨a1, a2, a3, a4, a5, a6⟩, ⟨b1, b2, b3, b4, b5⟩, ⟨c1, c2, c3, c4⟩, ⟨g1, g2, g3⟩, ⟨h1, h2⟩, f1, f2⟩ := nd'
  have ne : ∀ {x : Addr}, x ∉ as -> x ≠ b := fun h z => h (by rw [z]; exact hb)
  exact ⟨nd, ⟨i1, by rw [Zah (ne a6)]; exact i2⟩, ⟨o1, by rw [Zah (ne b5)]; exact o2⟩, ⟨e1, ex, by rw [Zah (ne c4)]; exact e2, e3⟩, ⟨r1, rx, by rw [Zah (ne g3)]; exact r2, r3⟩, ⟨l1, by rw [Zah (ne h2)]; exact l2, l3.app k f2 hv he hr⟩, ⟨d1, by rw [Zah (ne f1)]; exact d2, d3⟩⟩
end
end L2
namespace L2
open PySem PySem.Spec PyProof.Rows
section
variable {K : PySem.W.Frag} {ρ : Zbd} {tb te ty tx tv : TE} {D : PEnds} {i : Nat} {v : V} {P : Program} {w : World} {C : Addr} {N : NetS} {k : List Key}
theorem Zlp (c : NetC K C) (e : ρ[i]? = some (some (.own v (Zc0 P w C N)))) {n : Int} (h : EvE K te ρ (.int n)) {ns : List Int} (he : Zbq N.leav k = some ns) (hz : ns.length < 1000)
    (hn : D.nx (ρ.set i (some (.own v (Zc0 P w C { N with leav := Zha N.leav k n }))))) {F0 H0 F H : Hp} {σ : St} {E : Ends} (x : Ext F0 H0 F H) (S : Sta K H0 F ρ σ H) (C' : Cnv K F0 H0 D E)
    {a dx el r l d : Addr} {xs : List (List Key × V)} {ys : List (KK × Addr × V)} {as : List Addr} {al : Addr} (ok : NetOk P w C N F H a dx el r l d xs ys as) (ev : v = .ref a) (hv : ZdE xs k = some (.ref al)) :
    tyV K "list" (.ref al) H /\ ZaV te Zds σ H fun vs H2 => Ze2 (.ref al) vs H2 fun _ H3 => E.nx σ H3 := by
  have find : ∀ {F H : Hp} {a dx el r l d : Addr} {xs : List (List Key × V)} {ys : List (KK × Addr × V)} {as : List Addr}, NetOk P w C N F H a dx el r l d xs ys as -> ZdE xs k = some (.ref al) -> al ∈ as /\ ZgR F H al (ns.map PyData.int) := fun ok hv => by
    rcases ok.leav.2.2.val k with z | ⟨a2, ns2, z1, z2, z3, z4⟩
    · rw [hv] at z; cases z.1
    · rw [hv] at z1
      rw [he] at z2
      cases z1
      cases z2
      exact ⟨z3, z4⟩
  obtain ⟨_, _, zs, hz1, _⟩ := find ok hv
  refine ⟨.inl ⟨rfl, _, SqL.of hz1⟩, h H0 F σ H _ S fun F1 H1 u x1 r1 => ?_⟩
  cases r1
  obtain ⟨a', dx', el', r', l', d', xs', ys', as', ea, g1, ok', hp, wr⟩ := (S.ext x1).net e
  rw [ev] at ea
  cases ea
  obtain ⟨rfl, rfl, rfl, rfl, rfl⟩ := ok.same ok' ((x1.hh _ _ ok.ins.2).trans ok.ins.2.symm)
  have el2 := ok'.leav.2.1.symm.trans (x1.hh _ _ ok.leav.2.1)
  injection el2 with el2
  injection el2 with el2
  subst el2
  obtain ⟨m1, m2, zs2, m3, m4⟩ := find ok' hv
  have hr0 := hp al (by simp [m1])
  refine ⟨al, zs2, .int n, rfl, rfl, m3, by rw [m4.length, List.length_map]; exact ZaN (by omega), ?_⟩
  exact C'.nx F1 σ _ _ ((x.trans x1).wr hr0.1 hr0.2.1) (wr _ { N with leav := Zha N.leav k n } _ ys' as' ((S.ext x1).sub.upd hr0.2.1) (fun b hb _ => Zah fun z => hb (by rw [z]; simp [m1])) Zc5
    (ok'.appLeav hv he m1 (by rw [List.map_append]; exact m4.snoc (.int n))) (fun b hb => .inl hb)) hn
theorem ZhL (ls : List (List Key × List Int)) (h : Zbq ls k = none) : Zbq (ls ++ [(k, [])]) k = some [] := by
  induction ls with
  | nil => simp [Zbq]
  | cons x ls ih =>
    obtain ⟨k', ns⟩ := x
    by_cases e : k' = k
    · simp [Zbq, List.find?_cons, e] at h
    · have q : Zbq ((k', ns) :: ls) k = Zbq ls k := by simp [Zbq, List.find?_cons, e]
      rw [q] at h
      have q2 : Zbq ((k', ns) :: ls ++ [(k, [])]) k = Zbq (ls ++ [(k, [])]) k := by simp [Zbq, List.find?_cons, e]
      rw [q2]
      exact ih h
theorem Zkd (c : NetC K C) (e : ρ[i]? = some (some (.own v (Zc0 P w C N)))) {n : Int} (hy : EvE K ty ρ (Zb8 k)) (hl : N.leav.length < 1000) (hz : ∀ ns, Zbq (Zhh N.leav k) k = some ns -> ns.length < 1000)
    (h : EvE K te (ρ.set i (some (.own v (Zc0 P w C { N with leav := Zhh N.leav k })))) (.int n)) (hn : D.nx (ρ.set i (some (.own v (Zc0 P w C { N with leav := Zha (Zhh N.leav k) k n }))))) :
    EvS K (Zit (tBM K "list" Ze2 (ZnM (ZjX K (ZcR i) "leaving") ty (Zrc Zds)) (ZaV te Zds))) ρ D := fun F0 H0 F σ H E x S C' => by
  obtain ⟨a, dx, el, r, l, d, xs, ys, as, rfl, e1, ok, hp0, _⟩ := S.net e
  refine ⟨_, e1, a, C, dx, _, .ref l, rfl, ok.ins.2, c.cl, c.leav, rfl, l, rfl, .inr ⟨xs, Rd.of ok.leav.2.1⟩, hy H0 F σ H _ S fun F1 H1 y x1 r1 => ⟨Nat.zero_le _, fun p hp => ?_⟩⟩
  have S1 := S.ext x1
  have x2 : Ext F1 H1 F1 (upd H1 p (.lst [])) := Ext.own S1.sub hp
  obtain ⟨a', dx', el', r', l', d', xs', ys', as', ea, g1, ok', hp', wr⟩ := S1.net e
  cases ea
  obtain ⟨rfl, rfl, rfl, rfl, rfl⟩ := ok.same ok' ((x1.hh _ _ ok.ins.2).trans ok.ins.2.symm)
  have hlt : i < ρ.length := (List.getElem?_eq_some_iff.mp e).1
  obtain ⟨b, rfl, hb⟩ := Zdb r1
  obtain ⟨l1, l2, l3⟩ := ok'.leav
  have np : ∀ q ∈ a :: dx' :: el' :: r' :: l' :: d' :: as', q ≠ p := fun q hq z => by rw [z] at hq; exact (hp' p hq).2.2 hp
  have lp : l' ≠ p := np l' (by simp)
  have bp : b ≠ p := fun z => by rw [z] at hb; rw [S1.sub _ _ hb] at hp; cases hp
  have h0p : H0 p = none := (x.trans x1).hh.free hp
  refine ⟨xs', k, b, rfl, by rw [Zah lp]; exact l2, by rw [Zah bp]; exact S1.sub _ _ hb, by rw [l3.length]; exact ZaN (by omega), fun v0 hv0 => ?_, fun hv0 => ?_⟩
  · rcases l3.val k with z | ⟨al, ns, z1, z2, z3, z4⟩
    · rw [hv0] at z; cases z.1
    · rw [hv0] at z1
      cases z1
      have ens : Zhh N.leav k = N.leav := by unfold Zhh; rw [z2]; rfl
      rw [ens] at h hn hz
      have S3 := S1.ext x2
      have ok3 : NetOk P w C N F1 (upd H1 p (.lst [])) a dx' el' r' l' d' xs' ys' as' := by
        obtain ⟨q0, q1, q2, q3, q4, q5, q6⟩ := ok'
        obtain ⟨e1', ex, e2, e3⟩ := q3
        obtain ⟨r1', rx, r2, r3⟩ := q4
        exact ⟨q0, ⟨q1.1, by rw [Zah (np a (by simp))]; exact q1.2⟩, ⟨q2.1, by rw [Zah (np dx' (by simp))]; exact q2.2⟩, ⟨e1', ex, by rw [Zah (np el' (by simp))]; exact e2, e3⟩, ⟨r1', rx, by rw [Zah (np r' (by simp))]; exact r2, r3⟩,
          ⟨q5.1, by rw [Zah lp]; exact q5.2.1, q5.2.2.other fun z => np p (by simp [z]) rfl⟩, ⟨q6.1, by rw [Zah (np d' (by simp))]; exact q6.2.1, q6.2.2⟩⟩
      have S4 : Sta K H0 F1 (ρ.set i (some (.own (.ref a) (Zc0 P w C N)))) σ (upd H1 p (.lst [])) := wr _ N xs' ys' as' S3.sub (fun b' _ hb' => Zah fun z => hb' (by rw [z]; exact hp)) Zc5 ok3 (fun b' hb' => .inl hb')
      exact Zlp (N := N) c (List.getElem?_set_self hlt) h z2 (hz ns z2) (by rw [List.set_set]; exact hn) (x.trans (x1.trans x2)) S4 C' ok3 rfl hv0
  · have z2 : Zbq N.leav k = none := by
      rcases l3.val k with z | ⟨al, ns, z1, z2, z3, z4⟩
      · exact z.2
      · rw [hv0] at z1; cases z1
    have ens : Zhh N.leav k = N.leav ++ [(k, [])] := by unfold Zhh; rw [z2]; rfl
    rw [ens] at h hn hz
    have fp : F1 p = none := S1.sub.free hp
    have ok3 : NetOk P w C { N with leav := N.leav ++ [(k, [])] } F1 (upd (upd H1 p (.lst [])) l' (.dT (xs' ++ [(k, .ref p)]))) a dx' el' r' l' d' (xs' ++ [(k, .ref p)]) ys' (as' ++ [p]) := by
      have ok2 := ok'
      obtain ⟨q0, q1, q2, q3, q4, q5, q6⟩ := ok'
      obtain ⟨e1', ex, e2, e3⟩ := q3
      obtain ⟨r1', rx, r2, r3⟩ := q4
      have nd' := q0
      simp only [List.nodup_cons, List.mem_cons, not_or] at nd'
      obtain ⟨⟨a1, a2, a3, a4, a5, a6⟩, ⟨b1, b2, b3, b4, b5⟩, ⟨c1, c2, c3, c4⟩, ⟨g1', g2, g3⟩, ⟨h1, h2⟩, f1, f2⟩ := nd'
      have up : ∀ {q : Addr}, q ∈ a :: dx' :: el' :: r' :: l' :: d' :: as' -> q ≠ l' -> upd (upd H1 p (.lst [])) l' (.dT (xs' ++ [(k, .ref p)])) q = H1 q := fun hq ne => by rw [Zah ne, Zah (np _ hq)]
      refine ⟨?_, ⟨q1.1, by rw [up (by simp) a4]; exact q1.2⟩, ⟨q2.1, by rw [up (by simp) b3]; exact q2.2⟩, ⟨e1', ex, by rw [up (by simp) c2]; exact e2, e3⟩, ⟨r1', rx, by rw [up (by simp) g1']; exact r2, r3⟩, ⟨l1, Zaj, ?_⟩, ⟨q6.1, by rw [up (by simp) (Ne.symm h1)]; exact q6.2.1, q6.2.2⟩⟩
      · have : (a :: dx' :: el' :: r' :: l' :: d' :: (as' ++ [p])) = (a :: dx' :: el' :: r' :: l' :: d' :: as') ++ [p] := by simp
        rw [this, List.nodup_append]
        refine ⟨q0, by simp, fun u hu t ht => ?_⟩
        cases List.mem_singleton.mp ht
        exact np u hu
      · refine LeavD.snoc k ⟨fp, [], by rw [Zah (Ne.symm lp), Zaj], .nil⟩ ?_
        exact (l3.other fun z => np p (by simp [z]) rfl).other h2
    have S4 : Sta K H0 F1 (ρ.set i (some (.own (.ref a) (Zc0 P w C { N with leav := N.leav ++ [(k, [])] })))) σ (upd (upd H1 p (.lst [])) l' (.dT (xs' ++ [(k, .ref p)]))) :=
      wr _ _ _ ys' (as' ++ [p]) ((S1.sub.upd fp).upd l1) (fun b' hb1 hb2 => by rw [Zah (fun z => hb1 (by rw [z]; simp)), Zah (fun z => hb2 (by rw [z]; exact hp))]) (fun b' hb' => Zc5 b' (Zc5 b' hb')) ok3 (fun b' hb' => by
        rcases List.mem_append.mp hb' with z | z
        · exact .inl z
        · cases List.mem_singleton.mp z; exact .inr ⟨hp, h0p⟩)
    have hl0 := hp' l' (by simp)
    exact Zlp (N := { N with leav := N.leav ++ [(k, [])] }) c (List.getElem?_set_self hlt) h (ZhL _ z2) (hz [] (ZhL _ z2)) (by rw [List.set_set]; exact hn) ((x.trans (x1.trans x2)).wr hl0.1 hl0.2.1) S4 C' ok3 rfl (by
      rw [ZhU k k (.ref p) xs' hv0, if_pos rfl])
end
end L2
section
namespace L2
open PySem PySem.Spec PyProof.Rows
structure KTup (K : PySem.W.Frag) (g : Addr) (x : Str) : Prop where
  ex : ∃ (d : Option Addr) (t : Nat) (n : Nat) (sl : Array (Option Value)), K.lookup g = some ⟨.type "tuple", d, .seq #[.str x t] n, sl⟩
theorem Zl4 {P : Program} {w : World} {K : PySem.W.Frag} {mg mb : Str -> Option Value} {k : Nat} {fa a gS gE : Addr} {fd : FuncData} {x : Str} {sp : Sp} {s₁ : Shared} {vs : List Value} {ns : List Int}
    (KX : K.In s₁.heap) (hns : s₁.heap.Ns mainGlobals mg) (hb : s₁.heap.Ns builtinsNs mb) (hbb : ∀ x : Str, x ≠ "__name__" -> mb x = bootBuiltins x) (hlim : s₁.heap.NoLimit) (hg : s₁.gens = #[])
    (ha : s₁.heap.get? a = some { cls := .type "list", data := .seq vs.toArray }) (hi : IntsAre vs ns) (hl : ns.length <= sizeLine) (hr : Room k callerA) (tS : KTup K gS "start") (tE : KTup K gE "end")
    (F : ∀ base : Heap, K.In base -> base.Ns mainGlobals mg -> FnOk P w K mg base CX0 k fa fd [x] sp) (hbind : ∀ (s : Shared) (u : Value), BindsTo s fd ⟨[u], []⟩ [(x, u)])
    (hsp : ∀ H : Hp, SqL K H a (ns.map V.int) -> H gS = some (.tup [.str "start"]) -> H gE = some (.tup [.str "end"]) -> sp [.ref a] H (fun v _ => v = .bl true) fun _ _ _ => False) :
    codeAny (model P w) callerA (.call (.ref fa) ⟨[.ref a], []⟩) (fun r s' => r = .ok (.ret (.bool true)) /\ OldK s₁.heap s'.heap /\ s'.os = s₁.os /\ AllBare s'.gens) s₁ := by
  have rv := Zh5 hi
  have lenV := hi.length
  obtain ⟨dS, kS, cS, slS, lS⟩ := tS.ex
  obtain ⟨dE, kE, cE, slE, lE⟩ := tE.ex
  have hS0 := KX gS _ lS
  have hE0 := KX gE _ lE
  have naS : gS ≠ a := fun z => by
    rw [z, ha] at hS0
    injection hS0 with z1
    injection z1 with z2
    injection z2 with z3
    exact absurd z3 (by decide)
  have naE : gE ≠ a := fun z => by
    rw [z, ha] at hE0
    injection hE0 with z1
    injection z1 with z2
    injection z2 with z3
    exact absurd z3 (by decide)
  have nSE : gE ≠ gS := fun z => by
    rw [z, lS] at lE
    injection lE with z1
    injection z1 with _ _ z2 _
    injection z2 with z3 _
    have z4 := congrArg Array.toList z3
    simp only [List.cons.injEq, Value.str.injEq, and_true] at z4
    exact absurd z4.1 (by decide)
  have core : ∀ Hs : Hp, Zsh Hs -> SqL K Hs a (ns.map V.int) -> HOk P w Hs s₁.heap -> (∀ b, Hs b ≠ none -> b = a) -> (Hs a ≠ none -> K.lookup a = none) ->
      codeAny (model P w) callerA (.call (.ref fa) ⟨[.ref a], []⟩) (fun r s' => r = .ok (.ret (.bool true)) /\ OldK s₁.heap s'.heap /\ s'.os = s₁.os /\ AllBare s'.gens) s₁ := by
    intro Hs hO hSq hok hA hK
    have fS : Hs gS = none := by
      cases q : Hs gS with
      | none => rfl
      | some u => exact absurd (hA gS (by rw [q]; simp)) naS
    have fE : Hs gE = none := by
      cases q : Hs gE with
      | none => rfl
      | some u => exact absurd (hA gE (by rw [q]; simp)) naE
    have base_of : ∀ {b : Addr} {o : Obj}, s₁.heap.get? b = some o -> Hs b = none -> (Znz s₁.heap Hs).get? b = some o := fun e n => Znj e n
    have noA : ∀ {b : Addr} {o : Obj} {es : Array DictEntry} {ep : Nat}, s₁.heap.get? b = some o -> o.data = .dict es ep -> Hs b = none := fun {b o es ep} e d => by
      cases q : Hs b with
      | none => rfl
      | some u =>
        have e' : b = a := hA b (by rw [q]; simp)
        subst e'
        rw [ha] at e; cases e
        have d' : Data.seq vs.toArray _ = Data.dict es ep := d
        cases d'
    have nsK : ∀ {b : Addr} {m : Str -> Option Value}, s₁.heap.Ns b m -> (Znz s₁.heap Hs).Ns b m := fun {b m} ⟨o, es, ep, e, d, r⟩ => ⟨o, es, ep, base_of e (noA e d), d, r⟩
    have hKb : K.In (Znz s₁.heap Hs) := fun b o e => base_of (KX b o e) (by
      cases q : Hs b with
      | none => rfl
      | some u =>
        have e' : b = a := hA b (by rw [q]; simp)
        subst e'
        rw [hK (by rw [q]; simp)] at e; cases e)
    have hM : Mod K mg (Znz s₁.heap Hs) := ⟨hKb, nsK hns, ⟨mb, nsK hb, hbb⟩, let ⟨mc, h1, h2⟩ := hlim; ⟨mc, nsK h1, h2⟩⟩
    let H : Hp := upd (upd Hs gS (.tup [.str "start"])) gE (.tup [.str "end"])
    have hHS : H gS = some (.tup [.str "start"]) := by show upd _ _ _ gS = _; rw [Zah (Ne.symm nSE), Zaj]
    have hHE : H gE = some (.tup [.str "end"]) := Zaj
    have hHo : ∀ b, b ≠ gS -> b ≠ gE -> H b = Hs b := fun b h1 h2 => by show upd _ _ _ b = _; rw [Zah h2, Zah h1]
    have sm : ZaK Hs H := fun b u e => by
      rw [hHo b (fun z => by rw [z, fS] at e; cases e) (fun z => by rw [z, fE] at e; cases e)]
      exact e
    have l1 : ∀ x : Str, [V.str x].length <= sizeLine := fun _ => Nat.le_of_lt (ZaN (by show (1 : Nat) <= 1000; decide))
    have hokH : HOk P w H s₁.heap := fun b u e => by
      by_cases h1 : b = gS
      · subst h1
        rw [hHS] at e
        cases e
        exact ⟨l1 _, [.str "start" kS], .cons ⟨kS, rfl⟩ .nil, ⟨_, hS0, rfl, _, rfl⟩⟩
      · by_cases h2 : b = gE
        · subst h2
          rw [hHE] at e
          cases e
          exact ⟨l1 _, [.str "end" kE], .cons ⟨kE, rfl⟩ .nil, ⟨_, hE0, rfl, _, rfl⟩⟩
        · rw [hHo b h1 h2] at e
          rcases hO b with z | ⟨o, xs, z⟩
          · rw [z] at e; cases e
          · rw [z] at e
            cases e
            obtain ⟨q1, q2⟩ := hok b _ z
            exact ⟨q1, q2⟩
    have e0 : Env0 P w K mg (Znz s₁.heap Hs) callerA [] s₁ H := ⟨rfl, hM, fun b o e => by
      obtain ⟨e1, e2⟩ := Zps e
      refine ⟨e1, ?_⟩
      by_cases h1 : b = gS
      · exact .inr ⟨_, by rw [h1]; exact hHS⟩
      · by_cases h2 : b = gE
        · exact .inr ⟨_, by rw [h2]; exact hHE⟩
        · exact .inl (by rw [hHo b h1 h2]; exact e2), Nat.le_of_eq (ZkC _ _), trivial, fun b hb => absurd (show b ∈ ([] : List Addr) from hb) (by simp), hokH, .of_eq hg⟩
    refine codeAny_mono ((F _ hKb (nsK hns)).run callerA [] s₁ H ⟨[.ref a], []⟩ [.ref a] [.ref a] _ _ hr e0 (hbind s₁ (.ref a)) (.cons rfl .nil) (hsp H (sm.seq hSq) hHS hHE)) fun r s' h => ?_
    cases r with
    | error e => exact False.elim h
    | ok fl =>
      cases fl with
      | next => exact False.elim h
      | brk => exact False.elim h
      | cont => exact False.elim h
      | ret u =>
        obtain ⟨v, H', os, bare, un, hok', r', q⟩ := h
        have q' : v = .bl true := q
        subst q'
        obtain rfl : u = Value.bool true := r'
        refine ⟨rfl, OldK.of_keep fun b o e => ?_, os, bare⟩
        by_cases h1 : b = gS
        · subst h1
          exact un.tupo b _ o hHS e (by simp)
        · by_cases h2 : b = gE
          · subst h2
            exact un.tupo b _ o hHE e (by simp)
          · rcases hO b with z | ⟨ob, xs, z⟩
            · exact un.keep b o e (by rw [hHo b h1 h2]; exact z) (by intro z; exact absurd (show b ∈ ([] : List Addr) from z) (by simp)) (by simp)
            · have z2 := un.frzs b ob _ (by rw [hHo b h1 h2]; exact z)
              obtain ⟨e1, _⟩ := hok b _ z
              obtain ⟨e2, _⟩ := hok' b _ z2
              rw [e] at e1; cases e1
              exact e2
  cases hk : K.lookup a with
  | some o =>
    have e := KX a o hk
    rw [ha] at e
    cases e
    refine core (fun _ => none) (fun _ => .inl rfl) (.inr ⟨_, vs.toArray, _, hk, rfl, rfl, rfl, by rw [List.size_toArray, lenV]; exact hl, by simpa using rv⟩) (fun b u z => by have z' : (none : Option HO) = some u := z; cases z') (fun b z => absurd rfl z) fun z => absurd rfl z
  | none =>
    refine core (fun b => if b = a then some (.frz { cls := .type "list", data := .seq vs.toArray } (.lst (ns.map V.int))) else none) (fun b => ?_) (.inl (.inr ⟨{ cls := .type "list", data := .seq vs.toArray }, if_pos rfl⟩)) (fun b u z => ?_) (fun b z => ?_) fun _ => hk
    · by_cases hb : b = a
      · exact .inr ⟨_, _, if_pos hb⟩
      · exact .inl (if_neg hb)
    · by_cases hb : b = a
      · have z' := (if_pos hb).symm.trans z
        cases z'
        subst hb
        exact ⟨ha, by rw [List.length_map]; exact hl, vs, _, rv, ha⟩
      · have z' := (if_neg hb).symm.trans z
        cases z'
    · by_cases hb : b = a
      · exact hb
      · exact absurd (if_neg hb) z
theorem Zli {l : PySem.W.OpenLaw} {k : Nat} {q : Program} {loose : List Str} {XP : (Str -> Option Value) -> Heap -> Prop} {YP : World -> Heap -> Prop} {d : DefRec} {K : Params -> PySem.W.Frag} {x : Str}
    (hn : l.most = some 63) (hdf : d.params.defaults = []) (hr : Room k callerA)
    (hY : ∀ (w : World) (h : Heap), YP w h -> (K w.params).In h)
    (F : ∀ (w : World) (mg : Str -> Option Value) (fa : Addr) (h : Heap), (K w.params).In h -> h.Ns mainGlobals mg -> mg d.name = some (.ref fa) ->
      (∃ gS gE, PySem.W.nsIn (K w.params) mainGlobals "START" = some (some (.ref gS)) /\ PySem.W.nsIn (K w.params) mainGlobals "END" = some (some (.ref gE)) /\ KTup (K w.params) gS "start" /\ KTup (K w.params) gE "end") /\
      ∃ fd : FuncData, (∀ (s : Shared) (u : Value), BindsTo s fd ⟨[u], []⟩ [(x, u)]) /\
        ∀ base : Heap, (K w.params).In base -> base.Ns mainGlobals mg -> FnOk l.prog w (K w.params) mg base CX0 k fa fd [x] (ZiR (K w.params))) :
    PySem.W.WalkO q loose XP YP l.row.toRowW d [] (fun f vs => PySem.call f vs) := by
  refine Att.attach_callW hn hdf fun w s₀ s₁ mg mb fa o pm cd doc a vs ns G Y ho hd hcd hmg hobj hints hlen hbits hg => ?_
  have KX := hY w _ Y
  obtain ⟨⟨gS, gE, n1, n2, t1, t2⟩, fd, hb, hF⟩ := F w mg fa _ KX G.T.g hmg
  exact Zl4 KX G.T.g G.T.b G.T.builtins G.T.nolimit hg hobj hints (Nat.le_trans hlen (by decide)) hr t1 t2 hF hb (fun H hS h1 h2 => ⟨a, ns, rfl, ⟨gS, gE, n1, n2, h1, h2⟩, ⟨hS, hlen, hbits⟩, fun _ => rfl⟩)
theorem Zg2 {K : PySem.W.Frag} {ρ : Zbd} {g : Addr} (a : PySem.W.nsIn K mainGlobals "START" = some (some (.ref g))) : EvE K (tC (.ref g)) ρ (Zb8 [.inr "start"]) := fun H0 F σ H Q S q => by
  obtain ⟨gS, gE, h1, h2, h3, h4⟩ := S.kt
  rw [h1] at a
  cases a
  exact q F H _ (Ext.refl S.sub) (.tup h3 (.cons (.str _) .nil))
theorem Zol {K : PySem.W.Frag} {ρ : Zbd} {g : Addr} (a : PySem.W.nsIn K mainGlobals "END" = some (some (.ref g))) : EvE K (tC (.ref g)) ρ (Zb8 [.inr "end"]) := fun H0 F σ H Q S q => by
  obtain ⟨gS, gE, h1, h2, h3, h4⟩ := S.kt
  rw [h2] at a
  cases a
  exact q F H _ (Ext.refl S.sub) (.tup h4 (.cons (.str _) .nil))
end L2
end
section
namespace L2
open PySem PySem.Spec PyProof.Rows
theorem Zl2 {A : Around} {k : Nat} (hr : Room k A) : A.units + 6 < cLine := Nat.lt_of_le_of_lt (Nat.add_le_add_left (by decide : 6 <= 64) _) hr.units
noncomputable def ZnO (tk tv : TE) : TE := fun σ H Q => ∀ p, H p = none -> tk σ (upd H p (.dT [])) fun x H1 => tv σ H1 fun y H2 => ∃ k b, x = .ref b /\ H2 p = some (.dT []) /\ H2 b = some (.tup (k.map kV)) /\ Q (.ref p) (upd H2 p (.dT [(k, y)]))
theorem Znl {X : Cx} {pos : Pos} {ke ve : Expr} {tk tv : TE} (hu : X.A.units + 1 < cLine) (hk : PE X ke tk) (hv : PE X ve tv) : PE X (.Dict [some ke] [ve] pos) (ZnO tk tv) := by
  intro pins s σ H Q I q
  have hn := I.hok.fresh (Nat.le_refl s.heap.objs.size)
  have I1 := I.laid (a := s.heap.objs.size) (o := .dT []) (h' := s.heap.push { cls := .type "dict", data := .dict #[] }) (t' := s.toks) (fun _ _ q => Heap.get?_push_of_some _ q) (Nat.le_refl _) (ZiX s.heap I.big)
  refine wpAny_Dict_any rfl rfl (by simp) (by show (1 : Nat) <= 15; decide) (pairTrees_cons_walk (thn (hk pins _ σ _ _ I1 (q _ hn)) fun kv s1 ⟨x, H1, I2, rx, q1⟩ => thn (hv pins s1 σ H1 _ I2 q1) fun vv s2 ⟨y, H2, I3, ry, k, b, ex, e, eb, q2⟩ => pairTrees_nil_walk ?_))
  subst ex
  obtain rfl : kv = Value.ref b := rx
  obtain ⟨z, hd, xs, rel, dd⟩ := Zpk I3.hok e
  have hx : xs = [] := by cases rel; rfl
  subst hx
  unfold storeAll
  rw [List.forIn_cons]
  refine wpAny_bind (wpAny_bind (wpAny_dictSet_heap (hsz := Nat.zero_le _) (knd := tupleKind (ZaZ X.prog X.w)) (show X.A.units < cLine by omega) (ZdL I3.hok eb) dd fun h' dd' hs => wpAny_pure ?_))
  obtain ⟨q', es, ep, hq, g2, g3, g4, _, g5⟩ := dd'
  show wpAny _ _ (forIn [] PUnit.unit _) _ _ _
  rw [List.forIn_nil]
  refine wpAny_pure ⟨.ref s.heap.objs.size, upd H2 s.heap.objs.size (.dT [(k, y)]), Zft (ob := .dT [(k, y)]) I3 (by rw [e]; exact True.intro) hs ⟨q', hq⟩ ⟨Nat.le_of_lt (ZaN (by show (1 : Nat) <= 1000; decide)), hd, _, (show KT H2 [(k, y)] [(k, b, vv)] from .cons ⟨rfl, eb, ry⟩ .nil).keeps fun c ys ec => ?_, q', es, ep, hq, g2, g3, g4, g5⟩, rfl, q2⟩
  rw [Zah (fun z => by subst z; rw [e] at ec; cases ec)]
  exact ec
theorem ZmM {K : PySem.W.Frag} {ρ : Zbd} {tk tv : TE} {k : List Key} {d : PyData} (hk : EvE K tk ρ (Zb8 k)) (hv : EvE K tv ρ d) : EvX K (ZnO tk tv) ρ (Zgx [(k, d)]) := fun H0 F σ H Q S q => fun p hp => by
  have x0 : Ext F H F (upd H p (.dT [])) := Ext.own S.sub hp
  have f0 : F p = none := S.sub.free hp
  refine hk H0 F σ _ _ (S.ext x0) fun F1 H1 x x1 r1 => hv H0 F1 σ H1 _ (S.ext (x0.trans x1)) fun F2 H2 y x2 r2 => ?_
  obtain ⟨b, rfl, hb⟩ := Zdb r1
  have X := x1.trans x2
  have hp2 : H2 p = some (.dT []) := X.hh _ _ Zaj
  have fp2 : F2 p = none := X.free f0 (by rw [Zaj]; exact fun z => nomatch z)
  have X' := x0.trans X
  refine ⟨k, b, rfl, hp2, X.fh _ _ (x2.ff _ _ hb), q F2 _ (.ref p) [p] (X'.wr hp fp2) (fun a ha => by cases List.mem_singleton.mp ha; exact hp) ⟨p, _, rfl, rfl, fp2, Zaj, .cons r2 .nil⟩⟩
inductive LeavZ (F : Hp) : List (List Key × V) -> List (List Key × List Int) -> Prop
  | nil : LeavZ F [] []
  | cons {k : List Key} {a : Addr} {ns : List Int} {zs : List V} {xs : List (List Key × V)} {ls : List (List Key × List Int)} : F a = some (.lst zs) -> Reps F zs (ns.map PyData.int) -> LeavZ F xs ls -> LeavZ F ((k, .ref a) :: xs) ((k, ns) :: ls)
theorem LeavZ.mono {F F' : Hp} (s : ZaK F F') : ∀ {xs : List (List Key × V)} {ls : List (List Key × List Int)}, LeavZ F xs ls -> LeavZ F' xs ls
  | _, _, .nil => .nil
  | _, _, .cons h r t => .cons (s _ _ h) (r.mono s) (t.mono s)
theorem LeavZ.val {F : Hp} (k : List Key) : ∀ {xs : List (List Key × V)} {ls : List (List Key × List Int)}, LeavZ F xs ls -> (ZdE xs k = none /\ Zbq ls k = none) \/ ∃ a ns zs, ZdE xs k = some (.ref a) /\ Zbq ls k = some ns /\ F a = some (.lst zs) /\ Reps F zs (ns.map PyData.int)
  | _, _, .nil => .inl ⟨rfl, rfl⟩
  | _, _, .cons (k := k') (a := a) (ns := ns) (zs := zs) (xs := xs) (ls := ls) h r t => by
    by_cases e : k' = k
    · exact .inr ⟨a, ns, zs, Zcg e, by simp [Zbq, List.find?_cons, e], h, r⟩
    · have q : Zbq ((k', ns) :: ls) k = Zbq ls k := by simp [Zbq, List.find?_cons, e]
      rw [Zci (p := (k', V.ref a)) e, q]
      exact t.val k
theorem LeavD.fz {F F' H : Hp} (s : ZaK F F') : ∀ {xs : List (List Key × V)} {ls : List (List Key × List Int)} {as : List Addr}, LeavD F H xs ls as -> (∀ b ∈ as, F' b = H b) -> LeavZ F' xs ls
  | _, _, _, .nil, _ => .nil
  | _, _, _, .cons h t, he => by
    obtain ⟨h1, xs, h2, h3⟩ := h
    exact .cons (by rw [he _ List.mem_cons_self]; exact h2) (h3.mono s) (t.fz s fun b hb => he b (List.mem_cons_of_mem _ hb))
structure NetFz (P : Program) (w : World) (C : Addr) (N : NetS) (F : Hp) (a dx e r l d : Addr) (xs : List (List Key × V)) (ys : List (KK × Addr × V)) : Prop where
  ins : F a = some (.ins C dx [("ends", .ref e), ("rooms", .ref r), ("leaving", .ref l), ("laid", .ref d)])
  ends : ∃ ex, F e = some (.lst ex) /\ Reps F ex (N.ends.map Zb8)
  rooms : ∃ rx, F r = some (.lst rx) /\ Reps F rx (N.rooms.map PyData.int)
  leav : F l = some (.dT xs) /\ LeavZ F xs N.leav
  laid : F d = some (pdO P w d ys) /\ LaidD F ys N.laid
theorem NetFz.mono {P : Program} {w : World} {C : Addr} {N : NetS} {F F' : Hp} {a dx e r l d : Addr} {xs : List (List Key × V)} {ys : List (KK × Addr × V)} (s : ZaK F F') (h : NetFz P w C N F a dx e r l d xs ys) : NetFz P w C N F' a dx e r l d xs ys := by
  obtain ⟨h1, ⟨ex, h2, h3⟩, ⟨rx, h4, h5⟩, ⟨h6, h7⟩, ⟨h8, h9⟩⟩ := h
  exact ⟨s _ _ h1, ⟨ex, s _ _ h2, h3.mono s⟩, ⟨rx, s _ _ h4, h5.mono s⟩, ⟨s _ _ h6, h7.mono s⟩, ⟨s _ _ h8, h9.mono s⟩⟩
noncomputable def ZeN (P : Program) (w : World) (C : Addr) (N : NetS) : ZP where
  ok K F v := ∃ a dx e r l d xs ys, v = .ref a /\ NetFz P w C N F a dx e r l d xs ys
  mono := by
    rintro K F F' v s ⟨a, dx, e, r, l, d, xs, ys, rfl, h⟩
    exact ⟨a, dx, e, r, l, d, xs, ys, rfl, h.mono s⟩
theorem NetOk.fz {P : Program} {w : World} {C : Addr} {N : NetS} {F F' H : Hp} {a dx el r l d : Addr} {xs : List (List Key × V)} {ys : List (KK × Addr × V)} {as : List Addr} (ok : NetOk P w C N F H a dx el r l d xs ys as) (s : ZaK F F') (he : ∀ b ∈ a :: dx :: el :: r :: l :: d :: as, F' b = H b) :
    NetFz P w C N F' a dx el r l d xs ys := by
  obtain ⟨nd, ⟨i1, i2⟩, ⟨o1, o2⟩, ⟨e1, ex, e2, e3⟩, ⟨r1, rx, r2, r3⟩, ⟨l1, l2, l3⟩, ⟨d1, d2, d3⟩⟩ := ok
  exact ⟨by rw [he _ (by simp)]; exact i2, ⟨ex, by rw [he _ (by simp)]; exact e2, e3.mono s⟩, ⟨rx, by rw [he _ (by simp)]; exact r2, r3.mono s⟩, ⟨by rw [he _ (by simp)]; exact l2, l3.fz s fun b hb => he b (by simp [hb])⟩, ⟨by rw [he _ (by simp)]; exact d2, d3.mono s⟩⟩
theorem Zc0.fz {P : Program} {w : World} {C : Addr} {N : NetS} {K : PySem.W.Frag} {F F' H : Hp} {v : V} {p : List Addr} (h : (Zc0 P w C N).ok K F H v p) (s : ZaK F F') (he : ∀ b ∈ p, F' b = H b) : (ZeN P w C N).ok K F' v := by
  obtain ⟨a, dx, e, r, l, d, xs, ys, as, rfl, rfl, o⟩ := h
  exact ⟨a, dx, e, r, l, d, xs, ys, rfl, o.fz s he⟩
noncomputable def Zow (kvs : ZeU) : ZP where
  ok K F v := ∃ a xs, v = .ref a /\ F a = some (.dT xs) /\ PairD F xs kvs
  mono := by
    rintro K F F' v s ⟨a, xs, rfl, h1, h2⟩
    exact ⟨a, xs, rfl, s _ _ h1, h2.mono s⟩
theorem Zgx.fz {kvs : ZeU} {K : PySem.W.Frag} {F F' H : Hp} {v : V} {p : List Addr} (h : (Zgx kvs).ok K F H v p) (s : ZaK F F') (he : ∀ b ∈ p, F' b = H b) : (Zow kvs).ok K F' v := by
  obtain ⟨a, xs, rfl, rfl, h1, h2, h3⟩ := h
  exact ⟨a, xs, rfl, by rw [he a List.mem_cons_self]; exact h2, h3.mono s⟩
section
variable {K : PySem.W.Frag} {ρ : Zbd} {D : PEnds}
theorem Sta.freezeZ {H0 F H : Hp} {σ : St} {i : Nat} {v : V} {Φ : OwnP} {Ψ : ZP} (s : Sta K H0 F ρ σ H) (e : ρ[i]? = some (some (.own v Φ)))
    (hz : ∀ {F F' H : Hp} {u : V} {p : List Addr}, Φ.ok K F H u p -> ZaK F F' -> (∀ b ∈ p, F' b = H b) -> Ψ.ok K F' u) :
    ∃ p, (∀ a ∈ p, F a = none /\ H a ≠ none /\ H0 a = none) /\ Sta K H0 (frF F H p) (ρ.set i (some (.zow Ψ))) σ H := by
  obtain ⟨kt, h1, h2, fp, h3, h4, h5⟩ := s
  obtain ⟨u, e1, rfl, ok⟩ := h3 i _ e
  have hlt := (List.getElem?_eq_some_iff.mp e).1
  have th := fun a ha => Φ.there ok a ha
  have sm : ZaK F (frF F H (fp i)) := ZcC fun a ha => (th a ha).1
  refine ⟨fp i, fun a ha => ⟨(th a ha).1, (th a ha).2, (h5 i a ha).1⟩, kt.mono sm, Zew h1, by simp [h2], fun j => if j = i then [] else fp j, fun j t' e' => ?_, fun j k b hb hc => ?_, fun j b hb => ?_⟩
  · by_cases hj : j = i
    · subst hj
      rw [List.getElem?_set_self hlt] at e'
      cases e'
      refine ⟨_, e1, ?_, hz ok sm fun b hb => Zge hb⟩
      dsimp only
      rw [if_pos rfl]
    · rw [List.getElem?_set_ne (Ne.symm hj)] at e'
      obtain ⟨u', f1, f2⟩ := h3 j t' e'
      refine ⟨u', f1, ?_⟩
      dsimp only
      rw [if_neg hj]
      exact f2.frOther sm fun a ha z => hj (h4 j i a ha z)
  · by_cases hj : j = i
    · simp [hj] at hb
    · by_cases hk : k = i
      · simp [hk] at hc
      · simp only [if_neg hj] at hb
        simp only [if_neg hk] at hc
        exact h4 j k b hb hc
  · by_cases hj : j = i
    · simp [hj] at hb
    · simp only [if_neg hj] at hb
      exact h5 j b hb
theorem Zoe {t : TS} (i : Nat) {v : V} {Φ : OwnP} {Ψ : ZP} (e : ρ[i]? = some (some (.own v Φ))) (hz : ∀ {F F' H : Hp} {u : V} {p : List Addr}, Φ.ok K F H u p -> ZaK F F' -> (∀ b ∈ p, F' b = H b) -> Ψ.ok K F' u)
    (h : EvS K t (ρ.set i (some (.zow Ψ))) D) : EvS K t ρ D := fun F0 H0 F σ H E x S C => by
  obtain ⟨p, hp, S'⟩ := S.freezeZ e hz
  refine h F0 H0 _ σ H E ⟨x.hh, x.ff.trans (ZcC fun a ha => (hp a ha).1), S'.sub, fun a ha => ?_⟩ S' C
  by_cases z : a ∈ p
  · exact .inr (hp a z).2.2
  · rw [Zcf z] at ha; exact x.fr a ha
theorem Znm {t : TS} {P : Program} {w : World} {C : Addr} {N : NetS} {v : V} (i : Nat) (e : ρ[i]? = some (some (.own v (Zc0 P w C N)))) (h : EvS K t (ρ.set i (some (.zow (ZeN P w C N)))) D) : EvS K t ρ D := Zoe i e (fun a b c => Zc0.fz a b c) h
theorem Zjz {t : TS} {kvs : ZeU} {v : V} (i : Nat) (e : ρ[i]? = some (some (.own v (Zgx kvs)))) (h : EvS K t (ρ.set i (some (.zow (Zow kvs)))) D) : EvS K t ρ D := Zoe i e (fun a b c => Zgx.fz a b c) h
noncomputable def EvD (K : PySem.W.Frag) (t : TE) (ρ : Zbd) (Φ : OT -> Prop) : Prop := ∀ (H0 F : Hp) (σ : St) (H : Hp) (Q : VK), Sta K H0 F ρ σ H -> (∀ F' H' v p r, Φ r -> Ext F H F' H' -> (∀ a ∈ p, H a = none) -> ZaH K F' H' v r p -> Q v H') -> t σ H Q
theorem EvO.d {t : TE} {r : OT} {Φ : OT -> Prop} (h : EvO K t ρ r) (hr : Φ r) : EvD K t ρ Φ := fun H0 F σ H Q S q => h H0 F σ H Q S fun F' H' v p x hp ok => q F' H' v p r hr x hp ok
theorem EvD.o {t : TE} {r : OT} (h : EvD K t ρ (fun r' => r' = r)) : EvO K t ρ r := fun H0 F σ H Q S q => h H0 F σ H Q S fun F' H' v p r' e x hp ok => by subst e; exact q F' H' v p x hp ok
theorem EvX.d {t : TE} {Φ0 : OwnP} {Φ : OT -> Prop} (h : EvX K t ρ Φ0) (hr : ∀ v, Φ (.own v Φ0)) : EvD K t ρ Φ := fun H0 F σ H Q S q => h H0 F σ H Q S fun F' H' v p x hp ok => q F' H' v p (.own v Φ0) (hr v) x hp ⟨rfl, ok⟩
theorem Zez {te : TE} {i : Nat} {Φ : OT -> Prop} (h : EvD K te ρ Φ) (hn : ∀ r, Φ r -> D.nx (ρ.set i (some r))) : EvS K (Zmc te (Zg7 i)) ρ D := fun F0 H0 F σ H E x S C =>
  h H0 F σ H _ S fun F' H' v p r hr x' hp ok => by
    refine C.nx F' _ H' _ (x.trans x') ((S.ext x').set ok (fun a ha => x.hh.free (hp a ha)) (hn := fun a ha j w t' q e1 e2 ok' => ?_)) (hn r hr)
    obtain ⟨fp, g1, g2, g3⟩ := S.fp
    obtain ⟨w', f1, f2⟩ := g1 j t' e1
    intro hq
    have f3 := f2.ext x'
    rw [e2] at f1
    cases f1
    exact (g3 j a (Zhg (K := K) f3 ok' a hq)).2 (hp a ha)
theorem Zij {te : TE} {Φ : OT -> Prop} (h : EvD K te ρ Φ) (hr : ∀ r, Φ r -> D.rt r) : EvS K (ZpB te) ρ D := fun F0 H0 F σ H E x S C =>
  h H0 F σ H _ S fun F' H' v p r e x' hp ok => C.rt F' H' v r p (x.trans x') (fun a ha => x.hh.free (hp a ha)) ok (hr r e)
theorem Zl1 {i : Nat} {v : V} {Φ : OwnP} (e : ρ[i]? = some (some (.own v Φ))) (hr : D.rt (.own v Φ)) : EvS K (ZpB (ZcR i)) ρ D := fun F0 H0 F σ H E x S C => by
  obtain ⟨fp, h, _, h5⟩ := S.fp
  obtain ⟨u, e1, e2⟩ := h i _ e
  exact ⟨_, e1, C.rt F H u (.own v Φ) (fp i) x (fun a ha => (h5 i a ha).1) e2 hr⟩
noncomputable def ZqS (r : OT) : Prop := ∀ (K : PySem.W.Frag) (F F' H : Hp) (v : V) (p : List Addr), (∀ a ∈ p, F' a = none) -> ZaH K F H v r p -> ZaH K F' H v r p
theorem Rep.thin {F F' : Hp} {v w : V} {d : PyData} (r : Rep F v d) (h : Zd8 d = some w) : Rep F' v d := by
  cases r <;> simp [Zd8] at h
  · exact .non
  · exact .bl _
  · exact .int _
  · exact .str _
theorem ZlW {d : PyData} {w : V} (h : Zd8 d = some w) : ZqS (.fz d) := fun K F F' H v p _ ok => ⟨ok.1, ok.2.thin h⟩
theorem Zpw {ds : List PyData} (h : Zjx ds) : ZqS (.ol ds) := fun K F F' H v p hp ok => by
  obtain ⟨a, rfl, rfl, h1, xs, h2, h3⟩ := ok
  exact ⟨a, rfl, rfl, hp a List.mem_cons_self, xs, h2, h3.flats h⟩
noncomputable def Zlh (kvs : ZeU) : Prop := ∀ x ∈ kvs, ∃ w, Zd8 x.2 = some w
theorem PairD.flats {F F' : Hp} : ∀ {xs : List (List Key × V)} {kvs : ZeU}, Zlh kvs -> PairD F xs kvs -> PairD F' xs kvs
  | _, _, _, .nil => .nil
  | _, _, h, .cons r t => by
    obtain ⟨w, e⟩ := h _ List.mem_cons_self
    exact .cons (r.thin e) (t.flats fun x hx => h x (List.mem_cons_of_mem _ hx))
theorem Zmx {kvs : ZeU} {v : V} (h : Zlh kvs) : ZqS (.own v (Zgx kvs)) := fun K F F' H u p hp ok => by
  obtain ⟨e, a, xs, rfl, rfl, h1, h2, h3⟩ := ok
  exact ⟨e, a, xs, rfl, rfl, hp a List.mem_cons_self, h2, h3.flats h⟩
theorem Zn3 {t : TE} {v : V} {Φ0 : OwnP} {Ψ : ZP} {Φ : OT -> Prop} (i : Nat) (e : ρ[i]? = some (some (.own v Φ0))) (hz : ∀ {F F' H : Hp} {u : V} {p : List Addr}, Φ0.ok K F H u p -> ZaK F F' -> (∀ b ∈ p, F' b = H b) -> Ψ.ok K F' u)
    (hf : ∀ r, Φ r -> ZqS r) (h : EvD K t (ρ.set i (some (.zow Ψ))) Φ) : EvD K t ρ Φ := fun H0 F σ H Q S q => by
  obtain ⟨p, hp, S'⟩ := S.freezeZ e hz
  refine h H0 _ σ H Q S' fun F' H' u pp r hr x hpp ok => ?_
  refine q _ H' u pp r hr (ZgO (fun a ha => ⟨(hp a ha).1, (hp a ha).2.1⟩) x) hpp (hf r hr K F' _ H' u pp (fun a ha => ?_) ok)
  by_cases z : a ∈ p
  · show (if a ∈ p then none else F' a) = none
    rw [if_pos z]
  · show (if a ∈ p then none else F' a) = none
    rw [if_neg z]; exact (ok.there a ha).1
theorem Zes {t : TE} {P : Program} {w : World} {C : Addr} {N : NetS} {v : V} {Φ : OT -> Prop} (i : Nat) (e : ρ[i]? = some (some (.own v (Zc0 P w C N)))) (hf : ∀ r, Φ r -> ZqS r) (h : EvD K t (ρ.set i (some (.zow (ZeN P w C N)))) Φ) : EvD K t ρ Φ :=
  Zn3 i e (fun a b c => Zc0.fz a b c) hf h
theorem ZjL {t : TE} {P : Program} {w : World} {C : Addr} {N : NetS} {v : V} {d : PyData} {u : V} (i : Nat) (e : ρ[i]? = some (some (.own v (Zc0 P w C N)))) (hf : Zd8 d = some u) (h : EvE K t (ρ.set i (some (.zow (ZeN P w C N)))) d) : EvE K t ρ d :=
  EvO.e (EvD.o (Zes (Φ := fun r => r = .fz d) i e (fun r hr => by subst hr; exact ZlW hf) (h.o.d rfl)))
section
variable {tb te ty tx : TE} {i : Nat} {P : Program} {w : World} {C : Addr} {N : NetS} {k : List Key}
theorem Sta.netz {H0 F H : Hp} {σ : St} (S : Sta K H0 F ρ σ H) (e : ρ[i]? = some (some (.zow (ZeN P w C N)))) : ∃ a dx el r l d xs ys, σ[i]? = some (some (.ref a)) /\ NetFz P w C N F a dx el r l d xs ys := by
  obtain ⟨fp, h, _⟩ := S.fp
  obtain ⟨v, e1, _, a, dx, el, r, l, d, xs, ys, rfl, h1⟩ := h i _ e
  exact ⟨a, dx, el, r, l, d, xs, ys, e1, h1⟩
theorem Zg6 (c : NetC K C) (e : ρ[i]? = some (some (.zow (ZeN P w C N)))) {k m : Int} (hb : EvE K tb ρ (.int k)) (hm : atI (N.rooms.map PyData.int) k = some (.int m)) : EvE K (tOp (rIx K) (ZjX K (ZcR i) "rooms") tb) ρ (.int m) := fun H0 F σ H Q S q => by
  obtain ⟨a, dx, el, r, l, d, xs, ys, e1, ok⟩ := S.netz e
  refine ⟨_, e1, a, C, dx, _, .ref r, rfl, S.sub _ _ ok.ins, c.cl, c.rooms, rfl, hb H0 F σ H _ S fun F1 H1 y x1 r1 => ?_⟩
  cases r1
  obtain ⟨rx, r2, r3⟩ := ok.rooms
  obtain ⟨z, z1, z2⟩ := ZdY (r3.mono x1.ff) hm
  exact .inl ⟨r, rx, k, z, rfl, rfl, SqL.of (x1.fh _ _ (x1.ff _ _ r2)), z1, q F1 H1 z x1 z2⟩
theorem Zlo (c : NetC K C) (e : ρ[i]? = some (some (.zow (ZeN P w C N)))) {k : Int} {n : PyData} (hb : EvE K tb ρ (.int k)) (hm : atI (N.ends.map Zb8) k = some n) : EvE K (tOp (rIx K) (ZjX K (ZcR i) "ends") tb) ρ n := fun H0 F σ H Q S q => by
  obtain ⟨a, dx, el, r, l, d, xs, ys, e1, ok⟩ := S.netz e
  refine ⟨_, e1, a, C, dx, _, .ref el, rfl, S.sub _ _ ok.ins, c.cl, c.ends, rfl, hb H0 F σ H _ S fun F1 H1 y x1 r1 => ?_⟩
  cases r1
  obtain ⟨rx, r2, r3⟩ := ok.ends
  obtain ⟨z, z1, z2⟩ := ZdY (r3.mono x1.ff) hm
  exact .inl ⟨el, rx, k, z, rfl, rfl, SqL.of (x1.fh _ _ (x1.ff _ _ r2)), z1, q F1 H1 z x1 z2⟩
theorem Znt (c : NetC K C) (e : ρ[i]? = some (some (.zow (ZeN P w C N)))) (hy : EvE K ty ρ (Zb8 k)) : EvE K (ZnC (ZjX K (ZcR i) "leaving") ty (Zrc Zds)) ρ (.list (((Zbq N.leav k).getD []).map PyData.int)) := fun H0 F σ H Q S q => by
  obtain ⟨a, dx, el, r, l, d, xs, ys, e1, ok⟩ := S.netz e
  refine ⟨_, e1, a, C, dx, _, .ref l, rfl, S.sub _ _ ok.ins, c.cl, c.leav, rfl, l, rfl, .inr ⟨xs, Rd.of (S.sub _ _ ok.leav.1)⟩, hy H0 F σ H _ S fun F1 H1 y x1 r1 => ⟨Nat.zero_le _, fun p hp => ?_⟩⟩
  obtain ⟨b, rfl, hb⟩ := Zdb r1
  have S1 := S.ext x1
  have x2 : Ext F1 H1 (upd F1 p (.lst [])) (upd H1 p (.lst [])) := Ext.new S1.sub hp
  have xx := x1.trans x2
  have lH : upd H1 p (.lst []) l = some (.dT xs) := xx.fh _ _ (xx.ff _ _ ok.leav.1)
  have bH : upd H1 p (.lst []) b = some (.tup (k.map kV)) := x2.fh _ _ (x2.ff _ _ hb)
  refine ⟨ZdE xs k, ZgT.t lH bH, ?_⟩
  rcases ok.leav.2.val k with ⟨z1, z2⟩ | ⟨c1, ns, zs, z1, z2, z3, z4⟩
  · rw [z1]
    exact q _ _ _ xx (by rw [z2]; exact .lst Zaj .nil)
  · rw [z1]
    exact q _ _ _ xx (by rw [z2]; exact .lst (xx.ff _ _ z3) (z4.mono xx.ff))
theorem Zm6 (c : NetC K C) (e : ρ[i]? = some (some (.zow (ZeN P w C N)))) {k1 k2 : List Key} {n : Int} (hy : EvE K ty ρ (.tuple [Zb8 k1, Zb8 k2])) (hn : ZeB N.laid (k1, k2) = some n) : EvE K (ZpY P w (ZjX K (ZcR i) "laid") ty) ρ (.int n) := fun H0 F σ H Q S q => by
  obtain ⟨a, dx, el, r, l, d, xs, ys, e1, ok⟩ := S.netz e
  refine ⟨_, e1, a, C, dx, _, .ref d, rfl, S.sub _ _ ok.ins, c.cl, c.laid, rfl, hy H0 F σ H _ S fun F2 H2 y x2 r2 => ?_⟩
  obtain ⟨b, rfl, hb⟩ := Zgo r2
  have S2 := S.ext x2
  have d3 := ok.laid.2.mono x2.ff
  exact ⟨d, b, ys, (k1, k2), .int n, rfl, rfl, x2.fh _ _ (x2.ff _ _ ok.laid.1), d3.at S2.sub, hb.mono fun c' z ez => S2.sub _ _ ez, by rw [d3.val, hn]; rfl, q F2 H2 _ x2 (.int n)⟩
theorem ZlB (c : NetC K C) {k1 k2 : List Key} (hy : EvE K ty ρ (.tuple [Zb8 k1, Zb8 k2])) (e : ρ[i]? = some (some (.zow (ZeN P w C N)))) : EvE K (Zlq P w ty (ZjX K (ZcR i) "laid")) ρ (.bool (!(ZeB N.laid (k1, k2)).isSome)) := fun H0 F σ H Q S q =>
  hy H0 F σ H _ S fun F2 H2 y x2 r2 => by
    have S2 := S.ext x2
    obtain ⟨a, dx, el, r, l, d, xs, ys, e1, ok⟩ := S2.netz e
    obtain ⟨b, rfl, hb⟩ := Zgo r2
    have d3 := ok.laid.2
    refine ⟨_, e1, a, C, dx, _, .ref d, rfl, S2.sub _ _ ok.ins, c.cl, c.laid, rfl, d, b, ys, (k1, k2), rfl, rfl, S2.sub _ _ ok.laid.1, d3.at S2.sub, hb.mono fun c' z ez => S2.sub _ _ ez, q F2 H2 _ x2 ?_⟩
    rw [d3.val, Option.isSome_map]
    exact .bl _
theorem Sta.dctz {H0 F H : Hp} {σ : St} {kvs : ZeU} (S : Sta K H0 F ρ σ H) (e : ρ[i]? = some (some (.zow (Zow kvs)))) : ∃ a xs, σ[i]? = some (some (.ref a)) /\ F a = some (.dT xs) /\ PairD F xs kvs := by
  obtain ⟨fp, h, _⟩ := S.fp
  obtain ⟨v, e1, _, a, xs, rfl, h1, h2⟩ := h i _ e
  exact ⟨a, xs, e1, h1, h2⟩
theorem Zlk {kvs : ZeU} {d : PyData} (e : ρ[i]? = some (some (.zow (Zow kvs)))) (hy : EvE K ty ρ (Zb8 k)) (hd : ZhY kvs k = some d) : EvE K (Zqr (ZcR i) ty) ρ d := fun H0 F σ H Q S q => by
  obtain ⟨a, xs, e1, _⟩ := S.dctz e
  refine ⟨_, e1, hy H0 F σ H _ S fun F1 H1 y x1 r1 => ?_⟩
  obtain ⟨a', xs', e1', f2, f3⟩ := (S.ext x1).dctz e
  rw [e1] at e1'
  cases e1'
  obtain ⟨b, rfl, hb⟩ := Zdb r1
  rcases f3.val k with ⟨_, z⟩ | ⟨x, d', z1, z2, z3⟩
  · rw [hd] at z; cases z
  · rw [hd] at z2
    cases z2
    exact ⟨a, x, rfl, z1 ▸ ZgT.t (x1.fh _ _ f2) (x1.fh _ _ hb), q F1 H1 x x1 z3⟩
theorem ZqW {kvs : ZeU} (hy : EvE K ty ρ (Zb8 k)) (e : ρ[i]? = some (some (.zow (Zow kvs)))) : EvE K (Zro ty (ZcR i)) ρ (.bool (ZhY kvs k).isSome) := fun H0 F σ H Q S q =>
  hy H0 F σ H _ S fun F1 H1 y x1 r1 => by
    obtain ⟨a, xs, e1, f2, f3⟩ := (S.ext x1).dctz e
    obtain ⟨b, rfl, hb⟩ := Zdb r1
    exact ⟨_, e1, a, _, rfl, ZgT.t (x1.fh _ _ f2) (x1.fh _ _ hb), q F1 H1 _ x1 (by rw [Ze3 f3]; exact .bl _)⟩
end
end
end L2
end
section
namespace L2
open PySem PySem.Spec PyProof.Rows
noncomputable def spD (K : PySem.W.Frag) (R : List OT -> (OT -> Prop) -> Prop) : Sp := fun vs H Q _ => ∃ F ts Φ, KTs K F /\ ZaK F H /\ Args K F vs ts /\ R ts Φ /\ ∀ F' H' v p r, Φ r -> Ext F H F' H' -> (∀ a ∈ p, H a = none) -> ZaH K F' H' v r p -> Q v H'
noncomputable def Zn5 (K : PySem.W.Frag) (t : TA) (ρ : Zbd) (Φ : List OT -> Prop) : Prop := ∀ (H0 F : Hp) (σ : St) (H : Hp) (Q : List V -> Hp -> Prop), Sta K H0 F ρ σ H -> (∀ F' H' vs ts, Φ ts -> Ext F H F' H' -> Args K F' vs ts -> Q vs H') -> t σ H Q
section
variable {K : PySem.W.Frag} {ρ : Zbd} {D : PEnds}
theorem Zd4 {R : List OT -> (OT -> Prop) -> Prop} {t : TA} {E : XK} {ts : List OT} {Φ : OT -> Prop} (h : EvA K t ρ ts) (hR : R ts Φ) : EvD K (ZhC (spD K R) [] E t) ρ Φ := fun H0 F σ H Q S q =>
  h H0 F σ H _ S fun F1 H1 vs x1 r1 => ⟨F1, ts, Φ, (S.ext x1).kt, x1.fh, by rw [List.append_nil]; exact r1, hR, fun F2 H2 v p r hr x2 hp ok => q F2 H2 v p r hr (x1.trans x2) (fun a ha => x1.hh.free (hp a ha)) ok⟩
theorem Zee {t : TA} {ts : List OT} {Φ : List OT -> Prop} (h : EvA K t ρ ts) (hp : Φ ts) : Zn5 K t ρ Φ := fun H0 F σ H Q S q => h H0 F σ H Q S fun F' H' vs x r => q F' H' vs ts hp x r
theorem ZpL {ta : TE} {Φ : OT -> Prop} {Φ' : List OT -> Prop} (h : EvD K ta ρ Φ) (hi : ∀ r, Φ r -> ∃ ds, r = .ol ds /\ Φ' [.fz (.list ds)]) : Zn5 K (ZaV ta Zds) ρ Φ' := fun H0 F σ H Q S q =>
  h H0 F σ H _ S fun F1 H1 v p r hr x hp ok => by
    obtain ⟨ds, rfl, hp'⟩ := hi r hr
    obtain ⟨a, rfl, rfl, r1, xs, r2, r3⟩ := ok
    exact q (upd F1 a (.lst xs)) H1 [.ref a] _ hp' (x.freeze r1 r2 (hp a List.mem_cons_self)) (.fz (.lst Zaj (r3.mono (ZaK.new r1))) .nil)
theorem ZmH {R : List OT -> OT -> Prop} {t : TA} {E : XK} {ΦA : List OT -> Prop} {Φ : OT -> Prop} (h : Zn5 K t ρ ΦA) (hR : ∀ ts, ΦA ts -> ∃ r, R ts r /\ Φ r) : EvD K (ZhC (spO (K := K) R) [] E t) ρ Φ := fun H0 F σ H Q S q =>
  h H0 F σ H _ S fun F1 H1 vs ts ht x1 r1 => by
    obtain ⟨r, h1, h2⟩ := hR ts ht
    exact ⟨F1, ts, r, (S.ext x1).kt, x1.fh, by rw [List.append_nil]; exact r1, h1, fun F2 H2 v p x2 hp ok => q F2 H2 v p r h2 (x1.trans x2) (fun a ha => x1.hh.free (hp a ha)) ok⟩
section
variable {P : Program} {w : World} {C : Addr} {N : NetS} {i : Nat} {m : Str}
noncomputable def NoF (m : Str) : Prop := ∀ e r l d : Addr, ([("ends", V.ref e), ("rooms", V.ref r), ("leaving", V.ref l), ("laid", V.ref d)] : List (Str × V)).lookup m = none
theorem ZgM {R : List OT -> (OT -> Prop) -> Prop} {t : TA} {E : XK} {ts : List OT} {Φ : OT -> Prop} (hm : NoF m) (e : ρ[i]? = some (some (.zow (ZeN P w C N)))) (h : EvA K t ρ ts) (hR : R (.zow (ZeN P w C N) :: ts) Φ) :
    EvD K (ZjE C m (spD K R) [] E (ZcR i) t) ρ Φ := fun H0 F σ H Q S q => by
  obtain ⟨a, dx, el, r, l, d, xs, ys, e1, ok⟩ := S.netz e
  refine ⟨_, e1, a, dx, _, rfl, S.sub _ _ ok.ins, hm _ _ _ _, h H0 F σ H _ S fun F1 H1 vs x1 r1 => ?_⟩
  refine ⟨F1, _, Φ, (S.ext x1).kt, x1.fh, .zow (Ψ := ZeN P w C N) ⟨a, dx, el, r, l, d, xs, ys, rfl, ok.mono x1.ff⟩ (by rw [List.append_nil]; exact r1), hR, fun F2 H2 v p r' hr x2 hp ok' => q F2 H2 v p r' hr (x1.trans x2) (fun b hb => x1.hh.free (hp b hb)) ok'⟩
theorem Znp {R : List OT -> (OT -> Prop) -> Prop} {ta : TE} {t : TA} {E : XK} {ts : List OT} {Φ1 Φ : OT -> Prop} (hm : NoF m) (h1 : EvD K ta ρ Φ1) (hz : ∀ r, Φ1 r -> ∃ v N, r = .own v (Zc0 P w C N) /\ ∃ Φ2, R (.zow (ZeN P w C N) :: ts) Φ2 /\ ∀ r, Φ2 r -> Φ r)
    (h : EvA K t ρ ts) : EvD K (ZjE C m (spD K R) [] E ta t) ρ Φ := fun H0 F σ H Q S q =>
  h1 H0 F σ H _ S fun F1 H1 v p r hr x1 hp ok => by
    obtain ⟨v0, N, rfl, Φ2, hR, hi⟩ := hz r hr
    obtain ⟨rfl, ok⟩ := ok
    have th := fun a ha => (Zc0 P w C N).there ok a ha
    have sm : ZaK F1 (frF F1 H1 p) := ZcC fun a ha => (th a ha).1
    have x1' : Ext F H (frF F1 H1 p) H1 := ⟨x1.hh, x1.ff.trans sm, Zew x1.fh, fun a ha => by
      by_cases z : a ∈ p
      · exact .inr (hp a z)
      · rw [Zcf z] at ha; exact x1.fr a ha⟩
    obtain ⟨a, dx, el, r, l, d, xs, ys, as, rfl, rfl, o⟩ := ok
    refine ⟨a, dx, _, rfl, o.ins.2, hm _ _ _ _, h H0 _ σ H1 _ (S.ext x1') fun F2 H2 vs x2 r2 => ?_⟩
    have z := o.fz sm (fun b hb => Zge hb)
    exact ⟨F2, _, Φ2, (S.ext (x1'.trans x2)).kt, x2.fh, .zow (Ψ := ZeN P w C N) ⟨a, dx, el, r, l, d, xs, ys, rfl, z.mono x2.ff⟩ (by rw [List.append_nil]; exact r2), hR, fun F3 H3 v p' r' hr' x3 hp' ok' => q F3 H3 v p' r' (hi r' hr') ((x1'.trans x2).trans x3) (fun b hb => (x1'.trans x2).hh.free (hp' b hb)) ok'⟩
structure ExtN (p : List Addr) (F H F' H' : Hp) : Prop where
  hh : ∀ b o, b ∉ p -> H b = some o -> H' b = some o
  ff : ZaK F F'
  fh : ZaK F' H'
  fr : ∀ b, F' b ≠ none -> F b ≠ none \/ H b = none \/ b ∈ p
noncomputable def spN (K : PySem.W.Frag) (P : Program) (w : World) (C : Addr) (R : NetS -> List OT -> (NetS -> Prop) -> Prop) : Sp := fun vs H Q _ => ∃ F a vs' p ts N Ψ, vs = .ref a :: vs' /\ KTs K F /\ ZaK F H /\ Args K F vs' ts /\ (Zc0 P w C N).ok K F H (.ref a) p /\ R N ts Ψ /\
  ∀ F' H' p' N', Ψ N' -> ExtN p F H F' H' -> (Zc0 P w C N').ok K F' H' (.ref a) p' -> (∀ b ∈ p', b ∈ p \/ H b = none) -> Q .non H'
theorem Za6.move {F F' H H' : Hp} (s : ZaK F F') : ∀ {as : List Addr} {dss : List (List PyData)}, (∀ a ∈ as, F' a = none) -> (∀ a ∈ as, H' a = H a) -> Za6 F H as dss -> Za6 F' H' as dss
  | [], [], _, _, _ => trivial
  | a :: as, _ :: _, hF, hH, o => by
    obtain ⟨⟨h1, xs, h2, h3⟩, o2⟩ := o
    exact ⟨⟨hF a List.mem_cons_self, xs, by rw [hH a List.mem_cons_self]; exact h2, h3.mono s⟩, Za6.move s (fun b hb => hF b (List.mem_cons_of_mem _ hb)) (fun b hb => hH b (List.mem_cons_of_mem _ hb)) o2⟩
  | [], _ :: _, _, _, h => False.elim h
  | _ :: _, [], _, _, h => False.elim h
theorem ZaH.move {F F' H H' : Hp} {v : V} {t : OT} {p : List Addr} (s : ZaK F F') (hF : ∀ a ∈ p, F' a = none) (hH : ∀ a ∈ p, H' a = H a) (h : ZaH K F H v t p) : ZaH K F' H' v t p := by
  cases t with
  | fz d => exact ⟨h.1, h.2.mono s⟩
  | zow Ψ => exact ⟨h.1, Ψ.mono s h.2⟩
  | ol ds =>
    obtain ⟨a, rfl, rfl, h1, xs, h2, h3⟩ := h
    exact ⟨a, rfl, rfl, hF a List.mem_cons_self, xs, by rw [hH a List.mem_cons_self]; exact h2, h3.mono s⟩
  | oll dss =>
    obtain ⟨a, as, rfl, rfl, h1, h2, h3, h4⟩ := h
    exact ⟨a, as, rfl, rfl, h1, hF a List.mem_cons_self, by rw [hH a List.mem_cons_self]; exact h3, h4.move s (fun b hb => hF b (List.mem_cons_of_mem _ hb)) fun b hb => hH b (List.mem_cons_of_mem _ hb)⟩
  | scr ns => obtain ⟨h1, a, h2, h3⟩ := h; exact ⟨h1, a, h2, h3.mono s⟩
  | own v0 Φ => exact ⟨h.1, Φ.mono s hF hH h.2⟩
theorem ZiO {F0 H0 F H : Hp} {σ : St} {E : Ends} {v : V} {Ψ : NetS -> Prop} (S : Sta K H0 F ρ σ H) (x : Ext F0 H0 F H) (e : ρ[i]? = some (some (.own v (Zc0 P w C N)))) (hn : ∀ N', Ψ N' -> D.nx (ρ.set i (some (.own v (Zc0 P w C N'))))) (C' : Cnv K F0 H0 D E) :
    ∃ a p, v = .ref a /\ (Zc0 P w C N).ok K F H (.ref a) p /\ ∀ F' H' p' N', Ψ N' -> ExtN p F H F' H' -> (Zc0 P w C N').ok K F' H' (.ref a) p' -> (∀ b ∈ p', b ∈ p \/ H b = none) -> E.nx σ H' := by
  obtain ⟨kt, h1, h2, fp, h3, h4, h5⟩ := S
  obtain ⟨u, e1, rfl, ok⟩ := h3 i _ e
  obtain ⟨a, _, _, _, _, _, _, _, _, rfl, _⟩ := id ok
  have hlt := (List.getElem?_eq_some_iff.mp e).1
  refine ⟨a, fp i, rfl, ok, fun F' H' p' N' hN xn ok' sub => ?_⟩
  have out : ∀ j, j ≠ i -> ∀ b ∈ fp j, b ∉ fp i := fun j hj b hb z => hj (h4 j i b hb z)
  have hH : ∀ j, j ≠ i -> ∀ b ∈ fp j, H' b = H b := fun j hj b hb => by
    obtain ⟨o, ho⟩ := ZgJ (h5 j b hb).2
    rw [xn.hh b o (out j hj b hb) ho, ho]
  refine C'.nx F' σ H' _ ⟨fun b o hb => xn.hh b o (fun z => by rw [(h5 i b z).1] at hb; cases hb) (x.hh b o hb), x.ff.trans xn.ff, xn.fh, fun b hb => ?_⟩ ⟨kt.mono xn.ff, xn.fh, by simp [h2], fun j => if j = i then p' else fp j, fun j t' e' => ?_, fun j k b hb hc => ?_, fun j b hb => ?_⟩ (hn N' hN)
  · rcases xn.fr b hb with z | z | z
    · exact x.fr b z
    · exact .inr (x.hh.free z)
    · exact .inr (h5 i b z).1
  · by_cases hj : j = i
    · subst hj
      rw [List.getElem?_set_self hlt] at e'
      cases e'
      refine ⟨_, e1, rfl, ?_⟩
      simp only [if_true]
      exact ok'
    · rw [List.getElem?_set_ne (Ne.symm hj)] at e'
      obtain ⟨u', f1, f2⟩ := h3 j t' e'
      refine ⟨u', f1, ?_⟩
      simp only [if_neg hj]
      refine f2.move xn.ff (fun b hb => ?_) (hH j hj)
      cases z : F' b with
      | none => rfl
      | some o =>
        rcases xn.fr b (Zbs z) with y | y | y
        · exact absurd (f2.there b hb).1 y
        · exact absurd y (h5 j b hb).2
        · exact absurd y (out j hj b hb)
  · by_cases hj : j = i
    · by_cases hk : k = i
      · omega
      · simp only [if_pos hj] at hb
        simp only [if_neg hk] at hc
        rcases sub b hb with z | z
        · exact absurd (h4 k i b hc z) hk
        · exact absurd z (h5 k b hc).2
    · simp only [if_neg hj] at hb
      by_cases hk : k = i
      · simp only [if_pos hk] at hc
        rcases sub b hc with z | z
        · exact absurd (h4 j i b hb z) hj
        · exact absurd z (h5 j b hb).2
      · simp only [if_neg hk] at hc
        exact h4 j k b hb hc
  · by_cases hj : j = i
    · simp only [if_pos hj] at hb
      refine ⟨?_, ((Zc0 P w C N').there ok' b hb).2⟩
      rcases sub b hb with z | z
      · exact (h5 i b z).1
      · exact x.hh.free z
    · simp only [if_neg hj] at hb
      exact ⟨(h5 j b hb).1, by rw [hH j hj b hb]; exact (h5 j b hb).2⟩
theorem ZcY {R : NetS -> List OT -> (NetS -> Prop) -> Prop} {t : TA} {E' : XK} {v : V} {ΦA : List OT -> Prop} (hm : NoF m) (e : ρ[i]? = some (some (.own v (Zc0 P w C N)))) (hA : Zn5 K t ρ ΦA)
    (hR : ∀ ts, ΦA ts -> ∃ Ψ, R N ts Ψ /\ ∀ N', Ψ N' -> D.nx (ρ.set i (some (.own v (Zc0 P w C N'))))) : EvS K (Zit (ZjE C m (spN K P w C R) [] E' (ZcR i) t)) ρ D := fun F0 H0 F σ H E x S C' => by
  obtain ⟨a, dx, el, r, l, d, xs, ys, as, rfl, e1, ok, _⟩ := S.net e
  refine ⟨_, e1, a, dx, _, rfl, ok.ins.2, hm _ _ _ _, hA H0 F σ H _ S fun F1 H1 vs ts ht x1 r1 => ?_⟩
  obtain ⟨Ψ, hR', hn⟩ := hR ts ht
  obtain ⟨a', p, ea, okp, fin⟩ := ZiO (S.ext x1) (x.trans x1) e hn C'
  cases ea
  exact ⟨F1, a, vs ++ [], p, ts, N, Ψ, rfl, (S.ext x1).kt, x1.fh, by rw [List.append_nil]; exact r1, okp, hR', fin⟩
theorem ZiP {R : NetS -> List OT -> (NetS -> Prop) -> Prop} {t : TA} {E' : XK} {v : V} {ΦA : List OT -> Prop} (e : ρ[i]? = some (some (.own v (Zc0 P w C N)))) (hA : Zn5 K t ρ ΦA)
    (hR : ∀ ts, ΦA ts -> ∃ Ψ, R N ts Ψ /\ ∀ N', Ψ N' -> D.nx (ρ.set i (some (.own v (Zc0 P w C N'))))) : EvS K (Zit (ZhC (spN K P w C R) [] E' (ZaV (ZcR i) t))) ρ D := fun F0 H0 F σ H E x S C' => by
  obtain ⟨a, dx, el, r, l, d, xs, ys, as, rfl, e1, ok, _⟩ := S.net e
  refine ⟨_, e1, hA H0 F σ H _ S fun F1 H1 vs ts ht x1 r1 => ?_⟩
  obtain ⟨Ψ, hR', hn⟩ := hR ts ht
  obtain ⟨a', p, ea, okp, fin⟩ := ZiO (S.ext x1) (x.trans x1) e hn C'
  cases ea
  exact ⟨F1, a, vs ++ [], p, ts, N, Ψ, rfl, (S.ext x1).kt, x1.fh, by rw [List.append_nil]; exact r1, okp, hR', fin⟩
noncomputable def spI (P : Program) (w : World) (C : Addr) : Sp := fun vs H Q _ => ∃ x dx, vs = [.ref x] /\ H x = some (.ins C dx []) /\ ∀ e r l d H', H e = none -> H r = none -> H l = none -> H d = none -> [x, e, r, l, d].Nodup ->
  H' x = some (.ins C dx [("ends", .ref e), ("rooms", .ref r), ("leaving", .ref l), ("laid", .ref d)]) -> H' e = some (.lst []) -> H' r = some (.lst []) -> H' l = some (.dT []) -> H' d = some (pdO P w d []) -> (∀ b, b ∉ [x, e, r, l, d] -> H' b = H b) -> Q .non H'
theorem Zpy {E : XK} : EvX K (ZoT C (spI P w C) [] E Zds) ρ (Zc0 P w C ⟨[], [], [], []⟩) := fun H0 F σ H Q S q => fun x dx hx hdx ne => by
  refine ⟨x, dx, rfl, Zaj, fun e r l d H' he hr hl hd nd h1 h2 h3 h4 h5 ho => ⟨rfl, ?_⟩⟩
  have un : ∀ {b : Addr}, upd (upd H dx (.own x)) x (.ins C dx []) b = none -> H b = none /\ b ≠ x /\ b ≠ dx := fun {b} hb => by
    have n1 : b ≠ x := fun z => by rw [z, Zaj] at hb; cases hb
    rw [Zah n1] at hb
    have n2 : b ≠ dx := fun z => by rw [z, Zaj] at hb; cases hb
    rw [Zah n2] at hb
    exact ⟨hb, n1, n2⟩
  obtain ⟨e1, e2, e3⟩ := un he
  obtain ⟨r1, r2, r3⟩ := un hr
  obtain ⟨l1, l2, l3⟩ := un hl
  obtain ⟨d1, d2, d3⟩ := un hd
  have hdx' : H' dx = some (.own x) := by
    rw [ho dx (by simp only [List.mem_cons, List.not_mem_nil, or_false, not_or]; exact ⟨ne, Ne.symm e3, Ne.symm r3, Ne.symm l3, Ne.symm d3⟩), Zah ne, Zaj]
  have kp : ∀ b o, H b = some o -> H' b = some o := fun b o hb => by
    have nb : ∀ {c : Addr}, H c = none -> b ≠ c := fun hc z => by rw [z, hc] at hb; cases hb
    rw [ho b (by simp only [List.mem_cons, List.not_mem_nil, or_false, not_or]; exact ⟨nb hx, nb e1, nb r1, nb l1, nb d1⟩), Zah (nb hx), Zah (nb hdx)]
    exact hb
  have fr : ∀ {b : Addr}, H b = none -> F b = none := fun hb => S.sub.free hb
  refine q F H' (.ref x) [x, dx, e, r, l, d] ⟨kp, ZaK.refl _, fun b o hb => kp b o (S.sub b o hb), fun _ h => .inl h⟩ (fun b hb => ?_) ⟨x, dx, e, r, l, d, [], [], [], rfl, rfl, ?_, ⟨fr hx, h1⟩, ⟨fr hdx, hdx'⟩, ⟨fr e1, [], h2, .nil⟩, ⟨fr r1, [], h3, .nil⟩, ⟨fr l1, h4, .nil⟩, ⟨fr d1, h5, .nil⟩⟩
  · simp only [List.mem_cons, List.not_mem_nil, or_false] at hb
    rcases hb with rfl | rfl | rfl | rfl | rfl | rfl
    · exact hx
    · exact hdx
    · exact e1
    · exact r1
    · exact l1
    · exact d1
  · simp only [List.nodup_cons, List.mem_cons, List.not_mem_nil, or_false, not_or, not_false_eq_true, List.nodup_nil, and_true] at nd ⊢
    obtain ⟨⟨a1, a2, a3, a4⟩, b1, c1, f1⟩ := nd
    exact ⟨⟨Ne.symm ne, a1, a2, a3, a4⟩, ⟨Ne.symm e3, Ne.symm r3, Ne.symm l3, Ne.symm d3⟩, b1, c1, f1⟩
end
end
section
variable {P : Program} {w : World} {K : PySem.W.Frag} {mg : Str -> Option Value} {base : Heap}
theorem Fun.evD {x qual : Str} {st : Stmt} {f : Addr} {fd : FuncData} {N ps : List Str} {k : Nat} {R : List OT -> (OT -> Prop) -> Prop} (F : Fun K x qual st f fd) (S : FnScope N ps (Zab st)) (len : ∀ ts Φ, R ts Φ -> ts.length = ps.length)
    (hbody : ∀ (cdv : Value) (A : Around) (outer : List Env) (s : Shared) (H : Hp) (E : XK) (ts : List OT) (Φ : OT -> Prop), Room k (A.deeper (envOfC qual (Zab st) s.heap.objs.size f cdv)) -> R ts Φ ->
      ∃ t, PSs (ZhV CX0 P w K mg base N qual (Zab st) f cdv A outer s H E).nox (Zan st) t /\ EvS K t (ts.map some ++ List.replicate (N.length - ts.length) none) { nx := fun _ => Φ (.fz .none), rt := Φ }) : FnOk P w K mg base CX0 (k + 1) f fd ps (spD K R) := by
  refine F.ok S (fun vs H Q E ⟨F, ts, Φ, _, _, ha, hR, _⟩ => ha.length.trans (len ts Φ hR)) fun cdv A outer s H vs Q E hr ⟨F, ts, Φ, kt, sm, ha, hR, q⟩ => ?_
  obtain ⟨t, h1, h2⟩ := hbody cdv A outer s H E ts Φ hr hR
  refine ⟨t, h1, h2 F H F (start N vs) H _ (Ext.refl sm) ⟨kt, sm, ?_, fun _ => [], fun i t' e => ?_, fun i j a h => (nomatch h), fun i a h => (nomatch h)⟩ ⟨fun F' σ' H' ρ' x' _ e => ?_, fun F' H' v r' p x' hp ok e => q F' H' v p r' e x' hp ok, fun _ _ _ _ _ _ z => False.elim z, fun _ _ _ _ _ _ z => False.elim z⟩⟩
  · unfold start
    simp [ha.length]
  · have hlt : i < ts.length := by
      by_cases z : i < ts.length
      · exact z
      · rw [List.getElem?_append_right (by simpa using z)] at e
        have := List.mem_of_getElem? e
        simp at this
    rw [List.getElem?_append_left (by simpa using hlt), List.getElem?_map] at e
    have e' : ts[i]? = some t' := by
      cases z : ts[i]? with
      | none => rw [z] at e; simp at e
      | some w => rw [z] at e; simp at e; rw [e]
    obtain ⟨v, e1, e2⟩ := ha.get (H := H) i t' e'
    refine ⟨v, ?_, e2⟩
    unfold start
    have hl2 : i < vs.length := by rw [ha.length]; exact hlt
    rw [List.getElem?_append_left (by simpa using hl2), List.getElem?_map, e1]
    rfl
  · exact q F' H' _ [] _ e x' (fun _ z => nomatch z) ⟨rfl, .non⟩
theorem Fun.evN {C : Addr} {x qual : Str} {st : Stmt} {f : Addr} {fd : FuncData} {N ps : List Str} {k : Nat} {R : NetS -> List OT -> (NetS -> Prop) -> Prop} (F : Fun K x qual st f fd) (S : FnScope N ps (Zab st)) (len : ∀ M ts Ψ, R M ts Ψ -> ts.length + 1 = ps.length)
    (hbody : ∀ (cdv : Value) (A : Around) (outer : List Env) (s : Shared) (H : Hp) (E : XK) (v : V) (M : NetS) (ts : List OT) (Ψ : NetS -> Prop), Room k (A.deeper (envOfC qual (Zab st) s.heap.objs.size f cdv)) -> R M ts Ψ ->
      ∃ t, PSs (ZhV CX0 P w K mg base N qual (Zab st) f cdv A outer s H E).nox (Zan st) t /\ EvS K t (some (.own v (Zc0 P w C M)) :: (ts.map some ++ List.replicate (N.length - (ts.length + 1)) none)) { nx := fun ρ' => ∃ M', Ψ M' /\ ρ'[0]? = some (some (.own v (Zc0 P w C M'))), rt := fun _ => False }) :
    FnOk P w K mg base CX0 (k + 1) f fd ps (spN K P w C R) := by
  refine F.ok S (fun vs H Q E ⟨F, a, vs', p, ts, M, Ψ, e, _, _, ha, _, hR, _⟩ => by rw [e, List.length_cons, ha.length]; exact len _ _ _ hR) fun cdv A outer s H vs Q E hr ⟨F, a, vs', p, ts, M, Ψ, e, kt, sm, ha, ok, hR, q⟩ => ?_
  subst e
  obtain ⟨t, h1, h2⟩ := hbody cdv A outer s H E (.ref a) M ts Ψ hr hR
  have h0 : ∀ b, (fun b => if b ∈ p then none else H b : Hp) b = none -> b ∈ p \/ H b = none := fun b hb => by
    by_cases z : b ∈ p
    · exact .inl z
    · simp only [if_neg z] at hb; exact .inr hb
  have th := fun b hb => (Zc0 P w C M).there ok b hb
  refine ⟨t, h1, h2 F (fun b => if b ∈ p then none else H b) F (start N (.ref a :: vs')) H _ ⟨fun b o hb => ?_, ZaK.refl _, sm, fun _ h => .inl h⟩ ⟨kt, sm, ?_, fun j => if j = 0 then p else [], fun j t' e => ?_, fun j k' b hb hc => ?_, fun j b hb => ?_⟩
    ⟨fun F' σ' H' ρ' x' S' ⟨M', hM, e0⟩ => ?_, fun F' H' v r' p x' hp ok e => False.elim e, fun _ _ _ _ _ _ z => False.elim z, fun _ _ _ _ _ _ z => False.elim z⟩⟩
  · by_cases z : b ∈ p
    · simp [z] at hb
    · simp only [if_neg z] at hb; exact hb
  · unfold start
    simp [ha.length]
  · cases j with
    | zero =>
      simp at e
      subst e
      refine ⟨.ref a, ?_, rfl, ?_⟩
      · unfold start
        simp
      · simp only [if_true]
        exact ok
    | succ i =>
      rw [List.getElem?_cons_succ] at e
      have hlt : i < ts.length := by
        by_cases z : i < ts.length
        · exact z
        · rw [List.getElem?_append_right (by simpa using z)] at e
          have := List.mem_of_getElem? e
          simp at this
      rw [List.getElem?_append_left (by simpa using hlt), List.getElem?_map] at e
      have e' : ts[i]? = some t' := by
        cases z : ts[i]? with
        | none => rw [z] at e; simp at e
        | some w => rw [z] at e; simp at e; rw [e]
      obtain ⟨v, e1, e2⟩ := ha.get (H := H) i t' e'
      refine ⟨v, ?_, ?_⟩
      · unfold start
        have hl2 : i < vs'.length := by rw [ha.length]; exact hlt
        rw [List.map_cons, List.cons_append, List.getElem?_cons_succ, List.getElem?_append_left (by simpa using hl2), List.getElem?_map, e1]
        rfl
      · simp only [Nat.add_one_ne_zero, if_false]
        exact e2
  · by_cases hj : j = 0
    · by_cases hk : k' = 0
      · rw [hj, hk]
      · simp [hk] at hc
    · simp [hj] at hb
  · by_cases hj : j = 0
    · simp only [if_pos hj] at hb
      exact ⟨by simp [hb], (th b hb).2⟩
    · simp [hj] at hb
  · obtain ⟨fp, g1, g2, g3⟩ := S'.fp
    obtain ⟨u, u1, rfl, ok'⟩ := g1 0 _ e0
    refine q F' H' (fp 0) M' hM ⟨fun b o nb hb => x'.hh b o (by simp only [if_neg nb]; exact hb), x'.ff, x'.fh, fun b hb => ?_⟩ ok' (fun b hb => h0 b (g3 0 b hb).1)
    rcases x'.fr b hb with z | z
    · exact .inl z
    · exact .inr ((h0 b z).symm)
structure Mf (K : PySem.W.Frag) (C : Addr) (m qual : Str) (st : Stmt) (ps : List Str) : Prop where
  ex : ∃ f fd, Fun K m qual st f fd /\ Meth K C m f /\ Ze4 K fd ps []
noncomputable def ZgC (P : Program) (w : World) (K : PySem.W.Frag) (mg : Str -> Option Value) (base : Heap) (C : Addr) (m : Str) (ps : List Str) (k : Nat) (sp : Sp) : Prop :=
  ∃ f fd, Meth K C m f /\ Ze4 K fd ps [] /\ FnOk P w K mg base CX0 k f fd ps sp
theorem Mf.evD {C : Addr} {m qual : Str} {st : Stmt} {N ps : List Str} {k : Nat} {R : List OT -> (OT -> Prop) -> Prop} (D : Mf K C m qual st ps) (S : FnScope N ps (Zab st)) (len : ∀ ts Φ, R ts Φ -> ts.length = ps.length)
    (hbody : ∀ (f : Addr) (cdv : Value) (A : Around) (outer : List Env) (s : Shared) (H : Hp) (E : XK) (ts : List OT) (Φ : OT -> Prop), Room k (A.deeper (envOfC qual (Zab st) s.heap.objs.size f cdv)) -> R ts Φ ->
      ∃ t, PSs (ZhV CX0 P w K mg base N qual (Zab st) f cdv A outer s H E).nox (Zan st) t /\ EvS K t (ts.map some ++ List.replicate (N.length - ts.length) none) { nx := fun _ => Φ (.fz .none), rt := Φ }) : ZgC P w K mg base C m ps (k + 1) (spD K R) := by
  obtain ⟨f, fd, F, hm, hb⟩ := D.ex
  exact ⟨f, fd, hm, hb, F.evD S len fun cdv A outer s H E ts Φ => hbody f cdv A outer s H E ts Φ⟩
theorem Mf.evN {C : Addr} {m qual : Str} {st : Stmt} {N ps : List Str} {k : Nat} {R : NetS -> List OT -> (NetS -> Prop) -> Prop} (D : Mf K C m qual st ps) (S : FnScope N ps (Zab st)) (len : ∀ M ts Ψ, R M ts Ψ -> ts.length + 1 = ps.length)
    (hbody : ∀ (f : Addr) (cdv : Value) (A : Around) (outer : List Env) (s : Shared) (H : Hp) (E : XK) (v : V) (M : NetS) (ts : List OT) (Ψ : NetS -> Prop), Room k (A.deeper (envOfC qual (Zab st) s.heap.objs.size f cdv)) -> R M ts Ψ ->
      ∃ t, PSs (ZhV CX0 P w K mg base N qual (Zab st) f cdv A outer s H E).nox (Zan st) t /\ EvS K t (some (.own v (Zc0 P w C M)) :: (ts.map some ++ List.replicate (N.length - (ts.length + 1)) none)) { nx := fun ρ' => ∃ M', Ψ M' /\ ρ'[0]? = some (some (.own v (Zc0 P w C M'))), rt := fun _ => False }) :
    ZgC P w K mg base C m ps (k + 1) (spN K P w C R) := by
  obtain ⟨f, fd, F, hm, hb⟩ := D.ex
  exact ⟨f, fd, hm, hb, F.evN S len fun cdv A outer s H E v M ts Ψ => hbody f cdv A outer s H E v M ts Ψ⟩
theorem Df.evD {x : Str} {st : Stmt} {N ps : List Str} {k : Nat} {R : List OT -> (OT -> Prop) -> Prop} (D : Df K mg x st ps) (S : FnScope N ps (Zab st)) (len : ∀ ts Φ, R ts Φ -> ts.length = ps.length)
    (hbody : ∀ (f : Addr) (cdv : Value) (A : Around) (outer : List Env) (s : Shared) (H : Hp) (E : XK) (ts : List OT) (Φ : OT -> Prop), Room k (A.deeper (envOfC x (Zab st) s.heap.objs.size f cdv)) -> R ts Φ ->
      ∃ t, PSs (ZhV CX0 P w K mg base N x (Zab st) f cdv A outer s H E).nox (Zan st) t /\ EvS K t (ts.map some ++ List.replicate (N.length - ts.length) none) { nx := fun _ => Φ (.fz .none), rt := Φ }) : Cal P w K mg base x ps (k + 1) (spD K R) := by
  obtain ⟨f, fd, F, hm, hb⟩ := D.ex
  exact ⟨f, fd, hm, F.kp, hb, F.evD S len fun cdv A outer s H E ts Φ => hbody f cdv A outer s H E ts Φ⟩
theorem Df.evN {C : Addr} {x : Str} {st : Stmt} {N ps : List Str} {k : Nat} {R : NetS -> List OT -> (NetS -> Prop) -> Prop} (D : Df K mg x st ps) (S : FnScope N ps (Zab st)) (len : ∀ M ts Ψ, R M ts Ψ -> ts.length + 1 = ps.length)
    (hbody : ∀ (f : Addr) (cdv : Value) (A : Around) (outer : List Env) (s : Shared) (H : Hp) (E : XK) (v : V) (M : NetS) (ts : List OT) (Ψ : NetS -> Prop), Room k (A.deeper (envOfC x (Zab st) s.heap.objs.size f cdv)) -> R M ts Ψ ->
      ∃ t, PSs (ZhV CX0 P w K mg base N x (Zab st) f cdv A outer s H E).nox (Zan st) t /\ EvS K t (some (.own v (Zc0 P w C M)) :: (ts.map some ++ List.replicate (N.length - (ts.length + 1)) none)) { nx := fun ρ' => ∃ M', Ψ M' /\ ρ'[0]? = some (some (.own v (Zc0 P w C M'))), rt := fun _ => False }) :
    Cal P w K mg base x ps (k + 1) (spN K P w C R) := by
  obtain ⟨f, fd, F, hm, hb⟩ := D.ex
  exact ⟨f, fd, hm, F.kp, hb, F.evN S len fun cdv A outer s H E v M ts Ψ => hbody f cdv A outer s H E v M ts Ψ⟩
noncomputable def Zr5 (P : Program) (w : World) (K : PySem.W.Frag) (mg : Str -> Option Value) (base : Heap) (x : Str) (C : Addr) (k : Nat) : Prop :=
  ∃ f fd, Mk K C f /\ mg x = some (.ref C) /\ Ze4 K fd ["self"] [] /\ FnOk P w K mg base CX0 k f fd ["self"] (spI P w C)
end
section
variable {X : Cx}
theorem Zcx {C : Addr} {m : Str} {pos apos : Pos} {o e : Expr} {es : List Expr} {ta : TE} {t : TA} {ps : List Str} {j k : Nat} {sp : Sp} {pl : Sem Bool} (M : ZgC X.prog X.w X.K X.mg X.base C m ps j sp) (c : NetC X.K C) (hr : Room k X.A) (he : PE X o ta) (ha : PA X (e :: es) t) (hj : j <= k := by decide)
    (hst : starEach (e :: es) X.env = (false, eval e X.env) :: starEach es X.env := by rfl) (hpl : (backTo pos (starEach es X.env)).any (·.1) = false := by rfl)
    (ht : eval (.Call (.Attribute o m apos) (e :: es) [] pos) X.env = (do
      let ov <- eval o X.env
      standAt apos.atName
      let (f, first) <- holding [ov] (getMethod ov m pl)
      callWith pos f first (backTo pos (starEach (e :: es) X.env)) (backToKw pos (keywordEach [] X.env))) := by rfl) :
    PE X (.Call (.Attribute o m apos) (e :: es) [] pos) (ZjE C m sp [] E0 ta t) := by
  obtain ⟨f, fd, hm, hb, F⟩ := M
  exact Zpv (pl := pl) he c.cl hm F (hr.mono hj) hb .nil Zp8 ha hst hpl ht
theorem Zo9 {C : Addr} {x : Str} {p pos : Pos} {j k : Nat} (M : Zr5 X.prog X.w X.K X.mg X.base x C j) (hr : Room k X.A) (hj : j + 1 <= k := by decide) (hg : Gl X x := by rfl) (hdb : (x == ("__debug__" : Str)) = false := by decide +kernel) :
    PE X (.Call (.Name x p) [] [] pos) (ZoT C (spI X.prog X.w C) [] E0 Zds) := by
  obtain ⟨f, fd, M, hm, hb, F⟩ := M
  exact Zmo M F (hr.mono hj) hg hm hb .nil Zp8 hdb
end
end L2
end
section
namespace Mir
open PySem L2
noncomputable def nk : Nd -> List Key
  | .start => [.inr "start"]
  | .fin => [.inr "end"]
  | .guest k => [.inr "guest", .inl (k : Int)]
  | .line l t => [.inr "line", .inl (l : Int), .inl (t : Int)]
theorem Zfw : ∀ {a b : Nd}, nk a = nk b -> a = b
  | .start, .start, _ => rfl
  | .fin, .fin, _ => rfl
  | .start, .fin, h => absurd h (by decide)
  | .fin, .start, h => absurd h (by decide)
  | .guest a, .guest b, h => by
    injection h with _ h
    injection h with h _
    injection h with h
    have : a = b := by omega
    rw [this]
  | .line a b, .line c d, h => by
    injection h with _ h
    injection h with h1 h
    injection h with h2 _
    injection h1 with h1
    injection h2 with h2
    have e1 : a = c := by omega
    have e2 : b = d := by omega
    rw [e1, e2]
  | .start, .guest _, h => by have q := congrArg List.length h; simp [nk] at q
  | .start, .line _ _, h => by have q := congrArg List.length h; simp [nk] at q
  | .fin, .guest _, h => by have q := congrArg List.length h; simp [nk] at q
  | .fin, .line _ _, h => by have q := congrArg List.length h; simp [nk] at q
  | .guest _, .start, h => by have q := congrArg List.length h; simp [nk] at q
  | .guest _, .fin, h => by have q := congrArg List.length h; simp [nk] at q
  | .guest _, .line _ _, h => by have q := congrArg List.length h; simp [nk] at q
  | .line _ _, .start, h => by have q := congrArg List.length h; simp [nk] at q
  | .line _ _, .fin, h => by have q := congrArg List.length h; simp [nk] at q
  | .line _ _, .guest _, h => by have q := congrArg List.length h; simp [nk] at q
theorem ZqA {a b : Nd} : nk a = nk b ↔ a = b := ⟨Zfw, fun h => by rw [h]⟩
noncomputable def ZpC : Option Nat -> PyData
  | none => .none
  | some e => .int (e : Int)
noncomputable def kvG (es : Got Nd) : ZeU := es.map fun x => (nk x.1, ZpC x.2)
theorem ZgF (n : Nd) : ∀ es : Got Nd, ZhY (kvG es) (nk n) = (ZgZ es n).map ZpC
  | [] => rfl
  | (k, v) :: es => by
    have ih := ZgF n es
    unfold ZgZ at ih ⊢
    rw [List.lookup_cons]
    unfold kvG ZhY at ih ⊢
    rw [List.map_cons, List.find?_cons]
    by_cases e : k = n
    · subst e
      simp
    · have e1 : ¬ nk k = nk n := fun z => e (Zfw z)
      have e2 : (n == k) = false := by rw [beq_eq_false_iff_ne]; exact fun z => e z.symm
      rw [e2]
      simp only [e1, decide_false]
      exact ih
theorem ZiE {es : Got Nd} {n : Nd} : (es.lookup n).isSome = decide (n ∈ Za3 es) := by
  induction es with
  | nil => rfl
  | cons p es ih =>
    obtain ⟨k, v⟩ := p
    rw [List.lookup_cons]
    by_cases e : n = k
    · subst e
      simp [Za3]
    · have e2 : (n == k) = false := by rw [beq_eq_false_iff_ne]; exact e
      rw [e2]
      have : decide (n ∈ Za3 ((k, v) :: es)) = decide (n ∈ Za3 es) := by
        apply decide_eq_decide.mpr
        unfold Za3
        rw [List.map_cons, List.mem_cons]
        exact ⟨fun z => z.resolve_left e, .inr⟩
      rw [this]
      exact ih
theorem Zhn (n : Nd) (es : Got Nd) : (ZhY (kvG es) (nk n)).isSome = decide (n ∈ Za3 es) := by
  rw [ZgF, Option.isSome_map]
  exact ZiE
theorem ZmV (es : Got Nd) : Zlh (kvG es) := fun x hx => by
  obtain ⟨y, _, rfl⟩ := List.mem_map.mp hx
  cases h : y.2 with
  | none => exact ⟨.non, by simp [h, ZpC, Zd8]⟩
  | some e => exact ⟨.int (e : Int), by simp [h, ZpC, Zd8]⟩
theorem ZmX {es : Got Nd} {n : Nd} {e : Nat} (h : n ∉ Za3 es) : ZpD (kvG es) (nk n) (.int (e : Int)) = kvG (es ++ [(n, some e)]) := by
  unfold ZpD
  have : ¬ ((kvG es).any fun kv => decide (kv.1 = nk n)) = true := fun z => by
    obtain ⟨x, hx, hz⟩ := List.any_eq_true.mp z
    obtain ⟨y, hy, rfl⟩ := List.mem_map.mp hx
    have q : y.1 = n := Zfw (of_decide_eq_true hz)
    exact h (by rw [<- q]; exact List.mem_map.mpr ⟨y, hy, rfl⟩)
  rw [if_neg this]
  unfold kvG
  rw [List.map_append]
  rfl
structure NetR (N : NetS) (L : Lay Nd) (φ : Phi Nd) : Prop where
  ends : N.ends = (ZfH L).map nk
  rooms : N.rooms = Zcb L φ
  leav : ∀ (n : Nd) (e : Int), e ∈ (Zbq N.leav (nk n)).getD [] ↔ ∃ j : Nat, e = (j : Int) /\ tlE L j = some n
  laid : ∀ (i : Nat) (x : Nd × Nd × Int), L[i]? = some x -> ZeB N.laid (nk x.1, nk x.2.1) = some ((2 * i : Nat) : Int)
  laid0 : ∀ p q : Nd, (p, q) ∉ L.map (fun x => (x.1, x.2.1)) -> ZeB N.laid (nk p, nk q) = none
  l1 : N.leav.length <= 2 * L.length
  l2 : N.laid.length <= L.length
  l3 : ∀ k ns, Zbq N.leav k = some ns -> ns.length <= 2 * L.length
theorem Zr0 (φ : Phi Nd) : NetR ⟨[], [], [], []⟩ [] φ where
  ends := rfl
  rooms := rfl
  leav n e := by
    constructor
    · intro h; simp [Zbq] at h
    · rintro ⟨j, _, h⟩; simp [tlE] at h
  laid i x h := by simp at h
  laid0 p q _ := rfl
  l1 := Nat.zero_le _
  l2 := Nat.zero_le _
  l3 k ns h := by simp [Zbq] at h
theorem ZbI {k k' : List Key} {ns : List Int} {ls : List (List Key × List Int)} : Zbq ((k', ns) :: ls) k = if k' = k then some ns else Zbq ls k := by
  by_cases e : k' = k
  · simp [Zbq, List.find?_cons, e]
  · simp [Zbq, List.find?_cons, e]
theorem ZiY (k k' : List Key) (x : Int) : ∀ ls : List (List Key × List Int), Zbq (Zha ls k x) k' = if k' = k then (Zbq ls k).map (· ++ [x]) else Zbq ls k'
  | [] => by
    unfold Zha
    by_cases e : k' = k
    · rw [if_pos e]; simp [Zbq]
    · rw [if_neg e]
  | (j, ns) :: ls => by
    unfold Zha
    have ih := ZiY k k' x ls
    by_cases e : j = k
    · rw [if_pos e, ZbI, ZbI, ZbI, if_pos e]
      by_cases e2 : k' = k
      · rw [if_pos e2, if_pos (e.trans e2.symm)]; rfl
      · rw [if_neg e2, if_neg (fun z => e2 (z.symm.trans e)), if_neg (fun z => e2 (z.symm.trans e))]
    · rw [if_neg e, ZbI, ZbI, ZbI, if_neg e, ih]
      by_cases e2 : k' = k
      · rw [if_pos e2, if_neg (fun z => e (z.trans e2)), if_pos e2]
      · rw [if_neg e2, if_neg e2]
theorem ZeV (k : List Key) (x : Int) : ∀ ls : List (List Key × List Int), (Zha ls k x).length = ls.length
  | [] => rfl
  | (j, ns) :: ls => by
    unfold Zha
    split
    · simp
    · simp [ZeV k x ls]
theorem Zgc (k k' : List Key) : ∀ ls : List (List Key × List Int), Zbq ls k = none -> Zbq (ls ++ [(k, [])]) k' = if k' = k then some [] else Zbq ls k'
  | [], _ => by
    rw [List.nil_append, ZbI]
    by_cases e : k' = k
    · rw [if_pos e, if_pos e.symm]
    · rw [if_neg e, if_neg (fun z => e z.symm)]
  | (j, ns) :: ls, h => by
    rw [ZbI] at h
    by_cases e : j = k
    · rw [if_pos e] at h; cases h
    · rw [if_neg e] at h
      rw [List.cons_append, ZbI, ZbI, Zgc k k' ls h]
      by_cases e2 : k' = k
      · rw [if_pos e2, if_neg (fun z => e (z.trans e2)), if_pos e2]
      · rw [if_neg e2, if_neg e2]
theorem Zgw (ls : List (List Key × List Int)) (k k' : List Key) : Zbq (Zhh ls k) k' = if k' = k then some ((Zbq ls k).getD []) else Zbq ls k' := by
  unfold Zhh
  cases h : Zbq ls k with
  | some ns =>
    rw [if_pos (by rfl)]
    by_cases e : k' = k
    · rw [if_pos e, e, h]; rfl
    · rw [if_neg e]
  | none =>
    rw [if_neg (by simp), Zgc k k' ls h]
    rfl
theorem Zi6 (ls : List (List Key × List Int)) (k : List Key) : (Zhh ls k).length <= ls.length + 1 := by
  unfold Zhh
  split
  · omega
  · simp
noncomputable def ZpF (N : NetS) (s e : List Key) (r : Int) : NetS := { N with ends := N.ends ++ [e], rooms := N.rooms ++ [r], leav := Zha (Zhh N.leav s) s (N.ends.length : Int) }
noncomputable def Zox (N : NetS) (s e : List Key) (r : Int) : NetS := ZpF (ZpF { N with laid := ZjM N.laid (s, e) (N.ends.length : Int) } s e r) e s 0
theorem Zdi (N : NetS) (s e : List Key) (r : Int) (k : List Key) : Zbq (ZpF N s e r).leav k = if k = s then some ((Zbq N.leav s).getD [] ++ [(N.ends.length : Int)]) else Zbq N.leav k := by
  show Zbq (Zha (Zhh N.leav s) s _) k = _
  rw [ZiY, Zgw, if_pos rfl, Zgw]
  by_cases e : k = s
  · rw [if_pos e, if_pos e]; rfl
  · rw [if_neg e, if_neg e, if_neg e]
theorem ZbH {k k' : KK} {n : Int} {ls : List (KK × Int)} : ZeB ((k', n) :: ls) k = if k' = k then some n else ZeB ls k := by
  by_cases e : k' = k
  · simp [ZeB, List.find?_cons, e]
  · simp [ZeB, List.find?_cons, e]
theorem ZiT (k k' : KK) (n : Int) : ∀ ls : List (KK × Int), ZeB (ls.map fun x => if x.1 = k then (x.1, n) else x) k' = if k' = k then (ZeB ls k).map fun _ => n else ZeB ls k'
  | [] => by
    by_cases e : k' = k
    · rw [if_pos e]; rfl
    · rw [if_neg e]; rfl
  | (j, m) :: ls => by
    rw [List.map_cons]
    have ih := ZiT k k' n ls
    by_cases e : j = k
    · simp only [e, if_true]
      rw [ZbH, ZbH, ZbH, ih]
      by_cases e2 : k' = k
      · simp [e2]
      · have : ¬ k = k' := fun z => e2 z.symm
        simp [e2, this]
    · simp only [e, if_false]
      rw [ZbH, ZbH, ZbH, ih]
      by_cases e2 : k' = k
      · simp [e2, e]
      · simp [e2]
theorem Zh0 (k k' : KK) (n : Int) : ∀ ls : List (KK × Int), ZeB ls k = none -> ZeB (ls ++ [(k, n)]) k' = if k' = k then some n else ZeB ls k'
  | [], _ => by
    rw [List.nil_append, ZbH]
    by_cases e : k' = k
    · rw [if_pos e, if_pos e.symm]
    · rw [if_neg e, if_neg (fun z => e z.symm)]
  | (j, m) :: ls, h => by
    rw [ZbH] at h
    by_cases e : j = k
    · rw [if_pos e] at h; cases h
    · rw [if_neg e] at h
      rw [List.cons_append, ZbH, ZbH, Zh0 k k' n ls h]
      by_cases e2 : k' = k
      · rw [if_pos e2, if_neg (fun z => e (z.trans e2)), if_pos e2]
      · rw [if_neg e2, if_neg e2]
theorem ZiK (ls : List (KK × Int)) (k k' : KK) (n : Int) : ZeB (ZjM ls k n) k' = if k' = k then some n else ZeB ls k' := by
  unfold ZjM
  cases h : ZeB ls k with
  | some m => rw [if_pos (by rfl), ZiT, h]; rfl
  | none => rw [if_neg (by simp), Zh0 k k' n ls h]
theorem Zm9 (ls : List (KK × Int)) (k : KK) (n : Int) : (ZjM ls k n).length <= ls.length + 1 := by
  unfold ZjM
  split
  · simp
  · simp
theorem ZgW {ν : Type} [DecidableEq ν] (L : Lay ν) : (ZfH L).length = 2 * L.length := by
  unfold ZfH
  induction L with
  | nil => rfl
  | cons x L ih => rw [List.flatMap_cons, List.length_append, ih, List.length_cons]; simp; omega
theorem NetR.elen {N : NetS} {L : Lay Nd} {φ : Phi Nd} (h : NetR N L φ) : N.ends.length = 2 * L.length := by rw [h.ends, List.length_map, ZgW]
theorem Zey {ν : Type} [DecidableEq ν] (L : Lay ν) (φ : Phi ν) : (Zcb L φ).length = 2 * L.length := by
  unfold Zcb
  induction L with
  | nil => rfl
  | cons x L ih => rw [List.flatMap_cons, List.length_append, ih, List.length_cons]; simp; omega
theorem ZeW {L : Lay Nd} {x : Nd × Nd × Int} {j : Nat} {n : Nd} : tlE (L ++ [x]) j = some n ↔ tlE L j = some n \/ (j = 2 * L.length /\ n = x.1) \/ (j = 2 * L.length + 1 /\ n = x.2.1) := by
  unfold tlE
  by_cases h : j / 2 < L.length
  · rw [List.getElem?_append_left h]
    constructor
    · exact .inl
    · rintro (z | ⟨z, _⟩ | ⟨z, _⟩)
      · exact z
      · omega
      · omega
  · rw [List.getElem?_append_right (by omega), List.getElem?_eq_none_iff.mpr (show L.length <= j / 2 by omega)]
    by_cases h2 : j / 2 = L.length
    · rw [h2, Nat.sub_self]
      simp only [List.getElem?_cons_zero, Option.map_some, Option.map_none, Option.some.injEq]
      by_cases p : j % 2 = 0
      · rw [if_pos p]
        constructor
        · intro z; exact .inr (.inl ⟨by omega, z.symm⟩)
        · rintro (z | ⟨_, z⟩ | ⟨z, _⟩)
          · cases z
          · exact z.symm
          · omega
      · rw [if_neg p]
        constructor
        · intro z; exact .inr (.inr ⟨by omega, z.symm⟩)
        · rintro (z | ⟨z, _⟩ | ⟨_, z⟩)
          · cases z
          · omega
          · exact z.symm
    · have : ([x] : Lay Nd)[j / 2 - L.length]? = none := List.getElem?_eq_none_iff.mpr (by simp; omega)
      rw [this]
      constructor
      · intro z; cases z
      · rintro (z | ⟨z, _⟩ | ⟨z, _⟩)
        · cases z
        · omega
        · omega
theorem Zni {N : NetS} {L : Lay Nd} {φ : Phi Nd} (h : NetR N L φ) {s e : Nd} {r : Int} (h0 : φ s e = 0) (new : (s, e) ∉ L.map (fun x => (x.1, x.2.1))) : NetR (Zox N (nk s) (nk e) r) (L ++ [(s, e, r)]) φ where
  ends := by
    show (N.ends ++ [nk e]) ++ [nk s] = _
    unfold ZfH
    rw [List.flatMap_append, List.map_append, h.ends]
    simp [ZfH]
  rooms := by
    show (N.rooms ++ [r]) ++ [0] = _
    unfold Zcb
    rw [List.flatMap_append, h.rooms]
    simp [Zcb, h0]
  leav n e' := by
    have le := h.elen
    have l1 : (ZpF { N with laid := ZjM N.laid (nk s, nk e) (N.ends.length : Int) } (nk s) (nk e) r).ends.length = 2 * L.length + 1 := by
      show (N.ends ++ [nk e]).length = _
      rw [List.length_append, le]
      rfl
    have q : (Zbq (Zox N (nk s) (nk e) r).leav (nk n)).getD [] = ((Zbq N.leav (nk n)).getD [] ++ (if n = s then [((2 * L.length : Nat) : Int)] else [])) ++ (if n = e then [((2 * L.length + 1 : Nat) : Int)] else []) := by
      unfold Zox
      rw [Zdi, l1, Zdi, Zdi]
      show Option.getD (if nk n = nk e then some ((if nk e = nk s then some ((Zbq N.leav (nk s)).getD [] ++ [(N.ends.length : Int)]) else Zbq N.leav (nk e)).getD [] ++ [((2 * L.length + 1 : Nat) : Int)]) else if nk n = nk s then some ((Zbq N.leav (nk s)).getD [] ++ [(N.ends.length : Int)]) else Zbq N.leav (nk n)) [] = _
      rw [le]
      simp only [ZqA]
      by_cases e1 : n = e
      · subst e1
        by_cases e2 : n = s
        · subst e2; simp
        · simp [e2]
      · by_cases e2 : n = s
        · subst e2; simp [e1]
        · simp [e1, e2]
    rw [q, List.mem_append, List.mem_append, h.leav n e']
    constructor
    · rintro ((⟨j, rfl, hj⟩ | z) | z)
      · exact ⟨j, rfl, ZeW.mpr (.inl hj)⟩
      · by_cases e2 : n = s
        · rw [if_pos e2] at z
          exact ⟨2 * L.length, List.mem_singleton.mp z, ZeW.mpr (.inr (.inl ⟨rfl, e2⟩))⟩
        · rw [if_neg e2] at z; cases z
      · by_cases e2 : n = e
        · rw [if_pos e2] at z
          exact ⟨2 * L.length + 1, List.mem_singleton.mp z, ZeW.mpr (.inr (.inr ⟨rfl, e2⟩))⟩
        · rw [if_neg e2] at z; cases z
    · rintro ⟨j, rfl, hj⟩
      rcases ZeW.mp hj with z | ⟨rfl, z⟩ | ⟨rfl, z⟩
      · exact .inl (.inl ⟨j, rfl, z⟩)
      · exact .inl (.inr (by rw [if_pos z]; exact List.mem_singleton.mpr rfl))
      · exact .inr (by rw [if_pos z]; exact List.mem_singleton.mpr rfl)
  laid i x hx := by
    show ZeB (ZjM N.laid (nk s, nk e) (N.ends.length : Int)) (nk x.1, nk x.2.1) = _
    rw [ZiK, h.elen]
    by_cases hi : i < L.length
    · rw [List.getElem?_append_left hi] at hx
      have ne : ¬ (nk x.1, nk x.2.1) = (nk s, nk e) := fun z => new (by
        injection z with z1 z2
        exact List.mem_map.mpr ⟨x, List.mem_of_getElem? hx, by rw [Zfw z1, Zfw z2]⟩)
      rw [if_neg ne]
      exact h.laid i x hx
    · rw [List.getElem?_append_right (by omega)] at hx
      have hi2 : i = L.length := by
        have := (List.getElem?_eq_some_iff.mp hx).1
        simp at this
        omega
      subst hi2
      rw [Nat.sub_self] at hx
      cases hx
      rw [if_pos rfl]
  laid0 p q hn := by
    show ZeB (ZjM N.laid (nk s, nk e) (N.ends.length : Int)) (nk p, nk q) = _
    rw [List.map_append, List.mem_append, not_or] at hn
    rw [ZiK, if_neg (fun z => ?_)]
    · exact h.laid0 p q hn.1
    · injection z with z1 z2
      exact hn.2 (by rw [Zfw z1, Zfw z2]; simp)
  l1 := by
    have a := h.l1
    have b : (Zox N (nk s) (nk e) r).leav.length <= N.leav.length + 2 := by
      unfold Zox
      show (Zha (Zhh (Zha (Zhh N.leav (nk s)) (nk s) _) (nk e)) (nk e) _).length <= _
      rw [ZeV]
      refine Nat.le_trans (Zi6 _ _) ?_
      rw [ZeV]
      have := Zi6 N.leav (nk s)
      omega
    rw [List.length_append]
    simp
    omega
  l2 := by
    have a := h.l2
    have b : (Zox N (nk s) (nk e) r).laid.length <= N.laid.length + 1 := Zm9 _ _ _
    rw [List.length_append]
    simp
    omega
  l3 k ns hk := by
    have g : ∀ k', ((Zbq N.leav k').getD []).length <= 2 * L.length := fun k' => by
      cases z : Zbq N.leav k' with
      | none => exact Nat.zero_le _
      | some m => exact h.l3 k' m z
    have g1 : ∀ k', ((Zbq (ZpF { N with laid := ZjM N.laid (nk s, nk e) (N.ends.length : Int) } (nk s) (nk e) r).leav k').getD []).length <= 2 * L.length + 1 := fun k' => by
      rw [Zdi]
      by_cases z : k' = nk s
      · rw [if_pos z]
        have := g (nk s)
        simpa using this
      · rw [if_neg z]
        have := g k'
        show ((Zbq N.leav k').getD []).length <= _
        omega
    unfold Zox at hk
    rw [Zdi] at hk
    rw [List.length_append]
    by_cases z : k = nk e
    · rw [if_pos z] at hk
      cases hk
      have := g1 (nk e)
      simp at this ⊢
      omega
    · rw [if_neg z] at hk
      have := g1 k
      rw [hk] at this
      simp at this ⊢
      omega
theorem Zkl {L : Lay Nd} (hd : Dis L) {φ : Phi Nd} {a r r' : Int} {e : Nat} (h1 : (Zcb L φ)[e]? = some r) (h2 : (Zcb L φ)[Zeb e]? = some r') : Zcb L (ZdI L a φ e) = ((Zcb L φ).set e (r - a)).set (Zeb e) (r' + a) := by
  have me : Zeb e ≠ e := by unfold Zeb; split <;> omega
  have mh : Zeb e / 2 = e / 2 := by unfold Zeb; split <;> omega
  rw [ZdG] at h1 h2
  have h1' := h1
  unfold rmE at h1 h2
  rw [mh] at h2
  cases ex : L[e / 2]? with
  | none => rw [ex] at h1; cases h1
  | some x =>
    rw [ex] at h1 h2
    simp only [Option.map_some, Option.some.injEq] at h1 h2
    have hp : ZdI L a φ e = ZgV φ x.1 x.2.1 (if e % 2 = 0 then a else -a) := by unfold ZdI; rw [ex]
    have bx : ZgV φ x.1 x.2.1 (if e % 2 = 0 then a else -a) x.1 x.2.1 = φ x.1 x.2.1 + (if e % 2 = 0 then a else -a) := by unfold ZgV; rw [if_pos ⟨rfl, rfl⟩]
    have le : e / 2 < L.length := (List.getElem?_eq_some_iff.mp ex).1
    have lr := Zey L φ
    have le2 : e < (Zcb L φ).length := by omega
    have lm : Zeb e < (Zcb L φ).length := by omega
    refine List.ext_getElem? fun i => ?_
    rw [ZdG, List.getElem?_set, List.getElem?_set, ZdG, hp]
    by_cases im : Zeb e = i
    · subst im
      rw [if_pos rfl, if_pos (show Zeb e < ((Zcb L φ).set e (r - a)).length by simpa using lm)]
      unfold rmE
      rw [mh, ex]
      simp only [Option.map_some, Option.some.injEq]
      rw [bx]
      have pm : (Zeb e % 2 = 0) = ¬ (e % 2 = 0) := by
        apply propext
        unfold Zeb
        split <;> omega
      by_cases p : e % 2 = 0
      · have p2 : ¬ Zeb e % 2 = 0 := by rw [pm]; exact fun z => z p
        rw [if_neg p2] at h2 ⊢
        rw [if_pos p]
        omega
      · have p2 : Zeb e % 2 = 0 := by rw [pm]; exact p
        rw [if_pos p2] at h2 ⊢
        rw [if_neg p]
        omega
    · rw [if_neg im]
      by_cases ie : e = i
      · subst ie
        rw [if_pos rfl, if_pos le2]
        unfold rmE
        rw [ex]
        simp only [Option.map_some, Option.some.injEq]
        rw [bx]
        by_cases p : e % 2 = 0
        · rw [if_pos p] at h1 ⊢
          rw [if_pos p]
          omega
        · rw [if_neg p] at h1 ⊢
          rw [if_neg p]
          omega
      · rw [if_neg ie]
        unfold rmE
        cases ey : L[i / 2]? with
        | none => rfl
        | some y =>
          have ne : ¬ (y.1 = x.1 /\ y.2.1 = x.2.1) := fun ⟨z1, z2⟩ => by
            have q := Zii hd ey ex z1 z2
            unfold Zeb at im
            split at im <;> omega
          have by' : ZgV φ x.1 x.2.1 (if e % 2 = 0 then a else -a) y.1 y.2.1 = φ y.1 y.2.1 := by unfold ZgV; rw [if_neg ne]
          simp only [Option.map_some, by']
noncomputable def ZoU (L : Lay Nd) (φ : Phi Nd) (es : Got Nd) (U : List Nd) : Prop := ∀ e m n r, tlE L e = some m -> hdE L e = some n -> rmE L φ e = some r -> 0 < r -> m ∈ Za3 es -> m ∉ U -> n ∈ Za3 es
theorem ZoU.closed {L : Lay Nd} {φ : Phi Nd} {es : Got Nd} (h : ZoU L φ es []) : ZcB L φ es := fun e m n r h1 h2 h3 h4 h5 => h e m n r h1 h2 h3 h4 h5 (fun z => nomatch z)
theorem ZbV {es : Got Nd} {x : Nd × Option Nat} {n : Nd} : n ∈ Za3 (es ++ [x]) ↔ n ∈ Za3 es \/ n = x.1 := by
  unfold Za3
  rw [List.map_append, List.mem_append]
  simp
theorem ZoU.add {L : Lay Nd} {φ : Phi Nd} {es : Got Nd} {U V : List Nd} (h : ZoU L φ es (U ++ V)) (n : Nd) (o : Option Nat) : ZoU L φ (es ++ [(n, o)]) (U ++ (V ++ [n])) := fun e m k r h1 h2 h3 h4 h5 h6 => by
  rw [<- List.append_assoc, List.mem_append, not_or] at h6
  have ne : m ≠ n := fun z => h6.2 (by simp [z])
  rcases ZbV.mp h5 with z | z
  · exact ZbV.mpr (.inl (h e m k r h1 h2 h3 h4 z h6.1))
  · exact absurd z ne
theorem Tree.inClosed {L : Lay Nd} {φ : Phi Nd} {s : Nd} {fs : Got Nd} (hc : ZcB L φ fs) (hs : s ∈ Za3 fs) : ∀ {es : Got Nd}, Tree L φ s es -> ∀ n ∈ Za3 es, n ∈ Za3 fs
  | _, .root, n, hn => by
    have e : n = s := by simpa [Za3] using hn
    rw [e]; exact hs
  | _, .add t hn hh ht hm hr h0, n, hx => by
    rcases ZbV.mp hx with z | z
    · exact t.inClosed hc hs n z
    · rw [z]
      exact hc _ _ _ _ ht hh hr h0 (t.inClosed hc hs _ hm)
end Mir
end
section
namespace My
open PySem L2 Mir
local macro_rules | `(tactic| walk_at "d") => `(tactic| dsimp only [List.set])
local macro_rules | `(tactic| walk_at "e") => `(tactic| dsimp only [List.set, ZhG, List.map, ZdK])
local macro_rules | `(tactic| walk_at "x") => `(tactic| try dsimp only [Zqc, ZmR])
local macro_rules | `(tactic| walk_at "p") => `(tactic| exact ⟨rfl, rfl, rfl, by decide +kernel, rfl, by decide +kernel, by decide +kernel⟩)
local macro_rules | `(tactic| walk_at "j") => `(tactic| first | decide | omega)
noncomputable def top (i : Nat) : Stmt := PySem.Challenge.pw_chargeyard_k90_whole_lack_of_all_sets.main.body.getD i (.Pass ⟨0, 0, 0, 0⟩)
noncomputable abbrev Zcu : Stmt := top 1
noncomputable abbrev Zb0 : Stmt := top 2
noncomputable abbrev Zcy : Stmt := top 3
noncomputable abbrev Zcv : Stmt := top 4
noncomputable abbrev ZcO : Stmt := top 5
noncomputable abbrev Zcw : Stmt := top 6
noncomputable abbrev ZcI : Stmt := top 7
noncomputable abbrev ZcM : Stmt := top 8
noncomputable abbrev ZaQ : Stmt := top 9
noncomputable abbrev Zb4 : Stmt := top 11
noncomputable abbrev ZbO : Stmt := top 12
noncomputable abbrev ZaC : Stmt := top 13
noncomputable abbrev ZbR : Stmt := top 14
noncomputable abbrev ZaP : Stmt := top 15
noncomputable abbrev ZaI : Stmt := top 16
noncomputable abbrev ZaJ : Stmt := top 17
noncomputable abbrev Zcs : Stmt := top 18
noncomputable abbrev Zby : Stmt := top 23
noncomputable abbrev ZbM : Stmt := top 24
noncomputable abbrev ZbN : Stmt := top 25
noncomputable abbrev Zcp : Stmt := top 26
noncomputable abbrev Zb2 : Stmt := top 27
noncomputable abbrev ZbT : Stmt := top 28
noncomputable abbrev Za5 : Stmt := top 29
noncomputable abbrev ZaD : Stmt := top 30
noncomputable abbrev Zb6 : Stmt := top 32
noncomputable abbrev ZaY : Stmt := top 33
noncomputable abbrev Zbl : Stmt := top 34
noncomputable abbrev Zba : Stmt := top 36
noncomputable abbrev Zb7 : Stmt := top 37
noncomputable abbrev Zbi : Stmt := top 38
noncomputable abbrev Zbn : Stmt := top 39
noncomputable abbrev ZbL : Stmt := top 40
noncomputable abbrev Zbo : Stmt := top 41
noncomputable abbrev Zbg : Stmt := top 42
noncomputable abbrev Zbz : Stmt := top 43
noncomputable abbrev Za8 : Stmt := top 44
noncomputable abbrev ZeG : Stmt := top 45
noncomputable abbrev Zbr : Stmt := ZdA (top 22) 0
noncomputable abbrev ZcK : Stmt := ZdA (top 22) 1
noncomputable abbrev Zbj : Stmt := ZdA (top 22) 2
noncomputable abbrev Zcq : Stmt := ZdA (top 22) 3
noncomputable abbrev Zbk : Stmt := ZdA (top 22) 4
noncomputable abbrev ZbQ : Stmt := ZdA (top 22) 5
noncomputable abbrev Zcr : Stmt := ZdA (top 22) 6
noncomputable abbrev Zb1 : Stmt := ZdA (top 22) 7
structure Bl (mg : Str -> Option Value) : Prop where
  abs : mg "abs" = none
  len : mg "len" = none
  max : mg "max" = none
  min : mg "min" = none
  sum : mg "sum" = none
  any : mg "any" = none
  all : mg "all" = none
  isi : mg "isinstance" = none
  int : mg "int" = none
  bool : mg "bool" = none
  list : mg "list" = none
  tuple : mg "tuple" = none
  range : mg "range" = none
  zip : mg "zip" = none
  enumerate : mg "enumerate" = none
structure Tx (K : PySem.W.Frag) (mg : Str -> Option Value) (C gS gE : Addr) : Prop where
  net : NetC K C
  mSTART : mg "START" = some (.ref gS)
  mEND : mg "END" = some (.ref gE)
  aS : PySem.W.nsIn K mainGlobals "START" = some (some (.ref gS))
  aE : PySem.W.nsIn K mainGlobals "END" = some (some (.ref gE))
noncomputable def upD : Option Nat -> PyData
  | none => .none
  | some a => .int (a : Int)
noncomputable def eLn (l : Ln) : PyData := .tuple [upD l.up, .tuple (l.bs.map PyData.int)]
noncomputable def eYd (y : Yd) : PyData := .tuple [.int (y.T : Int), .tuple (y.ls.map eLn)]
noncomputable def Zdr (l : List Nat) : List PyData := l.map fun (j : Nat) => PyData.int (j : Int)
theorem mdl {j : Int} (h : 0 < j) : 0 < j := h
theorem cdl {i j : Int} (h1 : 0 < j) (h2 : j <= 10 ^ 60) : ZkK i j := ⟨h1, Int.lt_of_le_of_lt h2 (by decide +kernel)⟩
theorem Zks {a b : Int} (h0 : 0 <= a) (h1 : a < 10 ^ 300) (h2 : 0 <= b) (h3 : b < 10 ^ 300) : IntMulOk a b := Zqo (m := 1000) (n := 1000) h0 (Int.lt_trans h1 (by decide +kernel)) h2 (Int.lt_trans h3 (by decide +kernel)) (by decide)
theorem z60 : (10 : Int) ^ 60 = 1000000000000000000000000000000000000000000000000000000000000 := by decide +kernel
theorem Zso {i j : Int} (h1 : 0 < j) (h2 : j <= 1000000000000000000000000000000000000000000000000000000000000) : ZkK i j := cdl h1 (by rw [z60]; exact h2)
theorem Zkr {α : Type} [Inhabited α] {f : α -> PyData} {xs : List α} {k : Int} (h0 : 0 <= k) (h1 : k < (xs.length : Int)) : atI (xs.map f) k = some (f (xs.getD k.toNat default)) := by
  have h : k.toNat < xs.length := by omega
  have e : (xs.map f)[k.toNat]? = some (f (xs.getD k.toNat default)) := by simp [h]
  have e2 := Zc8 e
  rwa [Int.toNat_of_nonneg h0] at e2
theorem Zn2 {xs : List Int} {k : Int} (h0 : 0 <= k) (h1 : k < (xs.length : Int)) : atI (xs.map PyData.int) k = some (.int (xs.getD k.toNat 0)) := by
  have h : k.toNat < xs.length := by omega
  have e : (xs.map PyData.int)[k.toNat]? = some (.int (xs.getD k.toNat 0)) := by simp [h]
  have e2 := Zc8 e
  rwa [Int.toNat_of_nonneg h0] at e2
theorem ZrB {xs : List Int} {k : Int} (h0 : 0 <= k) (h1 : k < (xs.length : Int)) : atI xs k = some (xs.getD k.toNat 0) := by
  have h : k.toNat < xs.length := by omega
  have e : xs[k.toNat]? = some (xs.getD k.toNat 0) := by simp [h]
  have e2 := Zc8 e
  rwa [Int.toNat_of_nonneg h0] at e2
theorem Ziu {f : Nat -> PyData} {n : Nat} {k : Int} (h0 : 0 <= k) (h1 : k < (n : Int)) : atI ((List.range n).map f) k = some (f k.toNat) := by
  have h : k.toNat < n := by omega
  have e : ((List.range n).map f)[k.toNat]? = some (f k.toNat) := by simp [h]
  have e2 := Zc8 e
  rwa [Int.toNat_of_nonneg h0] at e2
theorem Zok {n : Nat} {k : Int} (h0 : 0 <= k) (h1 : k < (n : Int)) : ixN n k = some k.toNat := by
  unfold ixN; rw [if_pos h0, if_pos h1]
theorem ZhS {α β : Type} (xs : List α) (c : β) : xs.map (fun _ => c) = (List.range xs.length).map fun _ => c := by
  apply List.ext_getElem?
  intro i
  by_cases h : i < xs.length
  · simp [h]
  · simp [h]
instance : Inhabited Ln := ⟨⟨none, []⟩⟩
structure ScrOk (ns : List Int) : Prop where
  len : ns.length <= 63
  bits : ∀ i ∈ ns, Builtin.Int.intBits i <= 2 ^ 20
noncomputable def eGs (g : Gs) : PyData := .tuple [.int (g.line : Int), .int (g.first : Int), .int (g.last : Int), .int g.want, .int g.most]
instance : Inhabited Gs := ⟨⟨0, 0, 0, 1, 1⟩⟩
theorem Zhq {ds : List PyData} {m : Nat} (h : ∀ d ∈ ds, d.canLay0 = true /\ d.depth <= m) : PyData.canLayAll0 ds = true /\ PyData.depthAll ds <= m := by
  induction ds with
  | nil => exact ⟨rfl, Nat.zero_le _⟩
  | cons d ds ih =>
    obtain ⟨a, b⟩ := h d List.mem_cons_self
    obtain ⟨c, e⟩ := ih fun x hx => h x (List.mem_cons_of_mem _ hx)
    refine ⟨by rw [PyData.canLayAll0, a, c]; rfl, ?_⟩
    rw [PyData.depthAll]
    omega
noncomputable def Zhs (m : Nat) (d : PyData) : Prop := d.canLay0 = true /\ d.depth <= m
theorem Zhs.fine {m : Nat} {d : PyData} (h : Zhs m d) (hm : m <= 60) : Zo2 d := ⟨h.1, Nat.le_trans h.2 hm⟩
theorem ZoL {ds : List PyData} {m : Nat} (h : ∀ d ∈ ds, Zhs m d) : Zhs (m + 1) (.list ds) := by
  obtain ⟨a, b⟩ := Zhq h
  refine ⟨by rw [PyData.canLay0]; exact a, ?_⟩
  rw [PyData.depth]
  omega
theorem Zqe (i : Int) (m : Nat) : Zhs m (.int i) := ⟨rfl, Nat.zero_le _⟩
theorem Zqh {α : Type} {f : α -> PyData} {xs : List α} {m : Nat} (h : ∀ x, Zhs m (f x)) : ∀ d ∈ xs.map f, Zhs m d := fun d hd => by
  obtain ⟨x, _, rfl⟩ := List.mem_map.mp hd
  exact h x
theorem ZoH (l : List Nat) : Zhs 1 (.list (Zdr l)) := ZoL (Zqh fun j => Zqe _ 0)
theorem Zh1 (l : List Nat) : Zo2 (.list (Zdr l)) := (ZoH l).fine (by decide)
theorem Zms (l : List Nat) : Zdr l = (l.map fun (j : Nat) => (j : Int)).map PyData.int := by
  unfold Zdr
  rw [List.map_map]
  rfl
theorem Zm3 {a : Nat} {l : List Nat} : ((a : Int) ∈ l.map fun (j : Nat) => (j : Int)) ↔ a ∈ l := by
  constructor
  · intro h
    obtain ⟨j, hj, e⟩ := List.mem_map.mp h
    have : j = a := by omega
    subst this
    exact hj
  · intro h
    exact List.mem_map.mpr ⟨a, h, rfl⟩
theorem Zn6 {K : PySem.W.Frag} {ρ : Zbd} {ta tb : TE} {a : Nat} {l : List Nat} (ha : EvE K ta ρ (.int (a : Int))) (hb : EvE K tb ρ (.list (Zdr l))) : EvE K (tOp (rIn K false) ta tb) ρ (.bool (decide (a ∈ l))) := by
  rw [Zms] at hb
  have := ZpI ha hb
  rwa [decide_eq_decide.mpr Zm3] at this
theorem Zhe (n : Nat) (f : Nat -> PyData) : ZeK ((List.range n).map f) = (List.range n).map fun (i : Nat) => PyData.tuple [.int (i : Int), f i] := by
  apply List.ext_getElem?
  intro i
  unfold ZeK
  rw [List.getElem?_map, List.getElem?_zipIdx]
  by_cases h : i < n
  · simp [h]
  · simp [h]
theorem p10 (n : Nat) : (10 : Int) ^ n = ((10 ^ n : Nat) : Int) := by rw [Int.natCast_pow]; rfl
theorem ZkX (n : Nat) : (0 : Int) < 10 ^ n := by
  rw [p10]
  have : 0 < 10 ^ n := Nat.pow_pos (by decide)
  omega
theorem Zsm {i j : Int} (h0 : 0 <= j) (h1 : j <= 1000) : ZkK i (10 ^ j.toNat) := ⟨ZkX _, by
  have h : (10 : Nat) ^ j.toNat <= 10 ^ 1000 := Nat.pow_le_pow_right (by decide) (by omega)
  have h2 : (10 : Int) ^ j.toNat <= 10 ^ 1000 := by
    rw [p10, p10]
    exact Int.ofNat_le.mpr h
  exact Int.lt_of_le_of_lt h2 (by decide +kernel)⟩
theorem Zsn {j : Int} : 0 < (10 : Int) ^ j.toNat := ZkX _
def Zrq (w : String) : Lean.MacroM (Lean.TSyntax `tactic) := do
  let n := Lean.mkIdent (w.drop 1).toString.toName
  match w.front with
  | '@' => `(tactic| with_reducible apply $n)
  | '!' => `(tactic| with_reducible exact $n)
  | '~' => `(tactic| apply $n)
  | _ => `(tactic| walk_at $(Lean.Syntax.mkStrLit w))
def ZgS (s : String) : Lean.MacroM (Lean.TSyntax `tactic) := do
  let l ← (s.splitOn "|").mapM fun a => do
    match a.splitOn "<" with
    | [x, z] => `(tactic| ($(← Zrq x):tactic <;> $(← Zrq z):tactic))
    | _ =>
      let ts ← (a.splitOn " ").mapM Zrq
      `(tactic| ($[$ts.toArray:tactic];*))
  `(tactic| first $[| $l.toArray:tactic]*)
local macro_rules | `(tactic| walk_at "rfl") => `(tactic| rfl)
local macro_rules | `(tactic| walk_at "hc") => `(tactic| intro hc)
local macro_rules | `(tactic| walk_at "ls") => `(tactic| dsimp only [List.set])
local macro_rules | `(tactic| walk_at "om") => `(tactic| first | lia | omega)
local macro_rules | `(tactic| walk_at "asm") => `(tactic| with_reducible assumption)
local macro_rules | `(tactic| walk_at "ble") => `(tactic| first | with_reducible rfl | decide | exact Nat.le_of_ble_eq_true rfl)
local macro_rules | `(tactic| walk_at "smo") => `(tactic| (focus (simp; (first | done | walk_at "om"))))
local macro_rules | `(tactic| walk_at "dso") => `(tactic| (focus (dsimp only; walk_at "om")))
local macro_rules | `(tactic| walk_at "r4") => `(tactic| (refine ⟨?_, ?_, ?_, ?_⟩ <;> walk_at "r62"))
local macro_rules | `(tactic| walk_at "r62") => `(tactic| (rw [z62]; walk_at "side"))
local macro_rules | `(tactic| walk_at "ss") => `(tactic| repeat walk_at "s1")
local macro_rules | `(tactic| walk_at "call") => `(tactic| (constructor <;> walk_at "side"))
local macro_rules | `(tactic| walk_at "rg") => `(tactic| first | with_reducible rfl | (apply Zbx <;> walk_at "rs") | (apply ZhB <;> walk_at "rs"))
local macro_rules | `(tactic| walk_at "rs") => ZgS "om|smo"
local macro_rules | `(tactic| walk_at "side") => ZgS "om|asm|ble|smo"
local macro_rules | `(tactic| walk_at "arith") => ZgS "om|asm|ble|smo"
local macro_rules | `(tactic| walk_at "ev") => ZgS "@Zac rfl|!ZbU|!Zrt|!ZpR|!Zop|@Zea ev ev|@Zgd ev ev|@ZhJ ev ev cond|@Zsk ev|@ZnL ev ev|@Zlf ev ev|@Zqz ev|@ZdT ev|@ZiH ev ev ev|@ZqD ev hc ev|@ZrF ev|@ZrP rfl ev item|@ZrG rfl ev item|@Zef evd ev item|@Zgg evd ev item|@Zj3 eas side|@Za4 ea call|@Znd ea call|@Zrv ev|@Zrw ev ev|@Zrx ev ev|@ZoN ev|@ZrL ev rfl|@Zr7 rfl|@Zrk rfl|@Zr2 evd|@Zg8 evd|@Zr4 rfl|@Zov ev|@Zn6 ev evd|@Zfy ev rfl|@EvO.fz eo"
local macro_rules | `(tactic| walk_at "evd") => ZgS "~Zac rfl|ev|@EvO.fz eo"
local macro_rules | `(tactic| walk_at "ea") => ZgS "!Zam|@ZrI rfl ea|@Zad ev ea"
local macro_rules | `(tactic| walk_at "eas") => ZgS "~Zce|~ZcX ev eas"
local macro_rules | `(tactic| walk_at "eo") => ZgS "@ZdM eas side|@Zd2 ea call|@Zm2 evd|@Zoa evd evd side"
local macro_rules | `(tactic| walk_at "et") => ZgS "!ZqU|@Zbu ev|@ZlZ ev|@Zqn et hc et|@Zpe et hc et|@ZkN et"
local macro_rules | `(tactic| walk_at "g") => ZgS "!ZbS|!Zjl|@ZcN g g|@Zm1 g rfl|~Zm1 g rfl"
local macro_rules | `(tactic| walk_at "ei") => ZgS "@Zc4 ea r62 r62|@Zlc ea r4|@Zq8 ea r4|@Zhu ea|@Zet ea|@Zd7 evd|@ZpK evd"
local macro_rules | `(tactic| walk_at "s1") => ZgS "@Zas s1|@ZcZ eo ls|@ZcP ev ls|@ZpQ ev g ls|@Zer rfl ev side ls|@Zrg rfl ev ev item ls"
local macro_rules | `(tactic| walk_at "ret") => ZgS "@Zg3 rfl|@ZbX evd|@Zfk eo"
local macro_rules | `(tactic| walk_at "if") => ZgS "@Zas if|@Zdm et"
local macro_rules | `(tactic| walk_at "eir") => ZgS "~EvI.cast ei rg"
local macro_rules | `(tactic| walk_at "item") => ZgS "rfl|asm|@Zn2<arith|@ZrB<arith|@Ziu<arith|@Zok<arith|~Zkr<arith"
local macro_rules | `(tactic| walk_at "cond") => ZgS "asm|@ZrJ<om|@Zso<om|!Zsb|@Zsm<om|!Zsn|@mdl<om|om|dso"
local macro_rules | `(tactic| walk_at "fine") => ZgS "~fine_nats"
section
variable {P : Program} {w : World} {K : PySem.W.Frag} {mg : Str -> Option Value} {base : Heap} {C gS gE : Addr}
inductive R_cell : List OT -> OT -> Prop
  | mk {ns : List Int} {k : Int} (h : 0 <= k) : R_cell [.scr ns, .fz (.int k)] (.fz (.int (ZaS ns k)))
theorem Zf8 : FnScope ["_law_script", "_law_k"] ["_law_script", "_law_k"] (Zab Zba) := by walk_at "p"
theorem Zp9 (T : Bl mg) (D : Df K mg "_law_cell_at" Zba ["_law_script", "_law_k"]) : Cal P w K mg base "_law_cell_at" ["_law_script", "_law_k"] 1 (spO (K := K) R_cell) := by
  refine D.ev Zf8 (fun ts r h => by cases h; rfl) (fun f cdv A outer s H E ts r hr h => ?_)
  cases h with
  | @mk ns k h0 =>
    refine ⟨_, (Zaf (Zcj (ZaL Zpf (pv 1) (Zay Zdu (by rfl) T.len Zdt (Zaa (pv 0) Zae)) (ZbG _)) (Zag (Zav (Za7 Zat (pv 0) (pv 1) (fun _ _ => rfl)))) ZaE)
 (Zag (Zav Zai))), ?_⟩
    show EvS K _ [some _, some _] _
    walk_at "x"
    walk_at "if"
    ·
      intro c
      have c := of_decide_eq_true c
      walk_at "ret"
      rfl
    ·
      intro c
      have c := of_decide_eq_false c
      refine ZaF ?_
      walk_at "ret"
      have e : ZaS ns k = 0 := by
        have : ns.length <= k.toNat := by omega
        simp [ZaS, List.getD, this]
      rw [e]
inductive R_amount : List OT -> OT -> Prop
  | mk {n : Int} (h : 0 <= n) : R_amount [.fz (.int n)] (.fz (.tuple [.int (Zco n).1, .int (Zco n).2]))
theorem Zda : FnScope ["_law_number_here", "_law_way"] ["_law_number_here"] (Zab Zbn) := by walk_at "p"
theorem Zl0 (T : Bl mg) (D : Df K mg "_law_amount" Zbn ["_law_number_here"]) : Cal P w K mg base "_law_amount" ["_law_number_here"] 1 (spO (K := K) R_amount) := by
  refine D.ev Zda (fun ts r h => by cases h; rfl) (fun f cdv A outer s H E ts r hr h => ?_)
  cases h with
  | @mk n h0 =>
    refine ⟨_, (Zaf (Zaw (i := 1) Zda.nd rfl (Or.inl rfl) (Za0 ZcA (pv 0) Zai))
 (Zaf (Zaw (i := 0) Zda.nd rfl (Or.inl rfl) (Za0 ZbY (pv 0) Zai))
 (Zaf (Zcj (ZaL ZkU (pv 1) Zai (ZbG _)) (Zag (Zav (Zc1 (Zaa Zai (Zaa (pv 0) Zae))))) ZaE)
 (Zaf (Zcj (ZaL Zpf (pv 1) Zai (ZbG _)) (Zag (Zav (Zc1 (Zaa (Za0 ZcA (pv 0) Zai) (Zaa (Za0 ZbY (pv 0) Zai) Zae))))) ZaE)
 (Zaf (Zcj (ZaL ZkU (pv 1) Zai (ZbG _)) (Zag (Zav (Zc1 (Zaa (Za0 ZcA (pv 0) Zai) (Zaa (Za0 ZbY (pv 0) Zai) Zae))))) ZaE)
 (Zag (Zav (Zc1 (Zaa (Za0 ZcA (pv 0) (Za0 Zog Zai Zai)) (Zaa (Za0 ZbY (pv 0) (Za0 Zog Zai Zai)) Zae)))))))))), ?_⟩
    show EvS K _ [some _, none] _
    walk_at "ss"
    walk_at "if"
    ·
      intro c
      have c := of_decide_eq_true c
      walk_at "ret"
      show _ = _
      unfold Zco
      rw [if_pos c]
    ·
      intro c
      have c := of_decide_eq_false c
      refine ZaF ?_
      walk_at "if"
      ·
        intro c2
        have c2 := of_decide_eq_true c2
        walk_at "ret"
        show _ = _
        unfold Zco
        rw [if_neg c, if_pos c2]
      ·
        intro c2
        have c2 := of_decide_eq_false c2
        refine ZaF ?_
        walk_at "if"
        ·
          intro c3
          have c3 := of_decide_eq_true c3
          walk_at "ret"
          show _ = _
          unfold Zco
          rw [if_neg c, if_neg c2, if_pos c3]
        ·
          intro c3
          have c3 := of_decide_eq_false c3
          refine ZaF ?_
          walk_at "ret"
          show _ = _
          unfold Zco
          rw [if_neg c, if_neg c2, if_neg c3]
          rfl
inductive R_number : List OT -> OT -> Prop
  | mk {ns : List Int} {k : Int} (hs : ScrOk ns) (h0 : 0 <= k) (h1 : k < 1000) : R_number [.scr ns, .fz (.int k)] (.fz (.int (Zcm ns k)))
theorem Zpm {x : Int} {m : Nat} (h0 : 0 <= x) (h : x < 2 ^ m) : Builtin.Int.intBits x <= m := by
  unfold Builtin.Int.intBits
  by_cases e : x = 0
  · subst e; simp
  · have e1 : (x == 0) = false := by simpa using e
    rw [e1]
    have h1 : x.natAbs ≠ 0 := by omega
    have h2 : x.natAbs < 2 ^ m := by
      have : ((x.natAbs : Nat) : Int) < ((2 ^ m : Nat) : Int) := by
        have e2 : ((2 ^ m : Nat) : Int) = (2 : Int) ^ m := by rw [Int.natCast_pow]; rfl
        rw [e2]
        omega
      exact Int.ofNat_lt.mp this
    have := (Nat.log2_lt h1).mpr h2
    simp only [Bool.false_eq_true, if_false]
    omega
theorem Zk3 {ns : List Int} (hs : ScrOk ns) (k : Int) : Builtin.Int.intBits (Zg4 (ZaS ns k)) <= 2 ^ 20 := by
  have e : Builtin.Int.intBits (Zg4 (ZaS ns k)) = Builtin.Int.intBits (ZaS ns k) := by
    unfold Zg4
    split
    · unfold Builtin.Int.intBits
      simp
    · rfl
  rw [e]
  by_cases h : k.toNat < ns.length
  · refine hs.bits _ ?_
    simp [ZaS, h]
  · have : ZaS ns k = 0 := by
      have : ns.length <= k.toNat := by omega
      simp [ZaS, List.getD, this]
    rw [this]
    decide
theorem ZaB : FnScope ["_law_script", "_law_k", "_law_head", "_law_one", "_law_other", "_law_total", "_law_turn", "_law_cell"] ["_law_script", "_law_k"] (Zab Zbi) := by walk_at "p"
theorem Zl7 (T : Bl mg) (D : Df K mg "_law_number" Zbi ["_law_script", "_law_k"]) (c__law_cell_at : Cal P w K mg base "_law_cell_at" ["_law_script", "_law_k"] 1 (spO (K := K) R_cell)) : Cal P w K mg base "_law_number" ["_law_script", "_law_k"] 2 (spO (K := K) R_number) := by
  refine D.ev ZaB (fun ts r h => by cases h; rfl) (fun f cdv A outer s H E ts r hr h => ?_)
  cases h with
  | @mk ns k hs h0 h1 =>
    refine ⟨_, (Zaf (Zaw (i := 2) ZaB.nd rfl (Or.inl rfl) (Zar c__law_cell_at hr (Zaa (pv 0) (Zaa Zai Zae)) (hj := by walk_at "j")))
 (Zaf (Zaw (i := 3) ZaB.nd rfl (Or.inl rfl) (Za0 Zcd (Za0 ZcA (pv 2) Zai) (Za0 Zf9 Zai (pv 1))))
 (Zaf (Zaw (i := 4) ZaB.nd rfl (Or.inl rfl) (Za0 Zcd (Za0 Zf9 Zai (pv 1)) Zai))
 (Zaf (Zaw (i := 5) ZaB.nd rfl (Or.inl rfl) Zai)
 (Zaf (Zbh PassesOwn.never rfl (ZaM rfl T.range (Zaa Zai Zae)) (Zal (i := 6) ZaB.nd rfl (Or.inl rfl)) (Zaf (Zaw (i := 3) ZaB.nd rfl (Or.inl rfl) (Za0 ZcA (Za0 Zcd (Za0 Zcd (Za0 Zf9 (pv 3) Zai) Zai) (Za0 Zf9 (pv 6) (pv 1))) Zai))
 (Zaf (Zaw (i := 4) ZaB.nd rfl (Or.inl rfl) (Za0 ZcA (Za0 Zcd (Za0 Zf9 (pv 4) Zai) (pv 3)) Zai))
 (Zag (Zaw (i := 5) ZaB.nd rfl (Or.inl rfl) (Za0 Zcd (Za0 Zf9 (pv 5) Zai) (Za0 ZcA (Za0 Zcd (Za0 Zf9 (pv 4) (pv 4)) (pv 3)) Zai)))))))
 (Zaf (Zcj (ZaL ZkU (Za0 ZcA (Za0 ZbY (pv 2) Zai) Zai) Zai (ZbG _)) (Zag (Zav (pv 5))) ZaE)
 (Zaf (Zaw (i := 7) ZaB.nd rfl (Or.inl rfl) (Zay ZkG (by rfl) T.abs ZkV (Zaa (Zar c__law_cell_at hr (Zaa (pv 0) (Zaa (pv 1) Zae)) (hj := by walk_at "j")) Zae)))
 (Zag (Zav (Za0 Zcd (pv 7) (Za0 Zoy (pv 5) (ZpZ PySem.F.plainAttrs_int PySem.F.slot_int_bit_length PySem.F.type_int_bit_length Zp0 (pv 7))))))))))))), ?_⟩
    show EvS K _ [some _, some _, none, none, none, none, none, none] _
    walk_at "x"
    walk_at "ss"
    refine Zas (ZbK (fun i => [some (.scr ns), some (.fz (.int k)), some (.fz (.int (ZaS ns 0))), some (.fz (.int (mix (ZaS ns 0) k i).1)), some (.fz (.int (mix (ZaS ns 0) k i).2.1)), some (.fz (.int (mix (ZaS ns 0) k i).2.2)), none, none]) (by walk_at "ei") ⟨rfl, rfl, rfl, rfl, rfl, rfl, trivial⟩ ?_ ?_)
    · intro i d hd
      obtain ⟨hi, rfl⟩ := Zbv hd
      refine ⟨_, by walk_at "g", ?_⟩
      walk_at "d"
      have hi2 : i < 30 := hi
      have o1 : 0 <= ((mix (ZaS ns 0) k i).1 * 48271 + 11 + (0 + (i : Int)) * k) % 2147483647 /\ ((mix (ZaS ns 0) k i).1 * 48271 + 11 + (0 + (i : Int)) * k) % 2147483647 < 2147483647 := by omega
      have o2 : 0 <= ((mix (ZaS ns 0) k i).2.1 * 16807 + ((mix (ZaS ns 0) k i).1 * 48271 + 11 + (0 + (i : Int)) * k) % 2147483647) % 2147483629 /\ ((mix (ZaS ns 0) k i).2.1 * 16807 + ((mix (ZaS ns 0) k i).1 * 48271 + 11 + (0 + (i : Int)) * k) % 2147483647) % 2147483629 < 2147483629 := by omega
      walk_at "ss"
      refine ⟨rfl, rfl, rfl, ?_, ?_, ?_, trivial⟩ <;> simp only [mix, Int.zero_add]
    · intro ρ' hf
      refine ZcJ hf ?_
      have hn := Zei (ZaS ns 0) k 30
      have e30 : (ZeJ 0 (30 : Int).toNat).length = 30 := ZbJ
      rw [e30]
      walk_at "if"
      ·
        intro c
        have c := of_decide_eq_true c
        walk_at "ret"
        show _ = _
        unfold Zcm
        rw [if_pos c]
      ·
        intro c
        have c := of_decide_eq_false c
        refine ZaF ?_
        have cb := Zk3 hs k
        have tb : Builtin.Int.intBits (mix (ZaS ns 0) k 30).2.2 <= 930 := Zpm hn.1 (ZmK _ _)
        have sh : ZrS (mix (ZaS ns 0) k 30).2.2 (Builtin.Int.intBits (Zg4 (ZaS ns k)) : Int) := ⟨by omega, by
          have : (2 : Int) ^ 27 = 134217728 := by decide
          have : (2 : Nat) ^ 20 = 1048576 := by decide
          omega⟩
        walk_at "s1"
        refine ZbX (Zea (Zac rfl) (ZhJ (Zac rfl) (Zov (Zac rfl)) sh)) ?_
        show _ = _
        unfold Zcm
        rw [if_neg c]
        rfl
inductive R_yard : List OT -> OT -> Prop
  | mk {ns : List Int} (hs : ScrOk ns) : R_yard [.scr ns] (.fz (eYd (ZdN ns)))
theorem Za9 : FnScope ["_law_script", "_law_head", "_law_turns", "_law_lines", "_law_k", "_law_number_here", "_law_above", "_law_bounds", "_law_turn", "_law_bound"] ["_law_script"] (Zab ZbL) := by walk_at "p"
theorem ZoY (T : Bl mg) (D : Df K mg "_law_yard" ZbL ["_law_script"]) (c__law_cell_at : Cal P w K mg base "_law_cell_at" ["_law_script", "_law_k"] 1 (spO (K := K) R_cell)) (c__law_number : Cal P w K mg base "_law_number" ["_law_script", "_law_k"] 2 (spO (K := K) R_number))
    (c__law_amount : Cal P w K mg base "_law_amount" ["_law_number_here"] 1 (spO (K := K) R_amount)) : Cal P w K mg base "_law_yard" ["_law_script"] 3 (spO (K := K) R_yard) := by
  refine D.ev Za9 (fun ts r h => by cases h; rfl) (fun f cdv A outer s H E ts r hr h => ?_)
  cases h with
  | @mk ns hs =>
    refine ⟨_, (Zaf (Zaw (i := 1) Za9.nd rfl (Or.inl rfl) (Zay ZkG (by rfl) T.abs ZkV (Zaa (Zar c__law_cell_at hr (Zaa (pv 0) (Zaa Zai Zae)) (hj := by walk_at "j")) Zae)))
 (Zaf (Zaw (i := 2) Za9.nd rfl (Or.inl rfl) (Za0 Zcd Zai (Za0 ZcA (pv 1) Zai)))
 (Zaf (Zaw (i := 3) Za9.nd rfl (Or.inl rfl) (Zc2 Zae))
 (Zaf (Zbh PassesOwn.never rfl (ZaM rfl T.range (Zaa (Za0 Zcd Zai (Za0 ZcA (Za0 ZbY (pv 1) Zai) Zai)) Zae)) (Zal (i := 4) Za9.nd rfl (Or.inl rfl)) (Zaf (Zaw (i := 5) Za9.nd rfl (Or.inl rfl) (Zar c__law_number hr (Zaa (pv 0) (Zaa (Za0 Zcd Zai (pv 4)) Zae)) (hj := by walk_at "j")))
 (Zaf (Zaw (i := 6) Za9.nd rfl (Or.inl rfl) ZhE)
 (Zaf (Zcj (ZaL ZfG (pv 4) Zai (ZbG _)) (Zaf (Zaw (i := 6) Za9.nd rfl (Or.inl rfl) (Za0 ZcA (pv 5) (pv 4)))
 (Zag (Zaw (i := 5) Za9.nd rfl (Or.inl rfl) (Za0 ZbY (pv 5) (pv 4))))) ZaE)
 (Zaf (Zaw (i := 7) Za9.nd rfl (Or.inl rfl) (Zc2 Zae))
 (Zaf (Zbh PassesOwn.never rfl (ZaM rfl T.range (Zaa (pv 2) Zae)) (Zal (i := 8) Za9.nd rfl (Or.inl rfl)) (Zaf (Zek (Zar c__law_amount hr (Zaa (pv 5) Zae) (hj := by walk_at "j")) (Zc6 (n := 2) rfl (Zaq (Zal (i := 9) Za9.nd rfl (Or.inl rfl)) (Zaq (Zal (i := 5) Za9.nd rfl (Or.inl rfl)) Zb5))))
 (Zag (Zbe (ZfM PySem.F.plainAttrs_list PySem.F.slot_list_append PySem.F.type_list_append ZbF (pv 7) (Zaa (pv 9) Zae))))))
 (Zag (Zbe (ZfM PySem.F.plainAttrs_list PySem.F.slot_list_append PySem.F.type_list_append ZbF (pv 3) (Zaa (Zc1 (Zaa (pv 6) (Zaa (Zdl Zjr (by rfl) T.tuple Zjg (Zaa (pv 7) Zae)) Zae))) Zae))))))))))
 (Zag (Zav (Zc1 (Zaa (pv 2) (Zaa (Zdl Zjr (by rfl) T.tuple Zjg (Zaa (pv 3) Zae)) Zae))))))))), ?_⟩
    show EvS K _ [some _, none, none, none, none, none, none, none, none, none] _
    walk_at "x"
    obtain ⟨t1, t8⟩ := ZfR ns
    obtain ⟨c1, c5⟩ := ZfV ns
    have hn := Zev (ZaS ns 0)
    walk_at "ss"
    have et : 1 + Zg4 (ZaS ns 0) % 8 = ((Zb3 ns : Nat) : Int) := by unfold Zb3; omega
    have ec : 1 + Zg4 (ZaS ns 0) / 8 % 5 = ((Zdc ns : Nat) : Int) := by unfold Zdc; omega
    rw [et]
    refine Zas (ZbK (ds := ZeJ 0 (Zdc ns)) (fun i => [some (.scr ns), some (.fz (.int (Zg4 (ZaS ns 0)))), some (.fz (.int (Zb3 ns : Int))), some (.ol (((List.range i).map (Zd5 ns (Zb3 ns))).map eLn)), none, none, none, none, none, none]) ?ei ⟨rfl, rfl, rfl, rfl, trivial⟩ ?st ?fin)
    case ei => walk_at "eir"
    case st =>
      intro i d hd
      obtain ⟨hi, rfl⟩ := Zbv hd
      refine ⟨_, by walk_at "g", ?_⟩
      walk_at "d"
      rw [Int.zero_add]
      have nn := Zf4 ns (1 + (i : Int))
      walk_at "ss"
      refine ZnJ (fun ρ' => ∃ (ab : Option Nat) (nm : Int), 0 <= nm /\ Zd5 ns (Zb3 ns) i = ⟨ab, (bnd nm (Zb3 ns)).1⟩ /\
        ρ' = [some (.scr ns), some (.fz (.int (Zg4 (ZaS ns 0)))), some (.fz (.int (Zb3 ns : Int))), some (.ol (((List.range i).map (Zd5 ns (Zb3 ns))).map eLn)), some (.fz (.int (i : Int))), some (.fz (.int nm)), some (.fz (upD ab)), none, none, none]) ?h ?z
      case h =>
        walk_at "if"
        ·
          intro c
          have c : (0 : Int) < (i : Int) := of_decide_eq_true c
          walk_at "ss"
          refine ⟨some (Zcm ns (1 + (i : Int)) % (i : Int)).toNat, Zcm ns (1 + (i : Int)) / (i : Int), Int.ediv_nonneg nn (by omega), ?_, ?_⟩
          · unfold Zd5
            rw [if_neg (by omega)]
          · have : (((Zcm ns (1 + (i : Int)) % (i : Int)).toNat : Nat) : Int) = Zcm ns (1 + (i : Int)) % (i : Int) := Int.toNat_of_nonneg (Int.emod_nonneg _ (by omega))
            simp only [upD, this]
        ·
          intro c
          have c : ¬ (0 : Int) < (i : Int) := of_decide_eq_false c
          refine ZaF ⟨none, Zcm ns (1 + (i : Int)), nn, ?_, rfl⟩
          unfold Zd5
          rw [if_pos (by omega)]
      case z =>
        rintro ρ' ⟨ab, nm, hnm, eln, rfl⟩
        walk_at "ss"
        refine Zas (ZbK (ds := ZeJ 0 (Zb3 ns)) (fun j => [some (.scr ns), some (.fz (.int (Zg4 (ZaS ns 0)))), some (.fz (.int (Zb3 ns : Int))), some (.ol (((List.range i).map (Zd5 ns (Zb3 ns))).map eLn)), some (.fz (.int (i : Int))), some (.fz (.int (bnd nm j).2)), some (.fz (upD ab)), some (.ol ((bnd nm j).1.map PyData.int)), none, none]) ?ei2 ⟨rfl, rfl, rfl, rfl, rfl, rfl, rfl, rfl, trivial⟩ ?st2 ?fin2)
        case ei2 => walk_at "eir"
        case st2 =>
          intro j d hd
          obtain ⟨hj, rfl⟩ := Zbv hd
          obtain ⟨b1, b2, b3⟩ := Zed hnm j
          refine ⟨_, by walk_at "g", ?_⟩
          walk_at "d"
          walk_at "ss"
          exact ⟨rfl, rfl, rfl, rfl, rfl, rfl, rfl, by simp [bnd], trivial⟩
        case fin2 =>
          intro ρ' hf
          refine ZcJ hf ?_
          obtain ⟨b1, b2, b3⟩ := Zed hnm (Zb3 ns)
          walk_at "ss"
          refine ⟨rfl, rfl, rfl, ?_, trivial⟩
          rw [List.range_succ, List.map_append, List.map_append, ZbJ]
          simp only [List.map_cons, List.map_nil, eln]
          rfl
    case fin =>
      intro ρ' hf
      refine ZcJ hf ?_
      walk_at "ret"
      rw [ZbJ]
      rfl
inductive R_guests : List OT -> OT -> Prop
  | mk {ns : List Int} {y : Yd} (hs : ScrOk ns) (ok : y.Ok) : R_guests [.scr ns, .fz (eYd y)] (.ol ((ZdF ns y).map eGs))
theorem Zax : FnScope ["_law_script", "_law_yard_here", "_law_guests_here", "_law_k", "_law_number_here", "_law_line", "_law_first", "_law_last", "_law_want", "_law_most"] ["_law_script", "_law_yard_here"] (Zab Zbo) := by walk_at "p"
theorem Zk1 (T : Bl mg) (D : Df K mg "_law_guests" Zbo ["_law_script", "_law_yard_here"]) (c__law_cell_at : Cal P w K mg base "_law_cell_at" ["_law_script", "_law_k"] 1 (spO (K := K) R_cell)) (c__law_number : Cal P w K mg base "_law_number" ["_law_script", "_law_k"] 2 (spO (K := K) R_number))
    (c__law_amount : Cal P w K mg base "_law_amount" ["_law_number_here"] 1 (spO (K := K) R_amount)) : Cal P w K mg base "_law_guests" ["_law_script", "_law_yard_here"] 3 (spO (K := K) R_guests) := by
  refine D.ev Zax (fun ts r h => by cases h; rfl) (fun f cdv A outer s H E ts r hr h => ?_)
  cases h with
  | @mk ns y hs ok =>
    refine ⟨_, (Zaf (Zaw (i := 2) Zax.nd rfl (Or.inl rfl) (Zc2 Zae))
 (Zaf (Zbh PassesOwn.never rfl (ZaM rfl T.range (Zaa (Za0 ZcA (Za0 ZbY (Zay ZkG (by rfl) T.abs ZkV (Zaa (Zar c__law_cell_at hr (Zaa (pv 0) (Zaa Zai Zae)) (hj := by walk_at "j")) Zae)) Zai) Zai) Zae)) (Zal (i := 3) Zax.nd rfl (Or.inl rfl)) (Zaf (Zaw (i := 4) Zax.nd rfl (Or.inl rfl) (Zar c__law_number hr (Zaa (pv 0) (Zaa (Za0 Zcd Zai (pv 3)) Zae)) (hj := by walk_at "j")))
 (Zaf (Zaw (i := 5) Zax.nd rfl (Or.inl rfl) (Za0 ZcA (pv 4) (Zay Zdu (by rfl) T.len Zdt (Zaa (Za7 Zat (pv 1) Zai (fun _ _ => rfl)) Zae))))
 (Zaf (Zaw (i := 4) Zax.nd rfl (Or.inl rfl) (Za0 ZbY (pv 4) (Zay Zdu (by rfl) T.len Zdt (Zaa (Za7 Zat (pv 1) Zai (fun _ _ => rfl)) Zae))))
 (Zaf (Zaw (i := 6) Zax.nd rfl (Or.inl rfl) (Za0 ZcA (pv 4) (Za7 Zat (pv 1) Zai (fun _ _ => rfl))))
 (Zaf (Zaw (i := 4) Zax.nd rfl (Or.inl rfl) (Za0 ZbY (pv 4) (Za7 Zat (pv 1) Zai (fun _ _ => rfl))))
 (Zaf (Zaw (i := 7) Zax.nd rfl (Or.inl rfl) (Za0 Zcd (pv 6) (Za0 ZcA (pv 4) (Za0 ZfS (Za7 Zat (pv 1) Zai (fun _ _ => rfl)) (pv 6)))))
 (Zaf (Zaw (i := 4) Zax.nd rfl (Or.inl rfl) (Za0 ZbY (pv 4) (Za0 ZfS (Za7 Zat (pv 1) Zai (fun _ _ => rfl)) (pv 6))))
 (Zaf (Zek (Zar c__law_amount hr (Zaa (pv 4) Zae) (hj := by walk_at "j")) (Zc6 (n := 2) rfl (Zaq (Zal (i := 8) Zax.nd rfl (Or.inl rfl)) (Zaq (Zal (i := 4) Zax.nd rfl (Or.inl rfl)) Zb5))))
 (Zaf (Zek (Zar c__law_amount hr (Zaa (pv 4) Zae) (hj := by walk_at "j")) (Zc6 (n := 2) rfl (Zaq (Zal (i := 9) Zax.nd rfl (Or.inl rfl)) (Zaq (Zal (i := 4) Zax.nd rfl (Or.inl rfl)) Zb5))))
 (Zag (Zbe (ZfM PySem.F.plainAttrs_list PySem.F.slot_list_append PySem.F.type_list_append ZbF (pv 2) (Zaa (Zc1 (Zaa (pv 5) (Zaa (pv 6) (Zaa (pv 7) (Zaa (Zay (Zom rfl) (by rfl) T.max ZnE (Zaa Zai (Zaa (pv 8) Zae))) (Zaa (Zay (Zom rfl) (by rfl) T.max ZnE (Zaa Zai (Zaa (pv 9) Zae))) Zae)))))) Zae))))))))))))))
 (Zag (Zav (pv 2))))), ?_⟩
    show EvS K _ [some _, some _, none, none, none, none, none, none, none, none] _
    walk_at "x"
    have l1 := ok.l1
    have l5 := ok.l5
    have t1 := ok.t1
    have t8 := ok.t8
    have hn := Zev (ZaS ns 0)
    have gc : ZcF ns <= 8 := by unfold ZcF; omega
    have eg : ZcF ns = (Zg4 (ZaS ns 0) / 40 % 9).toNat := rfl
    walk_at "ss"
    refine Zas (ZbK (ds := ZeJ 0 (ZcF ns)) (fun i => [some (.scr ns), some (.fz (eYd y)), some (.ol (((List.range i).map (Zd3 ns y)).map eGs)), none, none, none, none, none, none, none]) ?ei ⟨rfl, rfl, rfl, trivial⟩ ?st ?fin)
    case ei => walk_at "eir"
    case st =>
      intro i d hd
      obtain ⟨hi, rfl⟩ := Zbv hd
      refine ⟨_, by walk_at "g", ?_⟩
      walk_at "d"
      rw [Int.zero_add]
      obtain ⟨f0, f1⟩ := Zm0 ok ns i
      obtain ⟨e0, e1⟩ := Zq5 ok ns i
      obtain ⟨n0, n1, n2, n3⟩ := ZqR ok ns i
      obtain ⟨a1, a2, a3⟩ := Zdx n3
      obtain ⟨b1, b2, b3⟩ := Zdx a3
      have lp : (0 : Int) < (((y.ls.map eLn).length : Nat) : Int) := by rw [List.length_map]; omega
      have lp2 : (((y.ls.map eLn).length : Nat) : Int) <= 5 := by rw [List.length_map]; omega
      have tp : (0 : Int) < (y.T : Int) := by omega
      have fp : (0 : Int) < (y.T : Int) - gf ns y i := by omega
      walk_at "s1"
      walk_at "s1"
      walk_at "s1"
      rw [List.length_map]
      change EvS K _ [_, _, _, _, some (.fz (.int (gn1 ns y i))), some (.fz (.int (gn0 ns i % (y.ls.length : Int)))), _, _, _, _] _
      walk_at "s1"
      walk_at "s1"
      change EvS K _ [_, _, _, _, some (.fz (.int (gn2 ns y i))), _, some (.fz (.int (gf ns y i))), _, _, _] _
      walk_at "s1"
      walk_at "s1"
      change EvS K _ [_, _, _, _, some (.fz (.int (gn3 ns y i))), _, _, some (.fz (.int (gl ns y i))), _, _] _
      walk_at "ss"
      refine ⟨rfl, rfl, ?_, trivial⟩
      rw [List.range_succ, List.map_append, List.map_append]
      simp only [List.map_cons, List.map_nil]
      have c1 := Int.emod_nonneg (gn0 ns i) (show (y.ls.length : Int) ≠ 0 by omega)
      have hg : eGs (Zd3 ns y i) = .tuple [.int (gn0 ns i % (y.ls.length : Int)), .int (gf ns y i), .int (gl ns y i), .int (Znn (Zco (gn3 ns y i)).1), .int (Znn (Zco (Zco (gn3 ns y i)).2).1)] := by
        unfold eGs Zd3
        dsimp only
        rw [Int.toNat_of_nonneg c1, Int.toNat_of_nonneg f0, Int.toNat_of_nonneg (by omega)]
      have m1 : ∀ i : Int, max 1 i = Znn i := fun i => by unfold Znn; split <;> omega
      rw [hg, <- m1, <- m1]
    case fin =>
      intro ρ' hf
      refine ZcJ hf ?_
      walk_at "ret"
      rw [ZbJ]
      rfl
noncomputable def ZfE (y : Yd) (k : Nat) : Ln := y.ls.getD k default
noncomputable def upN (y : Yd) (k : Nat) : Nat := (Zc3 y k).getD 0
theorem Zel {y : Yd} {k : Nat} (h : k < y.ls.length) : Zc3 y k = (ZfE y k).up := by simp [Zc3, ZfE, h]
theorem Zdj {y : Yd} {k t : Nat} (h : k < y.ls.length) : Zbw y k t = (ZfE y k).bs.getD t 0 := by simp [Zbw, ZfE, h]
theorem ZdW {y : Yd} (ok : y.Ok) {k : Nat} (h : k < y.ls.length) : (ZfE y k).bs.length = y.T := ok.bl _ (by simp [ZfE, h])
inductive R_turns : List OT -> OT -> Prop
  | mk {y : Yd} : R_turns [.fz (eYd y)] (.fz (.int (y.T : Int)))
theorem Zig : FnScope ["yard"] ["yard"] (Zab Zcu) := by walk_at "p"
theorem Zns (T : Bl mg) (D : Df K mg "turns_of" Zcu ["yard"]) : Cal P w K mg base "turns_of" ["yard"] 1 (spO (K := K) R_turns) := by
  refine D.ev Zig (fun ts r h => by cases h; rfl) (fun f cdv A outer s H E ts r hr h => ?_)
  cases h with
  | @mk y =>
    refine ⟨_, (Zag (Zav (Za7 Zat (pv 0) Zai (fun _ _ => rfl)))), ?_⟩
    show EvS K _ [some _] _
    walk_at "x"
    walk_at "ret"
    rfl
inductive R_count : List OT -> OT -> Prop
  | mk {y : Yd} : R_count [.fz (eYd y)] (.fz (.int (y.ls.length : Int)))
theorem Zgu : FnScope ["yard"] ["yard"] (Zab Zb0) := by walk_at "p"
theorem ZmA (T : Bl mg) (D : Df K mg "line_count" Zb0 ["yard"]) : Cal P w K mg base "line_count" ["yard"] 1 (spO (K := K) R_count) := by
  refine D.ev Zgu (fun ts r h => by cases h; rfl) (fun f cdv A outer s H E ts r hr h => ?_)
  cases h with
  | @mk y =>
    refine ⟨_, (Zag (Zav (Zay Zdu (by rfl) T.len Zdt (Zaa (Za7 Zat (pv 0) Zai (fun _ _ => rfl)) Zae)))), ?_⟩
    show EvS K _ [some _] _
    walk_at "x"
    walk_at "ret"
    show _ = _
    rw [List.length_map]
inductive R_above : List OT -> OT -> Prop
  | mk {y : Yd} {k : Int} (ok : y.Ok) (h0 : 0 < k) (h1 : k < (y.ls.length : Int)) : R_above [.fz (eYd y), .fz (.int k)] (.fz (.int (upN y k.toNat : Int)))
  | zero {y : Yd} (ok : y.Ok) : R_above [.fz (eYd y), .fz (.int 0)] (.fz .none)
theorem Zil : FnScope ["yard", "line"] ["yard", "line"] (Zab Zcy) := by walk_at "p"
theorem Zne (T : Bl mg) (D : Df K mg "above_of" Zcy ["yard", "line"]) : Cal P w K mg base "above_of" ["yard", "line"] 1 (spO (K := K) R_above) := by
  refine D.ev Zil (fun ts r h => by cases h <;> rfl) (fun f cdv A outer s H E ts r hr h => ?_)
  cases h with
  | @mk y k ok h0 h1 =>
    refine ⟨_, (Zag (Zav (Za7 Zat (Za7 Zat (Za7 Zat (pv 0) Zai (fun _ _ => rfl)) (pv 1) (fun _ _ => rfl)) Zai (fun _ _ => rfl)))), ?_⟩
    show EvS K _ [some _, some _] _
    walk_at "x"
    walk_at "ret"
    obtain ⟨a, e, l⟩ := ok.ups k.toNat (by omega) (by omega)
    have e2 : (ZfE y k.toNat).up = some a := by rw [<- Zel (by omega)]; exact e
    show OT.fz (upD (ZfE y k.toNat).up) = _
    rw [e2]
    simp [upN, e, upD]
  | @zero y ok =>
    refine ⟨_, (Zag (Zav (Za7 Zat (Za7 Zat (Za7 Zat (pv 0) Zai (fun _ _ => rfl)) (pv 1) (fun _ _ => rfl)) Zai (fun _ _ => rfl)))), ?_⟩
    show EvS K _ [some _, some _] _
    walk_at "x"
    have l1 := ok.l1
    walk_at "ret"
    have e2 : (ZfE y 0).up = none := by rw [<- Zel (by omega)]; exact ok.up0
    show OT.fz (upD (ZfE y 0).up) = _
    rw [e2]
    rfl
inductive R_bound : List OT -> OT -> Prop
  | mk {y : Yd} {k t : Int} (ok : y.Ok) (h0 : 0 <= k) (h1 : k < (y.ls.length : Int)) (h2 : 0 <= t) (h3 : t < (y.T : Int)) : R_bound [.fz (eYd y), .fz (.int k), .fz (.int t)] (.fz (.int (Zbw y k.toNat t.toNat)))
theorem Ziz : FnScope ["yard", "line", "turn"] ["yard", "line", "turn"] (Zab Zcv) := by walk_at "p"
theorem Znc (T : Bl mg) (D : Df K mg "bound_at" Zcv ["yard", "line", "turn"]) : Cal P w K mg base "bound_at" ["yard", "line", "turn"] 1 (spO (K := K) R_bound) := by
  refine D.ev Ziz (fun ts r h => by cases h; rfl) (fun f cdv A outer s H E ts r hr h => ?_)
  cases h with
  | @mk y k t ok h0 h1 h2 h3 =>
    refine ⟨_, (Zag (Zav (Za7 Zat (Za7 Zat (Za7 Zat (Za7 Zat (pv 0) Zai (fun _ _ => rfl)) (pv 1) (fun _ _ => rfl)) Zai (fun _ _ => rfl)) (pv 2) (fun _ _ => rfl)))), ?_⟩
    show EvS K _ [some _, some _, some _] _
    walk_at "x"
    have hl : (y.ls.getD k.toNat default).bs.length = y.T := ZdW ok (by omega)
    walk_at "ret"
    show _ = _
    rw [Zdj (by omega)]
    rfl
inductive R_lineof : List OT -> OT -> Prop
  | mk {g : Gs} : R_lineof [.fz (eGs g)] (.fz (.int (g.line : Int)))
theorem ZjQ : FnScope ["guest"] ["guest"] (Zab ZcO) := by walk_at "p"
theorem ZkZ (T : Bl mg) (D : Df K mg "line_of" ZcO ["guest"]) : Cal P w K mg base "line_of" ["guest"] 1 (spO (K := K) R_lineof) := by
  refine D.ev ZjQ (fun ts r h => by cases h; rfl) (fun f cdv A outer s H E ts r hr h => ?_)
  cases h with
  | @mk g =>
    refine ⟨_, (Zag (Zav (Za7 Zat (pv 0) Zai (fun _ _ => rfl)))), ?_⟩
    show EvS K _ [some _] _
    walk_at "x"
    walk_at "ret"
    rfl
inductive R_there : List OT -> OT -> Prop
  | mk {g : Gs} {t : Int} : R_there [.fz (eGs g), .fz (.int t)] (.fz (.bool (ZaX g t)))
theorem Ziv : FnScope ["guest", "turn"] ["guest", "turn"] (Zab Zcw) := by walk_at "p"
theorem Zmk (T : Bl mg) (D : Df K mg "is_there" Zcw ["guest", "turn"]) : Cal P w K mg base "is_there" ["guest", "turn"] 1 (spO (K := K) R_there) := by
  refine D.ev Ziv (fun ts r h => by cases h; rfl) (fun f cdv A outer s H E ts r hr h => ?_)
  cases h with
  | @mk g t =>
    refine ⟨_, (Zag (Zav (Zjn ZhI ZhI (Za7 Zat (pv 0) Zai (fun _ _ => rfl)) (pv 1) (Za7 Zat (pv 0) Zai (fun _ _ => rfl))))), ?_⟩
    show EvS K _ [some _, some _] _
    walk_at "x"
    walk_at "ret"
    rfl
inductive R_most : List OT -> OT -> Prop
  | mk {g : Gs} : R_most [.fz (eGs g)] (.fz (.int g.most))
theorem ZjF : FnScope ["guest"] ["guest"] (Zab ZcM) := by walk_at "p"
theorem ZoM (T : Bl mg) (D : Df K mg "most_of" ZcM ["guest"]) : Cal P w K mg base "most_of" ["guest"] 1 (spO (K := K) R_most) := by
  refine D.ev ZjF (fun ts r h => by cases h; rfl) (fun f cdv A outer s H E ts r hr h => ?_)
  cases h with
  | @mk g =>
    refine ⟨_, (Zag (Zav (Za7 Zat (pv 0) Zai (fun _ _ => rfl)))), ?_⟩
    show EvS K _ [some _] _
    walk_at "x"
    walk_at "ret"
    rfl
inductive R_want : List OT -> OT -> Prop
  | mk {g : Gs} : R_want [.fz (eGs g)] (.fz (.int g.want))
theorem ZjU : FnScope ["guest"] ["guest"] (Zab ZcI) := by walk_at "p"
theorem Zo6 (T : Bl mg) (D : Df K mg "want_of" ZcI ["guest"]) : Cal P w K mg base "want_of" ["guest"] 1 (spO (K := K) R_want) := by
  refine D.ev ZjU (fun ts r h => by cases h; rfl) (fun f cdv A outer s H E ts r hr h => ?_)
  cases h with
  | @mk g =>
    refine ⟨_, (Zag (Zav (Za7 Zat (pv 0) Zai (fun _ _ => rfl)))), ?_⟩
    show EvS K _ [some _] _
    walk_at "x"
    walk_at "ret"
    rfl
theorem ZgB : NoF "lay" := fun _ _ _ _ => rfl
theorem Zjs : NoF "lay_one" := fun _ _ _ _ => rfl
theorem Zml : NoF "flow" := fun _ _ _ _ => rfl
theorem Zfe : NoF "reached" := fun _ _ _ _ => rfl
theorem Znv : NoF "push" := fun _ _ _ _ => rfl
theorem Zm8 : NoF "fill" := fun _ _ _ _ => rfl
theorem Zp1 : NoF "way_to" := fun _ _ _ _ => rfl
theorem Zfa : FnScope ["self"] ["self"] (Zab Zbr) := by walk_at "p"
theorem Zq1 {f : Addr} {fd : FuncData} (T : Bl mg) (U : Tx K mg C gS gE) (F : Fun K "__init__" "Net.__init__" Zbr f fd) : FnOk P w K mg base CX0 1 f fd ["self"] (spI P w C) := by
  refine F.ok Zfa (fun vs H Q E ⟨x, dx, e, _⟩ => by rw [e]; rfl) fun cdv A outer s H vs Q E hr ⟨x, dx, e, hx, q⟩ => ?_
  subst e
  refine ⟨_, (Zaf (ZiL (pv 0) (Zc2 Zae) rfl)
 (Zaf (ZiL (pv 0) (Zc2 Zae) rfl)
 (Zaf (ZiL (pv 0) Zmz rfl)
 (Zag (ZiL (pv 0) Zmp rfl))))), ?_⟩
  refine ⟨Nat.zero_le _, fun e he => ⟨_, rfl, x, C, dx, [], rfl, ?_, U.net.cl, U.net.ends, by decide, ?_⟩⟩
  · rw [Zah (Zau hx he)]; exact hx
  have xe : x ≠ e := Zau hx he
  refine ⟨Nat.zero_le _, fun r hr' => ⟨_, rfl, x, C, dx, [("ends", .ref e)], rfl, ?_, U.net.cl, U.net.rooms, (by show (1 : Nat) < 1000; decide), ?_⟩⟩
  · have xr : x ≠ r := Zau Zaj hr'
    rw [Zah xr, Zaj]
    rfl
  have xr : x ≠ r := Zau Zaj hr'
  have rr : upd H e (.lst []) r = none := by rw [Zah (Ne.symm xr)] at hr'; exact hr'
  have er : e ≠ r := Zau Zaj rr
  have r0 : H r = none := by rw [Zah (Ne.symm er)] at rr; exact rr
  refine fun l hl => ⟨_, rfl, x, C, dx, [("ends", .ref e), ("rooms", .ref r)], rfl, ?_, U.net.cl, U.net.leav, (by show (2 : Nat) < 1000; decide), ?_⟩
  · have xl : x ≠ l := Zau Zaj hl
    rw [Zah xl, Zaj]
    rfl
  have xl : x ≠ l := Zau Zaj hl
  rw [Zah (Ne.symm xl)] at hl
  have rl : r ≠ l := Zau Zaj hl
  rw [Zah (Ne.symm rl), Zah (Ne.symm xl)] at hl
  have el : e ≠ l := Zau Zaj hl
  rw [Zah (Ne.symm el)] at hl
  refine fun d hd => ⟨_, rfl, x, C, dx, [("ends", .ref e), ("rooms", .ref r), ("leaving", .ref l)], rfl, ?_, U.net.cl, U.net.laid, (by show (3 : Nat) < 1000; decide), ?_⟩
  · have xd : x ≠ d := Zau Zaj hd
    rw [Zah xd, Zaj]
    rfl
  have xd : x ≠ d := Zau Zaj hd
  rw [Zah (Ne.symm xd)] at hd
  have ld : l ≠ d := Zau Zaj hd
  rw [Zah (Ne.symm ld), Zah (Ne.symm xd)] at hd
  have rd : r ≠ d := Zau Zaj hd
  rw [Zah (Ne.symm rd), Zah (Ne.symm xd)] at hd
  have ed : e ≠ d := Zau Zaj hd
  rw [Zah (Ne.symm ed)] at hd
  refine q e r l d _ he r0 hl hd ?_ ?_ ?_ ?_ ?_ ?_ (fun b hb => ?_)
  · simp only [List.nodup_cons, List.mem_cons, List.not_mem_nil, or_false, not_or, not_false_eq_true, List.nodup_nil, and_true]
    exact ⟨⟨xe, xr, xl, xd⟩, ⟨er, el, ed⟩, ⟨rl, rd⟩, ld⟩
  · rw [Zaj]; rfl
  · rw [Zah (Ne.symm xe), Zah ed, Zah (Ne.symm xe), Zah el, Zah (Ne.symm xe), Zah er, Zah (Ne.symm xe), Zaj]
  · rw [Zah (Ne.symm xr), Zah rd, Zah (Ne.symm xr), Zah rl, Zah (Ne.symm xr), Zaj]
  · rw [Zah (Ne.symm xl), Zah ld, Zah (Ne.symm xl), Zaj]
  · rw [Zah (Ne.symm xd), Zaj]; rfl
  · simp only [List.mem_cons, List.not_mem_nil, or_false, not_or] at hb
    obtain ⟨b1, b2, b3, b4, b5⟩ := hb
    rw [Zah b1, Zah b5, Zah b1, Zah b4, Zah b1, Zah b3, Zah b1, Zah b2]
inductive R_lay1 : NetS -> List OT -> (NetS -> Prop) -> Prop
  | mk {N : NetS} {s e : List Key} {r : Int} (h1 : N.ends.length < 900) (h2 : N.rooms.length < 900) (h3 : N.leav.length < 900) (h4 : ∀ k ns, Zbq N.leav k = some ns -> ns.length < 900) : R_lay1 N [.fz (Zb8 s), .fz (Zb8 e), .fz (.int r)] (fun N' => N' = ZpF N s e r)
theorem ZfN : FnScope ["self", "start", "end", "room"] ["self", "start", "end", "room"] (Zab Zbj) := by walk_at "p"
theorem ZoG (T : Bl mg) (U : Tx K mg C gS gE) (D : Mf K C "lay_one" "Net.lay_one" Zbj ["self", "start", "end", "room"]) : ZgC P w K mg base C "lay_one" ["self", "start", "end", "room"] 1 (spN K P w C R_lay1) := by
  refine D.evN ZfN (fun M ts Ψ h => by cases h; rfl) (fun f cdv A outer s H E v M ts Ψ hr h => ?_)
  cases h with
  | @mk s' e r h1 h2 h3 h4 =>
    refine ⟨_, (Zaf (Zbe (ZfM PySem.F.plainAttrs_list PySem.F.slot_list_append PySem.F.type_list_append ZbF (Zmh (Zgv hr) (Zcn (pv 0) rfl) (pv 1) (Zc2 Zae) ⟨rfl, rfl, rfl, rfl⟩) (Zaa (Zay Zdu (by rfl) T.len Zdt (Zaa (Zcn (pv 0) rfl) Zae)) Zae)))
 (Zaf (Zbe (ZfM PySem.F.plainAttrs_list PySem.F.slot_list_append PySem.F.type_list_append ZbF (Zcn (pv 0) rfl) (Zaa (pv 2) Zae)))
 (Zag (Zbe (ZfM PySem.F.plainAttrs_list PySem.F.slot_list_append PySem.F.type_list_append ZbF (Zcn (pv 0) rfl) (Zaa (pv 3) Zae)))))), ?_⟩
    show EvS K _ [some _, some _, some _, some _] _
    walk_at "x"
    refine Zas (Zkd (N := M) (n := (M.ends.length : Int)) U.net rfl (Zac rfl) (by omega) (fun ns hns => ?_) (Zhf (N := { M with leav := Zhh M.leav s' }) U.net rfl) ?_)
    · rw [Zgw, if_pos rfl] at hns
      cases hns
      cases z : Zbq M.leav s' with
      | none => decide
      | some ms => have := h4 s' ms z; show ms.length < 1000; omega
    walk_at "d"
    refine Zas (ZjZ U.net rfl (Zac rfl) (show M.ends.length < 1000 by omega) ?_)
    walk_at "d"
    refine ZjO U.net rfl (Zac rfl) (show M.rooms.length < 1000 by omega) ?_
    walk_at "d"
    exact ⟨_, rfl, rfl⟩
noncomputable abbrev Zf0 : Phi Nd := fun _ _ => 0
inductive R_lay : NetS -> List OT -> (NetS -> Prop) -> Prop
  | mk {N : NetS} {L : Lay Nd} {s e : Nd} {r : Int} (h : NetR N L Zf0) (new : (s, e) ∉ L.map (fun x => (x.1, x.2.1))) (l : L.length < 400) : R_lay N [.fz (Zb8 (nk s)), .fz (Zb8 (nk e)), .fz (.int r)] (fun N' => NetR N' (L ++ [(s, e, r)]) Zf0)
theorem ZjK : FnScope ["self", "start", "end", "room"] ["self", "start", "end", "room"] (Zab ZcK) := by walk_at "p"
theorem ZpU (T : Bl mg) (U : Tx K mg C gS gE) (D : Mf K C "lay" "Net.lay" ZcK ["self", "start", "end", "room"]) (c_Net_lay_one : ZgC P w K mg base C "lay_one" ["self", "start", "end", "room"] 1 (spN K P w C R_lay1)) : ZgC P w K mg base C "lay" ["self", "start", "end", "room"] 2 (spN K P w C R_lay) := by
  refine D.evN ZjK (fun M ts Ψ h => by cases h; rfl) (fun f cdv A outer s H E v M ts Ψ hr h => ?_)
  cases h with
  | @mk L s' e r h new l =>
    refine ⟨_, (Zaf (Zpl (Zl2 hr) (Zcn (pv 0) rfl) (Zc1 (Zaa (pv 1) (Zaa (pv 2) Zae))) (Zay Zdu (by rfl) T.len Zdt (Zaa (Zcn (pv 0) rfl) Zae)) rfl)
 (Zaf (Zbe (Zcx c_Net_lay_one U.net hr (pv 0) (Zaa (pv 1) (Zaa (pv 2) (Zaa (pv 3) Zae))) (hj := by walk_at "j")))
 (Zag (Zbe (Zcx c_Net_lay_one U.net hr (pv 0) (Zaa (pv 2) (Zaa (pv 1) (Zaa Zai Zae))) (hj := by walk_at "j")))))), ?_⟩
    show EvS K _ [some _, some _, some _, some _] _
    walk_at "x"
    have le := h.elen
    have lr : M.rooms.length = 2 * L.length := by rw [h.rooms, Zey]
    have l1 := h.l1
    have l2 := h.l2
    have l3 := h.l3
    refine Zas (ZlM (N := M) (n := (M.ends.length : Int)) (k1 := nk s') (k2 := nk e) U.net rfl (Zhf U.net rfl) (Zj3 (ZcX (Zac rfl) (ZcX (Zac rfl) Zce)) (by show (2 : Nat) <= 1000; decide)) (by omega) ?_)
    walk_at "d"
    refine Zas (ZcY (ΦA := fun ts => ts = [.fz (Zb8 (nk s')), .fz (Zb8 (nk e)), .fz (.int r)]) Zjs rfl (Zee (Zad (Zac rfl) (Zad (Zac rfl) (Zad (Zac rfl) Zam))) rfl) (fun ts hts => ?_))
    subst hts
    refine ⟨_, R_lay1.mk (show M.ends.length < 900 by omega) (show M.rooms.length < 900 by omega) (show M.leav.length < 900 by omega) (fun k ns hk => by have := l3 k ns hk; omega), fun N' hN => ?_⟩
    subst hN
    walk_at "d"
    refine ZcY (ΦA := fun ts => ts = [.fz (Zb8 (nk e)), .fz (Zb8 (nk s')), .fz (.int 0)]) Zjs rfl (Zee (Zad (Zac rfl) (Zad (Zac rfl) (Zad ZbU Zam))) rfl) (fun ts hts => ?_)
    subst hts
    refine ⟨_, R_lay1.mk ?a1 ?a2 ?a3 ?a4, fun N' hN => ?_⟩
    case a1 => show (M.ends ++ [nk e]).length < 900; rw [List.length_append, le]; show 2 * L.length + 1 < 900; omega
    case a2 => show (M.rooms ++ [r]).length < 900; rw [List.length_append, lr]; show 2 * L.length + 1 < 900; omega
    case a3 =>
      show (Zha (Zhh M.leav (nk s')) (nk s') _).length < 900
      rw [ZeV]
      have := Zi6 M.leav (nk s')
      omega
    case a4 =>
      intro k ns hk
      rw [Zdi] at hk
      by_cases z : k = nk s'
      · rw [if_pos z] at hk
        cases hk
        have : ((Zbq M.leav (nk s')).getD []).length <= 2 * L.length := by
          cases q : Zbq M.leav (nk s') with
          | none => exact Nat.zero_le _
          | some ms => exact l3 _ ms q
        show ((Zbq M.leav (nk s')).getD [] ++ [_]).length < 900
        rw [List.length_append]
        show _ + 1 < 900
        omega
      · rw [if_neg z] at hk
        have := l3 k ns hk
        omega
    subst hN
    walk_at "d"
    exact ⟨_, Zni (r := r) h rfl new, rfl⟩
noncomputable def Zhy (L : Lay Nd) (φ : Phi Nd) (p q : Nd) : Int := if (p, q) ∈ L.map (fun x => (x.1, x.2.1)) then φ p q else 0
inductive R_flow (P : Program) (w : World) (C : Addr) : List OT -> (OT -> Prop) -> Prop
  | mk {N : NetS} {L : Lay Nd} {φ : Phi Nd} {p q : Nd} (h : NetR N L φ) : R_flow P w C [.zow (ZeN P w C N), .fz (Zb8 (nk p)), .fz (Zb8 (nk q))] (fun r => r = .fz (.int (Zhy L φ p q)))
theorem Zik : FnScope ["self", "start", "end"] ["self", "start", "end"] (Zab Zcq) := by walk_at "p"
theorem Zpu (T : Bl mg) (U : Tx K mg C gS gE) (D : Mf K C "flow" "Net.flow" Zcq ["self", "start", "end"]) : ZgC P w K mg base C "flow" ["self", "start", "end"] 1 (spD K (R_flow P w C)) := by
  refine D.evD Zik (fun ts Φ h => by cases h; rfl) (fun f cdv A outer s H E ts Φ hr h => ?_)
  cases h with
  | @mk N L φ p q h =>
    refine ⟨_, (Zaf (Zcj (ZeC (Zk7 (Zl2 hr) (Zc1 (Zaa (pv 1) (Zaa (pv 2) Zae))) (Zcn (pv 0) rfl))) (Zag (Zav Zai)) ZaE)
 (Zag (Zav (Za7 Zat (Zcn (pv 0) rfl) (Za0 Zk4 (ZoF (Zl2 hr) (Zcn (pv 0) rfl) (Zc1 (Zaa (pv 1) (Zaa (pv 2) Zae))) (fun _ _ => rfl)) Zai) (fun _ _ => rfl))))), ?_⟩
    show EvS K _ [some _, some _, some _] _
    walk_at "x"
    have key : ∀ {ρ : Zbd}, ρ[1]? = some (some (.fz (Zb8 (nk p)))) -> ρ[2]? = some (some (.fz (Zb8 (nk q)))) -> EvE K (Zrj (ZaV (ZcR 1) (ZaV (ZcR 2) Zds))) ρ (.tuple [Zb8 (nk p), Zb8 (nk q)]) := fun e1 e2 => Zj3 (ZcX (Zac e1) (ZcX (Zac e2) Zce)) (by show (2 : Nat) <= 1000; decide)
    refine Zas (Zdm (b := !(ZeB N.laid (nk p, nk q)).isSome) (ZlZ (ZlB U.net (key rfl rfl) rfl)) (fun c => ZbX ZbU ?_) (fun c => ZaF ?_))
    · have c : ZeB N.laid (nk p, nk q) = none := by
        cases z : ZeB N.laid (nk p, nk q) with
        | none => rfl
        | some n => rw [z] at c; cases c
      show OT.fz (.int 0) = _
      unfold Zhy
      rw [if_neg (fun hm => ?_)]
      obtain ⟨x, hx, ex⟩ := List.mem_map.mp hm
      obtain ⟨i, hi⟩ := List.mem_iff_getElem?.mp hx
      have := h.laid i x hi
      injection ex with e1 e2
      rw [e1, e2, c] at this
      cases this
    · have hm : (p, q) ∈ L.map (fun x => (x.1, x.2.1)) := by
        apply Classical.byContradiction
        intro hn
        rw [h.laid0 p q hn] at c
        cases c
      obtain ⟨x, hx, ex⟩ := List.mem_map.mp hm
      obtain ⟨i, hi⟩ := List.mem_iff_getElem?.mp hx
      have hl := h.laid i x hi
      injection ex with e1 e2
      rw [e1, e2] at hl
      have hr' : N.rooms[2 * i + 1]? = some (φ p q) := by
        rw [h.rooms, ZdG]
        unfold rmE
        have a : (2 * i + 1) / 2 = i := by omega
        have b : ¬ (2 * i + 1) % 2 = 0 := by omega
        rw [a, hi]
        simp only [Option.map_some, if_neg b, e1, e2]
      have ea : atI (N.rooms.map PyData.int) (Builtin.bitXor ((2 * i : Nat) : Int) 1) = some (.int (φ p q)) := by
        rw [ZdR]
        have a : Zeb (2 * i) = 2 * i + 1 := by unfold Zeb; rw [if_pos (by omega)]
        rw [a]
        exact Zc8 (by rw [List.getElem?_map, hr']; rfl)
      refine ZbX (Zg6 (N := N) U.net rfl (Zea (g := Builtin.bitXor) (Zm6 (n := ((2 * i : Nat) : Int)) U.net rfl (key rfl rfl) hl) ZbU) ea) ?_
      unfold Zhy
      rw [if_pos hm]
theorem ZoJ {K : PySem.W.Frag} {ρ : Zbd} {ta : TE} {ds : List PyData} (h : EvE K ta ρ (.list ds)) : EvT K (fun σ H Q => ta σ H fun x H' => ∃ k, Zrz K x H' k /\ Q k H') ρ (!ds.isEmpty) := fun H0 F σ H Q S q => h H0 F σ H _ S fun F1 H1 v x1 r1 => by
  obtain ⟨a, xs, rfl, h1, h2, _⟩ := Zcc (K := K) r1 x1.fh
  refine ⟨_, .inl ⟨xs, h1, rfl⟩, ?_⟩
  have e : xs.isEmpty = ds.isEmpty := by
    have := h2.length
    cases xs <;> cases ds <;> simp at this ⊢
  rw [e]
  exact q F1 H1 x1
noncomputable def ZlY (n : Nd) : PyData := Zb8 (nk n)
inductive R_reached (P : Program) (w : World) (C : Addr) : List OT -> (OT -> Prop) -> Prop
  | mk {N : NetS} {L : Lay Nd} {φ : Phi Nd} {s : Nd} (h : NetR N L φ) (l : L.length < 400) : R_reached P w C [.zow (ZeN P w C N), .fz (Zb8 (nk s))] (fun r => ∃ v es, r = .own v (Zgx (kvG es)) /\ Tree L φ s es /\ ZcB L φ es)
structure ReachI (L : Lay Nd) (φ : Phi Nd) (s : Nd) (es0 es : Got Nd) (U fu : List Nd) : Prop where
  tree : Tree L φ s es
  fin : ∀ n ∈ fu, n ∈ Za3 es
  sub : ∀ n ∈ Za3 es0, n ∈ Za3 es
  done : ZoU L φ es (U ++ fu)
  len : es.length = es0.length + fu.length
theorem Zbb : FnScope ["self", "start", "edges", "latest", "further", "node", "edge"] ["self", "start"] (Zab Zbk) := by walk_at "p"
theorem ZjC (T : Bl mg) (U : Tx K mg C gS gE) (D : Mf K C "reached" "Net.reached" Zbk ["self", "start"]) : ZgC P w K mg base C "reached" ["self", "start"] 1 (spD K (R_reached P w C)) := by
  refine D.evD Zbb (fun ts Φ h => by cases h; rfl) (fun f cdv A outer s H E ts Φ hr h => ?_)
  cases h with
  | @mk N L φ s' h l =>
    refine ⟨_, (Zaf (Zaw (i := 2) Zbb.nd rfl (Or.inl rfl) (Znl (Zgv hr) (pv 1) ZhE))
 (Zaf (Zaw (i := 3) Zbb.nd rfl (Or.inl rfl) (Zc2 (Zaa (pv 1) Zae)))
 (Zaf (ZeZ PassesOwn.never (Zna (pv 3) (fun _ => rfl)) (Zaf (Zaw (i := 4) Zbb.nd rfl (Or.inl rfl) (Zc2 Zae))
 (Zaf (Zbh PassesOwn.never rfl (Zdn (pv 3)) (Zal (i := 5) Zbb.nd rfl (Or.inl rfl)) (Zag (Zbh PassesOwn.never rfl (Zdn (ZmG (Zgv hr) (Zcn (pv 0) rfl) (pv 5) (Zc2 Zae) ⟨rfl, rfl, rfl, rfl⟩)) (Zal (i := 6) Zbb.nd rfl (Or.inl rfl)) (Zag (Zcj (PW.pt (ZnP (ZaL ZfG (Za7 Zat (Zcn (pv 0) rfl) (pv 6) (fun _ _ => rfl)) Zai (ZbG _)) (Zkz (ZeC (ZkM (Zgv hr) (Za7 Zat (Zcn (pv 0) rfl) (pv 6) (fun _ _ => rfl)) (pv 2)))))) (Zaf (Zo5 (Zgv hr) (pv 2) (Za7 Zat (Zcn (pv 0) rfl) (pv 6) (fun _ _ => rfl)) (pv 6) rfl)
 (Zag (Zbe (ZfM PySem.F.plainAttrs_list PySem.F.slot_list_append PySem.F.type_list_append ZbF (pv 4) (Zaa (Za7 Zat (Zcn (pv 0) rfl) (pv 6) (fun _ _ => rfl)) Zae))))) ZaE)))))
 (Zag (Zaw (i := 3) Zbb.nd rfl (Or.inl rfl) (pv 4))))))
 (Zag (Zav (pv 2)))))), ?_⟩
    show EvS K _ [some _, some _, none, none, none, none, none] _
    walk_at "x"
    refine Zas (Zkt (ZmM (k := nk s') (d := .none) (Zac rfl) ZpR) (fun v => ?_))
    walk_at "d"
    refine Zas (ZcZ (ZdM (ds := [Zb8 (nk s')]) (ZcX (Zac rfl) Zce) (by show (1 : Nat) <= 1000; decide)) ?_)
    walk_at "d"
    refine Zkj 3 rfl ?_
    walk_at "d"
    have bnd : ∀ es, Tree L φ s' es -> es.length <= 2 * L.length + 1 := fun es t => by have := t.len; rw [ZgW] at this; exact this
    refine Zas (ZeQ (fun m ρ' => ∃ (es : Got Nd) (lt : List Nd) (u4 u5 u6 : Option OT), Tree L φ s' es /\ (∀ n ∈ lt, n ∈ Za3 es) /\ ZoU L φ es lt /\ m = 2 * (2 * L.length + 2 - es.length) + (if lt = [] then 0 else 1) /\
      ρ' = [some (.zow (ZeN P w C N)), some (.fz (Zb8 (nk s'))), some (.own v (Zgx (kvG es))), some (.fz (.list (lt.map ZlY))), u4, u5, u6]) _ ⟨[(s', none)], [s'], none, none, none, .root, (fun n hn => by simpa [Za3] using hn), ?d0, rfl, rfl⟩ ?ws)
    case d0 =>
      intro e m n r h1 h2 h3 h4 h5 h6
      have : m = s' := by simpa [Za3] using h5
      exact absurd (by rw [this]; exact List.mem_cons_self) h6
    case ws =>
      rintro m _ ⟨es, lt, u4, u5, u6, tr, sb, dn, rfl, rfl⟩
      refine ⟨_, ZoJ (ds := lt.map ZlY) (Zac rfl), fun c => ?_, fun c => ?_⟩
      · have hlt : lt ≠ [] := fun z => by rw [z] at c; cases c
        rw [if_neg hlt]
        refine Zas (ZcZ (ZdM (ds := []) Zce (by decide)) ?_)
        walk_at "d"
        refine Zas (Zej (ds := lt.map ZlY) (fun i ρ' => ∃ (es' : Got Nd) (fu : List Nd) (u5 u6 : Option OT), ReachI L φ s' es es' (lt.drop i) fu /\
          ρ' = [some (.zow (ZeN P w C N)), some (.fz (Zb8 (nk s'))), some (.own v (Zgx (kvG es'))), some (.fz (.list (lt.map ZlY))), some (.ol (fu.map ZlY)), u5, u6]) (Zd7 (Zac rfl)) ⟨es, [], _, _, ⟨tr, (fun n hn => nomatch hn), fun n hn => hn, by rw [List.drop_zero, List.append_nil]; exact dn, by simp⟩, rfl⟩ ?st ?fin)
        case fin =>
          rintro _ ⟨es', fu, w5, w6, I, rfl⟩
          rw [List.length_map] at I
          have dn' := I.done
          rw [List.drop_length, List.nil_append] at dn'
          refine Zkj 4 rfl ?_
          walk_at "d"
          refine ZcP (Zac rfl) ?_
          walk_at "d"
          refine ⟨2 * (2 * L.length + 2 - es'.length) + (if fu = [] then 0 else 1), ?_, es', fu, _, _, _, I.tree, I.fin, dn', rfl, rfl⟩
          have b1 := bnd es' I.tree
          have b2 := I.len
          by_cases z : fu = []
          · rw [if_pos z]
            rw [z] at b2
            simp at b2
            omega
          · rw [if_neg z]
            have : 0 < fu.length := List.length_pos_iff.mpr z
            omega
        case st =>
          rintro i d _ hd ⟨es1, fu1, w5, w6, I1, rfl⟩
          have hi : i < lt.length := by
            have := (List.getElem?_eq_some_iff.mp hd).1
            simpa using this
          obtain rfl : d = ZlY lt[i] := by simpa [hi] using hd.symm
          have hdr : lt.drop i = lt[i] :: lt.drop (i + 1) := List.drop_eq_getElem_cons hi
          generalize lt[i] = x at hdr
          refine ⟨_, ZbS, ?_⟩
          walk_at "d"
          refine Zej (ds := ((Zbq N.leav (nk x)).getD []).map PyData.int) (fun j ρ' => ∃ (es2 : Got Nd) (fu2 : List Nd) (u6 : Option OT), ReachI L φ s' es es2 (lt.drop i) fu2 /\
            (∀ (k : Nat) (n : Nd) (r : Int), (k : Int) ∈ ((Zbq N.leav (nk x)).getD []).take j -> hdE L k = some n -> rmE L φ k = some r -> 0 < r -> n ∈ Za3 es2) /\
            ρ' = [some (.zow (ZeN P w C N)), some (.fz (Zb8 (nk s'))), some (.own v (Zgx (kvG es2))), some (.fz (.list (lt.map ZlY))), some (.ol (fu2.map ZlY)), some (.fz (ZlY x)), u6]) (Zd7 (Znt (k := nk x) U.net rfl (Zac rfl))) ⟨es1, fu1, _, I1, (fun k n r hk => by simp at hk), rfl⟩ ?st2 ?fin2
          case fin2 =>
            rintro _ ⟨es2, fu2, w6, I2, dn2, rfl⟩
            refine ⟨es2, fu2, _, _, ⟨I2.tree, I2.fin, I2.sub, ?_, I2.len⟩, rfl⟩
            rw [List.length_map, List.take_length] at dn2
            intro e m n r h1 h2 h3 h4 h5 h6
            by_cases z : m = x
            · subst z
              exact dn2 e n r ((h.leav m (e : Int)).mpr ⟨e, rfl, h1⟩) h2 h3 h4
            · refine I2.done e m n r h1 h2 h3 h4 h5 ?_
              rw [hdr, List.cons_append, List.mem_cons, not_or]
              exact ⟨z, h6⟩
          case st2 =>
            rintro j d2 _ hd2 ⟨es2, fu2, w6, I2, dn2, rfl⟩
            have hj : j < ((Zbq N.leav (nk x)).getD []).length := by
              have := (List.getElem?_eq_some_iff.mp hd2).1
              simpa using this
            obtain ⟨k, ek, tk⟩ := (h.leav x _).mp (List.getElem_mem hj)
            obtain rfl : d2 = .int (k : Int) := by
              rw [List.getElem?_map, List.getElem?_eq_getElem hj] at hd2
              rw [ek] at hd2
              simpa using hd2.symm
            obtain ⟨y, hy⟩ : ∃ y, L[k / 2]? = some y := by
              unfold tlE at tk
              cases z : L[k / 2]? with
              | none => rw [z] at tk; cases tk
              | some y => exact ⟨y, rfl⟩
            obtain ⟨n, hn⟩ : ∃ n, hdE L k = some n := ⟨_, by unfold hdE; rw [hy]; rfl⟩
            obtain ⟨r, hr'⟩ : ∃ r, rmE L φ k = some r := ⟨_, by unfold rmE; rw [hy]; rfl⟩
            have ra : atI (N.rooms.map PyData.int) (k : Int) = some (.int r) := Zc8 (by rw [List.getElem?_map, h.rooms, ZdG, hr']; rfl)
            have ea : atI (N.ends.map Zb8) (k : Int) = some (Zb8 (nk n)) := Zc8 (by rw [h.ends, List.map_map, List.getElem?_map, Zic, hn]; rfl)
            have tks : ((Zbq N.leav (nk x)).getD []).take (j + 1) = ((Zbq N.leav (nk x)).getD []).take j ++ [(k : Int)] := by rw [List.take_succ, List.getElem?_eq_getElem hj, ek]; rfl
            have bes := bnd es2 I2.tree
            have ben := I2.len
            refine ⟨_, ZbS, ?_⟩
            walk_at "d"
            have eend : ∀ {ρ : Zbd}, ρ[0]? = some (some (.zow (ZeN P w C N))) -> ρ[6]? = some (some (.fz (.int (k : Int)))) -> EvE K (tOp (rIx K) (ZjX K (ZcR 0) "ends") (ZcR 6)) ρ (Zb8 (nk n)) := fun e0 e6 => Zlo U.net e0 (Zac e6) ea
            refine Zdm (b := decide (r > 0) && !(ZhY (kvG es2) (nk n)).isSome) (Zqn (Zbu (Zgd (Zg6 U.net rfl (Zac rfl) ra) ZbU)) (fun _ => ZlZ (ZjI (eend rfl rfl) rfl))) (fun c => ?_) (fun c => ZaF ?_)
            · rw [Zhn] at c
              have c1 : r > 0 := of_decide_eq_true (Bool.and_eq_true_iff.mp c).1
              have c2 : n ∉ Za3 es2 := by simpa using (Bool.and_eq_true_iff.mp c).2
              refine Zas (Zmy rfl (Zac rfl) (eend rfl rfl) (by rw [show (kvG es2).length = es2.length from List.length_map _]; exact ZaN (by omega)) ?_)
              walk_at "d"
              rw [ZmX c2]
              refine Zer (ds := fu2.map ZlY) rfl (eend rfl rfl) (by rw [List.length_map]; omega) ?_
              walk_at "d"
              have km : x ∈ Za3 es2 := I2.sub x (sb x (List.mem_of_mem_drop (by rw [hdr]; exact List.mem_cons_self)))
              refine ⟨es2 ++ [(n, some k)], fu2 ++ [n], _, ⟨I2.tree.add c2 hn tk km hr' c1, fun z hz => ?_, fun z hz => ZbV.mpr (.inl (I2.sub z hz)), ?_, by simp; omega⟩, fun k' n' r' hk' q1 q2 q3 => ?_, by rw [List.map_append]; rfl⟩
              · rcases List.mem_append.mp hz with hz | hz
                · exact ZbV.mpr (.inl (I2.fin z hz))
                · exact ZbV.mpr (.inr (by simpa using hz))
              · exact I2.done.add n (some k)
              · rw [tks] at hk'
                rcases List.mem_append.mp hk' with z | z
                · exact ZbV.mpr (.inl (dn2 k' n' r' z q1 q2 q3))
                · have : k' = k := by have := List.mem_singleton.mp z; omega
                  subst this
                  rw [hn] at q1
                  cases q1
                  exact ZbV.mpr (.inr rfl)
            · rw [Zhn] at c
              refine ⟨es2, fu2, _, I2, fun k' n' r' hk' q1 q2 q3 => ?_, rfl⟩
              rw [tks] at hk'
              rcases List.mem_append.mp hk' with z | z
              · exact dn2 k' n' r' z q1 q2 q3
              · have : k' = k := by have := List.mem_singleton.mp z; omega
                subst this
                rw [hn] at q1
                rw [hr'] at q2
                cases q1
                cases q2
                apply Classical.byContradiction
                intro hq
                have q3' : r > 0 := q3
                simp [q3', hq] at c
      · have hlt : lt = [] := by
          cases lt with
          | nil => rfl
          | cons a b => cases c
        subst hlt
        exact Zl1 rfl ⟨v, es, rfl, tr, dn.closed⟩
noncomputable def Zkb (w : List Nat) : List PyData := w.map fun (e : Nat) => PyData.int (e : Int)
theorem Zhl {L : Lay Nd} {es : Got Nd} {n : Nd} {w : List Nat} (b : Back L es n w) : ZhY (kvG es) (nk n) = some (ZpC w.head?) := by
  rw [ZgF]
  cases b with
  | nil h => rw [h]; rfl
  | cons h t b => rw [h]; rfl
theorem Zqi {L : Lay Nd} {φ : Phi Nd} {e : Nat} {r : Int} (h : rmE L φ e = some r) : e < 2 * L.length := by
  unfold rmE at h
  cases z : L[e / 2]? with
  | none => rw [z] at h; cases h
  | some x => have := (List.getElem?_eq_some_iff.mp z).1; omega
theorem ZkL {L : Lay Nd} {φ : Phi Nd} {s n : Nd} {es : Got Nd} {w : List Nat} (q : WayOk L φ s es n w) : w.length <= 2 * L.length := by
  have := Zfg (ys := List.range (2 * L.length)) q.nodup fun e he => by
    obtain ⟨r, hr, _⟩ := q.room e he
    exact List.mem_range.mpr (Zqi hr)
  simpa using this
inductive R_way (P : Program) (w : World) (C : Addr) : List OT -> (OT -> Prop) -> Prop
  | mk {N : NetS} {L : Lay Nd} {φ : Phi Nd} {s n : Nd} {es : Got Nd} {wy : List Nat} (h : NetR N L φ) (l : L.length < 400) (q : WayOk L φ s es n wy) : R_way P w C [.zow (ZeN P w C N), .zow (Zow (kvG es)), .fz (Zb8 (nk n))] (fun r => r = .ol (Zkb wy))
theorem ZcE : FnScope ["self", "edges", "end", "way", "edge"] ["self", "edges", "end"] (Zab Zb1) := by walk_at "p"
theorem ZpG (T : Bl mg) (U : Tx K mg C gS gE) (D : Mf K C "way_to" "Net.way_to" Zb1 ["self", "edges", "end"]) : ZgC P w K mg base C "way_to" ["self", "edges", "end"] 1 (spD K (R_way P w C)) := by
  refine D.evD ZcE (fun ts Φ h => by cases h; rfl) (fun f cdv A outer s H E ts Φ hr h => ?_)
  cases h with
  | @mk N L φ s' n es wy h l q =>
    refine ⟨_, (Zaf (Zaw (i := 3) ZcE.nd rfl (Or.inl rfl) (Zc2 Zae))
 (Zaf (Zaw (i := 4) ZcE.nd rfl (Or.inl rfl) (Zkw (Zgv hr) (pv 1) (pv 2) (fun _ _ => rfl)))
 (Zaf (ZeZ PassesOwn.never (ZeC (ZgK (pv 4))) (Zaf (Zbe (ZfM PySem.F.plainAttrs_list PySem.F.slot_list_append PySem.F.type_list_append ZbF (pv 3) (Zaa (pv 4) Zae)))
 (Zag (Zaw (i := 4) ZcE.nd rfl (Or.inl rfl) (Zkw (Zgv hr) (pv 1) (Za7 Zat (Zcn (pv 0) rfl) (Za0 Zk4 (pv 4) Zai) (fun _ _ => rfl)) (fun _ _ => rfl))))))
 (Zag (Zav (pv 3)))))), ?_⟩
    show EvS K _ [some _, some _, some _, none, none] _
    walk_at "x"
    have wl := ZkL q
    refine Zas (ZcZ (ZdM (ds := []) Zce (by decide)) ?_)
    walk_at "d"
    refine Zas (ZcP (Zlk rfl (Zac rfl) (Zhl q.back)) ?_)
    walk_at "d"
    refine Zas (ZeQ (fun m ρ' => ∃ (dn rs : List Nat) (n' : Nd), m = rs.length /\ dn ++ rs = wy /\ Back L es n' rs /\ ρ' = [some (.zow (ZeN P w C N)), some (.zow (Zow (kvG es))), some (.fz (Zb8 (nk n))), some (.ol (Zkb dn)), some (.fz (ZpC rs.head?))]) wy.length ⟨[], wy, n, rfl, rfl, q.back, rfl⟩ ?ws)
    case ws =>
      rintro m _ ⟨dn, rs, n', rfl, hw, b, rfl⟩
      refine ⟨_, ZlZ (ZdT (Zac rfl)), fun c => ?_, fun c => ?_⟩
      · cases b with
        | nil h0 => cases c
        | @cons _ m' e rs' h0 t0 b0 =>
          have dl : dn.length < 1000 := by
            have := congrArg List.length hw
            rw [List.length_append] at this
            omega
          refine Zas (Zer (ds := Zkb dn) (d := .int (e : Int)) rfl (Zac rfl) (by unfold Zkb; rw [List.length_map]; exact dl) ?_)
          walk_at "d"
          have ea : atI (N.ends.map Zb8) (Builtin.bitXor (e : Int) 1) = some (Zb8 (nk m')) := by
            rw [ZdR]
            exact Zc8 (by rw [h.ends, List.map_map, List.getElem?_map, ZlA, t0]; rfl)
          refine ZcP (Zlk rfl (Zlo U.net rfl (Zea (g := Builtin.bitXor) (Zac rfl) ZbU) ea) (Zhl b0)) ?_
          walk_at "d"
          refine ⟨rs'.length, Nat.lt_succ_self _, dn ++ [e], rs', m', rfl, by rw [<- hw, List.append_assoc]; rfl, b0, ?_⟩
          unfold Zkb
          rw [List.map_append]
          rfl
      · have : rs = [] := by
          cases rs with
          | nil => rfl
          | cons a b => cases c
        subst this
        rw [List.append_nil] at hw
        subst hw
        exact Zg3 rfl rfl
noncomputable def amt (L : Lay Nd) (φ : Phi Nd) (w : List Nat) : Int := Zj6 (w.map fun e => (rmE L φ e).getD 0)
inductive R_push : NetS -> List OT -> (NetS -> Prop) -> Prop
  | mk {N : NetS} {L : Lay Nd} {φ : Phi Nd} {wy : List Nat} (h : NetR N L φ) (hd : Dis L) (ne : wy ≠ []) (hin : ∀ e ∈ wy, ∃ r, rmE L φ e = some r) (hl : wy.length < 900) : R_push N [.fz (.list (Zkb wy))] (fun N' => NetR N' L (Zfz L (amt L φ wy) φ wy))
theorem NetR.rm {N : NetS} {L : Lay Nd} {φ : Phi Nd} (h : NetR N L φ) {e : Nat} (he : e < 2 * L.length) : ∃ r, N.rooms[e]? = some r /\ (Zcb L φ)[e]? = some r := by
  have : e < (Zcb L φ).length := by rw [Zey]; exact he
  exact ⟨(Zcb L φ)[e], by rw [h.rooms, List.getElem?_eq_getElem this], List.getElem?_eq_getElem this⟩
theorem NetR.push {N : NetS} {L : Lay Nd} {φ : Phi Nd} (h : NetR N L φ) (hd : Dis L) {a r r' : Int} {e : Nat} (h1 : (Zcb L φ)[e]? = some r) (h2 : (Zcb L φ)[Zeb e]? = some r') : NetR { N with rooms := (N.rooms.set e (r - a)).set (Zeb e) (r' + a) } L (ZdI L a φ e) :=
  ⟨h.ends, by show (N.rooms.set e (r - a)).set (Zeb e) (r' + a) = _; rw [h.rooms, Zkl hd h1 h2], h.leav, h.laid, h.laid0, h.l1, h.l2, h.l3⟩
theorem ZjH {L : Lay Nd} {a : Int} {φ : Phi Nd} {wy : List Nat} {i e : Nat} (h : wy[i]? = some e) : Zfz L a φ (wy.take (i + 1)) = ZdI L a (Zfz L a φ (wy.take i)) e := by
  have t : wy.take (i + 1) = wy.take i ++ [e] := by rw [List.take_succ, h]; rfl
  rw [t]
  unfold Zfz
  rw [List.foldl_append]
  rfl
theorem ZdP : FnScope ["self", "way", "amount", "edge"] ["self", "way"] (Zab ZbQ) := by walk_at "p"
theorem ZoC (T : Bl mg) (U : Tx K mg C gS gE) (D : Mf K C "push" "Net.push" ZbQ ["self", "way"]) : ZgC P w K mg base C "push" ["self", "way"] 1 (spN K P w C R_push) := by
  refine D.evN ZdP (fun M ts Ψ h => by cases h; rfl) (fun f cdv A outer s H E v M ts Ψ hr h => ?_)
  cases h with
  | @mk L φ wy h hd ne hin hl =>
    refine ⟨_, (Zaf (Zaw (i := 2) ZdP.nd rfl (Or.inl rfl) (Zay ZoI (by rfl) T.min ZkS (Zaa (ZfL (NX := ["self", "way", "amount", "edge"]) (sc := Zab ZbQ) (N := ["edge", "self"]) (f := [none, some 0]) rfl (by decide +kernel) rfl rfl (Zdn (pv 1)) (fun _ => (Zal (i := 0) (show (["edge", "self"] : List Str).Nodup by decide +kernel) rfl (Or.inl rfl))) (fun _ => Zbt) (fun _ => Zcz) (fun _ => (Za7 Zat (Zcn (pv 1) rfl) (pv 0) (fun _ _ => rfl)))) Zae)))
 (Zag (Zbh PassesOwn.never rfl (Zdn (pv 1)) (Zal (i := 3) ZdP.nd rfl (Or.inl rfl)) (Zaf (Zl9 (Zcn (pv 0) rfl) (pv 3) Zjj (pv 2) ZpV Zen)
 (Zag (Zl9 (Zcn (pv 0) rfl) (Za0 Zk4 (pv 3) Zai) Zjj (pv 2) ZpN Zen)))))), ?_⟩
    show EvS K _ [some _, some _, none, none] _
    walk_at "x"
    refine Zas (ZcP (d := .int (amt L φ wy)) (ZjL 0 rfl rfl (ZpA (ns := wy.map fun e => (rmE L φ e).getD 0) (EvE.cast (EvO.fz (ZgE (xs := wy) (enc := fun (e : Nat) => PyData.int (e : Int)) (h := fun e => .int ((rmE L φ e).getD 0)) ?ei (by omega) ?el)) (by rw [List.map_map]; rfl)) rfl (fun z => ne (List.map_eq_nil_iff.mp z)))) ?_)
    case ei => exact Zd7 (Zac rfl)
    case el =>
      intro e he c
      refine ⟨_, ZbS, ?_⟩
      walk_at "e"
      obtain ⟨r, hr'⟩ := hin e he
      refine EvE.cast (Zg6 (N := M) (m := r) U.net rfl (Zac rfl) ?_) (by rw [hr']; rfl)
      exact Zc8 (by rw [List.getElem?_map, h.rooms, ZdG, hr']; rfl)
    walk_at "d"
    generalize amt L φ wy = a
    refine Zej (ds := Zkb wy) (fun i ρ' => ∃ (N' : NetS) (u3 : Option OT), NetR N' L (Zfz L a φ (wy.take i)) /\ ρ' = [some (.own v (Zc0 P w C N')), some (.fz (.list (Zkb wy))), some (.fz (.int a)), u3]) (Zd7 (Zac rfl)) ⟨M, _, h, rfl⟩ ?st ?fin
    case fin =>
      rintro _ ⟨N', u3, hN, rfl⟩
      unfold Zkb at hN
      rw [List.length_map, List.take_length] at hN
      exact ⟨N', hN, rfl⟩
    case st =>
      rintro i d _ hd' ⟨N', u3, hN, rfl⟩
      have hi : i < wy.length := by
        have := (List.getElem?_eq_some_iff.mp hd').1
        unfold Zkb at this
        simpa using this
      obtain rfl : d = .int (wy[i] : Int) := by
        unfold Zkb at hd'
        simpa [hi] using hd'.symm
      obtain ⟨r0, hr0⟩ := hin wy[i] (List.getElem_mem hi)
      have el := Zqi hr0
      rw [ZjH (List.getElem?_eq_getElem hi)]
      generalize wy[i] = e at el
      have em : Zeb e < 2 * L.length := by unfold Zeb; split <;> omega
      have me : Zeb e ≠ e := by unfold Zeb; split <;> omega
      obtain ⟨r, h1, h2⟩ := My.NetR.rm hN el
      obtain ⟨r', h3, h4⟩ := My.NetR.rm hN em
      refine ⟨_, ZbS, ?_⟩
      walk_at "d"
      refine Zas (ZhT (N := N') (f := fun i j => i - j) (k := (e : Int)) (m := r) (n := a) U.net rfl (Zac rfl) (by omega) (by rw [Int.toNat_natCast]; exact h1) (Zac rfl) ?_)
      walk_at "d"
      rw [Int.toNat_natCast]
      refine ZhT (f := fun i j => i + j) (k := (Zeb e : Int)) (m := r') (n := a) U.net rfl (EvE.cast (Zea (g := Builtin.bitXor) (Zac rfl) ZbU) (by rw [ZdR])) (by omega) (by rw [Int.toNat_natCast]; show (N'.rooms.set e (r - a))[Zeb e]? = _; rw [List.getElem?_set_ne (Ne.symm me)]; exact h3) (Zac rfl) ?_
      walk_at "d"
      rw [Int.toNat_natCast]
      exact ⟨_, _, My.NetR.push hN hd h2 h4, rfl⟩
inductive R_fill : NetS -> List OT -> (NetS -> Prop) -> Prop
  | mk {N : NetS} {y : Yd} {G : Gv} {φ : Phi Nd} (h : NetR N (Zc7 y G) φ) (F : Flow y G φ) (l : (Zc7 y G).length < 400) : R_fill N [.fz (Zb8 (nk .start)), .fz (Zb8 (nk .fin))] (fun N' => ∃ φ' es, NetR N' (Zc7 y G) φ' /\ Flow y G φ' /\ Nd.start ∈ Za3 es /\ ZcB (Zc7 y G) φ' es /\ Nd.fin ∉ Za3 es)
theorem ZdQ : FnScope ["self", "start", "end", "edges"] ["self", "start", "end"] (Zab Zcr) := by walk_at "p"
theorem ZoE (T : Bl mg) (U : Tx K mg C gS gE) (D : Mf K C "fill" "Net.fill" Zcr ["self", "start", "end"]) (c_Net_reached : ZgC P w K mg base C "reached" ["self", "start"] 1 (spD K (R_reached P w C))) (c_Net_push : ZgC P w K mg base C "push" ["self", "way"] 1 (spN K P w C R_push)) (c_Net_way_to : ZgC P w K mg base C "way_to" ["self", "edges", "end"] 1 (spD K (R_way P w C))) :
    ZgC P w K mg base C "fill" ["self", "start", "end"] 2 (spN K P w C R_fill) := by
  refine D.evN ZdQ (fun M ts Ψ h => by cases h; rfl) (fun f cdv A outer s H E v M ts Ψ hr h => ?_)
  cases h with
  | @mk y G φ h F l =>
    refine ⟨_, (Zaf (Zaw (i := 3) ZdQ.nd rfl (Or.inl rfl) (Zcx c_Net_reached U.net hr (pv 0) (Zaa (pv 1) Zae) (hj := by walk_at "j")))
 (Zag (ZeZ PassesOwn.never (ZeC (ZnB (Zgv hr) (pv 2) (pv 3))) (Zaf (Zbe (Zcx c_Net_push U.net hr (pv 0) (Zaa (Zcx c_Net_way_to U.net hr (pv 0) (Zaa (pv 3) (Zaa (pv 2) Zae)) (hj := by walk_at "j")) Zae) (hj := by walk_at "j")))
 (Zag (Zaw (i := 3) ZdQ.nd rfl (Or.inl rfl) (Zcx c_Net_reached U.net hr (pv 0) (Zaa (pv 1) Zae) (hj := by walk_at "j")))))))), ?_⟩
    show EvS K _ [some _, some _, some _, none] _
    walk_at "x"
    have ZeI : ∀ {M : NetS} {φ : Phi Nd} {u : Option OT} {E' : XK}, NetR M (Zc7 y G) φ -> EvD K (ZjE C "reached" (spD K (R_reached P w C)) [] E' (ZcR 0) (ZaV (ZcR 1) Zds)) [some (.own v (Zc0 P w C M)), some (.fz (Zb8 (nk .start))), some (.fz (Zb8 (nk .fin))), u] (fun r => ∃ v' es, r = .own v' (Zgx (kvG es)) /\ Tree (Zc7 y G) φ .start es /\ ZcB (Zc7 y G) φ es) := fun h' =>
      Zes 0 rfl (fun r ⟨v', es, e, _⟩ => by subst e; exact Zmx (ZmV es)) (ZgM Zfe rfl (Zad (Zac rfl) Zam) (R_reached.mk h' l))
    refine Zas (Zez (ZeI h) (fun r hr' => ?_))
    obtain ⟨v3, es, rfl, tr, cl⟩ := hr'
    walk_at "d"
    refine ZeQ (fun m ρ' => ∃ (M : NetS) (φ : Phi Nd) (es : Got Nd) (v3 : V), NetR M (Zc7 y G) φ /\ Flow y G φ /\ Tree (Zc7 y G) φ .start es /\ ZcB (Zc7 y G) φ es /\ m = (Za2 G.wa G.m - Zgy (Zc7 y G) φ .start).toNat /\
      ρ' = [some (.own v (Zc0 P w C M)), some (.fz (Zb8 (nk .start))), some (.fz (Zb8 (nk .fin))), some (.own v3 (Zgx (kvG es)))]) _ ⟨M, φ, es, v3, h, F, tr, cl, rfl, rfl⟩ ?ws
    clear tr cl es v3 h F
    rintro m _ ⟨M, φ, es, v3, h, F, tr, cl, rfl, rfl⟩
    refine ⟨_, ZlZ (Zo4 (k := nk .fin) (Zac rfl) rfl), fun c => ?_, fun c => ?_⟩
    · rw [Zhn] at c
      obtain ⟨wy, q⟩ := tr.way .fin (of_decide_eq_true c)
      have wl := ZkL q
      have wne : wy ≠ [] := fun z => by
        have := q.chain
        rw [z] at this
        cases this
      refine Zjz 3 rfl ?_
      walk_at "d"
      refine Zas (ZcY (ΦA := fun ts => ts = [.fz (.list (Zkb wy))]) Znv rfl (ZpL (Φ := fun r => r = .ol (Zkb wy)) (Zes 0 rfl (fun r e => by subst e; exact Zpw (fun d hd => by
        obtain ⟨e, _, rfl⟩ := List.mem_map.mp hd
        exact ⟨_, rfl⟩)) (ZgM Zp1 rfl (ZnS rfl (Zad (Zac rfl) Zam)) (R_way.mk h l q))) (fun r e => ⟨_, e, rfl⟩)) (fun ts hts => ?_))
      subst hts
      refine ⟨_, R_push.mk h (ZeS y G) wne (fun e he => let ⟨r, a, _⟩ := q.room e he; ⟨r, a⟩) (by omega), fun N' hN => ?_⟩
      walk_at "d"
      obtain ⟨m1, m2⟩ := Zf1 (ns := wy.map fun e => (rmE (Zc7 y G) φ e).getD 0) (fun z => wne (List.map_eq_nil_iff.mp z))
      have a0 : 0 < amt (Zc7 y G) φ wy := by
        obtain ⟨e, he, ee⟩ := List.mem_map.mp m1
        obtain ⟨r, hr1, hr2⟩ := q.room e he
        rw [hr1] at ee
        show 0 < Zj6 _
        rw [<- ee]
        exact hr2
      obtain ⟨F', nd⟩ := F.push (a := amt (Zc7 y G) φ wy) (by omega) q.chain q.nodup (fun e he => by
        obtain ⟨r, hr1, _⟩ := q.room e he
        refine ⟨r, hr1, ?_⟩
        have := m2 _ (List.mem_map.mpr ⟨e, he, rfl⟩)
        rw [hr1] at this
        exact this)
      refine Zez (ZeI hN) (fun r hr' => ?_)
      obtain ⟨v4, es', rfl, tr', cl'⟩ := hr'
      walk_at "d"
      refine ⟨_, ?_, N', _, es', v4, hN, F', tr', cl', rfl, rfl⟩
      have := F'.most
      rw [nd] at this ⊢
      omega
    · rw [Zhn] at c
      exact ⟨M, ⟨φ, es, h, F, tr.start, cl, of_decide_eq_false c⟩, rfl⟩
structure GOk (y : Yd) (g : Gs) : Prop where
  ln : g.line < y.ls.length
  w0 : 0 <= g.want
  m0 : 0 <= g.most
theorem Zqy {y : Yd} {g : Gs} (h : g.Ok y) : GOk y g := ⟨h.ln, by have := h.w1; omega, by have := h.m1; omega⟩
noncomputable def ZaA (gs : List Gs) : Gv := { m := gs.length, ln := fun k => (gs.getD k default).line, wa := fun k => (gs.getD k default).want, mo := fun k => (gs.getD k default).most, th := fun k t => ZaX (gs.getD k default) (t : Int) }
theorem ZdU {gs : List Gs} {k : Nat} (h : k < gs.length) : gs.getD k default = gs[k] := by simp [List.getD, h]
theorem Zny (y : Yd) (G : Gv) (k : Nat) : (Zfl y G k).length <= 1 + y.T := by
  unfold Zfl
  rw [List.length_cons]
  have : ∀ n, ((List.range n).flatMap fun t => if G.th k t = true then [((.guest k, .line (G.ln k) t, G.mo k) : Nd × Nd × Int)] else []).length <= n := by
    intro n
    induction n with
    | zero => simp
    | succ n ih =>
      rw [List.range_succ, List.flatMap_append, List.length_append]
      have : ([n].flatMap fun t => if G.th k t = true then [((.guest k, .line (G.ln k) t, G.mo k) : Nd × Nd × Int)] else []).length <= 1 := by
        simp only [List.flatMap_cons, List.flatMap_nil, List.append_nil]
        split <;> simp
      omega
  have := this y.T
  omega
theorem Zmi {y : Yd} (h : 1 <= y.ls.length) (t : Nat) : (ZgQ y t).length = y.ls.length := by
  unfold ZgQ
  rw [List.length_cons]
  have : ∀ n, ((List.range n).flatMap fun i => [((.line (i + 1) t, .line (Mir.upN y (i + 1)) t, Zbw y (i + 1) t) : Nd × Nd × Int)]).length = n := by
    intro n
    induction n with
    | zero => simp
    | succ n ih => rw [List.range_succ, List.flatMap_append, List.length_append, ih]; simp
  rw [this]
  omega
theorem Zep {f : Nat -> Lay Nd} {c : Nat} (h : ∀ k, (f k).length <= c) : ∀ n, ((List.range n).flatMap f).length <= n * c
  | 0 => by simp
  | n + 1 => by
    rw [List.range_succ, List.flatMap_append, List.length_append]
    have a := Zep h n
    have b : ([n].flatMap f).length <= c := by simpa using h n
    rw [Nat.add_mul]
    omega
theorem Zd1 (f : Nat -> Lay Nd) (n : Nat) : (List.range (n + 1)).flatMap f = (List.range n).flatMap f ++ f n := by rw [List.range_succ, List.flatMap_append]; simp
theorem Zgs {f : Nat -> Lay Nd} {n : Nat} {x : Nd × Nd × Int} : x ∈ (List.range n).flatMap f ↔ ∃ k, k < n /\ x ∈ f k := by
  rw [List.mem_flatMap]
  simp only [List.mem_range]
theorem ZdD {y : Yd} (ok : y.Ok) (G : Gv) {n : Nat} (h : n <= 8) : ((List.range n).flatMap (Zfl y G)).length <= 72 := by
  have a := Zep (f := Zfl y G) (c := 9) (fun k => by have := Zny y G k; have := ok.t8; omega) n
  omega
theorem Zfp {y : Yd} (ok : y.Ok) {n : Nat} (h : n <= 8) : ((List.range n).flatMap (ZgQ y)).length <= 40 := by
  have a := Zep (f := ZgQ y) (c := 5) (fun k => by rw [Zmi ok.l1 k]; exact ok.l5) n
  omega
inductive R_gnode : List OT -> OT -> Prop
  | mk {k : Nat} : R_gnode [.fz (.int (k : Int))] (.fz (Zb8 (nk (.guest k))))
theorem Zgm : FnScope ["number"] ["number"] (Zab Zby) := by walk_at "p"
theorem ZmE (T : Bl mg) (D : Df K mg "guest_node" Zby ["number"]) : Cal P w K mg base "guest_node" ["number"] 1 (spO (K := K) R_gnode) := by
  refine D.ev Zgm (fun ts r h => by cases h; rfl) (fun f cdv A outer s H E ts r hr h => ?_)
  cases h with
  | @mk k =>
    refine ⟨_, (Zag (Zav (Zc1 (Zaa ZfA (Zaa (pv 0) Zae))))), ?_⟩
    show EvS K _ [some _] _
    walk_at "x"
    exact ZbX (Zj3 (ds := [.str "guest", .int (k : Int)]) (ZcX Zop (ZcX (Zac rfl) Zce)) (by show (2 : Nat) <= 1000; decide)) rfl
inductive R_lnode : List OT -> OT -> Prop
  | mk {l t : Nat} : R_lnode [.fz (.int (l : Int)), .fz (.int (t : Int))] (.fz (Zb8 (nk (.line l t))))
theorem Zh4 : FnScope ["line", "turn"] ["line", "turn"] (Zab ZbM) := by walk_at "p"
theorem ZmW (T : Bl mg) (D : Df K mg "line_node" ZbM ["line", "turn"]) : Cal P w K mg base "line_node" ["line", "turn"] 1 (spO (K := K) R_lnode) := by
  refine D.ev Zh4 (fun ts r h => by cases h; rfl) (fun f cdv A outer s H E ts r hr h => ?_)
  cases h with
  | @mk l t =>
    refine ⟨_, (Zag (Zav (Zc1 (Zaa ZfA (Zaa (pv 0) (Zaa (pv 1) Zae)))))), ?_⟩
    show EvS K _ [some _, some _] _
    walk_at "x"
    exact ZbX (Zj3 (ds := [.str "line", .int (l : Int), .int (t : Int)]) (ZcX Zop (ZcX (Zac rfl) (ZcX (Zac rfl) Zce))) (by show (3 : Nat) <= 1000; decide)) rfl
inductive R_lguest : NetS -> List OT -> (NetS -> Prop) -> Prop
  | mk {N : NetS} {y : Yd} {gs : List Gs} {k : Nat} (ok : y.Ok) (g8 : gs.length <= 8) (hk : k < gs.length) (h : NetR N ((List.range k).flatMap (Zfl y (ZaA gs))) Zf0) :
      R_lguest N [.fz (eYd y), .fz (.int (k : Int)), .fz (eGs gs[k])] (fun N' => NetR N' ((List.range (k + 1)).flatMap (Zfl y (ZaA gs))) Zf0)
theorem ZeF : FnScope ["net", "yard", "number", "guest", "turn"] ["net", "yard", "number", "guest"] (Zab ZbN) := by walk_at "p"
theorem Zk2 (T : Bl mg) (U : Tx K mg C gS gE) (D : Df K mg "lay_guest" ZbN ["net", "yard", "number", "guest"]) (c_Net_lay : ZgC P w K mg base C "lay" ["self", "start", "end", "room"] 2 (spN K P w C R_lay)) (c_want_of : Cal P w K mg base "want_of" ["guest"] 1 (spO (K := K) R_want)) (c_guest_node : Cal P w K mg base "guest_node" ["number"] 1 (spO (K := K) R_gnode))
    (c_turns_of : Cal P w K mg base "turns_of" ["yard"] 1 (spO (K := K) R_turns)) (c_is_there : Cal P w K mg base "is_there" ["guest", "turn"] 1 (spO (K := K) R_there)) (c_most_of : Cal P w K mg base "most_of" ["guest"] 1 (spO (K := K) R_most)) (c_line_node : Cal P w K mg base "line_node" ["line", "turn"] 1 (spO (K := K) R_lnode)) (c_line_of : Cal P w K mg base "line_of" ["guest"] 1 (spO (K := K) R_lineof)) :
    Cal P w K mg base "lay_guest" ["net", "yard", "number", "guest"] 3 (spN K P w C R_lguest) := by
  refine D.evN ZeF (fun M ts Ψ h => by cases h; rfl) (fun f cdv A outer s H E v M ts Ψ hr h => ?_)
  cases h with
  | @mk y gs k ok g8 hk h =>
    refine ⟨_, (Zaf (Zbe (Zcx c_Net_lay U.net hr (pv 0) (Zaa (Zfx (v := .ref _) rfl U.mSTART rfl) (Zaa (Zar c_guest_node hr (Zaa (pv 2) Zae) (hj := by walk_at "j")) (Zaa (Zar c_want_of hr (Zaa (pv 3) Zae) (hj := by walk_at "j")) Zae))) (hj := by walk_at "j")))
 (Zag (Zbh PassesOwn.never rfl (ZaM rfl T.range (Zaa (Zar c_turns_of hr (Zaa (pv 1) Zae) (hj := by walk_at "j")) Zae)) (Zal (i := 4) ZeF.nd rfl (Or.inl rfl)) (Zag (Zcj (Zjb (Zar c_is_there hr (Zaa (pv 3) (Zaa (pv 4) Zae)) (hj := by walk_at "j"))) (Zag (Zbe (Zcx c_Net_lay U.net hr (pv 0) (Zaa (Zar c_guest_node hr (Zaa (pv 2) Zae) (hj := by walk_at "j")) (Zaa (Zar c_line_node hr (Zaa (Zar c_line_of hr (Zaa (pv 3) Zae) (hj := by walk_at "j")) (Zaa (pv 4) Zae)) (hj := by walk_at "j")) (Zaa (Zar c_most_of hr (Zaa (pv 3) Zae) (hj := by walk_at "j")) Zae))) (hj := by walk_at "j")))) ZaE))))), ?_⟩
    show EvS K _ [some _, some _, some _, some _, none] _
    walk_at "x"
    have t8 := ok.t8
    have gl := ZdD ok (ZaA gs) (n := k) (by omega)
    have gk := ZdU hk
    have ew : (ZaA gs).wa k = gs[k].want := by show (gs.getD k default).want = _; rw [gk]
    have glb : ∀ x ∈ (List.range k).flatMap (Zfl y (ZaA gs)), ∃ j, j < k /\ x ∈ Zfl y (ZaA gs) j := fun x hx => Zgs.mp hx
    refine Zas (ZcY (ΦA := fun ts => ts = [.fz (Zb8 (nk .start)), .fz (Zb8 (nk (.guest k))), .fz (.int gs[k].want)]) ZgB rfl (Zee (Zad (Zg2 U.aS) (Zad (Za4 (Zad (Zac rfl) Zam) R_gnode.mk) (Zad (Za4 (Zad (Zac rfl) Zam) R_want.mk) Zam))) rfl) (fun ts hts => ?_))
    subst hts
    refine ⟨_, R_lay.mk h ?n0 (by omega), fun N1 hN1 => ?_⟩
    case n0 =>
      intro hm
      obtain ⟨x, hx, ex⟩ := List.mem_map.mp hm
      obtain ⟨j, hj, hx⟩ := glb x hx
      injection ex with e1 e2
      rcases Zca.mp hx with rfl | ⟨t, _, _, rfl⟩
      · injection e2 with e2
        omega
      · cases e1
    walk_at "d"
    refine Zej (ds := ZeJ 0 y.T) (fun i ρ' => ∃ (N' : NetS) (u4 : Option OT), NetR N' ((List.range k).flatMap (Zfl y (ZaA gs)) ++ ((.start, .guest k, (ZaA gs).wa k) :: (List.range i).flatMap fun t => if (ZaA gs).th k t = true then [(.guest k, .line ((ZaA gs).ln k) t, (ZaA gs).mo k)] else [])) Zf0 /\
      ρ' = [some (.own v (Zc0 P w C N')), some (.fz (eYd y)), some (.fz (.int (k : Int))), some (.fz (eGs gs[k])), u4]) ?ei ⟨N1, none, by rw [ew]; exact hN1, rfl⟩ ?st ?fin
    case ei => exact EvI.cast (Zc4 (Zad (Za4 (Zad (Zac rfl) Zam) R_turns.mk) Zam) (by rw [z62]; omega) (by rw [z62]; omega)) (Zbx rfl (by omega))
    case fin =>
      rintro _ ⟨N', u4, hN, rfl⟩
      rw [ZbJ] at hN
      refine ⟨N', ?_, rfl⟩
      rw [Zd1]
      exact hN
    case st =>
      rintro t d _ hd ⟨N', u4, hN, rfl⟩
      obtain ⟨ht, rfl⟩ := Zbv hd
      rw [Int.zero_add]
      refine ⟨_, ZbS, ?_⟩
      walk_at "d"
      have et : ZaX gs[k] (t : Int) = (ZaA gs).th k t := by show _ = ZaX (gs.getD k default) (t : Int); rw [gk]
      refine Zdm (b := (ZaA gs).th k t) (EvT.cast (ZlZ (Za4 (Zad (Zac rfl) (Zad (Zac rfl) Zam)) R_there.mk)) et) (fun c => ?_) (fun c => ZaF ?_)
      · refine ZcY (ΦA := fun ts => ts = [.fz (Zb8 (nk (.guest k))), .fz (Zb8 (nk (.line gs[k].line t))), .fz (.int gs[k].most)]) ZgB rfl (Zee (Zad (Za4 (Zad (Zac rfl) Zam) R_gnode.mk) (Zad (Za4 (Zad (Za4 (Zad (Zac rfl) Zam) R_lineof.mk) (Zad (Zac rfl) Zam)) R_lnode.mk) (Zad (Za4 (Zad (Zac rfl) Zam) R_most.mk) Zam))) rfl) (fun ts hts => ?_)
        subst hts
        refine ⟨_, R_lay.mk hN ?n1 ?l1, fun N2 hN2 => ?_⟩
        case n1 =>
          intro hm
          obtain ⟨x, hx, ex⟩ := List.mem_map.mp hm
          injection ex with e1 e2
          rcases List.mem_append.mp hx with hx | hx
          · obtain ⟨j, hj, hx⟩ := glb x hx
            rcases Zca.mp hx with rfl | ⟨t', _, _, rfl⟩
            · cases e1
            · injection e1 with e1
              omega
          · rcases List.mem_cons.mp hx with rfl | hx
            · cases e1
            · obtain ⟨t', ht', hx⟩ := List.mem_flatMap.mp hx
              split at hx
              · rw [List.mem_singleton.mp hx] at e2
                injection e2 with _ e2
                have := List.mem_range.mp ht'
                omega
              · cases hx
        case l1 =>
          rw [List.length_append]
          have : (((.start, .guest k, (ZaA gs).wa k) : Nd × Nd × Int) :: (List.range t).flatMap fun t => if (ZaA gs).th k t = true then [((.guest k, .line ((ZaA gs).ln k) t, (ZaA gs).mo k) : Nd × Nd × Int)] else []).length <= 1 + t * 1 := by
            rw [List.length_cons]
            have := Zep (f := fun t => if (ZaA gs).th k t = true then [((.guest k, .line ((ZaA gs).ln k) t, (ZaA gs).mo k) : Nd × Nd × Int)] else []) (c := 1) (fun t => by split <;> simp) t
            omega
          omega
        walk_at "d"
        refine ⟨N2, _, ?_, rfl⟩
        rw [Zd1, if_pos c]
        have e1 : (ZaA gs).ln k = gs[k].line := by show (gs.getD k default).line = _; rw [gk]
        have e2 : (ZaA gs).mo k = gs[k].most := by show (gs.getD k default).most = _; rw [gk]
        rw [<- e1, <- e2, List.append_assoc] at hN2
        exact hN2
      · refine ⟨N', _, ?_, rfl⟩
        rw [Zd1, if_neg (by rw [c]; decide), List.append_nil]
        exact hN
inductive R_lturn : NetS -> List OT -> (NetS -> Prop) -> Prop
  | mk {N : NetS} {y : Yd} {G : Gv} {t : Nat} (ok : y.Ok) (g8 : G.m <= 8) (ht : t < y.T) (h : NetR N ((List.range G.m).flatMap (Zfl y G) ++ (List.range t).flatMap (ZgQ y)) Zf0) :
      R_lturn N [.fz (eYd y), .fz (.int (t : Int))] (fun N' => NetR N' ((List.range G.m).flatMap (Zfl y G) ++ (List.range (t + 1)).flatMap (ZgQ y)) Zf0)
theorem Zfb : FnScope ["net", "yard", "turn", "line"] ["net", "yard", "turn"] (Zab Zcp) := by walk_at "p"
theorem Zmj (T : Bl mg) (U : Tx K mg C gS gE) (D : Df K mg "lay_turn" Zcp ["net", "yard", "turn"]) (c_Net_lay : ZgC P w K mg base C "lay" ["self", "start", "end", "room"] 2 (spN K P w C R_lay)) (c_bound_at : Cal P w K mg base "bound_at" ["yard", "line", "turn"] 1 (spO (K := K) R_bound)) (c_line_node : Cal P w K mg base "line_node" ["line", "turn"] 1 (spO (K := K) R_lnode))
    (c_line_count : Cal P w K mg base "line_count" ["yard"] 1 (spO (K := K) R_count)) (c_above_of : Cal P w K mg base "above_of" ["yard", "line"] 1 (spO (K := K) R_above)) : Cal P w K mg base "lay_turn" ["net", "yard", "turn"] 3 (spN K P w C R_lturn) := by
  refine D.evN Zfb (fun M ts Ψ h => by cases h; rfl) (fun f cdv A outer s H E v M ts Ψ hr h => ?_)
  cases h with
  | @mk y G t ok g8 ht h =>
    refine ⟨_, (Zaf (Zbe (Zcx c_Net_lay U.net hr (pv 0) (Zaa (Zar c_line_node hr (Zaa Zai (Zaa (pv 2) Zae)) (hj := by walk_at "j")) (Zaa (Zfx (v := .ref _) rfl U.mEND rfl) (Zaa (Zar c_bound_at hr (Zaa (pv 1) (Zaa Zai (Zaa (pv 2) Zae))) (hj := by walk_at "j")) Zae))) (hj := by walk_at "j")))
 (Zag (Zbh PassesOwn.never rfl (Zhb rfl T.range (Zaa Zai (Zaa (Zar c_line_count hr (Zaa (pv 1) Zae) (hj := by walk_at "j")) Zae))) (Zal (i := 3) Zfb.nd rfl (Or.inl rfl)) (Zag (Zbe (Zcx c_Net_lay U.net hr (pv 0) (Zaa (Zar c_line_node hr (Zaa (pv 3) (Zaa (pv 2) Zae)) (hj := by walk_at "j")) (Zaa (Zar c_line_node hr (Zaa (Zar c_above_of hr (Zaa (pv 1) (Zaa (pv 3) Zae)) (hj := by walk_at "j")) (Zaa (pv 2) Zae)) (hj := by walk_at "j")) (Zaa (Zar c_bound_at hr (Zaa (pv 1) (Zaa (pv 3) (Zaa (pv 2) Zae))) (hj := by walk_at "j")) Zae))) (hj := by walk_at "j"))))))), ?_⟩
    show EvS K _ [some _, some _, some _, none] _
    walk_at "x"
    have t8 := ok.t8
    have l1 := ok.l1
    have l5 := ok.l5
    have gl := ZdD ok G g8
    have tl := Zfp ok (n := t) (by omega)
    have glb : ∀ x ∈ (List.range G.m).flatMap (Zfl y G) ++ (List.range t).flatMap (ZgQ y), (∃ j, x ∈ Zfl y G j) \/ ∃ t', t' < t /\ x ∈ ZgQ y t' := fun x hx => by
      rcases List.mem_append.mp hx with hx | hx
      · obtain ⟨j, _, hx⟩ := Zgs.mp hx
        exact .inl ⟨j, hx⟩
      · obtain ⟨j, hj, hx⟩ := Zgs.mp hx
        exact .inr ⟨j, hj, hx⟩
    refine Zas (ZcY (ΦA := fun ts => ts = [.fz (Zb8 (nk (.line 0 t))), .fz (Zb8 (nk .fin)), .fz (.int (Zbw y 0 t))]) ZgB rfl (Zee (Zad (Za4 (Zad ZbU (Zad (Zac rfl) Zam)) (R_lnode.mk (l := 0))) (Zad (Zol U.aE) (Zad (Za4 (Zad (Zac rfl) (Zad ZbU (Zad (Zac rfl) Zam))) (R_bound.mk (k := 0) (t := (t : Int)) ok (by decide) (by omega) (by omega) (by omega))) Zam))) ?e0) (fun ts hts => ?_))
    case e0 => rw [Int.toNat_natCast]; rfl
    subst hts
    refine ⟨_, R_lay.mk h ?n0 (by rw [List.length_append]; omega), fun N1 hN1 => ?_⟩
    case n0 =>
      intro hm
      obtain ⟨x, hx, ex⟩ := List.mem_map.mp hm
      injection ex with e1 e2
      rcases glb x hx with ⟨j, hx⟩ | ⟨t', ht', hx⟩
      · rcases Zca.mp hx with rfl | ⟨u, _, _, rfl⟩ <;> cases e1
      · rcases ZcD.mp hx with rfl | ⟨i, _, rfl⟩
        · injection e1 with _ e1
          omega
        · cases e2
    walk_at "d"
    refine Zej (ds := ZeJ 1 (y.ls.length - 1)) (fun i ρ' => ∃ (N' : NetS) (u3 : Option OT), NetR N' (((List.range G.m).flatMap (Zfl y G) ++ (List.range t).flatMap (ZgQ y)) ++ ((.line 0 t, .fin, Zbw y 0 t) :: (List.range i).flatMap fun i => [(.line (i + 1) t, .line (Mir.upN y (i + 1)) t, Zbw y (i + 1) t)])) Zf0 /\
      ρ' = [some (.own v (Zc0 P w C N')), some (.fz (eYd y)), some (.fz (.int (t : Int))), u3]) ?ei ⟨N1, none, by simpa using hN1, rfl⟩ ?st ?fin
    case ei => exact EvI.cast (Zlc (Zad ZbU (Zad (Za4 (Zad (Zac rfl) Zam) R_count.mk) Zam)) (by rw [z62]; omega)) (Zbx rfl (by omega))
    case fin =>
      rintro _ ⟨N', u3, hN, rfl⟩
      rw [ZbJ] at hN
      refine ⟨N', ?_, rfl⟩
      rw [Zd1, <- List.append_assoc]
      exact hN
    case st =>
      rintro i d _ hd ⟨N', u3, hN, rfl⟩
      obtain ⟨hi, rfl⟩ := Zbv hd
      have ei : (1 : Int) + (i : Int) = ((i + 1 : Nat) : Int) := by omega
      rw [ei]
      refine ⟨_, ZbS, ?_⟩
      walk_at "d"
      refine ZcY (ΦA := fun ts => ts = [.fz (Zb8 (nk (.line (i + 1) t))), .fz (Zb8 (nk (.line (Mir.upN y (i + 1)) t))), .fz (.int (Zbw y (i + 1) t))]) ZgB rfl (Zee (Zad (Za4 (Zad (Zac rfl) (Zad (Zac rfl) Zam)) (R_lnode.mk (l := i + 1))) (Zad (Za4 (Zad (Za4 (Zad (Zac rfl) (Zad (Zac rfl) Zam)) (R_above.mk (k := ((i + 1 : Nat) : Int)) ok (by omega) (by omega))) (Zad (Zac rfl) Zam)) (R_lnode.mk (l := upN y (((i + 1 : Nat) : Int)).toNat))) (Zad (Za4 (Zad (Zac rfl) (Zad (Zac rfl) (Zad (Zac rfl) Zam))) (R_bound.mk (k := ((i + 1 : Nat) : Int)) (t := (t : Int)) ok (by omega) (by omega) (by omega) (by omega))) Zam))) ?e1) (fun ts hts => ?_)
      case e1 => rw [Int.toNat_natCast, Int.toNat_natCast]; rfl
      subst hts
      refine ⟨_, R_lay.mk hN ?n1 ?l1, fun N2 hN2 => ?_⟩
      case n1 =>
        intro hm
        obtain ⟨x, hx, ex⟩ := List.mem_map.mp hm
        injection ex with e1 e2
        rcases List.mem_append.mp hx with hx | hx
        · rcases glb x hx with ⟨j, hx⟩ | ⟨t', ht', hx⟩
          · rcases Zca.mp hx with rfl | ⟨u, _, _, rfl⟩ <;> cases e1
          · rcases ZcD.mp hx with rfl | ⟨i', _, rfl⟩
            · cases e2
            · injection e1 with _ e1
              omega
        · rcases List.mem_cons.mp hx with rfl | hx
          · cases e2
          · obtain ⟨i', hi', hx⟩ := List.mem_flatMap.mp hx
            rw [List.mem_singleton.mp hx] at e1
            injection e1 with e1 _
            have := List.mem_range.mp hi'
            omega
      case l1 =>
        rw [List.length_append, List.length_append, List.length_cons]
        have := Zep (f := fun i => [((.line (i + 1) t, .line (Mir.upN y (i + 1)) t, Zbw y (i + 1) t) : Nd × Nd × Int)]) (c := 1) (fun i => by simp) i
        omega
      walk_at "d"
      refine ⟨N2, _, ?_, rfl⟩
      rw [Zd1]
      rw [List.append_assoc] at hN2
      exact hN2
noncomputable def ZlK (y : Yd) (G : Gv) (φ : Phi Nd) : Prop := Flow y G φ /\ ∃ es : Got Nd, Nd.start ∈ Za3 es /\ ZcB (Zc7 y G) φ es /\ Nd.fin ∉ Za3 es
inductive R_filled (P : Program) (w : World) (C : Addr) : List OT -> (OT -> Prop) -> Prop
  | mk {y : Yd} {gs : List Gs} (ok : y.Ok) (hg : ∀ g ∈ gs, GOk y g) (g8 : gs.length <= 8) : R_filled P w C [.fz (eYd y), .fz (.list (gs.map eGs))] (fun r => ∃ v N φ, r = .own v (Zc0 P w C N) /\ NetR N (Zc7 y (ZaA gs)) φ /\ ZlK y (ZaA gs) φ)
theorem Zq4 {y : Yd} (ok : y.Ok) {l t : Nat} (hl : l < y.ls.length) (ht : t < y.T) : 0 <= Zbw y l t := by
  rw [Zdj hl]
  have h1 := ZdW ok hl
  have hm : ZfE y l ∈ y.ls := by simp [ZfE, hl]
  have : (ZfE y l).bs.getD t 0 = (ZfE y l).bs[t]'(by omega) := by simp [List.getD, show t < (ZfE y l).bs.length by omega]
  rw [this]
  exact (ok.bb _ hm _ (List.getElem_mem _)).1
theorem Zpp {y : Yd} (ok : y.Ok) {gs : List Gs} (hg : ∀ g ∈ gs, GOk y g) : ∀ x ∈ Zc7 y (ZaA gs), 0 <= x.2.2 := fun x hx => by
  have l1 := ok.l1
  rcases ZdB.mp hx with ⟨k, hk, hx⟩ | ⟨t, ht, hx⟩
  · have gk : GOk y (gs.getD k default) := by rw [ZdU hk]; exact hg _ (List.getElem_mem _)
    rcases Zca.mp hx with rfl | ⟨t, _, _, rfl⟩
    · exact gk.w0
    · exact gk.m0
  · rcases ZcD.mp hx with rfl | ⟨i, hi, rfl⟩
    · exact Zq4 ok (by omega) ht
    · exact Zq4 ok (by omega) ht
theorem Zch : FnScope ["yard", "guests", "net", "number", "guest", "turn"] ["yard", "guests"] (Zab Zb2) := by walk_at "p"
theorem Zlr (T : Bl mg) (U : Tx K mg C gS gE) (D : Df K mg "filled_net" Zb2 ["yard", "guests"]) (c_Net : Zr5 P w K mg base "Net" C 1) (c_lay_guest : Cal P w K mg base "lay_guest" ["net", "yard", "number", "guest"] 3 (spN K P w C R_lguest)) (c_turns_of : Cal P w K mg base "turns_of" ["yard"] 1 (spO (K := K) R_turns))
    (c_lay_turn : Cal P w K mg base "lay_turn" ["net", "yard", "turn"] 3 (spN K P w C R_lturn)) (c_Net_fill : ZgC P w K mg base C "fill" ["self", "start", "end"] 2 (spN K P w C R_fill)) : Cal P w K mg base "filled_net" ["yard", "guests"] 4 (spD K (R_filled P w C)) := by
  refine D.evD Zch (fun ts Φ h => by cases h; rfl) (fun f cdv A outer s H E ts Φ hr h => ?_)
  cases h with
  | @mk y gs ok hg g8 =>
    refine ⟨_, (Zaf (Zaw (i := 2) Zch.nd rfl (Or.inl rfl) (Zo9 c_Net hr (hj := by walk_at "j")))
 (Zaf (Zbh PassesOwn.never rfl (ZbP rfl T.enumerate (Zaa (pv 1) Zae)) (Zc6 (n := 2) rfl (Zaq (Zal (i := 3) Zch.nd rfl (Or.inl rfl)) (Zaq (Zal (i := 4) Zch.nd rfl (Or.inl rfl)) Zb5))) (Zag (Zbe (Zar c_lay_guest hr (Zaa (pv 2) (Zaa (pv 0) (Zaa (pv 3) (Zaa (pv 4) Zae)))) (hj := by walk_at "j")))))
 (Zaf (Zbh PassesOwn.never rfl (ZaM rfl T.range (Zaa (Zar c_turns_of hr (Zaa (pv 0) Zae) (hj := by walk_at "j")) Zae)) (Zal (i := 5) Zch.nd rfl (Or.inl rfl)) (Zag (Zbe (Zar c_lay_turn hr (Zaa (pv 2) (Zaa (pv 0) (Zaa (pv 5) Zae))) (hj := by walk_at "j")))))
 (Zaf (Zbe (Zcx c_Net_fill U.net hr (pv 2) (Zaa (Zfx (v := .ref _) rfl U.mSTART rfl) (Zaa (Zfx (v := .ref _) rfl U.mEND rfl) Zae)) (hj := by walk_at "j")))
 (Zag (Zav (pv 2))))))), ?_⟩
    show EvS K _ [some _, some _, none, none, none, none] _
    walk_at "x"
    have t8 := ok.t8
    refine Zas (Zkt Zpy (fun v => ?_))
    walk_at "d"
    refine Zas (Zej (ds := ZeK (gs.map eGs)) (fun i ρ' => ∃ (N' : NetS) (u3 u4 : Option OT), NetR N' ((List.range i).flatMap (Zfl y (ZaA gs))) Zf0 /\ ρ' = [some (.fz (eYd y)), some (.fz (.list (gs.map eGs))), some (.own v (Zc0 P w C N')), u3, u4, none]) (Zet (Zad (Zac rfl) Zam)) ⟨_, none, none, Zr0 _, rfl⟩ ?st ?fin)
    case st =>
      rintro i d _ hd ⟨N', u3, u4, hN, rfl⟩
      obtain ⟨a, ha, rfl⟩ := ZdX hd
      have hi : i < gs.length := by
        have := (List.getElem?_eq_some_iff.mp ha).1
        simpa using this
      obtain rfl : a = eGs gs[i] := by simpa [hi] using ha.symm
      refine ⟨_, Zm1 (ds := [.int (i : Int), eGs gs[i]]) (ZcN ZbS (ZcN ZbS Zjl)) rfl, ?_⟩
      walk_at "d"
      refine ZiP (ΦA := fun ts => ts = [.fz (eYd y), .fz (.int (i : Int)), .fz (eGs gs[i])]) rfl (Zee (Zad (Zac rfl) (Zad (Zac rfl) (Zad (Zac rfl) Zam))) rfl) (fun ts hts => ?_)
      subst hts
      refine ⟨_, R_lguest.mk ok g8 hi hN, fun N2 hN2 => ?_⟩
      walk_at "d"
      exact ⟨N2, _, _, hN2, rfl⟩
    case fin =>
      rintro _ ⟨N1, u3, u4, hN1, rfl⟩
      rw [Zdh, List.length_map] at hN1
      refine Zas (Zej (ds := ZeJ 0 y.T) (fun i ρ' => ∃ (N' : NetS) (u5 : Option OT), NetR N' ((List.range (ZaA gs).m).flatMap (Zfl y (ZaA gs)) ++ (List.range i).flatMap (ZgQ y)) Zf0 /\ ρ' = [some (.fz (eYd y)), some (.fz (.list (gs.map eGs))), some (.own v (Zc0 P w C N')), u3, u4, u5]) ?ei2 ⟨N1, none, by rw [show (List.range 0).flatMap (ZgQ y) = [] from rfl, List.append_nil]; exact hN1, rfl⟩ ?st2 ?fin2)
      case ei2 => exact EvI.cast (Zc4 (Zad (Za4 (Zad (Zac rfl) Zam) R_turns.mk) Zam) (by rw [z62]; omega) (by rw [z62]; omega)) (Zbx rfl (by omega))
      case st2 =>
        rintro t d _ hd ⟨N', u5, hN, rfl⟩
        obtain ⟨ht, rfl⟩ := Zbv hd
        rw [Int.zero_add]
        refine ⟨_, ZbS, ?_⟩
        walk_at "d"
        refine ZiP (ΦA := fun ts => ts = [.fz (eYd y), .fz (.int (t : Int))]) rfl (Zee (Zad (Zac rfl) (Zad (Zac rfl) Zam)) rfl) (fun ts hts => ?_)
        subst hts
        refine ⟨_, R_lturn.mk ok g8 ht hN, fun N2 hN2 => ?_⟩
        walk_at "d"
        exact ⟨N2, _, hN2, rfl⟩
      case fin2 =>
        rintro _ ⟨N', u5, hN, rfl⟩
        rw [ZbJ] at hN
        have hN : NetR N' (Zc7 y (ZaA gs)) Zf0 := hN
        have ll : (Zc7 y (ZaA gs)).length < 400 := by
          unfold Zc7
          rw [List.length_append]
          have a := ZdD ok (ZaA gs) (n := (ZaA gs).m) g8
          have b := Zfp ok t8
          omega
        refine Zas (ZcY (ΦA := fun ts => ts = [.fz (Zb8 (nk .start)), .fz (Zb8 (nk .fin))]) Zm8 rfl (Zee (Zad (Zg2 U.aS) (Zad (Zol U.aE) Zam)) rfl) (fun ts hts => ?_))
        subst hts
        refine ⟨_, R_fill.mk hN (Zru (Zpp ok hg)) ll, fun N2 hN2 => ?_⟩
        obtain ⟨φ', es, h1, h2, h3, h4, h5⟩ := hN2
        walk_at "d"
        exact Zl1 rfl ⟨v, N2, φ', rfl, h1, h2, es, h3, h4, h5⟩
noncomputable def ZbB (y : Yd) (G : Gv) (φ : Phi Nd) : List (List Int) := (List.range G.m).map fun k => (List.range y.T).map fun t => Zck G φ t k
theorem Zle {y : Yd} {G : Gv} {φ : Phi Nd} {k t : Nat} (hk : k < G.m) (ht : t < y.T) : Zhy (Zc7 y G) φ (.guest k) (.line (G.ln k) t) = Zck G φ t k := by
  unfold Zhy Zck
  by_cases c : G.th k t = true
  · rw [if_pos c, if_pos (List.mem_map.mpr ⟨_, ZgI hk ht c, rfl⟩)]
  · rw [if_neg c, if_neg (fun hm => ?_)]
    obtain ⟨x, hx, ex⟩ := List.mem_map.mp hm
    injection ex with e1 e2
    rcases ZdB.mp hx with ⟨j, _, hx⟩ | ⟨t', _, hx⟩
    · rcases Zca.mp hx with rfl | ⟨t', _, c', rfl⟩
      · cases e1
      · injection e1 with e1
        injection e2 with _ e2
        subst e1 e2
        exact c c'
    · rcases ZcD.mp hx with rfl | ⟨i, _, rfl⟩ <;> cases e1
inductive R_takes (P : Program) (w : World) (C : Addr) : List OT -> OT -> Prop
  | mk {N : NetS} {y : Yd} {gs : List Gs} {φ : Phi Nd} {k : Nat} (ok : y.Ok) (h : NetR N (Zc7 y (ZaA gs)) φ) (hk : k < gs.length) : R_takes P w C [.zow (ZeN P w C N), .fz (eYd y), .fz (.int (k : Int)), .fz (eGs gs[k])] (.ol ((List.range y.T).map fun t => PyData.int (Zck (ZaA gs) φ t k)))
theorem Zie : FnScope ["net", "yard", "number", "guest"] ["net", "yard", "number", "guest"] (Zab ZbT) := by walk_at "p"
theorem ZmN (T : Bl mg) (U : Tx K mg C gS gE) (D : Df K mg "takes_by" ZbT ["net", "yard", "number", "guest"]) (c_turns_of : Cal P w K mg base "turns_of" ["yard"] 1 (spO (K := K) R_turns)) (c_Net_flow : ZgC P w K mg base C "flow" ["self", "start", "end"] 1 (spD K (R_flow P w C))) (c_line_node : Cal P w K mg base "line_node" ["line", "turn"] 1 (spO (K := K) R_lnode)) (c_line_of : Cal P w K mg base "line_of" ["guest"] 1 (spO (K := K) R_lineof)) (c_guest_node : Cal P w K mg base "guest_node" ["number"] 1 (spO (K := K) R_gnode)) :
    Cal P w K mg base "takes_by" ["net", "yard", "number", "guest"] 2 (spO (K := K) (R_takes P w C)) := by
  refine D.ev Zie (fun ts r h => by cases h; rfl) (fun f cdv A outer s H E ts r hr h => ?_)
  cases h with
  | @mk N y gs φ k ok h hk =>
    refine ⟨_, (Zag (Zav (ZfL (NX := ["net", "yard", "number", "guest"]) (sc := Zab ZbT) (N := ["turn", "net", "number", "guest"]) (f := [none, some 0, some 2, some 3]) rfl (by decide +kernel) rfl rfl (ZaM rfl T.range (Zaa (Zar c_turns_of hr (Zaa (pv 1) Zae) (hj := by walk_at "j")) Zae)) (fun _ => (Zal (i := 0) (show (["turn", "net", "number", "guest"] : List Str).Nodup by decide +kernel) rfl (Or.inl rfl))) (fun _ => Zbt) (fun _ => Zcz) (fun _ => (Zcx c_Net_flow U.net hr (pv 1) (Zaa (Zar c_guest_node hr (Zaa (pv 2) Zae) (hj := by walk_at "j")) (Zaa (Zar c_line_node hr (Zaa (Zar c_line_of hr (Zaa (pv 3) Zae) (hj := by walk_at "j")) (Zaa (pv 0) Zae)) (hj := by walk_at "j")) Zae)) (hj := by walk_at "j")))))), ?_⟩
    show EvS K _ [some _, some _, some _, some _] _
    walk_at "x"
    have t8 := ok.t8
    refine Zfk (ZnY (lo := 0) (n := y.T) (h := fun t => PyData.int (Zck (ZaA gs) φ t k)) ?ei (by omega) ?el) rfl
    case ei => exact EvI.cast (Zc4 (Zad (Za4 (Zad (Zac rfl) Zam) R_turns.mk) Zam) (by rw [z62]; omega) (by rw [z62]; omega)) (Zbx rfl (by omega))
    case el =>
      intro t ht c
      refine ⟨_, ZbS, ?_⟩
      walk_at "e"
      rw [Int.zero_add]
      have eL : (ZaA gs).ln k = gs[k].line := by show (gs.getD k default).line = _; rw [ZdU hk]
      have ef := Zle (y := y) (G := ZaA gs) (φ := φ) (k := k) hk ht
      rw [eL] at ef
      exact EvE.cast (EvO.e (EvD.o (ZgM Zml rfl (Zad (Za4 (Zad (Zac rfl) Zam) R_gnode.mk) (Zad (Za4 (Zad (Za4 (Zad (Zac rfl) Zam) R_lineof.mk) (Zad (Zac rfl) Zam)) R_lnode.mk) Zam)) (R_flow.mk (p := .guest k) (q := .line gs[k].line t) h)))) (by rw [ef])
inductive R_great : List OT -> (OT -> Prop) -> Prop
  | mk {y : Yd} {gs : List Gs} (ok : y.Ok) (hg : ∀ g ∈ gs, GOk y g) (g8 : gs.length <= 8) : R_great [.fz (eYd y), .fz (.list (gs.map eGs))] (fun r => ∃ φ, ZlK y (ZaA gs) φ /\ r = .oll ((ZbB y (ZaA gs) φ).map fun row => row.map PyData.int))
theorem ZcG : FnScope ["yard", "guests", "net"] ["yard", "guests"] (Zab Za5) := by walk_at "p"
theorem ZmJ (T : Bl mg) (U : Tx K mg C gS gE) (D : Df K mg "greatest_filling" Za5 ["yard", "guests"]) (c_filled_net : Cal P w K mg base "filled_net" ["yard", "guests"] 4 (spD K (R_filled P w C))) (c_takes_by : Cal P w K mg base "takes_by" ["net", "yard", "number", "guest"] 2 (spO (K := K) (R_takes P w C))) : Cal P w K mg base "greatest_filling" ["yard", "guests"] 5 (spD K R_great) := by
  refine D.evD ZcG (fun ts Φ h => by cases h; rfl) (fun f cdv A outer s H E ts Φ hr h => ?_)
  cases h with
  | @mk y gs ok hg g8 =>
    refine ⟨_, (Zaf (Zaw (i := 2) ZcG.nd rfl (Or.inr rfl) (Zar c_filled_net hr (Zaa (pv 0) (Zaa (pv 1) Zae)) (hj := by walk_at "j")))
 (Zag (Zav (ZfL (NX := ["yard", "guests", "net"]) (sc := Zab Za5) (N := ["number", "guest", "net", "yard"]) (f := [none, none, some 2, some 0]) rfl (by decide +kernel) rfl rfl (ZbP rfl T.enumerate (Zaa (pv 1) Zae)) (fun _ => (Zc6 (n := 2) rfl (Zaq (Zal (i := 0) (show (["number", "guest", "net", "yard"] : List Str).Nodup by decide +kernel) rfl (Or.inl rfl)) (Zaq (Zal (i := 1) (show (["number", "guest", "net", "yard"] : List Str).Nodup by decide +kernel) rfl (Or.inl rfl)) Zb5)))) (fun _ => (Zj2 (n := 2) (ZcT Zbt (ZcT Zbt Zgq)))) (fun _ => Zcz) (fun _ => (Zar c_takes_by hr (Zaa (pv 2) (Zaa (pv 3) (Zaa (pv 0) (Zaa (pv 1) Zae)))) (hj := by walk_at "j"))))))), ?_⟩
    show EvS K _ [some _, some _, none] _
    walk_at "x"
    refine Zas (Zez (Zd4 (Zad (Zac rfl) (Zad (Zac rfl) Zam)) (R_filled.mk ok hg g8)) (fun r hr' => ?_))
    obtain ⟨v, N, φ, rfl, hN, full⟩ := hr'
    walk_at "d"
    refine Znm 2 rfl ?_
    walk_at "d"
    refine Zfk (r := .oll ((ZbB y (ZaA gs) φ).map fun row => row.map PyData.int)) (EvO.cast (ZlL (xs := gs.zipIdx) (enc := fun p => PyData.tuple [.int (p.2 : Int), eGs p.1]) (h := fun p => (List.range y.T).map fun t => PyData.int (Zck (ZaA gs) φ t p.2)) ?ei (by simp; omega) ?el) ?eq) ⟨φ, full, rfl⟩
    case ei =>
      refine EvI.cast (Zet (Zad (Zac rfl) Zam)) ?_
      unfold ZeK
      rw [List.zipIdx_map, List.map_map]
      rfl
    case eq =>
      congr 1
      unfold ZbB
      rw [List.map_map]
      have : (ZaA gs).m = gs.length := rfl
      rw [this]
      apply List.ext_getElem?
      intro i
      by_cases hi : i < gs.length
      · simp [hi, List.map_map, Function.comp_def]
      · simp [hi]
    case el =>
      intro p hp c
      obtain ⟨hk, e2⟩ : ∃ h : p.2 < gs.length, p.1 = gs[p.2] := by
        have := List.mem_zipIdx hp
        simp at this
        exact ⟨this.1, this.2⟩
      obtain ⟨g, k⟩ := p
      simp only at hk e2
      subst e2
      refine ⟨_, Zm1 (ds := [.int (k : Int), eGs gs[k]]) (ZcN ZbS (ZcN ZbS Zjl)) rfl, ?_⟩
      walk_at "e"
      exact Zd2 (ZnS rfl (Zad (Zac rfl) (Zad (Zac rfl) (Zad (Zac rfl) Zam)))) (R_takes.mk ok hN hk)
theorem Zf7 : FnScope ["yard", "guests"] ["yard", "guests"] (Zab ZaY) := by walk_at "p"
theorem Zp4 (T : Bl mg) (D : Df K mg "best_filling" ZaY ["yard", "guests"]) (c_greatest_filling : Cal P w K mg base "greatest_filling" ["yard", "guests"] 5 (spD K R_great)) : Cal P w K mg base "best_filling" ["yard", "guests"] 6 (spD K R_great) := by
  refine D.evD Zf7 (fun ts Φ h => by cases h; rfl) (fun f cdv A outer s H E ts Φ hr h => ?_)
  have h0 := h
  cases h with
  | @mk y gs ok hg g8 =>
    refine ⟨_, (Zag (Zav (Zar c_greatest_filling hr (Zaa (pv 0) (Zaa (pv 1) Zae)) (hj := by walk_at "j")))), ?_⟩
    show EvS K _ [some _, some _] _
    walk_at "x"
    exact Zij (Zd4 (Zad (Zac rfl) (Zad (Zac rfl) Zam)) h0) (fun r hr' => hr')
structure SetOk (gs : List Gs) (some : List Nat) : Prop where
  mem : ∀ k ∈ some, k < gs.length
  len : some.length <= 8
noncomputable def ZiG (gs : List Gs) (t : Nat) (sm : List Nat) : Nat -> Int := fun l => Zd0 gs (t : Int) l sm
theorem Zly {n j : Nat} {f g : Nat -> Int} (hj : j < n) (e1 : ∀ l, l < n -> l ≠ j -> g l = f l) {v : Int} (e2 : g j = v) :
    (((List.range n).map fun l => PyData.int (f l)).set j (.int v)) = (List.range n).map fun l => PyData.int (g l) := by
  apply List.ext_getElem?
  intro i
  by_cases hi : i = j
  · subst hi
    rw [List.getElem?_set_self (by simpa using hj)]
    simp [hj, e2]
  · rw [List.getElem?_set_ne (Ne.symm hi)]
    by_cases h : i < n
    · simp [h, e1 i h hi]
    · simp [h]
noncomputable def ZdV (y : Yd) (gs : List Gs) (sm : List Nat) (t : Nat) : Int := Zcl y (fun k => Zbw y k t) (ZiG gs t sm) 0
noncomputable def Zd9 (y : Yd) (gs : List Gs) (sm : List Nat) : Int := ((List.range y.T).map fun t => ZdV y gs sm t).sum
noncomputable def Zkk (f : Nat -> Int) (i : Nat) : Int := ((List.range i).map f).sum
theorem ZjP (f : Nat -> Int) (i : Nat) : Zkk f (i + 1) = Zkk f i + f i := by simp [Zkk, List.range_succ]
inductive R_whole : List OT -> OT -> Prop
  | mk {i : Int} : R_whole [.fz (.int i)] (.fz (.bool true))
theorem Zgl : FnScope ["_law_found"] ["_law_found"] (Zab Zb7) := by walk_at "p"
theorem Zno (T : Bl mg) (D : Df K mg "_law_whole" Zb7 ["_law_found"]) : Cal P w K mg base "_law_whole" ["_law_found"] 1 (spO (K := K) R_whole) := by
  refine D.ev Zgl (fun ts r h => by cases h; rfl) (fun f cdv A outer s H E ts r hr h => ?_)
  cases h with
  | @mk i =>
    refine ⟨_, (Zag (Zav (Zob (Zay ZnQ (by rfl) T.isi ZnI (Zaa (pv 0) (Zaa (ZlS (v := .ty "int") rfl T.int Zod rfl) Zae))) (ZnR (ZqF (Zay ZnQ (by rfl) T.isi ZnI (Zaa (pv 0) (Zaa (ZlS (v := .ty "bool") rfl T.bool ZoQ rfl) Zae)))))))), ?_⟩
    show EvS K _ [some _] _
    walk_at "ret"
    rfl
noncomputable def Zgb (y : Yd) (G : Gv) (S : Nat -> Bool) : Int := Za2 (ZaU S G.wa) G.m - Za2 (fun t => Zcl y (fun l => Zbw y l t) (ZmP G S t) 0) y.T
noncomputable def Zdf (y : Yd) (G : Gv) (φ : Phi Nd) : Int := Za2 (fun k => G.wa k - Za2 (fun t => Zck G φ t k) y.T) G.m
theorem Zfh {y : Yd} {G : Gv} {φ : Phi Nd} (F : Flow y G φ) (ok : y.Ok) (hln : ∀ k, k < G.m -> G.ln k < y.ls.length) (S : Nat -> Bool) : Zgb y G S <= Zdf y G φ := by
  have nn : ∀ k, k < G.m -> 0 <= G.wa k - Za2 (fun t => Zck G φ t k) y.T := fun k hk => by
    rw [F.total hk]
    have := F.want hk
    omega
  have h1 : Za2 (ZaU S fun k => G.wa k - Za2 (fun t => Zck G φ t k) y.T) G.m <= Zdf y G φ := ZcH fun k hk => Zg9 (nn k hk)
  have h2 : Za2 (ZaU S fun k => G.wa k - Za2 (fun t => Zck G φ t k) y.T) G.m = Za2 (ZaU S G.wa) G.m - Za2 (ZaU S fun k => Za2 (fun t => Zck G φ t k) y.T) G.m := by
    rw [<- Zgp]
    refine Zak fun k _ => ?_
    unfold ZaU
    dsimp only
    split <;> omega
  have h3 : Za2 (fun t => Za2 (ZaU S (Zck G φ t)) G.m) y.T = Za2 (ZaU S fun k => Za2 (fun t => Zck G φ t k) y.T) G.m := by
    rw [Zeg (fun t k => ZaU S (Zck G φ t) k) y.T G.m]
    refine Zak fun k _ => ?_
    unfold ZaU
    cases S k with
    | true => rfl
    | false => simp only [Bool.false_eq_true, if_false]; exact ZaG _
  have h4 : Za2 (fun t => Za2 (ZaU S (Zck G φ t)) G.m) y.T <= Za2 (fun t => Zcl y (fun l => Zbw y l t) (ZmP G S t) 0) y.T := ZcH fun t ht => F.no_more ok hln S ht
  unfold Zgb
  omega
theorem Zf3 {y : Yd} {gs : List Gs} (hg : ∀ g ∈ gs, GOk y g) : ∀ k, k < (ZaA gs).m -> (ZaA gs).ln k < y.ls.length := fun k hk => by
  show (gs.getD k default).line < _
  rw [ZdU hk]
  exact (hg _ (List.getElem_mem _)).ln
theorem ZkY {y : Yd} {gs : List Gs} (ok : y.Ok) (hg : ∀ g ∈ gs, GOk y g) {φ φ' : Phi Nd} (h : ZlK y (ZaA gs) φ) (h' : ZlK y (ZaA gs) φ') : Zdf y (ZaA gs) φ = Zdf y (ZaA gs) φ' := by
  obtain ⟨F, es, hs, hc, hf⟩ := h
  obtain ⟨F', es', hs', hc', hf'⟩ := h'
  have a : Zdf y (ZaA gs) φ = Zgb y (ZaA gs) (ZfD es) := F.lack ok (Zf3 hg) hc hs hf
  have b : Zdf y (ZaA gs) φ' = Zgb y (ZaA gs) (ZfD es') := F'.lack ok (Zf3 hg) hc' hs' hf'
  have c := Zfh F ok (Zf3 hg) (ZfD es')
  have d := Zfh F' ok (Zf3 hg) (ZfD es)
  omega
noncomputable def ZfK (gs : List Gs) (S : Nat -> Bool) : List Nat := (List.range gs.length).filter S
theorem ZmS {gs : List Gs} (g8 : gs.length <= 8) (S : Nat -> Bool) : SetOk gs (ZfK gs S) :=
  ⟨fun k hk => List.mem_range.mp (List.mem_filter.mp hk).1, Nat.le_trans (List.length_filter_le _ _) (by simpa using g8)⟩
theorem ZcL (f : Nat -> Int) : ∀ n, ((List.range n).map f).sum = Za2 f n
  | 0 => rfl
  | n + 1 => by rw [List.range_succ, List.map_append, List.sum_append, ZcL f n]; simp [Za2]
theorem Zgf (f : Nat -> Int) (p : Nat -> Bool) : ∀ n, (((List.range n).filter p).map f).sum = Za2 (ZaU p f) n
  | 0 => rfl
  | n + 1 => by
    rw [List.range_succ, List.filter_append, List.map_append, List.sum_append, Zgf f p n]
    show _ = Za2 (ZaU p f) n + ZaU p f n
    unfold ZaU
    cases e : p n with
    | true => simp [List.filter_cons, e]
    | false => simp [List.filter_cons, e]
theorem Zos (gs : List Gs) (S : Nat -> Bool) (t l : Nat) : ZmP (ZaA gs) S t l = ZiG gs t (ZfK gs S) l := by
  show _ = Zd0 gs (t : Int) l ((List.range gs.length).filter S)
  rw [ZjA]
  unfold ZmP
  refine Zak fun k hk => ?_
  have hk : k < gs.length := hk
  unfold ZaU moT wgt ind
  rw [List.getElem?_eq_getElem hk]
  have e1 : (ZaA gs).th k t = ZaX gs[k] (t : Int) := by show ZaX (gs.getD k default) _ = _; rw [ZdU hk]
  have e2 : (ZaA gs).mo k = gs[k].most := by show (gs.getD k default).most = _; rw [ZdU hk]
  have e3 : (ZaA gs).ln k = gs[k].line := by show (gs.getD k default).line = _; rw [ZdU hk]
  rw [e1, e2, e3]
  cases S k with
  | false => simp
  | true =>
    simp only [if_true]
    by_cases c : gs[k].line = l
    · by_cases d : ZaX gs[k] (t : Int) = true
      · simp [c, d]
      · simp [c, d]
    · simp [c]
noncomputable def Zif (gs : List Gs) (sm : List Nat) : Int := (sm.map fun k => (gs.getD k default).want).sum
theorem Zhi (y : Yd) (gs : List Gs) (S : Nat -> Bool) : Zgb y (ZaA gs) S = Zif gs (ZfK gs S) - Zd9 y gs (ZfK gs S) := by
  unfold Zgb
  congr 1
  · exact (Zgf _ S gs.length).symm
  · unfold Zd9
    rw [ZcL]
    refine Zak fun t _ => ?_
    unfold ZdV
    rw [show ZmP (ZaA gs) S t = ZiG gs t (ZfK gs S) from funext fun l => Zos gs S t l]
noncomputable def Zf5 (y : Yd) (G : Gv) (φ : Phi Nd) (es : Got Nd) : Prop := Flow y G φ /\ Nd.start ∈ Za3 es /\ ZcB (Zc7 y G) φ es /\ Nd.fin ∉ Za3 es
theorem Zf5.full {y : Yd} {G : Gv} {φ : Phi Nd} {es : Got Nd} (h : Zf5 y G φ es) : ZlK y G φ := ⟨h.1, es, h.2⟩
theorem Zf5.lack {y : Yd} {gs : List Gs} (ok : y.Ok) (hg : ∀ g ∈ gs, GOk y g) {φ : Phi Nd} {es : Got Nd} (h : Zf5 y (ZaA gs) φ es) : Zdf y (ZaA gs) φ = Zif gs (ZfK gs (ZfD es)) - Zd9 y gs (ZfK gs (ZfD es)) := by
  rw [<- Zhi]
  exact h.1.lack ok (Zf3 hg) h.2.2.1 h.2.1 h.2.2.2
inductive R_lset : List OT -> (OT -> Prop) -> Prop
  | mk {y : Yd} {gs : List Gs} (ok : y.Ok) (hg : ∀ g ∈ gs, GOk y g) (g8 : gs.length <= 8) : R_lset [.fz (eYd y), .fz (.list (gs.map eGs))] (fun r => ∃ φ es, Zf5 y (ZaA gs) φ es /\ r = .ol (Zdr (ZfK gs (ZfD es))))
theorem Zdk : FnScope ["yard", "guests", "edges"] ["yard", "guests"] (Zab ZaD) := by walk_at "p"
theorem Zi3 (T : Bl mg) (U : Tx K mg C gS gE) (D : Df K mg "guests_reached" ZaD ["yard", "guests"]) (c_filled_net : Cal P w K mg base "filled_net" ["yard", "guests"] 4 (spD K (R_filled P w C))) (c_Net_reached : ZgC P w K mg base C "reached" ["self", "start"] 1 (spD K (R_reached P w C))) (c_guest_node : Cal P w K mg base "guest_node" ["number"] 1 (spO (K := K) R_gnode)) :
    Cal P w K mg base "guests_reached" ["yard", "guests"] 5 (spD K R_lset) := by
  refine D.evD Zdk (fun ts Φ h => by cases h; rfl) (fun f cdv A outer s H E ts Φ hr h => ?_)
  cases h with
  | @mk y gs ok hg g8 =>
    refine ⟨_, (Zaf (Zaw (i := 2) Zdk.nd rfl (Or.inr rfl) (Zcx c_Net_reached U.net hr (Zar c_filled_net hr (Zaa (pv 0) (Zaa (pv 1) Zae)) (hj := by walk_at "j")) (Zaa (Zfx (v := .ref _) rfl U.mSTART rfl) Zae) (hj := by walk_at "j")))
 (Zag (Zav (ZfL (NX := ["yard", "guests", "edges"]) (sc := Zab ZaD) (N := ["number", "edges"]) (f := [none, some 2]) rfl (by decide +kernel) rfl rfl (ZaM rfl T.range (Zaa (Zay Zdu (by rfl) T.len Zdt (Zaa (pv 1) Zae)) Zae)) (fun _ => (Zal (i := 0) (show (["number", "edges"] : List Str).Nodup by decide +kernel) rfl (Or.inl rfl))) (fun _ => Zbt) (fun _ => (ZoR (ZeC (ZnB (Zgv hr) (Zar c_guest_node hr (Zaa (pv 0) Zae) (hj := by walk_at "j")) (pv 1))))) (fun _ => (pv 0)))))), ?_⟩
    show EvS K _ [some _, some _, none] _
    walk_at "x"
    have ll : (Zc7 y (ZaA gs)).length < 400 := by
      unfold Zc7
      rw [List.length_append]
      have a := ZdD ok (ZaA gs) (n := (ZaA gs).m) g8
      have b := Zfp ok ok.t8
      omega
    refine Zas (Zez (Φ := fun r => ∃ v φ es, r = .own v (Zgx (kvG es)) /\ Zf5 y (ZaA gs) φ es) (Znp (P := P) (w := w) Zfe (Zd4 (Zad (Zac rfl) (Zad (Zac rfl) Zam)) (R_filled.mk ok hg g8)) (fun r hr' => ?_) (Zad (Zg2 U.aS) Zam)) (fun r hr' => ?_))
    · obtain ⟨v, N, φ, rfl, hN, F, es0, h1, h2, h3⟩ := hr'
      refine ⟨v, N, rfl, _, R_reached.mk (s := .start) hN ll, fun r ⟨v', es, e, tr, cl⟩ => ⟨v', φ, es, e, F, tr.start, cl, fun z => h3 (tr.inClosed h2 h1 _ z)⟩⟩
    · obtain ⟨v, φ, es, rfl, fb⟩ := hr'
      walk_at "d"
      refine Zjz 2 rfl ?_
      walk_at "d"
      refine Zfk (r := .ol (Zdr (ZfK gs (ZfD es)))) (ZnU (xs := List.range gs.length) (enc := fun (j : Nat) => PyData.int (j : Int)) (h := fun (j : Nat) => PyData.int (j : Int)) (p := ZfD es) ?ei (by simp; omega) ?el) ⟨φ, es, fb, rfl⟩
      case ei =>
        have e : (gs.map eGs).length = gs.length := by simp
        refine EvI.cast (Zc4 (Zad (Zg8 (Zac rfl)) Zam) (by rw [z62, e]; omega) (by rw [z62, e]; omega)) ?_
        rw [e, Int.toNat_natCast]
        unfold ZeJ
        refine List.map_congr_left fun i _ => ?_
        rw [Int.zero_add]
      case el =>
        intro k hk c
        refine ⟨_, ZbS, ?_, fun _ => ?_⟩
        · walk_at "e"
          exact EvT.cast (ZlZ (ZqW (k := nk (.guest k)) (Za4 (Zad (Zac rfl) Zam) R_gnode.mk) rfl)) (Zhn _ _)
        · walk_at "e"
          exact Zac rfl
theorem ZfF : FnScope ["yard", "guests"] ["yard", "guests"] (Zab Zbl) := by walk_at "p"
theorem Zo1 (T : Bl mg) (D : Df K mg "lacking_set" Zbl ["yard", "guests"]) (c_guests_reached : Cal P w K mg base "guests_reached" ["yard", "guests"] 5 (spD K R_lset)) : Cal P w K mg base "lacking_set" ["yard", "guests"] 6 (spD K R_lset) := by
  refine D.evD ZfF (fun ts Φ h => by cases h; rfl) (fun f cdv A outer s H E ts Φ hr h => ?_)
  have h0 := h
  cases h with
  | @mk y gs ok hg g8 =>
    refine ⟨_, (Zag (Zav (Zar c_guests_reached hr (Zaa (pv 0) (Zaa (pv 1) Zae)) (hj := by walk_at "j")))), ?_⟩
    show EvS K _ [some _, some _] _
    walk_at "x"
    exact Zij (Zd4 (Zad (Zac rfl) (Zad (Zac rfl) Zam)) h0) (fun r hr' => hr')
noncomputable def Zdw (L : List (List Int)) : List (List PyData) := L.map fun r => r.map PyData.int
theorem fzG {ρ : Zbd} {t : TE} {r : OT} {d : PyData} (h : EvO K t ρ r) (ed : ZnN r = some d) : EvE K t ρ d := fun H0 F σ H Q S q => h H0 F σ H Q S fun F' H' v p x hp ok => by
  refine q (frF F' H' p) H' v ⟨x.hh, x.ff.trans (ZcC fun a ha => (ok.there a ha).1), Zew x.fh, fun a ha => ?_⟩ (ok.frz ed)
  by_cases z : a ∈ p
  · exact .inr (hp a z)
  · rw [Zcf z] at ha; exact x.fr a ha
noncomputable def llD (L : List (List Int)) : PyData := .list ((Zdw L).map PyData.list)
theorem Zpx (L : List (List Int)) : (Zdw L).map PyData.list = L.map fun r => .list (r.map PyData.int) := by
  unfold Zdw
  rw [List.map_map]
  rfl
noncomputable def Zmb (L : List (List Int)) : List Int := L.map List.sum
noncomputable def Zgh (gs : List Gs) (L : List (List Int)) : List Int := (gs.zip (Zmb L)).map fun p => p.1.want - p.2
theorem ZiF {gs : List Gs} {L : List (List Int)} (h : L.length = gs.length) : Zgh gs L = (List.range gs.length).map fun k => (gs.getD k default).want - (Zmb L).getD k 0 := by
  apply List.ext_getElem
  · simp [Zgh, Zmb, h]
  · intro i h1 h2
    have a : i < gs.length := by simpa using h2
    have b : i < L.length := by omega
    simp [Zgh, Zmb, List.getD, a, b]
inductive R_totals : List OT -> OT -> Prop
  | mk {L : List (List Int)} (h : L.length <= 1000) : R_totals [.fz (llD L)] (.ol ((Zmb L).map PyData.int))
theorem Zhw : FnScope ["filling"] ["filling"] (Zab Zb4) := by walk_at "p"
theorem ZlQ (T : Bl mg) (D : Df K mg "totals_of" Zb4 ["filling"]) : Cal P w K mg base "totals_of" ["filling"] 1 (spO (K := K) R_totals) := by
  refine D.ev Zhw (fun ts r h => by cases h; rfl) (fun f cdv A outer s H E ts r hr h => ?_)
  cases h with
  | @mk L h =>
    refine ⟨_, (Zag (Zav (ZfL (NX := ["filling"]) (sc := Zab Zb4) (N := ["takes"]) (f := [none]) rfl (by decide +kernel) rfl rfl (Zdn (pv 0)) (fun _ => (Zal (i := 0) (show (["takes"] : List Str).Nodup by decide +kernel) rfl (Or.inl rfl))) (fun _ => Zbt) (fun _ => Zcz) (fun _ => (Zay Ze9 (by rfl) T.sum ZeD (Zaa (pv 0) Zae)))))), ?_⟩
    show EvS K _ [some _] _
    walk_at "x"
    refine Zfk (EvO.cast (ZgE (xs := L) (enc := fun r => .list (r.map PyData.int)) (h := fun r => .int r.sum) (EvI.cast (Zd7 (ds := (Zdw L).map PyData.list) (Zac rfl)) (Zpx L)) h ?el) (by unfold Zmb; rw [List.map_map]; rfl)) rfl
    intro x hx c
    refine ⟨_, by walk_at "g", ?_⟩
    walk_at "e"
    exact Zfy (ns := x) (Zac rfl) rfl
inductive R_lacks : List OT -> OT -> Prop
  | mk {gs : List Gs} {L : List (List Int)} (g8 : gs.length <= 8) (h : L.length <= 1000) : R_lacks [.fz (.list (gs.map eGs)), .fz (llD L)] (.ol ((Zgh gs L).map PyData.int))
theorem Zid : FnScope ["guests", "filling"] ["guests", "filling"] (Zab ZbO) := by walk_at "p"
theorem Znu (T : Bl mg) (D : Df K mg "lacks_of" ZbO ["guests", "filling"]) (c_want_of : Cal P w K mg base "want_of" ["guest"] 1 (spO (K := K) R_want)) (c_totals_of : Cal P w K mg base "totals_of" ["filling"] 1 (spO (K := K) R_totals)) : Cal P w K mg base "lacks_of" ["guests", "filling"] 2 (spO (K := K) R_lacks) := by
  refine D.ev Zid (fun ts r h => by cases h; rfl) (fun f cdv A outer s H E ts r hr h => ?_)
  cases h with
  | @mk gs L g8 h =>
    refine ⟨_, (Zag (Zav (ZfL (NX := ["guests", "filling"]) (sc := Zab ZbO) (N := ["guest", "total"]) (f := [none, none]) rfl (by decide +kernel) rfl rfl (Zh7 rfl T.zip (Zaa (pv 0) (Zaa (Zar c_totals_of hr (Zaa (pv 1) Zae) (hj := by walk_at "j")) Zae))) (fun _ => (Zc6 (n := 2) rfl (Zaq (Zal (i := 0) (show (["guest", "total"] : List Str).Nodup by decide +kernel) rfl (Or.inl rfl)) (Zaq (Zal (i := 1) (show (["guest", "total"] : List Str).Nodup by decide +kernel) rfl (Or.inl rfl)) Zb5)))) (fun _ => (Zj2 (n := 2) (ZcT Zbt (ZcT Zbt Zgq)))) (fun _ => Zcz) (fun _ => (Za0 ZfS (Zar c_want_of hr (Zaa (pv 0) Zae) (hj := by walk_at "j")) (pv 1)))))), ?_⟩
    show EvS K _ [some _, some _] _
    walk_at "x"
    refine Zfk (EvO.cast (ZgE (xs := gs.zip (Zmb L)) (enc := fun p => .tuple [eGs p.1, .int p.2]) (h := fun p => .int (p.1.want - p.2)) (EvI.cast (Zhu (as := gs.map eGs) (bs := (Zmb L).map PyData.int) (Zad (Zac rfl) (Zad (Znd (Zad (Zac rfl) Zam) (R_totals.mk h)) Zam))) ?eq) (by simp; omega) ?el) (by unfold Zgh; rw [List.map_map]; rfl)) rfl
    case eq =>
      unfold ZiN
      rw [List.zip_map, List.map_map]
      rfl
    case el =>
      intro x hx c
      refine ⟨_, by walk_at "g", ?_⟩
      walk_at "e"
      exact Zea (Za4 (Zad (Zac rfl) Zam) R_want.mk) (Zac rfl)
theorem ZmT {K : PySem.W.Frag} {ρ : Zbd} {ta : TE} {t : TA} {d : PyData} {Φ' Φ : List OT -> Prop} (h1 : EvE K ta ρ d) (h2 : Zn5 K t ρ Φ') (hi : ∀ ts, Φ' ts -> Φ (.fz d :: ts)) : Zn5 K (ZaV ta t) ρ Φ := fun H0 F σ H Q S q =>
  h1 H0 F σ H _ S fun F1 H1 v x1 r1 => h2 H0 F1 σ H1 _ (S.ext x1) fun F2 H2 vs ts ht x2 r2 => q F2 H2 _ _ (hi ts ht) (x1.trans x2) (.fz (r1.mono x2.ff) r2)
theorem Zpr {K : PySem.W.Frag} {ρ : Zbd} {ta : TE} {Φ : OT -> Prop} {Φ' : List OT -> Prop} (h : EvD K ta ρ Φ) (hi : ∀ r, Φ r -> ∃ d, ZnN r = some d /\ Φ' [.fz d]) : Zn5 K (ZaV ta Zds) ρ Φ' := fun H0 F σ H Q S q =>
  h H0 F σ H _ S fun F1 H1 v p r hr x hp ok => by
    obtain ⟨d, ed, hp'⟩ := hi r hr
    refine q (frF F1 H1 p) H1 [v] _ hp' ⟨x.hh, x.ff.trans (ZcC fun a ha => (ok.there a ha).1), Zew x.fh, fun a ha => ?_⟩ (.fz (ok.frz ed) .nil)
    by_cases z : a ∈ p
    · exact .inr (hp a z)
    · rw [Zcf z] at ha; exact x.fr a ha
theorem ZqI {K : PySem.W.Frag} {ρ : Zbd} {X : Cx} {ta : TE} {Φ Φ' : OT -> Prop} (h : EvD K ta ρ Φ) (hi : ∀ r, Φ r -> ∃ ns : List Int, r = .ol (ns.map PyData.int) /\ Φ' (.fz (.int ns.sum))) (hc : X.calm = true) : EvD K (tCB (Zrp X) (ZaV ta Zds)) ρ Φ' := fun H0 F σ H Q S q =>
  h H0 F σ H _ S fun F1 H1 v p r hr x hp ok => by
    obtain ⟨ns, rfl, hf⟩ := hi r hr
    obtain ⟨a, rfl, rfl, r1, xs, r2, r3⟩ := ok
    exact ⟨hc, .ref a, ns, rfl, .lst r2 (r3.mono x.fh), q F1 H1 (.int ns.sum) [] _ hf x (fun _ z => nomatch z) ⟨rfl, .int _⟩⟩
theorem Zex (y : Yd) (G : Gv) (φ : Phi Nd) : (ZbB y G φ).length = G.m := by simp [ZbB]
theorem Zhc (y : Yd) (gs : List Gs) (φ : Phi Nd) : (Zgh gs (ZbB y (ZaA gs) φ)).sum = Zdf y (ZaA gs) φ := by
  rw [ZiF (Zex y (ZaA gs) φ), ZcL]
  refine Zak fun k hk => ?_
  have e : (Zmb (ZbB y (ZaA gs) φ)).getD k 0 = Za2 (fun t => Zck (ZaA gs) φ t k) y.T := by
    unfold Zmb ZbB
    rw [List.map_map]
    have hk : k < (ZaA gs).m := hk
    simp only [List.getD, List.getElem?_map, List.getElem?_range hk, Option.map_some, Option.getD_some, Function.comp]
    exact ZcL _ _
  rw [e]
  rfl
inductive R_least : List OT -> (OT -> Prop) -> Prop
  | mk {y : Yd} {gs : List Gs} (ok : y.Ok) (hg : ∀ g ∈ gs, GOk y g) (g8 : gs.length <= 8) : R_least [.fz (eYd y), .fz (.list (gs.map eGs))] (fun r => ∃ φ, ZlK y (ZaA gs) φ /\ r = .fz (.int (Zdf y (ZaA gs) φ)))
theorem ZgN : FnScope ["yard", "guests"] ["yard", "guests"] (Zab Zb6) := by walk_at "p"
theorem Zn4 (T : Bl mg) (D : Df K mg "least_lack" Zb6 ["yard", "guests"]) (c_lacks_of : Cal P w K mg base "lacks_of" ["guests", "filling"] 2 (spO (K := K) R_lacks)) (c_best_filling : Cal P w K mg base "best_filling" ["yard", "guests"] 6 (spD K R_great)) : Cal P w K mg base "least_lack" ["yard", "guests"] 7 (spD K R_least) := by
  refine D.evD ZgN (fun ts Φ h => by cases h; rfl) (fun f cdv A outer s H E ts Φ hr h => ?_)
  cases h with
  | @mk y gs ok hg g8 =>
    refine ⟨_, (Zag (Zav (Zay Ze9 (by rfl) T.sum ZeD (Zaa (Zar c_lacks_of hr (Zaa (pv 1) (Zaa (Zar c_best_filling hr (Zaa (pv 0) (Zaa (pv 1) Zae)) (hj := by walk_at "j")) Zae)) (hj := by walk_at "j")) Zae)))), ?_⟩
    show EvS K _ [some _, some _] _
    walk_at "x"
    refine Zij (Φ := fun r => ∃ φ, ZlK y (ZaA gs) φ /\ r = .fz (.int (Zdf y (ZaA gs) φ))) (ZqI (Φ := fun r => ∃ φ, ZlK y (ZaA gs) φ /\ r = .ol ((Zgh gs (ZbB y (ZaA gs) φ)).map PyData.int)) (ZmH (ΦA := fun ts => ∃ φ, ZlK y (ZaA gs) φ /\ ts = [.fz (.list (gs.map eGs)), .fz (llD (ZbB y (ZaA gs) φ))]) (ZmT (Φ' := fun ts => ∃ φ, ZlK y (ZaA gs) φ /\ ts = [.fz (llD (ZbB y (ZaA gs) φ))]) (Zac rfl) (Zpr (Zd4 (Zad (Zac rfl) (Zad (Zac rfl) Zam)) (R_great.mk ok hg g8)) (fun r ⟨φ, full, e⟩ => ⟨llD (ZbB y (ZaA gs) φ), by rw [e]; rfl, φ, full, rfl⟩)) (fun ts ⟨φ, full, e⟩ => ⟨φ, full, by rw [e]⟩)) (fun ts ⟨φ, full, e⟩ => ⟨_, by rw [e]; exact R_lacks.mk g8 (by rw [Zex]; show gs.length <= 1000; omega), φ, full, rfl⟩)) (fun r ⟨φ, full, e⟩ => ⟨_, e, φ, full, by rw [Zhc]⟩) rfl) (fun r hr' => hr')
inductive R_lgiven : List OT -> OT -> Prop
  | mk {y : Yd} {gs : List Gs} {sm : List Nat} (ok : y.Ok) (hg : ∀ g ∈ gs, g.Ok y) (hs : SetOk gs sm) :
      R_lgiven [.fz (eYd y), .fz (.list (gs.map eGs)), .fz (.list (Zdr sm))] (.fz (.int (Zd9 y gs sm)))
theorem Zaz : FnScope ["_law_yard_here", "_law_guests_here", "_law_some", "_law_total", "_law_turn", "_law_reach", "_law_k", "_law_line", "_law_first", "_law_last", "_law_want", "_law_most", "_law_above", "_law_bounds"] ["_law_yard_here", "_law_guests_here", "_law_some"] (Zab Zbg) := by walk_at "p"
theorem Zlg (T : Bl mg) (D : Df K mg "_law_given" Zbg ["_law_yard_here", "_law_guests_here", "_law_some"]) : Cal P w K mg base "_law_given" ["_law_yard_here", "_law_guests_here", "_law_some"] 1 (spO (K := K) R_lgiven) := by
  refine D.ev Zaz (fun ts r h => by cases h; rfl) (fun f cdv A outer s H E ts r hr h => ?_)
  cases h with
  | @mk y gs sm ok hg hs =>
    refine ⟨_, (Zaf (Zaw (i := 3) Zaz.nd rfl (Or.inl rfl) Zai)
 (Zaf (Zbh PassesOwn.never rfl (ZaM rfl T.range (Zaa (Za7 Zat (pv 0) Zai (fun _ _ => rfl)) Zae)) (Zal (i := 4) Zaz.nd rfl (Or.inl rfl)) (Zaf (ZeO (i := 5) Zaz.nd rfl rfl (NX := ["_law_yard_here", "_law_guests_here", "_law_some", "_law_total", "_law_turn", "_law_reach", "_law_k", "_law_line", "_law_first", "_law_last", "_law_want", "_law_most", "_law_above", "_law_bounds"]) (sc := Zab Zbg) (N := ["_law_line"]) (f := [none]) rfl (by decide +kernel) rfl rfl (Zoh (Za7 Zat (pv 0) Zai (fun _ _ => rfl))) (fun _ => (Zal (i := 0) (show (["_law_line"] : List Str).Nodup by decide +kernel) rfl (Or.inl rfl))) (fun _ => Zbt) (fun _ => Zcz) (fun _ => Zai) rfl)
 (Zaf (Zbh PassesOwn.never rfl (Zdn (pv 2)) (Zal (i := 6) Zaz.nd rfl (Or.inl rfl)) (Zaf (Zek (Za7 Zat (pv 1) (pv 6) (fun _ _ => rfl)) (Zc6 (n := 5) rfl (Zaq (Zal (i := 7) Zaz.nd rfl (Or.inl rfl)) (Zaq (Zal (i := 8) Zaz.nd rfl (Or.inl rfl)) (Zaq (Zal (i := 9) Zaz.nd rfl (Or.inl rfl)) (Zaq (Zal (i := 10) Zaz.nd rfl (Or.inl rfl)) (Zaq (Zal (i := 11) Zaz.nd rfl (Or.inl rfl)) Zb5)))))))
 (Zag (Zcj (Zjp ZhI ZhI (pv 8) (pv 4) (pv 9)) (Zag (Zek (Za0 Zcd (Za7 Zat (pv 5) (pv 7) (fun _ _ => rfl)) (pv 11)) (Zl5 (pv 5) (pv 7) Zen))) ZaE))))
 (Zag (Zbh PassesOwn.never rfl (ZlU rfl T.range (Zaa (Za0 ZfS (Zay Zdu (by rfl) T.len Zdt (Zaa (pv 5) Zae)) Zai) (Zaa (ZpW ZnW Zai) (Zaa (ZpW ZnW Zai) Zae)))) (Zal (i := 7) Zaz.nd rfl (Or.inl rfl)) (Zaf (Zek (Za7 Zat (Za7 Zat (pv 0) Zai (fun _ _ => rfl)) (pv 7) (fun _ _ => rfl)) (Zc6 (n := 2) rfl (Zaq (Zal (i := 12) Zaz.nd rfl (Or.inl rfl)) (Zaq (Zal (i := 13) Zaz.nd rfl (Or.inl rfl)) Zb5))))
 (Zag (Zcj (ZaL ZfG (pv 7) Zai (ZbG _)) (Zag (Zek (Za0 Zcd (Za7 Zat (pv 5) (pv 12) (fun _ _ => rfl)) (Zay (ZnV rfl) (by rfl) T.min ZkS (Zaa (Za7 Zat (pv 13) (pv 4) (fun _ _ => rfl)) (Zaa (Za7 Zat (pv 5) (pv 7) (fun _ _ => rfl)) Zae)))) (Zl5 (pv 5) (pv 12) Zen))) (Zag (Zaw (i := 3) Zaz.nd rfl (Or.inl rfl) (Za0 Zcd (pv 3) (Zay (ZnV rfl) (by rfl) T.min ZkS (Zaa (Za7 Zat (pv 13) (pv 4) (fun _ _ => rfl)) (Zaa (Za7 Zat (pv 5) (pv 7) (fun _ _ => rfl)) Zae))))))))))))))
 (Zag (Zav (pv 3))))), ?_⟩
    show EvS K _ [some _, some _, some _, none, none, none, none, none, none, none, none, none, none, none] _
    walk_at "x"
    have l1 := ok.l1
    have l5 := ok.l5
    have t8 := ok.t8
    have n8 := hs.len
    walk_at "s1"
    refine Zas (ZbK (ds := ZeJ 0 y.T) (fun i => [some (.fz (eYd y)), some (.fz (.list (gs.map eGs))), some (.fz (.list (Zdr sm))), some (.fz (.int (Zkk (ZdV y gs sm) i))), none, none, none, none, none, none, none, none, none, none]) ?ei ⟨rfl, rfl, rfl, rfl, trivial⟩ ?st ?fin)
    case ei => walk_at "eir"
    case fin =>
      intro ρ' hf
      refine ZcJ hf ?_
      walk_at "ret"
      rw [ZbJ]
      rfl
    case st =>
      intro t d hd
      obtain ⟨ht, rfl⟩ := Zbv hd
      refine ⟨_, by walk_at "g", ?_⟩
      walk_at "d"
      rw [Int.zero_add]
      refine Zas (ZcZ (EvO.cast (ZgE (xs := y.ls) (enc := eLn) (h := fun _ => .int 0) ?ei2 (by omega) ?el2) (congrArg OT.ol (ZhS _ _))) ?_)
      case ei2 => walk_at "ei"
      case el2 =>
        intro x hx c
        exact ⟨_, by walk_at "g", by walk_at "ev"⟩
      walk_at "d"
      refine Zas (ZbK (fun i => [some (.fz (eYd y)), some (.fz (.list (gs.map eGs))), some (.fz (.list (Zdr sm))), some (.fz (.int (Zkk (ZdV y gs sm) t))), some (.fz (.int (t : Int))), some (.ol ((List.range y.ls.length).map fun l => PyData.int (Zd0 gs (t : Int) l (sm.take i)))), none, none, none, none, none, none, none, none]) (by walk_at "ei") ⟨rfl, rfl, rfl, rfl, rfl, rfl, trivial⟩ ?st3 ?fin3)
      case st3 =>
        intro i d hd
        have hi : i < sm.length := by
          have := (List.getElem?_eq_some_iff.mp hd).1
          simpa [Zdr] using this
        obtain rfl : d = .int ((sm[i] : Nat) : Int) := by simpa [Zdr, hi] using hd.symm
        have hk : sm[i] < gs.length := hs.mem _ (List.getElem_mem hi)
        refine ⟨_, by walk_at "g", ?_⟩
        walk_at "d"
        have tk : sm.take (i + 1) = sm.take i ++ [sm[i]] := by rw [List.take_succ]; simp [hi]
        have eg : gs.getD ((sm[i] : Nat) : Int).toNat default = gs[sm[i]] := by simp [hk]
        walk_at "s1"
        rw [eg]
        have gok := hg gs[sm[i]] (List.getElem_mem hk)
        have gl := gok.ln
        have ht : ZaX gs[sm[i]] (t : Int) = (decide ((gs[sm[i]].first : Int) <= (t : Int)) && decide ((t : Int) <= (gs[sm[i]].last : Int))) := rfl
        walk_at "if"
        · intro c
          rw [<- ht] at c
          walk_at "s1"
          refine ⟨rfl, rfl, rfl, rfl, rfl, ?_, trivial⟩
          rw [Int.toNat_natCast]
          refine congrArg (fun z => some (OT.ol z)) (Zly gl (fun l hl hn => ?_) ?_)
          · rw [tk, ZcS]
            simp [Zd0, hk, Ne.symm hn]
          · rw [tk, ZcS]
            simp [Zd0, hk, c]
        · intro c
          rw [<- ht] at c
          refine ZaF ⟨rfl, rfl, rfl, rfl, rfl, ?_, trivial⟩
          refine congrArg (fun z => some (OT.ol z)) (List.map_congr_left fun l _ => ?_)
          rw [tk, ZcS]
          simp [Zd0, hk, c]
      case fin3 =>
        intro ρ' hf
        refine ZcJ hf ?_
        have el : (Zdr sm).length = sm.length := by simp [Zdr]
        rw [el, List.take_length]
        have len0 : ((List.range y.ls.length).map fun l => PyData.int (Zd0 gs (t : Int) l sm)).length = y.ls.length := by simp
        refine ZbK (ds := Zoi ((y.ls.length : Int) - 1) y.ls.length) (fun i => [some (.fz (eYd y)), some (.fz (.list (gs.map eGs))), some (.fz (.list (Zdr sm))), some (.fz (.int (Zkk (ZdV y gs sm) t + if i < y.ls.length then 0 else ZdV y gs sm t))), some (.fz (.int (t : Int))), some (.ol ((List.range y.ls.length).map fun l => PyData.int (ZcW y (fun k => Zbw y k t) (ZiG gs t sm) (min i (y.ls.length - 1)) l))), none, none, none, none, none, none, none, none]) ?ei4 ?h4 ?st4 ?fin4
        case ei4 => apply EvI.cast; walk_at "ei"; rw [len0]; exact ZhB rfl (by omega)
        case h4 =>
          refine ⟨rfl, rfl, rfl, ?_, rfl, ?_, trivial⟩
          · rw [if_pos (by omega), Int.add_zero]
          · rw [Nat.min_eq_left (by omega)]
            rfl
        case fin4 =>
          intro ρ' hf
          rw [Zjt, if_neg (by omega)] at hf
          exact hf.trans ⟨rfl, rfl, rfl, by rw [ZjP], trivial⟩
        case st4 =>
          intro i d hd
          obtain ⟨hi, rfl⟩ := Zjo hd
          refine ⟨_, by walk_at "g", ?_⟩
          walk_at "d"
          have ej : (y.ls.length : Int) - 1 - (i : Int) = ((y.ls.length - 1 - i : Nat) : Int) := by omega
          rw [ej, Nat.min_eq_left (by omega), if_pos hi, Int.add_zero]
          generalize hj : y.ls.length - 1 - i = j
          have hjl : j < y.ls.length := by omega
          have hbl : (y.ls.getD ((j : Nat) : Int).toNat default).bs.length = y.T := by rw [Int.toNat_natCast]; exact ZdW ok hjl
          have hb : (y.ls.getD ((j : Nat) : Int).toNat default).bs.getD ((t : Nat) : Int).toNat 0 = Zbw y j t := by
            rw [Int.toNat_natCast, Int.toNat_natCast]; exact (Zdj hjl).symm
          walk_at "s1"
          walk_at "if"
          · intro c
            have c : (0 : Int) < (j : Int) := of_decide_eq_true c
            obtain ⟨a, ea, la⟩ := ok.ups j (by omega) hjl
            have eu : upD (y.ls.getD ((j : Nat) : Int).toNat default).up = .int (a : Int) := by
              have : (ZfE y j).up = some a := by rw [<- Zel hjl]; exact ea
              rw [Int.toNat_natCast]
              show upD (ZfE y j).up = _
              rw [this]
              rfl
            rw [eu]
            walk_at "s1"
            refine ⟨rfl, rfl, rfl, ?_, rfl, ?_, trivial⟩
            · rw [if_pos (by omega), Int.add_zero]
            · rw [Int.toNat_natCast, Nat.min_eq_left (by omega)]
              refine congrArg (fun z => some (OT.ol z)) (Zly (by omega) (fun l hl hn => ?_) ?_)
              · simp only [ZcW, Zi5, hj]
                rw [ea, if_neg (by simpa using fun z => hn z.symm)]
                omega
              · simp only [ZcW, Zi5, hj]
                rw [ea, if_pos rfl, hb, Int.toNat_natCast, Int.min_comm]
          · intro c
            have c : ¬ (0 : Int) < (j : Int) := of_decide_eq_false c
            have j0 : j = 0 := by omega
            subst j0
            walk_at "s1"
            refine ⟨rfl, rfl, rfl, ?_, rfl, ?_, trivial⟩
            · rw [if_neg (by omega), hb]
              unfold ZdV Zcl ZeI
              rw [show i = y.ls.length - 1 by omega, Int.min_comm]
              rfl
            · rw [Nat.min_eq_right (by omega), show i = y.ls.length - 1 by omega]
noncomputable def ZaW (n T : Nat) (f : Nat -> Nat -> Int) : List (List PyData) := (List.range n).map fun k => (List.range T).map fun t => PyData.int (f k t)
theorem Zem (n T : Nat) (f : Nat -> Nat -> Int) : (ZaW n T f).length = n := by simp [ZaW]
theorem Zeh {n T k : Nat} (f : Nat -> Nat -> Int) (hk : k < n) : (ZaW n T f)[k]? = some ((List.range T).map fun t => PyData.int (f k t)) := by simp [ZaW, hk]
theorem ZiM {α : Type} {n j : Nat} {f g : Nat -> α} (hj : j < n) (e1 : ∀ l, l < n -> l ≠ j -> g l = f l) {v : α} (e2 : g j = v) : ((List.range n).map f).set j v = (List.range n).map g := by
  apply List.ext_getElem?
  intro i
  by_cases hi : i = j
  · subst hi
    rw [List.getElem?_set_self (by simpa using hj)]
    simp [hj, e2]
  · rw [List.getElem?_set_ne (Ne.symm hi)]
    by_cases h : i < n
    · simp [h, e1 i h hi]
    · simp [h]
theorem ZlT {n T a t : Nat} (f : Nat -> Nat -> Int) (v : Int) (ha : a < n) (ht : t < T) : (ZaW n T f).set a (((List.range T).map fun s => PyData.int (f a s)).set t (.int v)) = ZaW n T (Zma f a t v) := by
  unfold ZaW
  refine ZiM ha (fun l hl hn => List.map_congr_left fun s _ => ?_) ?_
  · unfold Zma
    rw [if_neg (fun z => hn z.1)]
  · symm
    refine ZiM ht (fun s hs hn => ?_) ?_
    · unfold Zma
      rw [if_neg (fun z => hn z.2)]
    · unfold Zma
      rw [if_pos ⟨rfl, rfl⟩]
theorem Zj7 {y : Yd} (ok : y.Ok) {j a t : Nat} {v : Int} (hj : j < y.ls.length) (e : Zc3 y j = some a) (g : Nat -> Nat -> Int) : ZfI y j t v g = ZfI y a t v (Zma g j t (g j t + v)) := by
  have la := Zh3 ok hj e
  funext l s
  unfold ZfI Zma
  rw [ZmB ok hj e]
  have nj : ¬ j ∈ upL y a := fun z => by have := Zhj y a j z; omega
  by_cases hs : s = t
  · subst hs
    by_cases hl : l = j
    · subst hl
      simp [nj]
    · simp [hl]
  · simp [hs]
theorem Zki {y : Yd} (ok : y.Ok) {t : Nat} {v : Int} (g : Nat -> Nat -> Int) : ZfI y 0 t v g = Zma g 0 t (g 0 t + v) := by
  funext l s
  unfold ZfI Zma
  rw [Zgn ok]
  by_cases hs : s = t
  · subst hs
    by_cases hl : l = 0
    · subst hl; simp
    · simp [hl]
  · simp [hs]
theorem ZdS {n T : Nat} {f g : Nat -> Nat -> Int} (h : ∀ k t, k < n -> t < T -> f k t = g k t) : ZaW n T f = ZaW n T g := by
  unfold ZaW
  refine List.map_congr_left fun k hk => List.map_congr_left fun t ht => ?_
  rw [h k t (List.mem_range.mp hk) (List.mem_range.mp ht)]
theorem Zse (n : Nat) : (List.replicate n [PyData.int 0]).flatten = (List.range n).map fun _ => PyData.int 0 := by
  rw [ZlO]
  apply List.ext_getElem?
  intro i
  by_cases h : i < n
  · simp [h]
  · simp [h]
noncomputable def gAt (gs : List Gs) (i : Nat) : Gs := gs.getD i default
structure FillOk (y : Yd) (gs : List Gs) (k : Int) (f : Nat -> Nat -> Int) : Prop where
  sum : ∀ i, i < gs.length -> Za2 (f i) y.T <= (gAt gs i).want * k
  item : ∀ i t, i < gs.length -> t < y.T -> 0 <= f i t /\ f i t <= (gAt gs i).most * k * (if ZaX (gAt gs i) (t : Int) = true then 1 else 0)
  load : ∀ l t, l < y.ls.length -> t < y.T -> ZeL y gs.length (fun i => (gAt gs i).line) (fun i => f i t) l <= Zbw y l t * k
structure GBd (y : Yd) (g : Gs) : Prop where
  ln : g.line < y.ls.length
  w0 : 0 <= g.want
  w1 : g.want < 10 ^ 300
  m0 : 0 <= g.most
  m1 : g.most < 10 ^ 300
theorem ZqQ {y : Yd} {g : Gs} (h : g.Ok y) : GBd y g := ⟨h.ln, by have := h.w1; omega, h.w2, by have := h.m1; omega, h.m2⟩
noncomputable def Zjq (y : Yd) (gs : List Gs) (f : Nat -> Nat -> Int) (i : Nat) : Nat -> Nat -> Int := fun l t => ZeL y i (fun j => (gAt gs j).line) (fun j => f j t) l
noncomputable def Zlm (y : Yd) (gs : List Gs) (f : Nat -> Nat -> Int) (i t : Nat) : Nat -> Nat -> Int := fun l s => Zjq y gs f i l s + if s < t then f i s * ind (l ∈ upL y (gAt gs i).line) else 0
theorem Zm7 {y : Yd} {gs : List Gs} {f : Nat -> Nat -> Int} {i : Nat} : ZaW y.ls.length y.T (Zlm y gs f i y.T) = ZaW y.ls.length y.T (Zjq y gs f (i + 1)) := ZdS fun l t _ ht => by
  unfold Zlm Zjq ZeL
  rw [if_pos ht]
  rfl
theorem Zmf {y : Yd} {gs : List Gs} {f : Nat -> Nat -> Int} {i t : Nat} : ZaW y.ls.length y.T (ZfI y (gAt gs i).line t (f i t) (Zlm y gs f i t)) = ZaW y.ls.length y.T (Zlm y gs f i (t + 1)) := ZdS fun l s _ _ => by
  unfold ZfI Zlm
  by_cases e : s = t
  · subst e
    by_cases h : l ∈ upL y (gAt gs i).line
    · rw [if_pos ⟨rfl, h⟩, if_neg (by omega), if_pos (by omega)]
      simp [ind, h]
    · rw [if_neg (fun z => h z.2), if_neg (by omega), if_pos (by omega)]
      simp [ind, h]
  · rw [if_neg (fun z => e z.1)]
    by_cases h : s < t
    · rw [if_pos h, if_pos (by omega)]
    · rw [if_neg h, if_neg (by omega)]
inductive R_isfill : List OT -> OT -> Prop
  | mk {y : Yd} {gs : List Gs} {k : Int} {f : Nat -> Nat -> Int} (ok : y.Ok) (hg : ∀ g ∈ gs, GBd y g) (g8 : gs.length <= 8) (k0 : 0 <= k) (k1 : k < 10 ^ 300) (h : FillOk y gs k f) : R_isfill [.fz (eYd y), .fz (.list (gs.map eGs)), .fz (.int k), .fz (.list ((ZaW gs.length y.T f).map PyData.list))] (.fz (.bool true))
theorem Zqj {a b : Int} (h0 : 0 <= a) (h1 : a < 10 ^ 600) (h2 : 0 <= b) (h3 : b <= 1) : IntMulOk a b := Zqo (m := 2000) (n := 1) h0 (Int.lt_trans h1 (by decide +kernel)) h2 (by omega) (by decide)
theorem ZoA {a b : Int} (h0 : 0 <= a) (h1 : a < 10 ^ 300) (h2 : 0 <= b) (h3 : b < 10 ^ 300) : a * b < 10 ^ 600 := by
  have e : (10 : Int) ^ 600 = 10 ^ 300 * 10 ^ 300 := by decide +kernel
  rw [e]
  exact Int.lt_of_le_of_lt (Int.mul_le_mul_of_nonneg_left (by omega) h0) (Int.mul_lt_mul_of_pos_right h1 (by decide +kernel))
theorem Zao : FnScope ["_law_yard_here", "_law_guests_here", "_law_k", "_law_filling", "_law_loads", "_law_guest", "_law_row", "_law_line", "_law_first", "_law_last", "_law_want", "_law_most", "_law_turn", "_law_here"] ["_law_yard_here", "_law_guests_here", "_law_k", "_law_filling"] (Zab Za8) := by walk_at "p"
theorem ZlN (T : Bl mg) (D : Df K mg "_law_is_filling" Za8 ["_law_yard_here", "_law_guests_here", "_law_k", "_law_filling"]) : Cal P w K mg base "_law_is_filling" ["_law_yard_here", "_law_guests_here", "_law_k", "_law_filling"] 1 (spO (K := K) R_isfill) := by
  refine D.ev Zao (fun ts r h => by cases h; rfl) (fun f cdv A outer s H E ts r hr h => ?_)
  cases h with
  | @mk y gs k f ok hg g8 k0 k1 h =>
    refine ⟨_, (Zaf (ZeO (i := 4) Zao.nd rfl rfl (NX := ["_law_yard_here", "_law_guests_here", "_law_k", "_law_filling", "_law_loads", "_law_guest", "_law_row", "_law_line", "_law_first", "_law_last", "_law_want", "_law_most", "_law_turn", "_law_here"]) (sc := Zab Za8) (N := ["_law_line", "_law_yard_here"]) (f := [none, some 0]) rfl (by decide +kernel) rfl rfl (Zoh (Za7 Zat (pv 0) Zai (fun _ _ => rfl))) (fun _ => (Zal (i := 0) (show (["_law_line", "_law_yard_here"] : List Str).Nodup by decide +kernel) rfl (Or.inl rfl))) (fun _ => Zbt) (fun _ => Zcz) (fun _ => (Za0 ZpS (Zc2 (Zaa Zai Zae)) (Za7 Zat (pv 1) Zai (fun _ _ => rfl)))) rfl)
 (Zaf (Zbh PassesOwn.never rfl (Zh7 rfl T.zip (Zaa (pv 1) (Zaa (pv 3) Zae))) (Zc6 (n := 2) rfl (Zaq (Zal (i := 5) Zao.nd rfl (Or.inl rfl)) (Zaq (Zal (i := 6) Zao.nd rfl (Or.inl rfl)) Zb5))) (Zaf (Zek (pv 5) (Zc6 (n := 5) rfl (Zaq (Zal (i := 7) Zao.nd rfl (Or.inl rfl)) (Zaq (Zal (i := 8) Zao.nd rfl (Or.inl rfl)) (Zaq (Zal (i := 9) Zao.nd rfl (Or.inl rfl)) (Zaq (Zal (i := 10) Zao.nd rfl (Or.inl rfl)) (Zaq (Zal (i := 11) Zao.nd rfl (Or.inl rfl)) Zb5)))))))
 (Zaf (Zcj (ZaL ZfG (Zay Ze9 (by rfl) T.sum ZeD (Zaa (pv 6) Zae)) (Za0 Zg1 (pv 10) (pv 2)) (ZbG _)) (Zag (Zav ZiA)) ZaE)
 (Zag (Zbh PassesOwn.never rfl (ZaM rfl T.range (Zaa (Za7 Zat (pv 0) Zai (fun _ _ => rfl)) Zae)) (Zal (i := 12) Zao.nd rfl (Or.inl rfl)) (Zaf (Zcj (Zj1 (Zjp ZhI ZhI Zai (Za7 Zat (pv 6) (pv 12) (fun _ _ => rfl)) (Za0 Zg1 (Za0 Zg1 (pv 11) (pv 2)) (Zdl Zrb (by rfl) T.int Zod (Zaa (Zjn ZhI ZhI (pv 8) (pv 12) (pv 9)) Zae))))) (Zag (Zav ZiA)) ZaE)
 (Zaf (Zaw (i := 13) Zao.nd rfl (Or.inl rfl) (pv 7))
 (Zag (ZeZ PassesOwn.never (ZeC (ZgK (pv 13))) (Zaf (Zek (Za0 Zcd (Za7 Zat (Za7 Zat (pv 4) (pv 13) (fun _ _ => rfl)) (pv 12) (fun _ _ => rfl)) (Za7 Zat (pv 6) (pv 12) (fun _ _ => rfl))) (Zl5 (Za7 Zat (pv 4) (pv 13) (fun _ _ => rfl)) (pv 12) Zen))
 (Zag (Zaw (i := 13) Zao.nd rfl (Or.inl rfl) (Za7 Zat (Za7 Zat (Za7 Zat (pv 0) Zai (fun _ _ => rfl)) (pv 13) (fun _ _ => rfl)) Zai (fun _ _ => rfl))))))))))))))
 (Zaf (Zbh PassesOwn.never rfl (ZaM rfl T.range (Zaa (Zay Zdu (by rfl) T.len Zdt (Zaa (pv 4) Zae)) Zae)) (Zal (i := 7) Zao.nd rfl (Or.inl rfl)) (Zag (Zbh PassesOwn.never rfl (ZaM rfl T.range (Zaa (Za7 Zat (pv 0) Zai (fun _ _ => rfl)) Zae)) (Zal (i := 12) Zao.nd rfl (Or.inl rfl)) (Zag (Zcj (ZaL ZfG (Za7 Zat (Za7 Zat (pv 4) (pv 7) (fun _ _ => rfl)) (pv 12) (fun _ _ => rfl)) (Za0 Zg1 (Za7 Zat (Za7 Zat (Za7 Zat (Za7 Zat (pv 0) Zai (fun _ _ => rfl)) (pv 7) (fun _ _ => rfl)) Zai (fun _ _ => rfl)) (pv 12) (fun _ _ => rfl)) (pv 2)) (ZbG _)) (Zag (Zav ZiA)) ZaE)))))
 (Zag (Zav ZiA))))), ?_⟩
    show EvS K _ [some _, some _, some _, some _, none, none, none, none, none, none, none, none, none, none] _
    walk_at "x"
    have l5 := ok.l5
    have t8 := ok.t8
    have eT : ∀ {ρ : Zbd}, ρ[0]? = some (some (.fz (eYd y))) -> EvE K (tOp (rIx K) (ZcR 0) (tC (.int 0))) ρ (.int (y.T : Int)) := fun e => Zef (ds := [PyData.int (y.T : Int), .tuple (y.ls.map eLn)]) (Zac e) ZbU rfl
    have eLs : ∀ {ρ : Zbd}, ρ[0]? = some (some (.fz (eYd y))) -> EvE K (tOp (rIx K) (ZcR 0) (tC (.int 1))) ρ (.tuple (y.ls.map eLn)) := fun e => Zef (ds := [PyData.int (y.T : Int), .tuple (y.ls.map eLn)]) (Zac e) ZbU rfl
    refine Zas (ZcZ (EvO.cast (ZlL (xs := y.ls) (enc := eLn) (h := fun _ => (List.range y.T).map fun _ => PyData.int 0) ?ei0 (by omega) ?el0) (show _ = OT.oll (ZaW y.ls.length y.T (Zjq y gs f 0)) by unfold ZaW; rw [ZhS]; rfl)) ?_)
    case ei0 => exact ZpK (eLs rfl)
    case el0 =>
      intro x hx c
      refine ⟨_, by walk_at "g", ?_⟩
      walk_at "e"
      exact EvO.cast (Zra (ds := [.int 0]) (k := (y.T : Int)) (EvO.fz (ZdM (ZcX ZbU Zce) (by decide))) (Zef (ds := [PyData.int (y.T : Int), .tuple (y.ls.map eLn)]) (Zac rfl) ZbU rfl) (by omega) (by simp; omega) (by omega)) (by rw [Int.toNat_natCast, Zse])
    walk_at "d"
    refine Zas (ZbK (ds := ZiN (gs.map eGs) ((ZaW gs.length y.T f).map PyData.list)) (fun i => [some (.fz (eYd y)), some (.fz (.list (gs.map eGs))), some (.fz (.int k)), some (.fz (.list ((ZaW gs.length y.T f).map PyData.list))), some (.oll (ZaW y.ls.length y.T (Zjq y gs f i))), none, none, none, none, none, none, none, none, none]) ?ei ⟨rfl, rfl, rfl, rfl, rfl, trivial⟩ ?st ?fin)
    case ei => exact Zhu (Zad (Zac rfl) (Zad (Zac rfl) Zam))
    case fin =>
      intro ρ' hf
      refine ZcJ hf ?_
      have el : (ZiN (gs.map eGs) ((ZaW gs.length y.T f).map PyData.list)).length = gs.length := by rw [ZeR, List.length_map, List.length_map, Zem]; omega
      rw [el]
      refine ZnK 4 rfl rfl ?_
      walk_at "d"
      have tl : ((ZaW y.ls.length y.T (Zjq y gs f gs.length)).map PyData.list).length = y.ls.length := by rw [List.length_map, Zem]
      refine Zas (ZbK (ds := ZeJ 0 y.ls.length) (fun i => [some (.fz (eYd y)), some (.fz (.list (gs.map eGs))), some (.fz (.int k)), some (.fz (.list ((ZaW gs.length y.T f).map PyData.list))), some (.fz (.list ((ZaW y.ls.length y.T (Zjq y gs f gs.length)).map PyData.list))), none, none, none, none, none, none, none, none, none]) ?ei5 ⟨rfl, rfl, rfl, rfl, rfl, trivial⟩ ?st5 ?fin5)
      case ei5 => exact EvI.cast (Zc4 (Zad (Zg8 (Zac rfl)) Zam) (by rw [z62, tl]; omega) (by rw [z62, tl]; omega)) (Zbx rfl (by rw [tl]; omega))
      case fin5 =>
        intro ρ' hf
        exact ZcJ hf (ZbX Zrt rfl)
      case st5 =>
        intro l d hd
        obtain ⟨hl, rfl⟩ := Zbv hd
        rw [Int.zero_add]
        refine ⟨_, by walk_at "g", ?_⟩
        walk_at "d"
        refine ZbK (ds := ZeJ 0 y.T) (fun i => [some (.fz (eYd y)), some (.fz (.list (gs.map eGs))), some (.fz (.int k)), some (.fz (.list ((ZaW gs.length y.T f).map PyData.list))), some (.fz (.list ((ZaW y.ls.length y.T (Zjq y gs f gs.length)).map PyData.list))), none, none, some (.fz (.int (l : Int))), none, none, none, none, none, none]) ?ei6 ⟨rfl, rfl, rfl, rfl, rfl, rfl, trivial⟩ ?st6 ?fin6
        case ei6 => exact EvI.cast (Zc4 (Zad (eT rfl) Zam) (by rw [z62]; omega) (by rw [z62]; omega)) (Zbx rfl (by omega))
        case fin6 =>
          intro ρ' hf
          exact Fgt.trans hf ⟨rfl, rfl, rfl, rfl, rfl, trivial⟩
        case st6 =>
          intro t d hd
          obtain ⟨ht, rfl⟩ := Zbv hd
          rw [Int.zero_add]
          refine ⟨_, by walk_at "g", ?_⟩
          walk_at "d"
          have a1 : atI ((ZaW y.ls.length y.T (Zjq y gs f gs.length)).map PyData.list) (l : Int) = some (.list ((List.range y.T).map fun t => PyData.int (Zjq y gs f gs.length l t))) := Zc8 (by rw [List.getElem?_map, Zeh _ hl]; rfl)
          have a2 : atI ((List.range y.T).map fun t => PyData.int (Zjq y gs f gs.length l t)) (t : Int) = some (.int (Zjq y gs f gs.length l t)) := by rw [Ziu (by omega) (by omega), Int.toNat_natCast]
          have hbl : (y.ls.getD ((l : Nat) : Int).toNat default).bs.length = y.T := by rw [Int.toNat_natCast]; exact ZdW ok hl
          have hb : (y.ls.getD ((l : Nat) : Int).toNat default).bs.getD ((t : Nat) : Int).toNat 0 = Zbw y l t := by
            rw [Int.toNat_natCast, Int.toNat_natCast]; exact (Zdj hl).symm
          have lm : ZfE y l ∈ y.ls := by simp [ZfE, hl]
          have bb : 0 <= Zbw y l t /\ Zbw y l t < 10 ^ 300 := by
            rw [Zdj hl]
            have ll := ZdW ok hl
            have : (ZfE y l).bs.getD t 0 = (ZfE y l).bs[t]'(by omega) := by simp [List.getD, show t < (ZfE y l).bs.length by omega]
            rw [this]
            exact ok.bb _ lm _ (List.getElem_mem _)
          refine Zdm (b := false) (EvT.cast (Zbu (Zgd (Zgg (Zgg (Zac rfl) (Zac rfl) a1) (Zac rfl) a2) (ZhJ (x := Zbw y l t) (EvE.cast (Zef (ds := (y.ls.getD ((l : Nat) : Int).toNat default).bs.map PyData.int) (Zef (ds := [upD (y.ls.getD ((l : Nat) : Int).toNat default).up, .tuple ((y.ls.getD ((l : Nat) : Int).toNat default).bs.map PyData.int)]) (Zef (eLs rfl) (Zac rfl) (Zkr (f := eLn) (by omega) (by omega))) ZbU rfl) (Zac rfl) (Zn2 (by omega) (by omega))) (by rw [hb])) (Zac rfl) (Zks bb.1 bb.2 k0 k1)))) ?eq6) (fun c => nomatch c) (fun _ => ZaF ⟨rfl, rfl, rfl, rfl, rfl, rfl, trivial⟩)
          case eq6 =>
            have := h.load l t hl ht
            exact decide_eq_false (by unfold Zjq; omega)
    case st =>
      intro i d hd
      obtain ⟨a, b, e1, e2, rfl⟩ := ZgH hd
      have hi : i < gs.length := by
        have := (List.getElem?_eq_some_iff.mp e1).1
        simpa using this
      have eg : gAt gs i = gs[i] := by simp [gAt, List.getD, hi]
      obtain rfl : a = eGs (gAt gs i) := by rw [eg]; simpa [hi] using e1.symm
      obtain rfl : b = .list ((List.range y.T).map fun t => PyData.int (f i t)) := by
        rw [List.getElem?_map, Zeh _ hi] at e2
        simpa using e2.symm
      have gb : GBd y (gAt gs i) := by rw [eg]; exact hg _ (List.getElem_mem _)
      have hitem := h.item i
      have hsum := h.sum i hi
      have ste : ∀ t, ZaW y.ls.length y.T (ZfI y (gAt gs i).line t (f i t) (Zlm y gs f i t)) = ZaW y.ls.length y.T (Zlm y gs f i (t + 1)) := fun t => Zmf
      have sta : ZaW y.ls.length y.T (Zlm y gs f i 0) = ZaW y.ls.length y.T (Zjq y gs f i) := ZdS fun l t _ _ => by unfold Zlm; rw [if_neg (by omega)]; omega
      have sto := Zm7 (y := y) (gs := gs) (f := f) (i := i)
      refine ⟨_, by walk_at "g", ?_⟩
      walk_at "d"
      generalize gAt gs i = g at gb hitem hsum ste
      refine Zas (ZpQ (Zac rfl) (Zm1 (ds := [.int (g.line : Int), .int (g.first : Int), .int (g.last : Int), .int g.want, .int g.most]) (ZcN ZbS (ZcN ZbS (ZcN ZbS (ZcN ZbS (ZcN ZbS Zjl))))) rfl) ?_)
      walk_at "d"
      refine Zas (Zdm (b := false) (EvT.cast (Zbu (Zgd (Zfy (ns := (List.range y.T).map (f i)) (EvE.cast (Zac rfl) (by rw [List.map_map]; rfl)) rfl) (ZhJ (Zac rfl) (Zac rfl) (Zks gb.w0 gb.w1 k0 k1)))) ?eqs) (fun c => nomatch c) (fun _ => ZaF ?_))
      case eqs =>
        have e : ∀ n, ((List.range n).map (f i)).sum = Za2 (f i) n := fun n => by
          induction n with
          | zero => rfl
          | succ n ih => rw [List.range_succ, List.map_append, List.sum_append, ih]; simp [Za2]
        rw [e]
        exact decide_eq_false (by omega)
      rw [<- sta]
      refine ZbK (ds := ZeJ 0 y.T) (fun t => [some (.fz (eYd y)), some (.fz (.list (gs.map eGs))), some (.fz (.int k)), some (.fz (.list ((ZaW gs.length y.T f).map PyData.list))), some (.oll (ZaW y.ls.length y.T (Zlm y gs f i t))), some (.fz (eGs g)), some (.fz (.list ((List.range y.T).map fun t => PyData.int (f i t)))), some (.fz (.int (g.line : Int))), some (.fz (.int (g.first : Int))), some (.fz (.int (g.last : Int))), some (.fz (.int g.want)), some (.fz (.int g.most)), none, none]) ?ei2 ⟨rfl, rfl, rfl, rfl, rfl, rfl, rfl, rfl, rfl, rfl, rfl, rfl, trivial⟩ ?st2 ?fin2
      case ei2 => exact EvI.cast (Zc4 (Zad (eT rfl) Zam) (by rw [z62]; omega) (by rw [z62]; omega)) (Zbx rfl (by omega))
      case fin2 =>
        intro ρ' hf
        rw [ZbJ, sto] at hf
        exact Fgt.trans hf ⟨rfl, rfl, rfl, rfl, rfl, trivial⟩
      case st2 =>
        intro t d hd
        obtain ⟨ht, rfl⟩ := Zbv hd
        rw [Int.zero_add]
        refine ⟨_, by walk_at "g", ?_⟩
        walk_at "d"
        obtain ⟨i1, i2⟩ := hitem t hi ht
        have ar : ∀ {ρ : Zbd}, ρ[6]? = some (some (.fz (.list ((List.range y.T).map fun t => PyData.int (f i t))))) -> ρ[12]? = some (some (.fz (.int (t : Int)))) -> EvE K (tOp (rIx K) (ZcR 6) (ZcR 12)) ρ (.int (f i t)) := fun e6 e12 => Zgg (Zac e6) (Zac e12) (by rw [Ziu (by omega) (by omega), Int.toNat_natCast])
        have mk0 : 0 <= g.most * k := Int.mul_nonneg gb.m0 k0
        refine Zas (Zdm (b := false) (EvT.cast (ZkN (Zbu (ZiH ZbU (ar rfl rfl) (ZhJ (ZhJ (Zac rfl) (Zac rfl) (Zks gb.m0 gb.m1 k0 k1)) (ZoN (ZiH (Zac rfl) (Zac rfl) (Zac rfl))) (Zqj mk0 (ZoA gb.m0 gb.m1 k0 k1) (by split <;> omega) (by split <;> omega)))))) ?eq3) (fun c => nomatch c) (fun _ => ZaF ?_))
        case eq3 =>
          have i2' : f i t <= g.most * k * (if (decide ((g.first : Int) <= (t : Int)) && decide ((t : Int) <= (g.last : Int))) = true then 1 else 0) := i2
          rw [decide_eq_true i1, decide_eq_true i2']
          rfl
        refine Zas (ZcP (Zac rfl) ?_)
        walk_at "d"
        rw [<- ste t]
        have hgl := gb.ln
        generalize Zlm y gs f i t = W
        refine ZeQ (fun m ρ' => ∃ W' : Nat -> Nat -> Int, m <= y.ls.length /\ (if m = 0 then W' else ZfI y (m - 1) t (f i t) W') = ZfI y g.line t (f i t) W /\
          ρ' = [some (.fz (eYd y)), some (.fz (.list (gs.map eGs))), some (.fz (.int k)), some (.fz (.list ((ZaW gs.length y.T f).map PyData.list))), some (.oll (ZaW y.ls.length y.T W')), some (.fz (eGs g)), some (.fz (.list ((List.range y.T).map fun t => PyData.int (f i t)))), some (.fz (.int (g.line : Int))), some (.fz (.int (g.first : Int))), some (.fz (.int (g.last : Int))), some (.fz (.int g.want)), some (.fz (.int g.most)), some (.fz (.int (t : Int))), some (.fz (if m = 0 then .none else .int ((m - 1 : Nat) : Int)))]) (g.line + 1) ⟨W, by omega, by rw [if_neg (by omega), Nat.add_sub_cancel], by rw [if_neg (by omega), Nat.add_sub_cancel]⟩ ?ws
        rintro m ρ' ⟨W', hm, he, rfl⟩
        by_cases m0 : m = 0
        · subst m0
          rw [if_pos rfl] at he
          refine ⟨false, ZlZ (ZdT (a := .none) (Zac rfl)), fun c => (nomatch c), fun _ => ?_⟩
          rw [he]
          exact ⟨rfl, rfl, rfl, rfl, rfl, rfl, rfl, rfl, rfl, rfl, rfl, rfl, trivial⟩
        · obtain ⟨j, rfl⟩ : ∃ j, m = j + 1 := ⟨m - 1, by omega⟩
          rw [if_neg (by omega), Nat.add_sub_cancel] at he
          rw [if_neg (by omega), Nat.add_sub_cancel]
          have hj : j < y.ls.length := by omega
          refine ⟨true, ZlZ (ZdT (a := .int (j : Int)) (Zac rfl)), fun _ => ?_, fun c => (nomatch c)⟩
          have a1 : atI ((ZaW y.ls.length y.T W').map PyData.list) (j : Int) = some (.list ((List.range y.T).map fun t => PyData.int (W' j t))) := Zc8 (by rw [List.getElem?_map, Zeh _ hj]; rfl)
          have a2 : atI ((List.range y.T).map fun t => PyData.int (W' j t)) (t : Int) = some (.int (W' j t)) := by rw [Ziu (by omega) (by omega), Int.toNat_natCast]
          have ix : ixN (ZaW y.ls.length y.T W').length (j : Int) = some j := by
            rw [Zem]
            have := Zok (n := y.ls.length) (k := (j : Int)) (by omega) (by omega)
            rwa [Int.toNat_natCast] at this
          have ixt : ixN ((List.range y.T).map fun t => PyData.int (W' j t)).length (t : Int) = some t := by
            rw [List.length_map, List.length_range]
            have := Zok (n := y.T) (k := (t : Int)) (by omega) (by omega)
            rwa [Int.toNat_natCast] at this
          refine Zas (ZjD (d := .int (W' j t + f i t)) (k := (j : Int)) (m := (t : Int)) rfl (Zea (Zm5 4 rfl rfl rfl (Zgg (Zgg (Zac rfl) (Zac rfl) a1) (Zac rfl) a2)) (ar rfl rfl)) (Zac rfl) (Zac rfl) ix (Zeh _ hj) ixt ?_)
          walk_at "d"
          rw [ZlT W' _ hj ht]
          have hup : (y.ls.getD ((j : Nat) : Int).toNat default).up = Zc3 y j := by rw [Int.toNat_natCast]; exact (Zel hj).symm
          refine ZcP (d := upD (Zc3 y j)) (EvE.cast (Zef (ds := [upD (y.ls.getD ((j : Nat) : Int).toNat default).up, .tuple ((y.ls.getD ((j : Nat) : Int).toNat default).bs.map PyData.int)]) (Zef (eLs rfl) (Zac rfl) (Zkr (f := eLn) (by omega) (by omega))) ZbU rfl) (by rw [hup])) ?_
          walk_at "d"
          by_cases j0 : j = 0
          · subst j0
            refine ⟨0, by omega, Zma W' 0 t (W' 0 t + f i t), by omega, ?_, ?_⟩
            · rw [if_pos rfl, <- he, Zki ok]
            · rw [ok.up0, if_pos rfl]
              rfl
          · obtain ⟨a, ea, la⟩ := ok.ups j (by omega) hj
            refine ⟨a + 1, by omega, Zma W' j t (W' j t + f i t), by omega, ?_, ?_⟩
            · rw [if_neg (by omega), Nat.add_sub_cancel, <- he, Zj7 ok hj ea]
            · rw [ea, if_neg (by omega), Nat.add_sub_cancel]
              rfl
theorem ZmC (y : Yd) (G : Gv) (φ : Phi Nd) : ((ZbB y G φ).map fun row => row.map PyData.int) = ZaW G.m y.T fun k t => Zck G φ t k := by
  unfold ZbB ZaW
  rw [List.map_map]
  refine List.map_congr_left fun k _ => ?_
  show ((List.range y.T).map _).map PyData.int = _
  rw [List.map_map]
  rfl
theorem Zhm {y : Yd} {gs : List Gs} {φ : Phi Nd} (ok : y.Ok) (hg : ∀ g ∈ gs, GOk y g) (F : Flow y (ZaA gs) φ) : FillOk y gs 1 fun k t => Zck (ZaA gs) φ t k where
  sum i hi := by
    rw [F.total (show i < (ZaA gs).m from hi), Int.mul_one]
    exact (F.want (show i < (ZaA gs).m from hi)).2
  item i t hi ht := by
    obtain ⟨a, b⟩ := F.tak (show i < (ZaA gs).m from hi) ht
    refine ⟨a, ?_⟩
    rw [Int.mul_one]
    unfold moT at b
    have e : (ZaA gs).th i t = ZaX (gAt gs i) (t : Int) := rfl
    have e2 : (ZaA gs).mo i = (gAt gs i).most := rfl
    rw [e, e2] at b
    by_cases c : ZaX (gAt gs i) (t : Int) = true
    · rw [if_pos c] at b ⊢
      omega
    · rw [if_neg c] at b ⊢
      omega
  load l t hl ht := by
    rw [Int.mul_one]
    exact F.load ok (Zf3 hg) ht hl
noncomputable def Zph (gs : List Gs) (T : Nat) (f : Nat -> Nat -> Int) : Int := Za2 (fun k => (gAt gs k).want - Za2 (f k) T) gs.length
theorem ZfZ (y : Yd) (gs : List Gs) (φ : Phi Nd) : Zph gs y.T (fun k t => Zck (ZaA gs) φ t k) = Zdf y (ZaA gs) φ := rfl
noncomputable def at2 (L : List (List Int)) (o t : Nat) : Int := (L.getD o []).getD t 0
structure Shape (n T : Nat) (L : List (List Int)) : Prop where
  len : L.length = n
  row : ∀ r ∈ L, r.length = T
theorem Shape.at {n T o : Nat} {L : List (List Int)} (h : Shape n T L) (ho : o < n) : (L.getD o []).length = T := by
  have : o < L.length := by rw [h.len]; exact ho
  refine h.row _ ?_
  simp [List.getD, this]
theorem ZlX (L : List (List Int)) : (Zdw L).length = L.length := by simp [Zdw]
theorem Zhp {L : List (List Int)} {o : Nat} (h : o < L.length) : (Zdw L)[o]? = some ((L.getD o []).map PyData.int) := by simp [Zdw, List.getD, h]
theorem Zm4 {L : List (List Int)} {o : Nat} (h : o < L.length) : atI ((Zdw L).map PyData.list) (o : Int) = some (.list ((L.getD o []).map PyData.int)) := by
  refine Zc8 ?_
  rw [List.getElem?_map, Zhp h]
  rfl
theorem ZmQ (a b : List Nat) : Zdr (a ++ b) = Zdr a ++ Zdr b := by simp [Zdr]
inductive R_beneath : List OT -> OT -> Prop
  | mk {y : Yd} {l : Nat} (ok : y.Ok) (hl : l < y.ls.length) : R_beneath [.fz (eYd y), .fz (.int (l : Int))] (.ol (Zdr (ZhX y l (y.ls.length - l))))
theorem ZmF (y : Yd) (l n : Nat) : (ZhX y l n).length <= n := by
  unfold ZhX
  refine Nat.le_trans (List.length_filter_le _ _) ?_
  simp
theorem Zc9 : FnScope ["yard", "line", "beneath", "lower"] ["yard", "line"] (Zab ZaQ) := by walk_at "p"
theorem ZjS (T : Bl mg) (D : Df K mg "lines_beneath" ZaQ ["yard", "line"]) (c_line_count : Cal P w K mg base "line_count" ["yard"] 1 (spO (K := K) R_count)) (c_above_of : Cal P w K mg base "above_of" ["yard", "line"] 1 (spO (K := K) R_above)) : Cal P w K mg base "lines_beneath" ["yard", "line"] 2 (spO (K := K) R_beneath) := by
  refine D.ev Zc9 (fun ts r h => by cases h; rfl) (fun f cdv A outer s H E ts r hr h => ?_)
  cases h with
  | @mk y l ok hl =>
    refine ⟨_, (Zaf (Zaw (i := 2) Zc9.nd rfl (Or.inl rfl) (Zc2 (Zaa (pv 1) Zae)))
 (Zaf (Zbh PassesOwn.never rfl (Zhb rfl T.range (Zaa (Za0 Zcd (pv 1) Zai) (Zaa (Zar c_line_count hr (Zaa (pv 0) Zae) (hj := by walk_at "j")) Zae))) (Zal (i := 3) Zc9.nd rfl (Or.inl rfl)) (Zag (Zcj (ZaL Zhz (Zar c_above_of hr (Zaa (pv 0) (Zaa (pv 3) Zae)) (hj := by walk_at "j")) (pv 2) rfl) (Zag (Zbe (ZfM PySem.F.plainAttrs_list PySem.F.slot_list_append PySem.F.type_list_append ZbF (pv 2) (Zaa (pv 3) Zae)))) ZaE)))
 (Zag (Zav (pv 2))))), ?_⟩
    show EvS K _ [some _, some _, none, none] _
    walk_at "x"
    have l5 := ok.l5
    refine Zas (ZcZ (ZdM (ds := [.int (l : Int)]) (ZcX (Zac rfl) Zce) (by simp)) ?_)
    walk_at "d"
    refine Zas (ZbK (ds := ZeJ ((l + 1 : Nat) : Int) (y.ls.length - l - 1)) (fun i => [some (.fz (eYd y)), some (.fz (.int (l : Int))), some (.ol (Zdr (ZhX y l (i + 1)))), none]) ?ei ⟨rfl, rfl, by rw [Znq]; rfl, trivial⟩ ?st ?fin)
    case ei =>
      apply EvI.cast
      · walk_at "ei"
      · exact Zbx (by omega) (by omega)
    case st =>
      intro i d hd
      obtain ⟨hi, rfl⟩ := Zbv hd
      refine ⟨_, by walk_at "g", ?_⟩
      walk_at "d"
      rw [show ((l + 1 : Nat) : Int) + (i : Int) = ((l + (i + 1) : Nat) : Int) by omega]
      obtain ⟨a, e, la⟩ := ok.ups (l + (i + 1)) (by omega) (by omega)
      have eu : upN y (l + (i + 1)) = a := by unfold upN; rw [e]; rfl
      have bt := Znx ok (l := l) (n := i + 1) (by omega) (by omega) e la
      have bl := ZmF y l (i + 1)
      refine Zdm (b := decide (l ∈ upL y (l + (i + 1)))) (Zo7 2 rfl ?_) (fun c => ?_) (fun c => ?_)
      · apply EvT.cast
        · exact Zbu (Zn6 (a := a) (l := ZhX y l (i + 1)) (EvE.cast (Za4 (Zad (Zac rfl) (Zad (Zac rfl) Zam)) (R_above.mk ok (by omega) (by omega))) (by rw [Int.toNat_natCast, eu])) (Zac rfl))
        · exact decide_eq_decide.mpr bt
      · refine Zer (ds := Zdr (ZhX y l (i + 1))) (d := .int ((l + (i + 1) : Nat) : Int)) rfl (Zac rfl) (by simp [Zdr]; omega) ?_
        walk_at "d"
        refine ⟨rfl, rfl, ?_, trivial⟩
        rw [Zhk y l (i + 1), if_pos (of_decide_eq_true c), ZmQ]
        rfl
      · refine ZaF ⟨rfl, rfl, ?_, trivial⟩
        rw [Zhk y l (i + 1), if_neg (of_decide_eq_false c), List.append_nil]
    case fin =>
      intro ρ' hf
      refine ZcJ hf ?_
      rw [ZbJ, show y.ls.length - l - 1 + 1 = y.ls.length - l by omega]
      exact Zg3 rfl rfl
noncomputable def Zre (n T : Nat) (f : Nat -> Nat -> Int) : List (List Int) := (List.range n).map fun o => (List.range T).map (f o)
noncomputable def Zji (y : Yd) (gs : List Gs) (L : List (List Int)) (l t k : Nat) : Int := if l ∈ upL y (gs.getD k default).line then at2 L k t else 0
noncomputable def Zfu (y : Yd) (gs : List Gs) (L : List (List Int)) (j l t : Nat) : Int := Za2 (Zji y gs L l t) j
noncomputable def Zdz (y : Yd) (gs : List Gs) (L : List (List Int)) (l t : Nat) : Int := Zfu y gs L gs.length l t
noncomputable def Zi9 (T : Nat) (f : Nat -> Int) : List PyData := ((List.range T).map f).map PyData.int
theorem Zla (l : List Int) : Zjx (l.map PyData.int) := fun d hd => by
  obtain ⟨i, _, rfl⟩ := List.mem_map.mp hd
  exact ⟨_, rfl⟩
inductive R_lline : List OT -> OT -> Prop
  | mk {y : Yd} {gs : List Gs} {L : List (List Int)} {l : Nat} (ok : y.Ok) (hg : ∀ g ∈ gs, g.Ok y) (sh : Shape gs.length y.T L) (hl : l < y.ls.length) : R_lline [.fz (eYd y), .fz (.list (gs.map eGs)), .fz (llD L), .fz (.int (l : Int))] (.ol (Zi9 y.T (Zdz y gs L l)))
theorem ZaT : FnScope ["yard", "guests", "filling", "line", "beneath", "loads", "guest", "takes"] ["yard", "guests", "filling", "line"] (Zab ZaC) := by walk_at "p"
theorem Zmq (T : Bl mg) (D : Df K mg "loads_of_line" ZaC ["yard", "guests", "filling", "line"]) (c_lines_beneath : Cal P w K mg base "lines_beneath" ["yard", "line"] 2 (spO (K := K) R_beneath)) (c_turns_of : Cal P w K mg base "turns_of" ["yard"] 1 (spO (K := K) R_turns)) (c_line_of : Cal P w K mg base "line_of" ["guest"] 1 (spO (K := K) R_lineof)) : Cal P w K mg base "loads_of_line" ["yard", "guests", "filling", "line"] 3 (spO (K := K) R_lline) := by
  refine D.ev ZaT (fun ts r h => by cases h; rfl) (fun f cdv A outer s H E ts r hr h => ?_)
  cases h with
  | @mk y gs L l ok hg sh hl =>
    refine ⟨_, (Zaf (Zaw (i := 4) ZaT.nd rfl (Or.inl rfl) (Zar c_lines_beneath hr (Zaa (pv 0) (Zaa (pv 3) Zae)) (hj := by walk_at "j")))
 (Zaf (ZeO (i := 5) ZaT.nd rfl rfl (NX := ["yard", "guests", "filling", "line", "beneath", "loads", "guest", "takes"]) (sc := Zab ZaC) (N := ["turn"]) (f := [none]) rfl (by decide +kernel) rfl rfl (ZaM rfl T.range (Zaa (Zar c_turns_of hr (Zaa (pv 0) Zae) (hj := by walk_at "j")) Zae)) (fun _ => (Zal (i := 0) (show (["turn"] : List Str).Nodup by decide +kernel) rfl (Or.inl rfl))) (fun _ => Zbt) (fun _ => Zcz) (fun _ => Zai) rfl)
 (Zaf (Zbh PassesOwn.never rfl (Zh7 rfl T.zip (Zaa (pv 1) (Zaa (pv 2) Zae))) (Zc6 (n := 2) rfl (Zaq (Zal (i := 6) ZaT.nd rfl (Or.inl rfl)) (Zaq (Zal (i := 7) ZaT.nd rfl (Or.inl rfl)) Zb5))) (Zag (Zcj (ZaL Zhz (Zar c_line_of hr (Zaa (pv 6) Zae) (hj := by walk_at "j")) (pv 4) rfl) (Zag (ZeO (i := 5) ZaT.nd rfl rfl (NX := ["yard", "guests", "filling", "line", "beneath", "loads", "guest", "takes"]) (sc := Zab ZaC) (N := ["load", "take"]) (f := [none, none]) rfl (by decide +kernel) rfl rfl (Zh7 rfl T.zip (Zaa (pv 5) (Zaa (pv 7) Zae))) (fun _ => (Zc6 (n := 2) rfl (Zaq (Zal (i := 0) (show (["load", "take"] : List Str).Nodup by decide +kernel) rfl (Or.inl rfl)) (Zaq (Zal (i := 1) (show (["load", "take"] : List Str).Nodup by decide +kernel) rfl (Or.inl rfl)) Zb5)))) (fun _ => (Zj2 (n := 2) (ZcT Zbt (ZcT Zbt Zgq)))) (fun _ => Zcz) (fun _ => (Za0 Zcd (pv 0) (pv 1))) rfl)) ZaE)))
 (Zag (Zav (pv 5)))))), ?_⟩
    show EvS K _ [some _, some _, some _, some _, none, none, none, none] _
    walk_at "x"
    have t8 := ok.t8
    have sl := sh.len
    refine Zas (ZcZ (Zd2 (Zad (Zac rfl) (Zad (Zac rfl) Zam)) (R_beneath.mk ok hl)) ?_)
    walk_at "d"
    refine Zkj 4 rfl ?_
    walk_at "d"
    refine Zas (ZcZ (EvO.cast (ZnY (lo := 0) (n := y.T) (h := fun _ => .int 0) ?ei1 (by omega) ?el1) (show _ = OT.ol (Zi9 y.T (Zfu y gs L 0 l)) by unfold Zi9; rw [List.map_map]; rfl)) ?_)
    case ei1 =>
      apply EvI.cast
      · walk_at "ei"
      · exact Zbx rfl (by omega)
    case el1 =>
      intro k hk c
      exact ⟨_, by walk_at "g", ZbU⟩
    walk_at "d"
    refine Zas (ZbK (ds := ZiN (gs.map eGs) ((Zdw L).map PyData.list)) (fun j => [some (.fz (eYd y)), some (.fz (.list (gs.map eGs))), some (.fz (llD L)), some (.fz (.int (l : Int))), some (.fz (.list (Zdr (ZhX y l (y.ls.length - l))))), some (.ol (Zi9 y.T (Zfu y gs L j l))), none, none]) ?ei2 ⟨rfl, rfl, rfl, rfl, rfl, rfl, trivial⟩ ?st2 ?fin2)
    case ei2 => exact Zhu (Zad (Zac rfl) (Zad (Zac rfl) Zam))
    case st2 =>
      intro j d hd
      have hj : j < gs.length := by
        have := (List.getElem?_eq_some_iff.mp hd).1
        rw [ZeR] at this
        simp at this
        omega
      obtain rfl : d = .tuple [eGs (gs.getD j default), .list ((L.getD j []).map PyData.int)] := by
        have hj2 : j < L.length := by omega
        obtain ⟨a, b, e1, e2, rfl⟩ := ZgH hd
        rw [List.getElem?_map, Zhp hj2] at e2
        cases e2
        have e3 : a = eGs (gs.getD j default) := by simpa [List.getD, hj] using e1.symm
        rw [e3]
      have hm : gs.getD j default ∈ gs := by simp [List.getD, hj]
      have gk := (hg _ hm).ln
      have hR := sh.at hj
      have hS : Zfu y gs L (j + 1) l = fun t => Zfu y gs L j l t + Zji y gs L l t j := rfl
      unfold Zji at hS
      rw [hS]
      generalize hgj : gs.getD j default = g at gk
      have ei : ∀ t, at2 L j t = (L.getD j []).getD t 0 := fun _ => rfl
      simp only [ei]
      generalize L.getD j [] = row at hR
      generalize Zfu y gs L j l = S
      refine ⟨_, by walk_at "g", ?_⟩
      walk_at "d"
      refine Zdm (b := decide (l ∈ upL y g.line)) ?_ (fun c => ?_) (fun c => ?_)
      · apply EvT.cast
        · exact Zbu (Zn6 (a := g.line) (l := ZhX y l (y.ls.length - l)) (Za4 (Zad (Zac rfl) Zam) R_lineof.mk) (Zac rfl))
        · refine decide_eq_decide.mpr ?_
          rw [Zjf]
          constructor
          · exact fun h => h.2.2
          · intro h
            have := Zhj y _ l h
            exact ⟨this, by omega, h⟩
      · simp only [if_pos (of_decide_eq_true c)]
        refine ZcZ (Zmg 5 rfl rfl (Zla _) (EvO.cast (ZgE (xs := List.range y.T) (enc := fun t => .tuple [.int (S t), .int (row.getD t 0)]) (h := fun t => .int (S t + row.getD t 0)) (EvI.cast (Zhu (as := Zi9 y.T S) (bs := row.map PyData.int) (Zad (Zac rfl) (Zad (Zac rfl) Zam))) ?eq3) (by simp; omega) ?el3) (show _ = OT.ol (Zi9 y.T fun t => S t + row.getD t 0) by unfold Zi9; rw [List.map_map]; rfl))) ?_
        case eq3 =>
          apply List.ext_getElem
          · simp [ZiN, Zi9, hR]
          · intro i h1 h2
            have a : i < row.length := by simpa [hR] using h2
            simp [ZiN, Zi9, List.getD, a]
        case el3 =>
          intro x hx c
          refine ⟨_, by walk_at "g", ?_⟩
          walk_at "e"
          exact Zea (Zac rfl) (Zac rfl)
        exact ⟨rfl, rfl, rfl, rfl, rfl, rfl, trivial⟩
      · simp only [if_neg (of_decide_eq_false c), Int.add_zero]
        exact ZaF ⟨rfl, rfl, rfl, rfl, rfl, rfl, trivial⟩
    case fin2 =>
      intro ρ' hf
      refine ZcJ hf ?_
      have zl : (ZiN (gs.map eGs) ((Zdw L).map PyData.list)).length = gs.length := by
        rw [ZeR, List.length_map, List.length_map, ZlX]
        omega
      rw [zl]
      exact Zg3 rfl rfl
inductive R_loads : List OT -> OT -> Prop
  | mk {y : Yd} {gs : List Gs} {L : List (List Int)} (ok : y.Ok) (hg : ∀ g ∈ gs, g.Ok y) (sh : Shape gs.length y.T L) : R_loads [.fz (eYd y), .fz (.list (gs.map eGs)), .fz (llD L)] (.oll (Zdw (Zre y.ls.length y.T (Zdz y gs L))))
theorem Ziq : FnScope ["yard", "guests", "filling"] ["yard", "guests", "filling"] (Zab ZbR) := by walk_at "p"
theorem ZmU (T : Bl mg) (D : Df K mg "loads_of" ZbR ["yard", "guests", "filling"]) (c_loads_of_line : Cal P w K mg base "loads_of_line" ["yard", "guests", "filling", "line"] 3 (spO (K := K) R_lline)) (c_line_count : Cal P w K mg base "line_count" ["yard"] 1 (spO (K := K) R_count)) : Cal P w K mg base "loads_of" ["yard", "guests", "filling"] 4 (spO (K := K) R_loads) := by
  refine D.ev Ziq (fun ts r h => by cases h; rfl) (fun f cdv A outer s H E ts r hr h => ?_)
  cases h with
  | @mk y gs L ok hg sh =>
    refine ⟨_, (Zag (Zav (ZfL (NX := ["yard", "guests", "filling"]) (sc := Zab ZbR) (N := ["line", "yard", "guests", "filling"]) (f := [none, some 0, some 1, some 2]) rfl (by decide +kernel) rfl rfl (ZaM rfl T.range (Zaa (Zar c_line_count hr (Zaa (pv 0) Zae) (hj := by walk_at "j")) Zae)) (fun _ => (Zal (i := 0) (show (["line", "yard", "guests", "filling"] : List Str).Nodup by decide +kernel) rfl (Or.inl rfl))) (fun _ => Zbt) (fun _ => Zcz) (fun _ => (Zar c_loads_of_line hr (Zaa (pv 1) (Zaa (pv 2) (Zaa (pv 3) (Zaa (pv 0) Zae)))) (hj := by walk_at "j")))))), ?_⟩
    show EvS K _ [some _, some _, some _] _
    walk_at "x"
    have l5 := ok.l5
    refine Zfk (EvO.cast (ZlL (xs := List.range y.ls.length) (enc := fun (l : Nat) => .int (l : Int)) (h := fun l => Zi9 y.T (Zdz y gs L l)) (EvI.cast (by walk_at "ei") ?eq) (by simp; omega) ?el) (by unfold Zdw Zre; rw [List.map_map]; rfl)) rfl
    case eq => simp [ZeJ]
    case el =>
      intro x hx c
      have hx' := List.mem_range.mp hx
      refine ⟨_, by walk_at "g", ?_⟩
      walk_at "e"
      exact Zd2 (Zad (Zac rfl) (Zad (Zac rfl) (Zad (Zac rfl) (Zad (Zac rfl) Zam)))) (R_lline.mk ok hg sh hx')
theorem Zgr {ρ : Zbd} {D : PEnds} {wi : TI} {g : TG} {tbd : TS} {ds : List PyData} (R : Nat -> Zbd) (Q : Nat -> Prop) (hi : EvI K wi ρ ds) (h0 : Fgt ρ (R 0)) (q0 : Q 0)
    (hs : ∀ (i : Nat) (d : PyData), ds[i]? = some d -> Q i -> ∃ ρ2, GTo K g d (R i) ρ2 /\ EvS K tbd ρ2 { nx := fun ρ' => Fgt ρ' (R (i + 1)) /\ Q (i + 1), ct := fun ρ' => Fgt ρ' (R (i + 1)) /\ Q (i + 1), bk := D.nx, rt := D.rt }) (hd : ∀ ρ', Fgt ρ' (R ds.length) -> Q ds.length -> D.nx ρ') : EvS K (Zrd wi g tbd) ρ D := by
  refine Zej (fun i ρ' => Fgt ρ' (R i) /\ Q i) hi ⟨h0, q0⟩ (fun i d ρ' e f => ?_) (fun ρ' h => hd ρ' h.1 h.2)
  obtain ⟨ρ2, h1, h2⟩ := hs i d e f.2
  exact ⟨ρ2, fun H0 F σ H x Q S r q => h1 H0 F σ H x Q (S.fgt f.1) r q, h2⟩
noncomputable def Zkm (f : Nat -> Option PyData) (n : Nat) : Option PyData := (List.range n).findSome? f
noncomputable def Ze7 (f : Nat -> Option PyData) (n : Nat) : Prop := ∀ i, i < n -> f i = none
theorem ZbZ {f : Nat -> Option PyData} {n : Nat} (h : Ze7 f n) : Zkm f n = none := by
  unfold Zkm
  rw [List.findSome?_eq_none_iff]
  exact fun i hi => h i (List.mem_range.mp hi)
theorem Zeq {f : Nat -> Option PyData} {n k : Nat} {d : PyData} (h : Ze7 f k) (hk : k < n) (e : f k = some d) : Zkm f n = some d := by
  unfold Zkm
  obtain ⟨m, rfl⟩ : ∃ m, n = k + 1 + m := ⟨n - (k + 1), by omega⟩
  rw [List.range_add, List.findSome?_append, List.range_succ, List.findSome?_append]
  have := ZbZ h
  unfold Zkm at this
  rw [this]
  simp [e]
theorem Zdo {f : Nat -> Option PyData} {n : Nat} (h : Ze7 f n) (e : f n = none) : Ze7 f (n + 1) := fun i hi => by
  by_cases z : i = n
  · rw [z]; exact e
  · exact h i (by omega)
noncomputable def oD (o : Option PyData) : PyData := o.getD .none
noncomputable def ZfJ (k : Nat) (g : Gs) (t : Nat) (v : Int) : Option PyData :=
  if v < 0 then some (.tuple [.str "below", .int (k : Int), .int (t : Int)])
  else if 0 < v /\ ZaX g (t : Int) = false then some (.tuple [.str "away", .int (k : Int), .int (t : Int)])
  else if g.most < v then some (.tuple [.str "most", .int (k : Int), .int (t : Int)])
  else none
noncomputable def Zec (k : Nat) (g : Gs) (row : List Int) : Option PyData :=
  match Zkm (fun t => ZfJ k g t (row.getD t 0)) row.length with
  | some d => some d
  | none => if g.want < row.sum then some (.tuple [.str "want", .int (k : Int)]) else none
noncomputable def Zq9 (gs : List Gs) (L : List (List Int)) (k : Nat) : Option PyData := Zec k (gs.getD k default) (L.getD k [])
noncomputable def Zj8 (y : Yd) (gs : List Gs) (L : List (List Int)) (l t : Nat) : Option PyData := if Zbw y l t < Zdz y gs L l t then some (.tuple [.str "line", .int (l : Int), .int (t : Int)]) else none
noncomputable def ZiZ (y : Yd) (gs : List Gs) (L : List (List Int)) : Option PyData := Zkm (fun l => Zkm (Zj8 y gs L l) y.T) y.ls.length
noncomputable def ZpE (y : Yd) (gs : List Gs) (L : List (List Int)) : Option PyData :=
  match Zkm (Zq9 gs L) gs.length with
  | some d => some d
  | none => ZiZ y gs L
theorem Zh6 {k : Nat} {g : Gs} {t : Nat} {v : Int} {d : PyData} (e : ZfJ k g t v = some d) : ZfO d = false := by
  unfold ZfJ at e
  split at e
  · cases e; rfl
  · split at e
    · cases e; rfl
    · split at e
      · cases e; rfl
      · cases e
theorem Zmt {f : Nat -> Option PyData} (h : ∀ i d, f i = some d -> ZfO d = false) {n : Nat} {d : PyData} (e : Zkm f n = some d) : ZfO d = false := by
  unfold Zkm at e
  obtain ⟨i, _, hi⟩ := List.exists_of_findSome?_eq_some e
  exact h i d hi
theorem ZjT {k : Nat} {g : Gs} {row : List Int} {d : PyData} (e : Zec k g row = some d) : ZfO d = false := by
  unfold Zec at e
  split at e
  · rename_i z; cases e; exact Zmt (fun i d h => Zh6 h) z
  · split at e
    · cases e; rfl
    · cases e
inductive R_fturn : List OT -> OT -> Prop
  | mk {k : Nat} {g : Gs} {t : Nat} {v : Int} : R_fturn [.fz (.int (k : Int)), .fz (eGs g), .fz (.int (t : Int)), .fz (.int v)] (.fz (oD (ZfJ k g t v)))
theorem ZeH : FnScope ["number", "guest", "turn", "take"] ["number", "guest", "turn", "take"] (Zab ZaP) := by walk_at "p"
theorem ZmI (T : Bl mg) (D : Df K mg "fault_at_turn" ZaP ["number", "guest", "turn", "take"]) (c_is_there : Cal P w K mg base "is_there" ["guest", "turn"] 1 (spO (K := K) R_there)) (c_most_of : Cal P w K mg base "most_of" ["guest"] 1 (spO (K := K) R_most)) : Cal P w K mg base "fault_at_turn" ["number", "guest", "turn", "take"] 2 (spO (K := K) R_fturn) := by
  refine D.ev ZeH (fun ts r h => by cases h; rfl) (fun f cdv A outer s H E ts r hr h => ?_)
  cases h with
  | @mk k g t v =>
    refine ⟨_, (Zaf (Zcj (ZaL Zpf (pv 3) Zai (ZbG _)) (Zag (Zav (Zc1 (Zaa ZfA (Zaa (pv 0) (Zaa (pv 2) Zae)))))) ZaE)
 (Zaf (Zcj (PW.pt (ZnP (ZaL ZfG (pv 3) Zai (ZbG _)) (Zkz (Zj1 (Zjb (Zar c_is_there hr (Zaa (pv 1) (Zaa (pv 2) Zae)) (hj := by walk_at "j"))))))) (Zag (Zav (Zc1 (Zaa ZfA (Zaa (pv 0) (Zaa (pv 2) Zae)))))) ZaE)
 (Zaf (Zcj (ZaL ZfG (pv 3) (Zar c_most_of hr (Zaa (pv 1) Zae) (hj := by walk_at "j")) (ZbG _)) (Zag (Zav (Zc1 (Zaa ZfA (Zaa (pv 0) (Zaa (pv 2) Zae)))))) ZaE)
 (Zag (Zav ZhE))))), ?_⟩
    show EvS K _ [some _, some _, some _, some _] _
    walk_at "x"
    unfold ZfJ
    walk_at "if"
    · intro c
      have c' : v < 0 := by simpa using c
      rw [if_pos c']
      walk_at "ret"
      rfl
    · intro c
      have c' : ¬ v < 0 := by simpa using c
      rw [if_neg c']
      refine ZaF ?_
      walk_at "if"
      · intro c
        have c2 : 0 < v /\ ZaX g (t : Int) = false := by simpa using c
        rw [if_pos c2]
        walk_at "ret"
        rfl
      · intro c
        have c2 : ¬ (0 < v /\ ZaX g (t : Int) = false) := by simpa using c
        rw [if_neg c2]
        refine ZaF ?_
        walk_at "if"
        · intro c
          have c3 : g.most < v := by simpa using c
          rw [if_pos c3]
          walk_at "ret"
          rfl
        · intro c
          have c3 : ¬ g.most < v := by simpa using c
          rw [if_neg c3]
          refine ZaF ?_
          walk_at "ret"
          rfl
inductive R_fguest : List OT -> OT -> Prop
  | mk {k : Nat} {g : Gs} {row : List Int} : R_fguest [.fz (.int (k : Int)), .fz (eGs g), .fz (.list (row.map PyData.int))] (.fz (oD (Zec k g row)))
theorem ZbA : FnScope ["number", "guest", "takes", "turn", "take", "fault"] ["number", "guest", "takes"] (Zab ZaI) := by walk_at "p"
theorem Zky (T : Bl mg) (D : Df K mg "fault_of_guest" ZaI ["number", "guest", "takes"]) (c_fault_at_turn : Cal P w K mg base "fault_at_turn" ["number", "guest", "turn", "take"] 2 (spO (K := K) R_fturn)) (c_want_of : Cal P w K mg base "want_of" ["guest"] 1 (spO (K := K) R_want)) : Cal P w K mg base "fault_of_guest" ["number", "guest", "takes"] 3 (spO (K := K) R_fguest) := by
  refine D.ev ZbA (fun ts r h => by cases h; rfl) (fun f cdv A outer s H E ts r hr h => ?_)
  cases h with
  | @mk k g row =>
    refine ⟨_, (Zaf (Zbh PassesOwn.never rfl (ZbP rfl T.enumerate (Zaa (pv 2) Zae)) (Zc6 (n := 2) rfl (Zaq (Zal (i := 3) ZbA.nd rfl (Or.inl rfl)) (Zaq (Zal (i := 4) ZbA.nd rfl (Or.inl rfl)) Zb5))) (Zaf (Zaw (i := 5) ZbA.nd rfl (Or.inl rfl) (Zar c_fault_at_turn hr (Zaa (pv 0) (Zaa (pv 1) (Zaa (pv 3) (Zaa (pv 4) Zae)))) (hj := by walk_at "j")))
 (Zag (Zcj (ZeC (ZgK (pv 5))) (Zag (Zav (pv 5))) ZaE))))
 (Zaf (Zcj (ZaL ZfG (Zay Ze9 (by rfl) T.sum ZeD (Zaa (pv 2) Zae)) (Zar c_want_of hr (Zaa (pv 1) Zae) (hj := by walk_at "j")) (ZbG _)) (Zag (Zav (Zc1 (Zaa ZfA (Zaa (pv 0) Zae))))) ZaE)
 (Zag (Zav ZhE)))), ?_⟩
    show EvS K _ [some _, some _, some _, none, none, none] _
    walk_at "x"
    refine Zas (Zgr (ds := ZeK (row.map PyData.int)) (fun i => [some (.fz (.int (k : Int))), some (.fz (eGs g)), some (.fz (.list (row.map PyData.int))), none, none, none]) (Ze7 fun t => ZfJ k g t (row.getD t 0)) ?ei ⟨rfl, rfl, rfl, trivial⟩ (fun i hi => absurd hi (Nat.not_lt_zero i)) ?st ?fin)
    case ei => exact Zet (Zad (Zac rfl) Zam)
    case st =>
      intro i d hd q
      have hi : i < row.length := by
        have := (List.getElem?_eq_some_iff.mp hd).1
        rw [Zdh] at this
        simpa using this
      obtain ⟨d1, e1, rfl⟩ := ZdX hd
      obtain rfl : d1 = .int (row.getD i 0) := by simpa [List.getD, hi] using e1.symm
      refine ⟨_, by walk_at "g", ?_⟩
      walk_at "d"
      refine Zas (ZcP (Za4 (Zad (Zac rfl) (Zad (Zac rfl) (Zad (Zac rfl) (Zad (Zac rfl) Zam)))) (R_fturn.mk (k := k) (g := g) (t := i) (v := row.getD i 0))) ?_)
      walk_at "d"
      cases e : ZfJ k g i (row.getD i 0) with
      | none =>
        refine Zdm (b := false) (Zbu (ZdT (a := .none) (Zac rfl))) (fun c => nomatch c) (fun _ => ZaF ⟨⟨rfl, rfl, rfl, trivial⟩, Zdo q e⟩)
      | some d =>
        have nn := Zh6 e
        refine Zdm (b := true) ?_ (fun _ => ?_) (fun c => nomatch c)
        · apply EvT.cast
          · exact Zbu (ZdT (a := d) (Zac rfl))
          · rw [nn]; rfl
        · refine ZbX (d := d) (Zac rfl) ?_
          show OT.fz d = OT.fz _
          unfold Zec
          rw [Zeq (f := fun t => ZfJ k g t (row.getD t 0)) q hi e]
          rfl
    case fin =>
      intro ρ' hf q
      refine ZcJ hf ?_
      rw [Zdh, List.length_map] at q
      have en := ZbZ q
      refine Zas (Zdm (b := decide (g.want < row.sum)) ?_ (fun c => ?_) (fun c => ZaF ?_))
      · apply EvT.cast
        · exact Zbu (Zgd (Zfy (ns := row) (Zac rfl) rfl) (Za4 (Zad (Zac rfl) Zam) R_want.mk))
        · rfl
      · refine ZbX (d := .tuple [.str "want", .int (k : Int)]) (by walk_at "ev") ?_
        show OT.fz _ = OT.fz _
        unfold Zec
        rw [en]
        simp only
        rw [if_pos (of_decide_eq_true c)]
        rfl
      · refine ZbX (d := .none) (by walk_at "ev") ?_
        show OT.fz _ = OT.fz _
        unfold Zec
        rw [en]
        simp only
        rw [if_neg (of_decide_eq_false c)]
        rfl
theorem ZmZ (n T : Nat) (f : Nat -> Nat -> Int) : (Zdw (Zre n T f)).map PyData.list = (List.range n).map fun l => .list (Zi9 T (f l)) := by
  unfold Zdw Zre
  rw [List.map_map, List.map_map]
  rfl
theorem Zmd (T : Nat) (f : Nat -> Int) : ZeK (Zi9 T f) = (List.range T).map fun (t : Nat) => PyData.tuple [.int (t : Int), .int (f t)] := by
  unfold Zi9
  rw [List.map_map]
  exact Zhe T _
inductive R_flines : List OT -> OT -> Prop
  | mk {y : Yd} {gs : List Gs} {L : List (List Int)} (ok : y.Ok) (hg : ∀ g ∈ gs, g.Ok y) (sh : Shape gs.length y.T L) : R_flines [.fz (eYd y), .fz (.list (gs.map eGs)), .fz (llD L)] (.fz (oD (ZiZ y gs L)))
theorem Zbf : FnScope ["yard", "guests", "filling", "line", "loads", "turn", "load"] ["yard", "guests", "filling"] (Zab ZaJ) := by walk_at "p"
theorem ZkW (T : Bl mg) (D : Df K mg "fault_of_lines" ZaJ ["yard", "guests", "filling"]) (c_loads_of : Cal P w K mg base "loads_of" ["yard", "guests", "filling"] 4 (spO (K := K) R_loads)) (c_bound_at : Cal P w K mg base "bound_at" ["yard", "line", "turn"] 1 (spO (K := K) R_bound)) : Cal P w K mg base "fault_of_lines" ["yard", "guests", "filling"] 5 (spO (K := K) R_flines) := by
  refine D.ev Zbf (fun ts r h => by cases h; rfl) (fun f cdv A outer s H E ts r hr h => ?_)
  cases h with
  | @mk y gs L ok hg sh =>
    refine ⟨_, (Zaf (Zbh PassesOwn.never rfl (ZbP rfl T.enumerate (Zaa (Zar c_loads_of hr (Zaa (pv 0) (Zaa (pv 1) (Zaa (pv 2) Zae))) (hj := by walk_at "j")) Zae)) (Zc6 (n := 2) rfl (Zaq (Zal (i := 3) Zbf.nd rfl (Or.inl rfl)) (Zaq (Zal (i := 4) Zbf.nd rfl (Or.inl rfl)) Zb5))) (Zag (Zbh PassesOwn.never rfl (ZbP rfl T.enumerate (Zaa (pv 4) Zae)) (Zc6 (n := 2) rfl (Zaq (Zal (i := 5) Zbf.nd rfl (Or.inl rfl)) (Zaq (Zal (i := 6) Zbf.nd rfl (Or.inl rfl)) Zb5))) (Zag (Zcj (ZaL ZfG (pv 6) (Zar c_bound_at hr (Zaa (pv 0) (Zaa (pv 3) (Zaa (pv 5) Zae))) (hj := by walk_at "j")) (ZbG _)) (Zag (Zav (Zc1 (Zaa ZfA (Zaa (pv 3) (Zaa (pv 5) Zae)))))) ZaE)))))
 (Zag (Zav ZhE))), ?_⟩
    show EvS K _ [some _, some _, some _, none, none, none, none] _
    walk_at "x"
    refine Zas (Zgr (ds := (List.range y.ls.length).map fun (l : Nat) => PyData.tuple [.int (l : Int), .list (Zi9 y.T (Zdz y gs L l))]) (fun i => [some (.fz (eYd y)), some (.fz (.list (gs.map eGs))), some (.fz (llD L)), none, none, none, none]) (Ze7 fun l => Zkm (Zj8 y gs L l) y.T) ?ei ⟨rfl, rfl, rfl, trivial⟩ (fun i hi => absurd hi (Nat.not_lt_zero i)) ?st ?fin)
    case ei =>
      apply EvI.cast
      · exact Zet (Zad (fzG (Zd2 (Zad (Zac rfl) (Zad (Zac rfl) (Zad (Zac rfl) Zam))) (R_loads.mk ok hg sh)) rfl) Zam)
      · rw [ZmZ]
        exact Zhe _ _
    case st =>
      intro l d hd q
      have hl : l < y.ls.length := by
        have := (List.getElem?_eq_some_iff.mp hd).1
        simpa using this
      obtain rfl : d = PyData.tuple [.int (l : Int), .list (Zi9 y.T (Zdz y gs L l))] := by simpa [hl] using hd.symm
      refine ⟨_, by walk_at "g", ?_⟩
      walk_at "d"
      refine Zgr (ds := (List.range y.T).map fun (t : Nat) => PyData.tuple [.int (t : Int), .int (Zdz y gs L l t)]) (fun i => [some (.fz (eYd y)), some (.fz (.list (gs.map eGs))), some (.fz (llD L)), some (.fz (.int (l : Int))), none, none, none]) (Ze7 (Zj8 y gs L l)) ?ei2 ⟨rfl, rfl, rfl, rfl, trivial⟩ (fun i hi => absurd hi (Nat.not_lt_zero i)) ?st2 ?fin2
      case ei2 =>
        apply EvI.cast
        · exact Zet (Zad (Zac rfl) Zam)
        · exact Zmd _ _
      case st2 =>
        intro t d hd q2
        have ht : t < y.T := by
          have := (List.getElem?_eq_some_iff.mp hd).1
          simpa using this
        obtain rfl : d = PyData.tuple [.int (t : Int), .int (Zdz y gs L l t)] := by simpa [ht] using hd.symm
        refine ⟨_, by walk_at "g", ?_⟩
        walk_at "d"
        refine Zdm (b := decide (Zbw y l t < Zdz y gs L l t)) ?_ (fun c => ?_) (fun c => ZaF ⟨⟨rfl, rfl, rfl, rfl, trivial⟩, Zdo q2 ?_⟩)
        · apply EvT.cast
          · exact Zbu (Zgd (Zac rfl) (Za4 (Zad (Zac rfl) (Zad (Zac rfl) (Zad (Zac rfl) Zam))) (R_bound.mk ok (by omega) (by omega) (by omega) (by omega))))
          · rw [Int.toNat_natCast, Int.toNat_natCast]
        · refine ZbX (d := .tuple [.str "line", .int (l : Int), .int (t : Int)]) (by walk_at "ev") ?_
          show OT.fz _ = OT.fz _
          have e1 : Zj8 y gs L l t = some (.tuple [.str "line", .int (l : Int), .int (t : Int)]) := if_pos (of_decide_eq_true c)
          have e2 := Zeq q2 ht e1
          have e3 := Zeq (f := fun l => Zkm (Zj8 y gs L l) y.T) q hl e2
          unfold ZiZ
          rw [e3]
          rfl
        · exact if_neg (of_decide_eq_false c)
      case fin2 =>
        intro ρ' hf q2
        rw [List.length_map, List.length_range] at q2
        exact ⟨hf.trans ⟨rfl, rfl, rfl, trivial⟩, Zdo q (ZbZ q2)⟩
    case fin =>
      intro ρ' hf q
      rw [List.length_map, List.length_range] at q
      refine ZcJ hf ?_
      refine ZbX (d := .none) (by walk_at "ev") ?_
      show OT.fz _ = OT.fz _
      unfold ZiZ
      rw [ZbZ q]
      rfl
inductive R_fault : List OT -> OT -> Prop
  | mk {y : Yd} {gs : List Gs} {L : List (List Int)} (ok : y.Ok) (hg : ∀ g ∈ gs, g.Ok y) (sh : Shape gs.length y.T L) : R_fault [.fz (eYd y), .fz (.list (gs.map eGs)), .fz (llD L)] (.fz (oD (ZpE y gs L)))
theorem Zdq : FnScope ["yard", "guests", "filling", "number", "guest", "fault"] ["yard", "guests", "filling"] (Zab Zcs) := by walk_at "p"
theorem ZmD (T : Bl mg) (D : Df K mg "fault_of" Zcs ["yard", "guests", "filling"]) (c_fault_of_guest : Cal P w K mg base "fault_of_guest" ["number", "guest", "takes"] 3 (spO (K := K) R_fguest)) (c_fault_of_lines : Cal P w K mg base "fault_of_lines" ["yard", "guests", "filling"] 5 (spO (K := K) R_flines)) : Cal P w K mg base "fault_of" ["yard", "guests", "filling"] 6 (spO (K := K) R_fault) := by
  refine D.ev Zdq (fun ts r h => by cases h; rfl) (fun f cdv A outer s H E ts r hr h => ?_)
  cases h with
  | @mk y gs L ok hg sh =>
    refine ⟨_, (Zaf (Zbh PassesOwn.never rfl (ZbP rfl T.enumerate (Zaa (pv 1) Zae)) (Zc6 (n := 2) rfl (Zaq (Zal (i := 3) Zdq.nd rfl (Or.inl rfl)) (Zaq (Zal (i := 4) Zdq.nd rfl (Or.inl rfl)) Zb5))) (Zaf (Zaw (i := 5) Zdq.nd rfl (Or.inl rfl) (Zar c_fault_of_guest hr (Zaa (pv 3) (Zaa (pv 4) (Zaa (Za7 Zat (pv 2) (pv 3) (fun _ _ => rfl)) Zae))) (hj := by walk_at "j")))
 (Zag (Zcj (ZeC (ZgK (pv 5))) (Zag (Zav (pv 5))) ZaE))))
 (Zag (Zav (Zar c_fault_of_lines hr (Zaa (pv 0) (Zaa (pv 1) (Zaa (pv 2) Zae))) (hj := by walk_at "j"))))), ?_⟩
    show EvS K _ [some _, some _, some _, none, none, none] _
    walk_at "x"
    have sl := sh.len
    refine Zas (Zgr (ds := ZeK (gs.map eGs)) (fun i => [some (.fz (eYd y)), some (.fz (.list (gs.map eGs))), some (.fz (llD L)), none, none, none]) (Ze7 (Zq9 gs L)) ?ei ⟨rfl, rfl, rfl, trivial⟩ (fun i hi => absurd hi (Nat.not_lt_zero i)) ?st ?fin)
    case ei => exact Zet (Zad (Zac rfl) Zam)
    case st =>
      intro i d hd q
      have hi : i < gs.length := by
        have := (List.getElem?_eq_some_iff.mp hd).1
        rw [Zdh] at this
        simpa using this
      obtain ⟨d1, e1, rfl⟩ := ZdX hd
      obtain rfl : d1 = eGs (gs.getD i default) := by simpa [List.getD, hi] using e1.symm
      have hA := Zm4 (L := L) (o := i) (by omega)
      refine ⟨_, by walk_at "g", ?_⟩
      walk_at "d"
      refine Zas (ZcP (Za4 (Zad (Zac rfl) (Zad (Zac rfl) (Zad (Zgg (ds := (Zdw L).map PyData.list) (Zac rfl) (Zac rfl) hA) Zam))) (R_fguest.mk (k := i) (g := gs.getD i default) (row := L.getD i []))) ?_)
      walk_at "d"
      cases e : Zec i (gs.getD i default) (L.getD i []) with
      | none =>
        refine Zdm (b := false) (Zbu (ZdT (a := .none) (Zac rfl))) (fun c => nomatch c) (fun _ => ZaF ⟨⟨rfl, rfl, rfl, trivial⟩, Zdo q e⟩)
      | some d =>
        have nn := ZjT e
        refine Zdm (b := true) ?_ (fun _ => ?_) (fun c => nomatch c)
        · apply EvT.cast
          · exact Zbu (ZdT (a := d) (Zac rfl))
          · rw [nn]; rfl
        · refine ZbX (d := d) (Zac rfl) ?_
          show OT.fz d = OT.fz _
          unfold ZpE
          rw [Zeq (f := Zq9 gs L) q hi e]
          rfl
    case fin =>
      intro ρ' hf q
      refine ZcJ hf ?_
      rw [Zdh, List.length_map] at q
      refine ZbX (Za4 (Zad (Zac rfl) (Zad (Zac rfl) (Zad (Zac rfl) Zam))) (R_flines.mk ok hg sh)) ?_
      show OT.fz _ = OT.fz _
      unfold ZpE
      rw [ZbZ q]
theorem Zj9 {k : Nat} {g : Gs} {t : Nat} {v : Int} (h0 : 0 <= v) (h1 : v <= g.most) (h2 : ¬ (g.first <= t /\ t <= g.last) -> v = 0) : ZfJ k g t v = none := by
  unfold ZfJ
  rw [if_neg (by omega), if_neg ?_, if_neg (by omega)]
  rintro ⟨a, b⟩
  have := h2 (fun z => by
    unfold ZaX at b
    simp only [Bool.and_eq_false_iff, decide_eq_false_iff_not] at b
    omega)
  omega
theorem ZkQ {y : Yd} {gs : List Gs} {F : List (List Int)} (h : ∀ j, j < gs.length -> (∀ t, 0 <= at2 F j t /\ at2 F j t <= (gs.getD j default).most /\ (¬ ((gs.getD j default).first <= t /\ t <= (gs.getD j default).last) -> at2 F j t = 0)) /\ (F.getD j []).sum <= (gs.getD j default).want) (hl : ∀ o t, o < y.ls.length -> t < y.T -> Zdz y gs F o t <= Zbw y o t) : ZpE y gs F = none := by
  unfold ZpE
  rw [ZbZ (f := Zq9 gs F) (fun k hk => ?_)]
  · exact ZbZ fun l hl' => ZbZ fun t ht => by
      unfold Zj8
      rw [if_neg]
      have := hl l t hl' ht
      omega
  · obtain ⟨h1, h2⟩ := h k hk
    unfold Zq9 Zec
    rw [ZbZ (fun t _ => ?_)]
    · simp only
      rw [if_neg (by omega)]
    · obtain ⟨b1, b2, b3⟩ := h1 t
      exact Zj9 b1 b2 b3
noncomputable def ZbD : Nat -> List (List Nat)
  | 0 => [[]]
  | k + 1 => ZbD k ++ (ZbD k).map fun s => s ++ [k]
theorem ZfB : ∀ k, (ZbD k).length = 2 ^ k
  | 0 => rfl
  | k + 1 => by
    show (ZbD k ++ (ZbD k).map fun s => s ++ [k]).length = _
    rw [List.length_append, List.length_map, ZfB k, Nat.pow_succ]
    omega
theorem Zg0 : ∀ k, ∀ s ∈ ZbD k, s.Nodup /\ (∀ j ∈ s, j < k) /\ s.length <= k
  | 0, s, h => by
    have : s = [] := by simpa [ZbD] using h
    subst this
    exact ⟨List.nodup_nil, fun j hj => (nomatch hj), Nat.le_refl _⟩
  | k + 1, s, h => by
    rcases List.mem_append.mp h with h | h
    · obtain ⟨h1, h2, h3⟩ := Zg0 k s h
      exact ⟨h1, fun j hj => Nat.lt_succ_of_lt (h2 j hj), by omega⟩
    · obtain ⟨r, hr, rfl⟩ := List.mem_map.mp h
      obtain ⟨h1, h2, h3⟩ := Zg0 k r hr
      refine ⟨?_, fun j hj => ?_, by simp; omega⟩
      · rw [List.nodup_append]
        refine ⟨h1, by simp, fun a ha b hb => ?_⟩
        have : b = k := by simpa using hb
        have := h2 a ha
        omega
      · rcases List.mem_append.mp hj with hj | hj
        · exact Nat.lt_succ_of_lt (h2 j hj)
        · have : j = k := by simpa using hj
          omega
noncomputable def Zfo (k : Nat) : List PyData := (ZbD k).map fun s => .list (Zdr s)
inductive R_sets : List OT -> OT -> Prop
  | mk {m : Nat} (h : m <= 8) : R_sets [.fz (.int (m : Int))] (.ol (Zfo m))
theorem ZcV : FnScope ["_law_many", "_law_found", "_law_k"] ["_law_many"] (Zab Zbz) := by walk_at "p"
theorem Zpb (T : Bl mg) (D : Df K mg "_law_sets" Zbz ["_law_many"]) : Cal P w K mg base "_law_sets" ["_law_many"] 1 (spO (K := K) R_sets) := by
  refine D.ev ZcV (fun ts r h => by cases h; rfl) (fun f cdv A outer s H E ts r hr h => ?_)
  cases h with
  | @mk m h8 =>
    refine ⟨_, (Zaf (Zaw (i := 1) ZcV.nd rfl (Or.inl rfl) (Zc2 (Zaa (Zc2 Zae) Zae)))
 (Zaf (Zbh PassesOwn.never rfl (ZaM rfl T.range (Zaa (pv 0) Zae)) (Zal (i := 2) ZcV.nd rfl (Or.inr rfl)) (Zag (Zaw (i := 1) ZcV.nd rfl (Or.inl rfl) (Za0 Zn8 (pv 1) (ZfL (NX := ["_law_many", "_law_found", "_law_k"]) (sc := Zab Zbz) (N := ["_law_some", "_law_k"]) (f := [none, some 2]) rfl (by decide +kernel) rfl rfl (Zdn (pv 1)) (fun _ => (Zal (i := 0) (show (["_law_some", "_law_k"] : List Str).Nodup by decide +kernel) rfl (Or.inl rfl))) (fun _ => Zbt) (fun _ => Zcz) (fun _ => (Za0 Zn8 (pv 0) (Zc2 (Zaa (pv 1) Zae)))))))))
 (Zag (Zav (pv 1))))), ?_⟩
    show EvS K _ [some _, none, none] _
    walk_at "x"
    refine Zas (ZcZ (ZdM (ds := Zfo 0) (ZcX (EvO.fz (ZdM Zce (by decide))) Zce) (by decide)) ?_)
    walk_at "d"
    refine Zas (ZbK (ds := ZeJ 0 m) (fun i => [some (.fz (.int (m : Int))), some (.ol (Zfo i)), none]) ?ei ⟨rfl, rfl, trivial⟩ ?st ?fin)
    case ei => exact EvI.cast (Zc4 (Zad (Zac rfl) Zam) (by rw [z62]; omega) (by rw [z62]; omega)) (Zbx rfl (by omega))
    case fin =>
      intro ρ' hf
      refine ZcJ hf ?_
      rw [ZbJ]
      exact Zg3 rfl rfl
    case st =>
      intro i d hd
      obtain ⟨hi, rfl⟩ := Zbv hd
      have ln : (ZbD i).length <= 256 := by
        rw [ZfB]
        have : 2 ^ i <= 2 ^ 8 := Nat.pow_le_pow_right (by decide) (by omega)
        exact this
      refine ⟨_, by walk_at "g", ?_⟩
      walk_at "d"
      rw [Int.zero_add]
      refine Zkj 1 rfl ?_
      walk_at "d"
      refine ZcZ (Zoa (as := Zfo i) (bs := (ZbD i).map fun s => .list (Zdr (s ++ [i]))) (Zac rfl) (EvO.fz (ZgE (xs := ZbD i) (enc := fun s => .list (Zdr s)) (h := fun s => .list (Zdr (s ++ [i]))) ?ei2 (by omega) ?el2)) (by simp [Zfo]; omega)) ?_
      case ei2 => exact Zd7 (Zac rfl)
      case el2 =>
        intro x hx c
        have l3 := (Zg0 i x hx).2.2
        refine ⟨_, by walk_at "g", ?_⟩
        walk_at "e"
        apply EvE.cast
        · exact EvO.fz (Zoa (as := Zdr x) (bs := [.int (i : Int)]) (Zac rfl) (EvO.fz (ZdM (ZcX (Zac rfl) Zce) (by show (1 : Nat) <= 1000; decide))) (by simp [Zdr]; omega))
        · unfold Zdr
          rw [List.map_append]
          rfl
      walk_at "d"
      refine ⟨rfl, ?_, trivial⟩
      unfold Zfo
      show _ = some (OT.ol ((ZbD i ++ (ZbD i).map fun s => s ++ [i]).map fun s => .list (Zdr s)))
      rw [List.map_append, List.map_map]
      rfl
theorem ZiI {X : Cx} {pins : List (Addr × Obj)} {σ : St} {H : Hp} {s : Shared} (I : Inv X pins σ H s) : ∀ {xs : List V} {ds : List PyData} {us : List Value}, Reps H xs ds -> ZbE xs us -> (∀ w ∈ us, ∃ e ∈ ds, ∃ bs, Reads s.heap w e bs) /\ (∀ e ∈ ds, ∃ w ∈ us, ∃ bs, Reads s.heap w e bs)
  | _, _, _, .nil, r => by cases r; exact ⟨fun _ h => (nomatch h), fun _ h => (nomatch h)⟩
  | _, _, _, .cons q t, r => by
    cases r with
    | cons r1 r2 =>
      obtain ⟨as, ra⟩ := Rep.reads I q r1
      obtain ⟨h1, h2⟩ := ZiI I t r2
      refine ⟨fun w hw => ?_, fun e he => ?_⟩
      · rcases List.mem_cons.mp hw with rfl | hw
        · exact ⟨_, List.mem_cons_self, _, ra⟩
        · obtain ⟨e, he, b⟩ := h1 w hw
          exact ⟨e, List.mem_cons_of_mem _ he, b⟩
      · rcases List.mem_cons.mp he with rfl | he
        · exact ⟨_, List.mem_cons_self, _, ra⟩
        · obtain ⟨w, hw, b⟩ := h2 e he
          exact ⟨w, List.mem_cons_of_mem _ hw, b⟩
noncomputable def ZpO : R2 := fun x y H Q => ∃ d ds, Rep H x d /\ Rep H y (.list ds) /\ Zo2 d /\ (∀ e ∈ ds, Zo2 e) /\ d ∈ ds /\ Q (.bl false) H
theorem Zpc {X : Cx} (hu : X.A.units + 64 < cLine) : OpR X (compareOp .NotIn) ZpO := by
  intro pins s σ H x y v u Q I rx ry h
  obtain ⟨d, ds, hd, he, fd, fe, hm, q⟩ := h
  obtain ⟨as, ra⟩ := hd.reads I rx
  cases he with
  | lst h q' =>
    cases ry
    obtain ⟨z, its, n, rv, e⟩ := I.hok _ _ h
    obtain ⟨m1, m2⟩ := ZiI I q' rv
    have key : ∀ {w : Value} {e : PyData} {bs : List Addr}, e ∈ ds -> Reads s.heap w e bs -> SeqAt.EqAt X.A.in1 s w v (PyData.eqv e d) := fun {w e bs} he hr => SeqAt.eqAt_reads e d _ s _ _ _ _ hr ra (fe _ he).1 fd.1 (by
      have h1 := fd.2
      have h2 := Nat.min_le_right e.depth d.depth
      rw [Around.in1_units]
      omega)
    classical
    refine SeqAt.notIn_listAt (fun w => decide (SeqAt.EqAt X.A.in1 s w v true)) ⟨_, e, rfl, n, rfl⟩ (fun w hw => ?_) ⟨.bl false, H, I, ?_, q⟩
    · obtain ⟨e, he, bs, hr⟩ := m1 w (by simpa using hw)
      have k := key he hr
      by_cases c : SeqAt.EqAt X.A.in1 s w v true
      · rw [decide_eq_true c]; exact c
      · rw [decide_eq_false c]
        cases z : PyData.eqv e d with
        | true => rw [z] at k; exact absurd k c
        | false => rw [z] at k; exact k
    · obtain ⟨w, hw, bs, hr⟩ := m2 d hm
      have k := key hm hr
      rw [Znb fd] at k
      show Value.bool _ = Value.bool false
      congr 1
      rw [Bool.not_eq_false', Array.any_eq_true']
      exact ⟨w, by simpa using hw, decide_eq_true k⟩
theorem Zp3 {K : PySem.W.Frag} {ρ : Zbd} {ta tb : TE} {Φ : OT -> Prop} {ds : List PyData} (ha : EvD K ta ρ Φ) (hb : EvE K tb ρ (.list ds)) (fe : ∀ e ∈ ds, Zo2 e) (hi : ∀ r, Φ r -> ∃ d, ZnN r = some d /\ Zo2 d /\ d ∈ ds) : EvE K (tOp ZpO ta tb) ρ (.bool false) := fun H0 F σ H Q S q =>
  ha H0 F σ H _ S fun F1 H1 v p r hr x hp ok => by
    obtain ⟨d, ed, fd, hm⟩ := hi r hr
    have x1 : Ext F H (frF F1 H1 p) H1 := ⟨x.hh, x.ff.trans (ZcC fun a ha => (ok.there a ha).1), Zew x.fh, fun a ha => by
      by_cases z : a ∈ p
      · exact .inr (hp a z)
      · rw [Zcf z] at ha; exact x.fr a ha⟩
    exact hb H0 _ σ H1 _ (S.ext x1) fun F2 H2 u x2 r2 => ⟨d, ds, ((ok.frz ed).mono x2.ff).mono x2.fh, r2.mono x2.fh, fd, fe, hm, q F2 H2 _ (x1.trans x2) (.bl _)⟩
theorem Zdp : ∀ {k : Nat} {s : List Nat}, s ∈ ZbD k ↔ ∃ S : Nat -> Bool, s = (List.range k).filter S
  | 0, s => by
    constructor
    · intro h
      have : s = [] := by simpa [ZbD] using h
      exact ⟨fun _ => false, by rw [this]; rfl⟩
    · rintro ⟨S, rfl⟩
      simp [ZbD]
  | k + 1, s => by
    have fl : ∀ S : Nat -> Bool, (List.range (k + 1)).filter S = (List.range k).filter S ++ if S k then [k] else [] := fun S => by
      rw [List.range_succ, List.filter_append]
      by_cases c : S k <;> simp [c]
    constructor
    · intro h
      rcases List.mem_append.mp h with h | h
      · obtain ⟨S, rfl⟩ := Zdp.mp h
        refine ⟨fun j => decide (j < k) && S j, ?_⟩
        rw [fl]
        simp only [Nat.lt_irrefl, decide_false, Bool.false_and, Bool.false_eq_true, if_false, List.append_nil]
        refine List.filter_congr fun j hj => ?_
        rw [decide_eq_true (List.mem_range.mp hj), Bool.true_and]
      · obtain ⟨r, hr, rfl⟩ := List.mem_map.mp h
        obtain ⟨S, rfl⟩ := Zdp.mp hr
        refine ⟨fun j => decide (j = k) || S j, ?_⟩
        rw [fl]
        simp only [decide_true, Bool.true_or, if_true]
        congr 1
        refine List.filter_congr fun j hj => ?_
        have := List.mem_range.mp hj
        rw [decide_eq_false (by omega), Bool.false_or]
    · rintro ⟨S, rfl⟩
      rw [fl]
      refine List.mem_append.mpr ?_
      by_cases c : S k
      · refine .inr (List.mem_map.mpr ⟨(List.range k).filter S, Zdp.mpr ⟨S, rfl⟩, ?_⟩)
        rw [if_pos c]
      · refine .inl (Zdp.mpr ⟨S, ?_⟩)
        rw [if_neg c, List.append_nil]
noncomputable def Ze8 (v : List Nat -> Int) : List (List Nat) -> Int × List (List Nat) -> Int × List (List Nat)
  | [], p => p
  | s :: ss, p => Ze8 v ss (if p.1 < v s then (v s, [s]) else if v s = p.1 then (p.1, p.2 ++ [s]) else p)
noncomputable def bst (v : List Nat -> Int) (L : List (List Nat)) (i : Nat) : Int × List (List Nat) := Ze8 v (L.take i) (0, [])
theorem Zf2 (v : List Nat -> Int) (s : List Nat) : ∀ (l : List (List Nat)) (p : Int × List (List Nat)), Ze8 v (l ++ [s]) p = (if (Ze8 v l p).1 < v s then (v s, [s]) else if v s = (Ze8 v l p).1 then ((Ze8 v l p).1, (Ze8 v l p).2 ++ [s]) else Ze8 v l p)
  | [], _ => rfl
  | a :: l, p => Zf2 v s l _
theorem Zju {v : List Nat -> Int} {L : List (List Nat)} {i : Nat} {s : List Nat} (h : L[i]? = some s) : bst v L (i + 1) = (if (bst v L i).1 < v s then (v s, [s]) else if v s = (bst v L i).1 then ((bst v L i).1, (bst v L i).2 ++ [s]) else bst v L i) := by
  unfold bst
  rw [List.take_succ, h]
  exact Zf2 v s _ _
theorem Zl6 {v : List Nat -> Int} {L : List (List Nat)} : ∀ i, i <= L.length -> (∀ s ∈ L.take i, v s <= (bst v L i).1 /\ (v s = (bst v L i).1 -> s ∈ (bst v L i).2)) /\ ((bst v L i).1 = 0 \/ ∃ s ∈ L, v s = (bst v L i).1) /\ (bst v L i).2.length <= i /\ 0 <= (bst v L i).1 /\ (∀ s ∈ (bst v L i).2, s ∈ L)
  | 0, _ => ⟨fun _ h => (nomatch h), .inl rfl, Nat.le_refl _, Int.le_refl _, fun _ h => (nomatch h)⟩
  | i + 1, hi => by
    obtain ⟨h1, h2, h3, h4, h5⟩ := Zl6 (v := v) (L := L) i (by omega)
    have hs : L[i]? = some L[i] := List.getElem?_eq_getElem (by omega)
    have hm : L[i] ∈ L := List.getElem_mem _
    have tk : L.take (i + 1) = L.take i ++ [L[i]] := by rw [List.take_succ, hs]; rfl
    rw [Zju hs, tk]
    generalize L[i] = s at hm
    generalize bst v L i = p at h1 h2 h3 h4 h5
    by_cases c : p.1 < v s
    · rw [if_pos c]
      refine ⟨fun x hx => ?_, .inr ⟨s, hm, rfl⟩, by simp, by show 0 <= v s; omega, fun x hx => ?_⟩
      · rcases List.mem_append.mp hx with z | z
        · have := (h1 x z).1
          exact ⟨by show v x <= v s; omega, fun e => absurd (show v x = v s from e) (by omega)⟩
        · have : x = s := by simpa using z
          subst this
          exact ⟨Int.le_refl _, fun _ => by simp⟩
      · have : x = s := by simpa using hx
        rw [this]; exact hm
    · rw [if_neg c]
      by_cases c2 : v s = p.1
      · rw [if_pos c2]
        refine ⟨fun x hx => ?_, h2, by simp; omega, h4, fun x hx => ?_⟩
        · rcases List.mem_append.mp hx with z | z
          · exact ⟨(h1 x z).1, fun e => List.mem_append.mpr (.inl ((h1 x z).2 e))⟩
          · have : x = s := by simpa using z
            subst this
            exact ⟨by show v x <= p.1; omega, fun _ => List.mem_append.mpr (.inr (by simp))⟩
        · rcases List.mem_append.mp hx with z | z
          · exact h5 x z
          · have : x = s := by simpa using z
            rw [this]; exact hm
      · rw [if_neg c2]
        refine ⟨fun x hx => ?_, h2, by omega, h4, h5⟩
        rcases List.mem_append.mp hx with z | z
        · exact h1 x z
        · have : x = s := by simpa using z
          subst this
          exact ⟨by omega, fun e => absurd e c2⟩
noncomputable def shV (y : Yd) (gs : List Gs) (sm : List Nat) : Int := Zif gs sm - Zd9 y gs sm
theorem Zjd {y : Yd} {G : Gv} {φ : Phi Nd} {k : Nat} (hk : k < G.m) (t : Nat) : at2 (ZbB y G φ) k t = if t < y.T then Zck G φ t k else 0 := by
  unfold at2 ZbB
  by_cases c : t < y.T
  · simp [List.getD, hk, c]
  · simp [List.getD, hk, c]
theorem ZjW (y : Yd) (gs : List Gs) (φ : Phi Nd) : Shape gs.length y.T (ZbB y (ZaA gs) φ) := ⟨Zex y (ZaA gs) φ, fun r hr => by
  unfold ZbB at hr
  obtain ⟨k, _, rfl⟩ := List.mem_map.mp hr
  simp⟩
theorem Zl8 {y : Yd} {gs : List Gs} {φ : Phi Nd} (hb : ∀ g ∈ gs, GBd y g) (h : FillOk y gs 1 fun k t => Zck (ZaA gs) φ t k) : ZpE y gs (ZbB y (ZaA gs) φ) = none := by
  refine ZkQ (fun j hj => ⟨fun t => ?_, ?_⟩) fun o t ho ht => ?_
  · rw [Zjd (show j < (ZaA gs).m from hj)]
    have m0 := h.item j
    have mn : 0 <= (gs.getD j default).most := (hb _ (by simp [List.getD, hj])).m0
    by_cases c : t < y.T
    · obtain ⟨a, b⟩ := m0 t hj c
      rw [if_pos c]
      rw [Int.mul_one] at b
      refine ⟨a, ?_, fun z => ?_⟩
      · by_cases d : ZaX (gAt gs j) (t : Int) = true
        · rw [if_pos d, Int.mul_one] at b
          exact b
        · rw [if_neg d, Int.mul_zero] at b
          have : Zck (ZaA gs) φ t j = 0 := by omega
          rw [this]
          exact mn
      · have d : ¬ ZaX (gAt gs j) (t : Int) = true := fun d => z (by
          have d' : ZaX (gs.getD j default) (t : Int) = true := d
          unfold ZaX at d'
          simp only [Bool.and_eq_true, decide_eq_true_eq] at d'
          omega)
        rw [if_neg d, Int.mul_zero] at b
        omega
    · rw [if_neg c]
      exact ⟨Int.le_refl _, mn, fun _ => rfl⟩
  · have e : ((ZbB y (ZaA gs) φ).getD j []).sum = Za2 (fun t => Zck (ZaA gs) φ t j) y.T := by
      have hj' : j < (ZaA gs).m := hj
      unfold ZbB
      simp only [List.getD, List.getElem?_map, List.getElem?_range hj', Option.map_some, Option.getD_some]
      exact ZcL _ _
    rw [e]
    have := h.sum j hj
    rw [Int.mul_one] at this
    exact this
  · have := h.load o t ho ht
    rw [Int.mul_one] at this
    refine Int.le_trans (Int.le_of_eq ?_) this
    unfold Zdz Zfu ZeL
    refine Zak fun k hk => ?_
    unfold Zji ind
    rw [Zjd (show k < (ZaA gs).m from hk), if_pos ht]
    show (if o ∈ upL y (gAt gs k).line then Zck (ZaA gs) φ t k else 0) = _
    by_cases c : o ∈ upL y (gAt gs k).line
    · simp [c]
    · simp [c]
theorem Zlz {y : Yd} (ok : y.Ok) {gs : List Gs} (hk : ∀ g ∈ gs, GOk y g) {φ : Phi Nd} (F : Flow y (ZaA gs) φ) {sm : List Nat} (hm : sm ∈ ZbD gs.length) : shV y gs sm <= Zdf y (ZaA gs) φ := by
  obtain ⟨S, rfl⟩ := Zdp.mp hm
  have := Zfh F ok (Zf3 hk) S
  rw [Zhi] at this
  exact this
theorem Znk {gs : List Gs} (g8 : gs.length <= 8) {sm : List Nat} (hm : sm ∈ ZbD gs.length) : SetOk gs sm := by
  obtain ⟨S, rfl⟩ := Zdp.mp hm
  exact ZmS g8 S
theorem Zd6 : FnScope ["_law_script", "_law_yard_here", "_law_guests_here", "_law_due", "_law_shorts", "_law_some", "_law_short", "_law_lack", "_law_rows"] ["_law_script"] (Zab ZeG) := by walk_at "p"
theorem ZqL {f : Addr} {fd : FuncData} (T : Bl mg) (F : Fun K "law" "law" ZeG f fd) (c__law_yard : Cal P w K mg base "_law_yard" ["_law_script"] 3 (spO (K := K) R_yard)) (c__law_guests : Cal P w K mg base "_law_guests" ["_law_script", "_law_yard_here"] 3 (spO (K := K) R_guests))
    (c_best_filling : Cal P w K mg base "best_filling" ["yard", "guests"] 6 (spD K R_great)) (c_least_lack : Cal P w K mg base "least_lack" ["yard", "guests"] 7 (spD K R_least)) (c__law_is_filling : Cal P w K mg base "_law_is_filling" ["_law_yard_here", "_law_guests_here", "_law_k", "_law_filling"] 1 (spO (K := K) R_isfill)) (c__law_whole : Cal P w K mg base "_law_whole" ["_law_found"] 1 (spO (K := K) R_whole))
    (c_lacking_set : Cal P w K mg base "lacking_set" ["yard", "guests"] 6 (spD K R_lset)) (c__law_given : Cal P w K mg base "_law_given" ["_law_yard_here", "_law_guests_here", "_law_some"] 1 (spO (K := K) R_lgiven)) (c__law_sets : Cal P w K mg base "_law_sets" ["_law_many"] 1 (spO (K := K) R_sets)) (c_fault_of : Cal P w K mg base "fault_of" ["yard", "guests", "filling"] 6 (spO (K := K) R_fault)) (c_lacks_of : Cal P w K mg base "lacks_of" ["guests", "filling"] 2 (spO (K := K) R_lacks)) :
    FnOk P w K mg base CX0 8 f fd ["_law_script"] (ZiR K) := by
  refine F.evLaw Zd6 (fun cdv A outer s H E ns hr hl hb => ?_)
  have hs : ScrOk ns := ⟨hl, hb⟩
  have hu := hr.units
  refine ⟨_, (Zaf (Zaw (i := 1) Zd6.nd rfl (Or.inl rfl) (Zar c__law_yard hr (Zaa (pv 0) Zae) (hj := by walk_at "j")))
 (Zaf (Zaw (i := 2) Zd6.nd rfl (Or.inr rfl) (Zar c__law_guests hr (Zaa (pv 0) (Zaa (pv 1) Zae)) (hj := by walk_at "j")))
 (Zaf (Zaw (i := 3) Zd6.nd rfl (Or.inl rfl) Zai)
 (Zaf (Zaw (i := 4) Zd6.nd rfl (Or.inl rfl) (Zc2 Zae))
 (Zaf (Zbh PassesOwn.never rfl (Zdn (Zar c__law_sets hr (Zaa (Zay Zdu (by rfl) T.len Zdt (Zaa (pv 2) Zae)) Zae) (hj := by walk_at "j"))) (Zal (i := 5) Zd6.nd rfl (Or.inl rfl)) (Zaf (Zaw (i := 6) Zd6.nd rfl (Or.inl rfl) (Za0 ZfS (Zay Ze9 (by rfl) T.sum ZeD (Zaa (ZfL (NX := ["_law_script", "_law_yard_here", "_law_guests_here", "_law_due", "_law_shorts", "_law_some", "_law_short", "_law_lack", "_law_rows"]) (sc := Zab ZeG) (N := ["_law_k", "_law_guests_here"]) (f := [none, some 2]) rfl (by decide +kernel) rfl rfl (Zdn (pv 5)) (fun _ => (Zal (i := 0) (show (["_law_k", "_law_guests_here"] : List Str).Nodup by decide +kernel) rfl (Or.inl rfl))) (fun _ => Zbt) (fun _ => Zcz) (fun _ => (Za7 Zat (Za7 Zat (pv 1) (pv 0) (fun _ _ => rfl)) Zai (fun _ _ => rfl)))) Zae)) (Zar c__law_given hr (Zaa (pv 1) (Zaa (pv 2) (Zaa (pv 5) Zae))) (hj := by walk_at "j"))))
 (Zaf (Zcj (ZaL ZfG (pv 6) (pv 3) (ZbG _)) (Zaf (Zaw (i := 4) Zd6.nd rfl (Or.inl rfl) (Zc2 Zae))
 (Zag (Zaw (i := 3) Zd6.nd rfl (Or.inl rfl) (pv 6)))) ZaE)
 (Zag (Zcj (ZaL ZkU (pv 6) (pv 3) (ZbG _)) (Zag (Zbe (ZfM PySem.F.plainAttrs_list PySem.F.slot_list_append PySem.F.type_list_append ZbF (pv 4) (Zaa (pv 5) Zae)))) ZaE)))))
 (Zaf (Zaw (i := 7) Zd6.nd rfl (Or.inl rfl) (Zar c_least_lack hr (Zaa (pv 1) (Zaa (Zdl Zis (by rfl) T.list ZiB (Zaa (pv 2) Zae)) Zae)) (hj := by walk_at "j")))
 (Zaf (Zcj (PW.pt (Zpa (Zj1 (Zjb (Zar c__law_whole hr (Zaa (pv 7) Zae) (hj := by walk_at "j")))) (Zpa (ZaL Zor (pv 7) (pv 3) (ZbG _)) (ZnD (ZaL (Zpc hu) (Zar c_lacking_set hr (Zaa (pv 1) (Zaa (Zdl Zis (by rfl) T.list ZiB (Zaa (pv 2) Zae)) Zae)) (hj := by walk_at "j")) (pv 4) rfl))))) (Zag (Zav ZiA)) ZaE)
 (Zaf (Zaw (i := 8) Zd6.nd rfl (Or.inl rfl) (Zar c_best_filling hr (Zaa (pv 1) (Zaa (Zdl Zis (by rfl) T.list ZiB (Zaa (pv 2) Zae)) Zae)) (hj := by walk_at "j")))
 (Zaf (Zcj (PW.pt (Zpa (ZaL Zor (Zay Zdu (by rfl) T.len Zdt (Zaa (pv 8) Zae)) (Zay Zdu (by rfl) T.len Zdt (Zaa (pv 2) Zae)) (ZbG _)) (ZnD (Zj1 (Zjb (Zar c__law_is_filling hr (Zaa (pv 1) (Zaa (pv 2) (Zaa Zai (Zaa (pv 8) Zae)))) (hj := by walk_at "j"))))))) (Zag (Zav ZiA)) ZaE)
 (Zaf (Zcj (ZaL Zor (Zay Ze9 (by rfl) T.sum ZeD (Zaa (ZfL (NX := ["_law_script", "_law_yard_here", "_law_guests_here", "_law_due", "_law_shorts", "_law_some", "_law_short", "_law_lack", "_law_rows"]) (sc := Zab ZeG) (N := ["_law_guest", "_law_row"]) (f := [none, none]) rfl (by decide +kernel) rfl rfl (Zh7 rfl T.zip (Zaa (pv 2) (Zaa (pv 8) Zae))) (fun _ => (Zc6 (n := 2) rfl (Zaq (Zal (i := 0) (show (["_law_guest", "_law_row"] : List Str).Nodup by decide +kernel) rfl (Or.inl rfl)) (Zaq (Zal (i := 1) (show (["_law_guest", "_law_row"] : List Str).Nodup by decide +kernel) rfl (Or.inl rfl)) Zb5)))) (fun _ => (Zj2 (n := 2) (ZcT Zbt (ZcT Zbt Zgq)))) (fun _ => Zcz) (fun _ => (Za0 ZfS (Za7 Zat (pv 0) Zai (fun _ _ => rfl)) (Zay Ze9 (by rfl) T.sum ZeD (Zaa (pv 1) Zae))))) Zae)) (pv 3) (ZbG _)) (Zag (Zav ZiA)) ZaE)
 (Zag (Zav (Zob (ZpH (ZpJ (Zar c_fault_of hr (Zaa (pv 1) (Zaa (pv 2) (Zaa (pv 8) Zae))) (hj := by walk_at "j")))) (ZnR (Zo8 ZkU (Zay Ze9 (by rfl) T.sum ZeD (Zaa (Zar c_lacks_of hr (Zaa (pv 2) (Zaa (pv 8) Zae)) (hj := by walk_at "j")) Zae)) (pv 3) (ZbG _)))))))))))))))), ?_⟩
  show EvS K _ [some _, none, none, none, none, none, none, none, none] _
  walk_at "x"
  have ok := Zk5 ns
  generalize hy : ZdN ns = y at ok
  have hg := Zi2 ok ns
  have g8 := Zht ns y
  generalize hgs : ZdF ns y = gs at hg g8
  have gl : (gs.map eGs).length = gs.length := by simp
  have t8 := ok.t8
  have hk : ∀ g ∈ gs, GOk y g := fun g h => Zqy (hg g h)
  have hb' : ∀ g ∈ gs, GBd y g := fun g h => ZqQ (hg g h)
  walk_at "s1"
  rw [hy]
  walk_at "s1"
  rw [hgs]
  refine Zkj 2 rfl ?_
  walk_at "d"
  have lg : ∀ {ρ : Zbd}, ρ[2]? = some (some (.fz (.list (gs.map eGs)))) -> EvE K (tCB (Zi4 K) (ZaV (ZcR 2) Zds)) ρ (.list (gs.map eGs)) := fun e => EvO.fz (Zm2 (Zac e))
  have hlen : ∀ {ρ : Zbd}, ρ[2]? = some (some (.fz (.list (gs.map eGs)))) -> EvE K (tCB (ZoS K) (ZaV (ZcR 2) Zds)) ρ (.int (gs.length : Int)) := fun e => EvE.cast (Zg8 (ds := gs.map eGs) (Zac e)) (by rw [gl])
  refine Zas (ZcP (d := .int 0) ZbU ?_)
  walk_at "d"
  refine Zas (ZcZ (ZdM (ds := []) Zce (by decide)) ?_)
  walk_at "d"
  have ln : (ZbD gs.length).length <= 256 := by
    rw [ZfB]
    have : 2 ^ gs.length <= 2 ^ 8 := Nat.pow_le_pow_right (by decide) g8
    exact this
  refine Zas (ZbK (ds := Zfo gs.length) (fun i => [some (.scr ns), some (.fz (eYd y)), some (.fz (.list (gs.map eGs))), some (.fz (.int (bst (shV y gs) (ZbD gs.length) i).1)), some (.ol ((bst (shV y gs) (ZbD gs.length) i).2.map fun s => .list (Zdr s))), none, none, none, none]) ?ei ⟨rfl, rfl, rfl, rfl, rfl, trivial⟩ ?st ?fin)
  case ei => exact Zd7 (EvO.fz (Zd2 (Zad (hlen rfl) Zam) (R_sets.mk g8)))
  case st =>
    intro i d hd
    have hi : i < (ZbD gs.length).length := by
      have := (List.getElem?_eq_some_iff.mp hd).1
      unfold Zfo at this
      simpa using this
    obtain ⟨sm, hsm, rfl⟩ : ∃ sm, (ZbD gs.length)[i]? = some sm /\ d = .list (Zdr sm) := by
      unfold Zfo at hd
      rw [List.getElem?_map] at hd
      cases e : (ZbD gs.length)[i]? with
      | none => rw [e] at hd; cases hd
      | some sm => rw [e] at hd; cases hd; exact ⟨sm, rfl, rfl⟩
    have hm : sm ∈ ZbD gs.length := List.mem_of_getElem? hsm
    have sok := Znk g8 hm
    have n8 := sok.len
    have b3 := (Zl6 (v := shV y gs) (L := ZbD gs.length) i (by omega)).2.2.1
    rw [Zju hsm]
    generalize bst (shV y gs) (ZbD gs.length) i = p at b3
    refine ⟨_, by walk_at "g", ?_⟩
    walk_at "d"
    refine Zas (ZcP (d := .int (shV y gs sm)) (EvE.cast (Zea (Zfy (ns := sm.map fun k => (gs.getD k default).want) (EvE.cast (EvO.fz (ZgE (xs := sm) (enc := fun (j : Nat) => PyData.int (j : Int)) (h := fun k => .int (gs.getD k default).want) ?ei3 (by omega) ?el3)) (by rw [List.map_map]; rfl)) rfl) (Za4 (Zad (Zac rfl) (Zad (Zac rfl) (Zad (Zac rfl) Zam))) (R_lgiven.mk ok hg sok))) rfl) ?_)
    case ei3 => exact Zd7 (Zac rfl)
    case el3 =>
      intro x hx c
      have hk := sok.mem x hx
      refine ⟨_, by walk_at "g", ?_⟩
      walk_at "e"
      refine EvE.cast (by walk_at "ev") ?_
      rw [Int.toNat_natCast]
    walk_at "d"
    generalize shV y gs sm = v
    refine ZnJ (fun ρ' => ρ' = [some (.scr ns), some (.fz (eYd y)), some (.fz (.list (gs.map eGs))), some (.fz (.int (if p.1 < v then v else p.1))), some (.ol ((if p.1 < v then [] else p.2).map fun s => .list (Zdr s))), some (.fz (.list (Zdr sm))), some (.fz (.int v)), none, none]) ?a1 ?b1
    case a1 =>
      refine Zdm (b := decide (p.1 < v)) (Zbu (Zgd (Zac rfl) (Zac rfl))) (fun c => ?_) (fun c => ZaF ?_)
      · have c : p.1 < v := of_decide_eq_true c
        refine Zas (ZcZ (ZdM (ds := []) Zce (by decide)) ?_)
        walk_at "d"
        refine ZcP (d := .int v) (Zac rfl) ?_
        walk_at "d"
        rw [if_pos c, if_pos c]
        rfl
      · have c : ¬ p.1 < v := of_decide_eq_false c
        rw [if_neg c, if_neg c]
    rintro _ rfl
    refine Zdm (b := decide (v = if p.1 < v then v else p.1)) (Zbu (ZnL (Zac rfl) (Zac rfl))) (fun c => ?_) (fun c => ZaF ?_)
    · have c : v = if p.1 < v then v else p.1 := of_decide_eq_true c
      refine Zer (d := .list (Zdr sm)) rfl (Zac rfl) ?_ ?_
      · rw [List.length_map]
        split
        · simp
        · omega
      · walk_at "d"
        refine ⟨rfl, rfl, rfl, ?_, ?_, trivial⟩
        · by_cases z : p.1 < v
          · rw [if_pos z, if_pos z]
          · rw [if_neg z] at c
            rw [if_neg z, if_neg z, if_pos c]
        · by_cases z : p.1 < v
          · rw [if_pos z, if_pos z]
            rfl
          · rw [if_neg z] at c
            rw [if_neg z, if_neg z, if_pos c, List.map_append]
            rfl
    · have c : ¬ v = if p.1 < v then v else p.1 := of_decide_eq_false c
      have z : ¬ p.1 < v := fun z => c (by rw [if_pos z])
      rw [if_neg z] at c
      rw [if_neg z, if_neg z, if_neg z, if_neg c]
      exact ⟨rfl, rfl, rfl, rfl, rfl, trivial⟩
  intro ρ' hf
  refine ZcJ hf ?_
  have sl : (Zfo gs.length).length = (ZbD gs.length).length := by unfold Zfo; simp
  rw [sl]
  obtain ⟨q1, q2, q3, q4, q5⟩ := Zl6 (v := shV y gs) (L := ZbD gs.length) _ (Nat.le_refl _)
  rw [List.take_length] at q1
  generalize bst (shV y gs) (ZbD gs.length) (ZbD gs.length).length = p at q1 q2 q3 q4 q5
  refine Zkj 4 rfl ?_
  walk_at "d"
  refine Zas (Zez (Zd4 (Zad (Zac rfl) (Zad (lg rfl) Zam)) (R_least.mk ok hk g8)) (fun r hr' => ?_))
  obtain ⟨φ', full', rfl⟩ := hr'
  walk_at "d"
  have uniq : ∀ φ'', ZlK y (ZaA gs) φ'' -> Zdf y (ZaA gs) φ'' = Zdf y (ZaA gs) φ' := fun φ'' h => ZkY ok hk h full'
  have fo' := Zhm ok hk full'.1
  have lf' := ZfZ y gs φ'
  have n0 : 0 <= Zdf y (ZaA gs) φ' := by
    rw [<- lf']
    unfold Zph
    have : Za2 (fun _ => (0 : Int)) gs.length <= Za2 (fun k => (gAt gs k).want - Za2 (fun t => Zck (ZaA gs) φ' t k) y.T) gs.length := ZcH fun k hk' => by
      have := fo'.sum k hk'
      rw [Int.mul_one] at this
      omega
    rwa [ZaG] at this
  have le1 : p.1 <= Zdf y (ZaA gs) φ' := by
    rcases q2 with z | ⟨s, hs', e⟩
    · omega
    · have := Zlz ok hk full'.1 hs'
      omega
  have best : ∀ {sm : List Nat}, sm ∈ ZbD gs.length -> shV y gs sm = Zdf y (ZaA gs) φ' -> p.1 = Zdf y (ZaA gs) φ' /\ sm ∈ p.2 := fun hm e => by
    obtain ⟨a, b⟩ := q1 _ hm
    have : p.1 = Zdf y (ZaA gs) φ' := by omega
    exact ⟨this, b (by omega)⟩
  have setm : ∀ S : Nat -> Bool, ZfK gs S ∈ ZbD gs.length := fun S => Zdp.mpr ⟨S, rfl⟩
  have eqn : p.1 = Zdf y (ZaA gs) φ' := by
    obtain ⟨F', es, fb⟩ := full'
    have fb' : Zf5 y (ZaA gs) φ' es := ⟨F', fb⟩
    exact (best (setm (ZfD es)) (fb'.lack ok hk).symm).1
  generalize Zdf y (ZaA gs) φ' = n at uniq eqn best
  subst eqn
  refine Zas (Zdm (b := false) (Zpe (b := false) (c := false) (ZkN (b := true) (ZlZ (Za4 (Zad (Zac rfl) Zam) R_whole.mk))) (fun _ => Zpe (b := false) (c := false) (EvT.cast (Zbu (Zlf (Zac rfl) (Zac rfl))) (by simp)) (fun _ => Zbu (Zp3 (ds := p.2.map fun s => .list (Zdr s)) (Zd4 (Zad (Zac rfl) (Zad (lg rfl) Zam)) (R_lset.mk ok hk g8)) (Zac rfl) ?fe ?hi)))) (fun c => nomatch c) (fun _ => ZaF ?_))
  case fe =>
    intro e he
    obtain ⟨s, _, rfl⟩ := List.mem_map.mp he
    exact Zh1 s
  case hi =>
    intro r hr'
    obtain ⟨φ2, es, fb, rfl⟩ := hr'
    have lk := fb.lack ok hk
    rw [uniq φ2 fb.full] at lk
    exact ⟨_, rfl, Zh1 _, List.mem_map.mpr ⟨_, (best (setm (ZfD es)) lk.symm).2, rfl⟩⟩
  refine Zas (Zez (Zd4 (Zad (Zac rfl) (Zad (lg rfl) Zam)) (R_great.mk ok hk g8)) (fun r hr' => ?_))
  obtain ⟨φ, full, rfl⟩ := hr'
  have u1 := uniq φ full
  have fo := Zhm ok hk full.1
  have lf := ZfZ y gs φ
  have fn := Zl8 hb' fo
  have sh := ZjW y gs φ
  have lkf := Zhc y gs φ
  have ft := ZmC y (ZaA gs) φ
  have gm : (ZaA gs).m = gs.length := rfl
  rw [gm] at ft
  rw [u1] at lf lkf
  generalize hL : ZbB y (ZaA gs) φ = L at fn sh lkf ft
  rw [ft]
  have el : (ZaW gs.length y.T fun k t => Zck (ZaA gs) φ t k).map PyData.list = (Zdw L).map PyData.list := by
    unfold Zdw
    rw [ft]
  walk_at "d"
  refine ZnK 8 rfl rfl ?_
  walk_at "d"
  generalize (fun k t => Zck (ZaA gs) φ t k) = fl at fo lf el
  have tl : ((ZaW gs.length y.T fl).map PyData.list).length = gs.length := by rw [List.length_map, Zem]
  refine Zas (Zdm (b := false) (Zpe (b := false) (c := false) (EvT.cast (Zbu (Zlf (x := (gs.length : Int)) (y := (gs.length : Int)) (EvE.cast (Zg8 (Zac rfl)) (by rw [tl])) (hlen rfl))) (by simp)) (fun _ => ZkN (b := true) (ZlZ (Za4 (Zad (Zac rfl) (Zad (Zac rfl) (Zad ZbU (Zad (Zac rfl) Zam)))) (R_isfill.mk ok hb' g8 (by decide) (by decide +kernel) fo))))) (fun c => nomatch c) (fun _ => ZaF ?_))
  refine Zas (Zdm (b := false) (EvT.cast (Zbu (Zlf (Zfy (ns := (List.range gs.length).map fun k => (gAt gs k).want - Za2 (fl k) y.T) (EvE.cast (EvO.fz (ZgE (xs := List.range gs.length) (enc := fun k => .tuple [eGs (gAt gs k), .list ((List.range y.T).map fun t => PyData.int (fl k t))]) (h := fun k => .int ((gAt gs k).want - Za2 (fl k) y.T)) ?ei4 (by simp; omega) ?el4)) (by rw [List.map_map]; rfl)) rfl) (Zac rfl))) ?eq4) (fun c => nomatch c) (fun _ => ZaF ?_))
  case ei4 =>
    refine EvI.cast (Zhu (Zad (Zac rfl) (Zad (Zac rfl) Zam))) ?_
    apply List.ext_getElem?
    intro i
    by_cases hi : i < gs.length
    · simp [ZiN, ZaW, gAt, List.getD, hi]
    · simp [ZiN, ZaW, hi]
  case el4 =>
    intro k hk c
    refine ⟨_, Zm1 (ds := [eGs (gAt gs k), .list ((List.range y.T).map fun t => PyData.int (fl k t))]) (ZcN ZbS (ZcN ZbS Zjl)) rfl, ?_⟩
    walk_at "e"
    refine EvE.cast (Zea (Zef (ds := [.int ((gAt gs k).line : Int), .int ((gAt gs k).first : Int), .int ((gAt gs k).last : Int), .int (gAt gs k).want, .int (gAt gs k).most]) (Zac rfl) ZbU rfl) (Zfy (ns := (List.range y.T).map (fl k)) (EvE.cast (Zac rfl) (by rw [List.map_map]; rfl)) rfl)) (by rw [ZcL])
  case eq4 =>
    rw [ZcL]
    unfold Zph at lf
    rw [lf]
    simp
  rw [el]
  have L0 : (Zgh gs L).sum = p.1 := lkf
  refine ZbX (d := .bool true) (EvE.cast (ZqD (EvE.cast (Zqz (a := .none) (EvE.cast (Za4 (Zad (Zac rfl) (Zad (Zac rfl) (Zad (Zac rfl) Zam))) (R_fault.mk (L := L) ok hg sh)) (by rw [fn]; rfl))) (by rfl)) (fun _ => ZnL (Zfy (ns := Zgh gs L) (EvO.fz (Zd2 (Zad (Zac rfl) (Zad (Zac rfl) Zam)) (R_lacks.mk (L := L) g8 (by rw [sh.len]; omega)))) rfl) (Zac rfl))) ?_) rfl
  rw [L0]
  simp
  rfl
end
@[elab_as_elim] theorem ln1 {α : Type} {p : List α -> Prop} {us : List α} (h : us.length = 1) (k : ∀ a0, p [a0]) : p us := by
  match us, h with
  | [a0], _ => exact k a0
@[elab_as_elim] theorem ln2 {α : Type} {p : List α -> Prop} {us : List α} (h : us.length = 2) (k : ∀ a0 a1, p [a0, a1]) : p us := by
  match us, h with
  | [a0, a1], _ => exact k a0 a1
@[elab_as_elim] theorem ln3 {α : Type} {p : List α -> Prop} {us : List α} (h : us.length = 3) (k : ∀ a0 a1 a2, p [a0, a1, a2]) : p us := by
  match us, h with
  | [a0, a1, a2], _ => exact k a0 a1 a2
@[elab_as_elim] theorem ln4 {α : Type} {p : List α -> Prop} {us : List α} (h : us.length = 4) (k : ∀ a0 a1 a2 a3, p [a0, a1, a2, a3]) : p us := by
  match us, h with
  | [a0, a1, a2, a3], _ => exact k a0 a1 a2 a3
theorem ZqB {P : Program} {w : World} {K : PySem.W.Frag} {h : Heap} {mg : Str -> Option Value} {fa C gS gE : Addr} (X : K.In h) (G : h.Ns mainGlobals mg) (hfa : mg "law" = some (.ref fa))
    {f0 f1 f2 f3 f4 f5 f6 f7 f8 f9 f10 f11 f12 f13 f14 f15 f16 f17 f18 f19 f20 f21 f22 f23 f24 f25 f26 f27 f28 f29 f30 f31 f32 f33 f34 f35 f36 f37 f38 f39 f40 f41 f42 f43 f44 f45 : Addr} {od0 an0 od1 an1 od2 an2 od3 an3 od4 an4 od5 an5 od6 an6 od7 an7 od8 an8 od9 an9 od10 an10 od11 an11 od12 an12 od13 an13 od14 an14 od15 an15 od16 an16 od17 an17 od18 an18 od19 an19 od20 an20 od21 an21 od22 an22 od23 an23 od24 an24 od25 an25 od26 an26 od27 an27 od28 an28 od29 an29 od30 an30 od31 an31 od32 an32 od33 an33 od34 an34 od35 an35 od36 an36 od37 an37 od38 an38 od39 an39 od40 an40 od41 an41 od42 an42 od43 an43 od44 an44 od45 an45 dS dE : Option Addr} {sl0 sl1 sl2 sl3 sl4 sl5 sl6 sl7 sl8 sl9 sl10 sl11 sl12 sl13 sl14 sl15 sl16 sl17 sl18 sl19 sl20 sl21 sl22 sl23 sl24 sl25 sl26 sl27 sl28 sl29 sl30 sl31 sl32 sl33 sl34 sl35 sl36 sl37 sl38 sl39 sl40 sl41 sl42 sl43 sl44 sl45 slS slE : Array (Option Value)} {oc0 kV0 dc0 pm0 cd0 ct0 oc1 kV1 dc1 pm1 cd1 ct1 oc2 kV2 dc2 pm2 cd2 ct2 oc3 kV3 dc3 pm3 cd3 ct3 oc4 kV4 dc4 pm4 cd4 ct4 oc5 kV5 dc5 pm5 cd5 ct5 oc6 kV6 dc6 pm6 cd6 ct6 oc7 kV7 dc7 pm7 cd7 ct7 oc8 kV8 dc8 pm8 cd8 ct8 oc9 kV9 dc9 pm9 cd9 ct9 oc10 kV10 dc10 pm10 cd10 ct10 oc11 kV11 dc11 pm11 cd11 ct11 oc12 kV12 dc12 pm12 cd12 ct12 oc13 kV13 dc13 pm13 cd13 ct13 oc14 kV14 dc14 pm14 cd14 ct14 oc15 kV15 dc15 pm15 cd15 ct15 oc16 kV16 dc16 pm16 cd16 ct16 oc17 kV17 dc17 pm17 cd17 ct17 oc18 kV18 dc18 pm18 cd18 ct18 oc19 kV19 dc19 pm19 cd19 ct19 oc20 kV20 dc20 pm20 cd20 ct20 oc21 kV21 dc21 pm21 cd21 ct21 oc22 kV22 dc22 pm22 cd22 ct22 oc23 kV23 dc23 pm23 cd23 ct23 oc24 kV24 dc24 pm24 cd24 ct24 oc25 kV25 dc25 pm25 cd25 ct25 oc26 kV26 dc26 pm26 cd26 ct26 oc27 kV27 dc27 pm27 cd27 ct27 oc28 kV28 dc28 pm28 cd28 ct28 oc29 kV29 dc29 pm29 cd29 ct29 oc30 kV30 dc30 pm30 cd30 ct30 oc31 kV31 dc31 pm31 cd31 ct31 oc32 kV32 dc32 pm32 cd32 ct32 oc33 kV33 dc33 pm33 cd33 ct33 oc34 kV34 dc34 pm34 cd34 ct34 oc35 kV35 dc35 pm35 cd35 ct35 oc36 kV36 dc36 pm36 cd36 ct36 oc37 kV37 dc37 pm37 cd37 ct37 oc38 kV38 dc38 pm38 cd38 ct38 oc39 kV39 dc39 pm39 cd39 ct39 oc40 kV40 dc40 pm40 cd40 ct40 oc41 kV41 dc41 pm41 cd41 ct41 oc42 kV42 dc42 pm42 cd42 ct42 oc43 kV43 dc43 pm43 cd43 ct43 oc44 kV44 dc44 pm44 cd44 ct44 oc45 kV45 dc45 pm45 cd45 ct45 : Value} {tS tE nS nE : Nat}
    (aC : PySem.W.nsIn K mainGlobals "Net" = some (some (.ref C)))
    (a0 : PySem.W.nsIn K mainGlobals "turns_of" = some (some (.ref f0)))
    (l0 : K.lookup f0 = some ⟨oc0, od0, .func (PySem.W.fnOf "turns_of" "turns_of" (Zap Zcu) (Zan Zcu) (Zab Zcu) .none kV0 dc0 pm0 an0 cd0 ct0), sl0⟩)
    (c0 : PySem.W.codeIn K cd0 "turns_of" = true)
    (k0 : PySem.W.keepIn K (.ref f0) = true)
    (a1 : PySem.W.nsIn K mainGlobals "line_count" = some (some (.ref f1)))
    (l1 : K.lookup f1 = some ⟨oc1, od1, .func (PySem.W.fnOf "line_count" "line_count" (Zap Zb0) (Zan Zb0) (Zab Zb0) .none kV1 dc1 pm1 an1 cd1 ct1), sl1⟩)
    (c1 : PySem.W.codeIn K cd1 "line_count" = true)
    (k1 : PySem.W.keepIn K (.ref f1) = true)
    (a2 : PySem.W.nsIn K mainGlobals "above_of" = some (some (.ref f2)))
    (l2 : K.lookup f2 = some ⟨oc2, od2, .func (PySem.W.fnOf "above_of" "above_of" (Zap Zcy) (Zan Zcy) (Zab Zcy) .none kV2 dc2 pm2 an2 cd2 ct2), sl2⟩)
    (c2 : PySem.W.codeIn K cd2 "above_of" = true)
    (k2 : PySem.W.keepIn K (.ref f2) = true)
    (a3 : PySem.W.nsIn K mainGlobals "bound_at" = some (some (.ref f3)))
    (l3 : K.lookup f3 = some ⟨oc3, od3, .func (PySem.W.fnOf "bound_at" "bound_at" (Zap Zcv) (Zan Zcv) (Zab Zcv) .none kV3 dc3 pm3 an3 cd3 ct3), sl3⟩)
    (c3 : PySem.W.codeIn K cd3 "bound_at" = true)
    (k3 : PySem.W.keepIn K (.ref f3) = true)
    (a4 : PySem.W.nsIn K mainGlobals "line_of" = some (some (.ref f4)))
    (l4 : K.lookup f4 = some ⟨oc4, od4, .func (PySem.W.fnOf "line_of" "line_of" (Zap ZcO) (Zan ZcO) (Zab ZcO) .none kV4 dc4 pm4 an4 cd4 ct4), sl4⟩)
    (c4 : PySem.W.codeIn K cd4 "line_of" = true)
    (k4 : PySem.W.keepIn K (.ref f4) = true)
    (a5 : PySem.W.nsIn K mainGlobals "is_there" = some (some (.ref f5)))
    (l5 : K.lookup f5 = some ⟨oc5, od5, .func (PySem.W.fnOf "is_there" "is_there" (Zap Zcw) (Zan Zcw) (Zab Zcw) .none kV5 dc5 pm5 an5 cd5 ct5), sl5⟩)
    (c5 : PySem.W.codeIn K cd5 "is_there" = true)
    (k5 : PySem.W.keepIn K (.ref f5) = true)
    (a6 : PySem.W.nsIn K mainGlobals "want_of" = some (some (.ref f6)))
    (l6 : K.lookup f6 = some ⟨oc6, od6, .func (PySem.W.fnOf "want_of" "want_of" (Zap ZcI) (Zan ZcI) (Zab ZcI) .none kV6 dc6 pm6 an6 cd6 ct6), sl6⟩)
    (c6 : PySem.W.codeIn K cd6 "want_of" = true)
    (k6 : PySem.W.keepIn K (.ref f6) = true)
    (a7 : PySem.W.nsIn K mainGlobals "most_of" = some (some (.ref f7)))
    (l7 : K.lookup f7 = some ⟨oc7, od7, .func (PySem.W.fnOf "most_of" "most_of" (Zap ZcM) (Zan ZcM) (Zab ZcM) .none kV7 dc7 pm7 an7 cd7 ct7), sl7⟩)
    (c7 : PySem.W.codeIn K cd7 "most_of" = true)
    (k7 : PySem.W.keepIn K (.ref f7) = true)
    (a8 : PySem.W.nsIn K mainGlobals "lines_beneath" = some (some (.ref f8)))
    (l8 : K.lookup f8 = some ⟨oc8, od8, .func (PySem.W.fnOf "lines_beneath" "lines_beneath" (Zap ZaQ) (Zan ZaQ) (Zab ZaQ) .none kV8 dc8 pm8 an8 cd8 ct8), sl8⟩)
    (c8 : PySem.W.codeIn K cd8 "lines_beneath" = true)
    (k8 : PySem.W.keepIn K (.ref f8) = true)
    (a9 : PySem.W.nsIn K mainGlobals "totals_of" = some (some (.ref f9)))
    (l9 : K.lookup f9 = some ⟨oc9, od9, .func (PySem.W.fnOf "totals_of" "totals_of" (Zap Zb4) (Zan Zb4) (Zab Zb4) .none kV9 dc9 pm9 an9 cd9 ct9), sl9⟩)
    (c9 : PySem.W.codeIn K cd9 "totals_of" = true)
    (k9 : PySem.W.keepIn K (.ref f9) = true)
    (a10 : PySem.W.nsIn K mainGlobals "lacks_of" = some (some (.ref f10)))
    (l10 : K.lookup f10 = some ⟨oc10, od10, .func (PySem.W.fnOf "lacks_of" "lacks_of" (Zap ZbO) (Zan ZbO) (Zab ZbO) .none kV10 dc10 pm10 an10 cd10 ct10), sl10⟩)
    (c10 : PySem.W.codeIn K cd10 "lacks_of" = true)
    (k10 : PySem.W.keepIn K (.ref f10) = true)
    (a11 : PySem.W.nsIn K mainGlobals "loads_of_line" = some (some (.ref f11)))
    (l11 : K.lookup f11 = some ⟨oc11, od11, .func (PySem.W.fnOf "loads_of_line" "loads_of_line" (Zap ZaC) (Zan ZaC) (Zab ZaC) .none kV11 dc11 pm11 an11 cd11 ct11), sl11⟩)
    (c11 : PySem.W.codeIn K cd11 "loads_of_line" = true)
    (k11 : PySem.W.keepIn K (.ref f11) = true)
    (a12 : PySem.W.nsIn K mainGlobals "loads_of" = some (some (.ref f12)))
    (l12 : K.lookup f12 = some ⟨oc12, od12, .func (PySem.W.fnOf "loads_of" "loads_of" (Zap ZbR) (Zan ZbR) (Zab ZbR) .none kV12 dc12 pm12 an12 cd12 ct12), sl12⟩)
    (c12 : PySem.W.codeIn K cd12 "loads_of" = true)
    (k12 : PySem.W.keepIn K (.ref f12) = true)
    (a13 : PySem.W.nsIn K mainGlobals "fault_at_turn" = some (some (.ref f13)))
    (l13 : K.lookup f13 = some ⟨oc13, od13, .func (PySem.W.fnOf "fault_at_turn" "fault_at_turn" (Zap ZaP) (Zan ZaP) (Zab ZaP) .none kV13 dc13 pm13 an13 cd13 ct13), sl13⟩)
    (c13 : PySem.W.codeIn K cd13 "fault_at_turn" = true)
    (k13 : PySem.W.keepIn K (.ref f13) = true)
    (a14 : PySem.W.nsIn K mainGlobals "fault_of_guest" = some (some (.ref f14)))
    (l14 : K.lookup f14 = some ⟨oc14, od14, .func (PySem.W.fnOf "fault_of_guest" "fault_of_guest" (Zap ZaI) (Zan ZaI) (Zab ZaI) .none kV14 dc14 pm14 an14 cd14 ct14), sl14⟩)
    (c14 : PySem.W.codeIn K cd14 "fault_of_guest" = true)
    (k14 : PySem.W.keepIn K (.ref f14) = true)
    (a15 : PySem.W.nsIn K mainGlobals "fault_of_lines" = some (some (.ref f15)))
    (l15 : K.lookup f15 = some ⟨oc15, od15, .func (PySem.W.fnOf "fault_of_lines" "fault_of_lines" (Zap ZaJ) (Zan ZaJ) (Zab ZaJ) .none kV15 dc15 pm15 an15 cd15 ct15), sl15⟩)
    (c15 : PySem.W.codeIn K cd15 "fault_of_lines" = true)
    (k15 : PySem.W.keepIn K (.ref f15) = true)
    (a16 : PySem.W.nsIn K mainGlobals "fault_of" = some (some (.ref f16)))
    (l16 : K.lookup f16 = some ⟨oc16, od16, .func (PySem.W.fnOf "fault_of" "fault_of" (Zap Zcs) (Zan Zcs) (Zab Zcs) .none kV16 dc16 pm16 an16 cd16 ct16), sl16⟩)
    (c16 : PySem.W.codeIn K cd16 "fault_of" = true)
    (k16 : PySem.W.keepIn K (.ref f16) = true)
    (a17 : PySem.W.nsIn K mainGlobals "guest_node" = some (some (.ref f17)))
    (l17 : K.lookup f17 = some ⟨oc17, od17, .func (PySem.W.fnOf "guest_node" "guest_node" (Zap Zby) (Zan Zby) (Zab Zby) .none kV17 dc17 pm17 an17 cd17 ct17), sl17⟩)
    (c17 : PySem.W.codeIn K cd17 "guest_node" = true)
    (k17 : PySem.W.keepIn K (.ref f17) = true)
    (a18 : PySem.W.nsIn K mainGlobals "line_node" = some (some (.ref f18)))
    (l18 : K.lookup f18 = some ⟨oc18, od18, .func (PySem.W.fnOf "line_node" "line_node" (Zap ZbM) (Zan ZbM) (Zab ZbM) .none kV18 dc18 pm18 an18 cd18 ct18), sl18⟩)
    (c18 : PySem.W.codeIn K cd18 "line_node" = true)
    (k18 : PySem.W.keepIn K (.ref f18) = true)
    (a19 : PySem.W.nsIn K mainGlobals "lay_guest" = some (some (.ref f19)))
    (l19 : K.lookup f19 = some ⟨oc19, od19, .func (PySem.W.fnOf "lay_guest" "lay_guest" (Zap ZbN) (Zan ZbN) (Zab ZbN) .none kV19 dc19 pm19 an19 cd19 ct19), sl19⟩)
    (c19 : PySem.W.codeIn K cd19 "lay_guest" = true)
    (k19 : PySem.W.keepIn K (.ref f19) = true)
    (a20 : PySem.W.nsIn K mainGlobals "lay_turn" = some (some (.ref f20)))
    (l20 : K.lookup f20 = some ⟨oc20, od20, .func (PySem.W.fnOf "lay_turn" "lay_turn" (Zap Zcp) (Zan Zcp) (Zab Zcp) .none kV20 dc20 pm20 an20 cd20 ct20), sl20⟩)
    (c20 : PySem.W.codeIn K cd20 "lay_turn" = true)
    (k20 : PySem.W.keepIn K (.ref f20) = true)
    (a21 : PySem.W.nsIn K mainGlobals "filled_net" = some (some (.ref f21)))
    (l21 : K.lookup f21 = some ⟨oc21, od21, .func (PySem.W.fnOf "filled_net" "filled_net" (Zap Zb2) (Zan Zb2) (Zab Zb2) .none kV21 dc21 pm21 an21 cd21 ct21), sl21⟩)
    (c21 : PySem.W.codeIn K cd21 "filled_net" = true)
    (k21 : PySem.W.keepIn K (.ref f21) = true)
    (a22 : PySem.W.nsIn K mainGlobals "takes_by" = some (some (.ref f22)))
    (l22 : K.lookup f22 = some ⟨oc22, od22, .func (PySem.W.fnOf "takes_by" "takes_by" (Zap ZbT) (Zan ZbT) (Zab ZbT) .none kV22 dc22 pm22 an22 cd22 ct22), sl22⟩)
    (c22 : PySem.W.codeIn K cd22 "takes_by" = true)
    (k22 : PySem.W.keepIn K (.ref f22) = true)
    (a23 : PySem.W.nsIn K mainGlobals "greatest_filling" = some (some (.ref f23)))
    (l23 : K.lookup f23 = some ⟨oc23, od23, .func (PySem.W.fnOf "greatest_filling" "greatest_filling" (Zap Za5) (Zan Za5) (Zab Za5) .none kV23 dc23 pm23 an23 cd23 ct23), sl23⟩)
    (c23 : PySem.W.codeIn K cd23 "greatest_filling" = true)
    (k23 : PySem.W.keepIn K (.ref f23) = true)
    (a24 : PySem.W.nsIn K mainGlobals "guests_reached" = some (some (.ref f24)))
    (l24 : K.lookup f24 = some ⟨oc24, od24, .func (PySem.W.fnOf "guests_reached" "guests_reached" (Zap ZaD) (Zan ZaD) (Zab ZaD) .none kV24 dc24 pm24 an24 cd24 ct24), sl24⟩)
    (c24 : PySem.W.codeIn K cd24 "guests_reached" = true)
    (k24 : PySem.W.keepIn K (.ref f24) = true)
    (a25 : PySem.W.nsIn K mainGlobals "least_lack" = some (some (.ref f25)))
    (l25 : K.lookup f25 = some ⟨oc25, od25, .func (PySem.W.fnOf "least_lack" "least_lack" (Zap Zb6) (Zan Zb6) (Zab Zb6) .none kV25 dc25 pm25 an25 cd25 ct25), sl25⟩)
    (c25 : PySem.W.codeIn K cd25 "least_lack" = true)
    (k25 : PySem.W.keepIn K (.ref f25) = true)
    (a26 : PySem.W.nsIn K mainGlobals "best_filling" = some (some (.ref f26)))
    (l26 : K.lookup f26 = some ⟨oc26, od26, .func (PySem.W.fnOf "best_filling" "best_filling" (Zap ZaY) (Zan ZaY) (Zab ZaY) .none kV26 dc26 pm26 an26 cd26 ct26), sl26⟩)
    (c26 : PySem.W.codeIn K cd26 "best_filling" = true)
    (k26 : PySem.W.keepIn K (.ref f26) = true)
    (a27 : PySem.W.nsIn K mainGlobals "lacking_set" = some (some (.ref f27)))
    (l27 : K.lookup f27 = some ⟨oc27, od27, .func (PySem.W.fnOf "lacking_set" "lacking_set" (Zap Zbl) (Zan Zbl) (Zab Zbl) .none kV27 dc27 pm27 an27 cd27 ct27), sl27⟩)
    (c27 : PySem.W.codeIn K cd27 "lacking_set" = true)
    (k27 : PySem.W.keepIn K (.ref f27) = true)
    (a28 : PySem.W.nsIn K mainGlobals "_law_cell_at" = some (some (.ref f28)))
    (l28 : K.lookup f28 = some ⟨oc28, od28, .func (PySem.W.fnOf "_law_cell_at" "_law_cell_at" (Zap Zba) (Zan Zba) (Zab Zba) .none kV28 dc28 pm28 an28 cd28 ct28), sl28⟩)
    (c28 : PySem.W.codeIn K cd28 "_law_cell_at" = true)
    (k28 : PySem.W.keepIn K (.ref f28) = true)
    (a29 : PySem.W.nsIn K mainGlobals "_law_whole" = some (some (.ref f29)))
    (l29 : K.lookup f29 = some ⟨oc29, od29, .func (PySem.W.fnOf "_law_whole" "_law_whole" (Zap Zb7) (Zan Zb7) (Zab Zb7) .none kV29 dc29 pm29 an29 cd29 ct29), sl29⟩)
    (c29 : PySem.W.codeIn K cd29 "_law_whole" = true)
    (k29 : PySem.W.keepIn K (.ref f29) = true)
    (a30 : PySem.W.nsIn K mainGlobals "_law_number" = some (some (.ref f30)))
    (l30 : K.lookup f30 = some ⟨oc30, od30, .func (PySem.W.fnOf "_law_number" "_law_number" (Zap Zbi) (Zan Zbi) (Zab Zbi) .none kV30 dc30 pm30 an30 cd30 ct30), sl30⟩)
    (c30 : PySem.W.codeIn K cd30 "_law_number" = true)
    (k30 : PySem.W.keepIn K (.ref f30) = true)
    (a31 : PySem.W.nsIn K mainGlobals "_law_amount" = some (some (.ref f31)))
    (l31 : K.lookup f31 = some ⟨oc31, od31, .func (PySem.W.fnOf "_law_amount" "_law_amount" (Zap Zbn) (Zan Zbn) (Zab Zbn) .none kV31 dc31 pm31 an31 cd31 ct31), sl31⟩)
    (c31 : PySem.W.codeIn K cd31 "_law_amount" = true)
    (k31 : PySem.W.keepIn K (.ref f31) = true)
    (a32 : PySem.W.nsIn K mainGlobals "_law_yard" = some (some (.ref f32)))
    (l32 : K.lookup f32 = some ⟨oc32, od32, .func (PySem.W.fnOf "_law_yard" "_law_yard" (Zap ZbL) (Zan ZbL) (Zab ZbL) .none kV32 dc32 pm32 an32 cd32 ct32), sl32⟩)
    (c32 : PySem.W.codeIn K cd32 "_law_yard" = true)
    (k32 : PySem.W.keepIn K (.ref f32) = true)
    (a33 : PySem.W.nsIn K mainGlobals "_law_guests" = some (some (.ref f33)))
    (l33 : K.lookup f33 = some ⟨oc33, od33, .func (PySem.W.fnOf "_law_guests" "_law_guests" (Zap Zbo) (Zan Zbo) (Zab Zbo) .none kV33 dc33 pm33 an33 cd33 ct33), sl33⟩)
    (c33 : PySem.W.codeIn K cd33 "_law_guests" = true)
    (k33 : PySem.W.keepIn K (.ref f33) = true)
    (a34 : PySem.W.nsIn K mainGlobals "_law_given" = some (some (.ref f34)))
    (l34 : K.lookup f34 = some ⟨oc34, od34, .func (PySem.W.fnOf "_law_given" "_law_given" (Zap Zbg) (Zan Zbg) (Zab Zbg) .none kV34 dc34 pm34 an34 cd34 ct34), sl34⟩)
    (c34 : PySem.W.codeIn K cd34 "_law_given" = true)
    (k34 : PySem.W.keepIn K (.ref f34) = true)
    (a35 : PySem.W.nsIn K mainGlobals "_law_sets" = some (some (.ref f35)))
    (l35 : K.lookup f35 = some ⟨oc35, od35, .func (PySem.W.fnOf "_law_sets" "_law_sets" (Zap Zbz) (Zan Zbz) (Zab Zbz) .none kV35 dc35 pm35 an35 cd35 ct35), sl35⟩)
    (c35 : PySem.W.codeIn K cd35 "_law_sets" = true)
    (k35 : PySem.W.keepIn K (.ref f35) = true)
    (a36 : PySem.W.nsIn K mainGlobals "_law_is_filling" = some (some (.ref f36)))
    (l36 : K.lookup f36 = some ⟨oc36, od36, .func (PySem.W.fnOf "_law_is_filling" "_law_is_filling" (Zap Za8) (Zan Za8) (Zab Za8) .none kV36 dc36 pm36 an36 cd36 ct36), sl36⟩)
    (c36 : PySem.W.codeIn K cd36 "_law_is_filling" = true)
    (k36 : PySem.W.keepIn K (.ref f36) = true)
    (a37 : PySem.W.nsIn K mainGlobals "law" = some (some (.ref f37)))
    (l37 : K.lookup f37 = some ⟨oc37, od37, .func (PySem.W.fnOf "law" "law" (Zap ZeG) (Zan ZeG) (Zab ZeG) .none kV37 dc37 pm37 an37 cd37 ct37), sl37⟩)
    (c37 : PySem.W.codeIn K cd37 "law" = true)
    (k37 : PySem.W.keepIn K (.ref f37) = true)
    (a38 : PySem.W.findIn K (.ref C) "lay" = some (some (.ref f38)))
    (i38 : PySem.W.isFn K (.ref f38) = true)
    (l38 : K.lookup f38 = some ⟨oc38, od38, .func (PySem.W.fnOf "lay" "Net.lay" (Zap ZcK) (Zan ZcK) (Zab ZcK) .none kV38 dc38 pm38 an38 cd38 ct38), sl38⟩)
    (c38 : PySem.W.codeIn K cd38 "Net.lay" = true)
    (k38 : PySem.W.keepIn K (.ref f38) = true)
    (a39 : PySem.W.findIn K (.ref C) "lay_one" = some (some (.ref f39)))
    (i39 : PySem.W.isFn K (.ref f39) = true)
    (l39 : K.lookup f39 = some ⟨oc39, od39, .func (PySem.W.fnOf "lay_one" "Net.lay_one" (Zap Zbj) (Zan Zbj) (Zab Zbj) .none kV39 dc39 pm39 an39 cd39 ct39), sl39⟩)
    (c39 : PySem.W.codeIn K cd39 "Net.lay_one" = true)
    (k39 : PySem.W.keepIn K (.ref f39) = true)
    (a40 : PySem.W.findIn K (.ref C) "flow" = some (some (.ref f40)))
    (i40 : PySem.W.isFn K (.ref f40) = true)
    (l40 : K.lookup f40 = some ⟨oc40, od40, .func (PySem.W.fnOf "flow" "Net.flow" (Zap Zcq) (Zan Zcq) (Zab Zcq) .none kV40 dc40 pm40 an40 cd40 ct40), sl40⟩)
    (c40 : PySem.W.codeIn K cd40 "Net.flow" = true)
    (k40 : PySem.W.keepIn K (.ref f40) = true)
    (a41 : PySem.W.findIn K (.ref C) "reached" = some (some (.ref f41)))
    (i41 : PySem.W.isFn K (.ref f41) = true)
    (l41 : K.lookup f41 = some ⟨oc41, od41, .func (PySem.W.fnOf "reached" "Net.reached" (Zap Zbk) (Zan Zbk) (Zab Zbk) .none kV41 dc41 pm41 an41 cd41 ct41), sl41⟩)
    (c41 : PySem.W.codeIn K cd41 "Net.reached" = true)
    (k41 : PySem.W.keepIn K (.ref f41) = true)
    (a42 : PySem.W.findIn K (.ref C) "push" = some (some (.ref f42)))
    (i42 : PySem.W.isFn K (.ref f42) = true)
    (l42 : K.lookup f42 = some ⟨oc42, od42, .func (PySem.W.fnOf "push" "Net.push" (Zap ZbQ) (Zan ZbQ) (Zab ZbQ) .none kV42 dc42 pm42 an42 cd42 ct42), sl42⟩)
    (c42 : PySem.W.codeIn K cd42 "Net.push" = true)
    (k42 : PySem.W.keepIn K (.ref f42) = true)
    (a43 : PySem.W.findIn K (.ref C) "fill" = some (some (.ref f43)))
    (i43 : PySem.W.isFn K (.ref f43) = true)
    (l43 : K.lookup f43 = some ⟨oc43, od43, .func (PySem.W.fnOf "fill" "Net.fill" (Zap Zcr) (Zan Zcr) (Zab Zcr) .none kV43 dc43 pm43 an43 cd43 ct43), sl43⟩)
    (c43 : PySem.W.codeIn K cd43 "Net.fill" = true)
    (k43 : PySem.W.keepIn K (.ref f43) = true)
    (a44 : PySem.W.findIn K (.ref C) "way_to" = some (some (.ref f44)))
    (i44 : PySem.W.isFn K (.ref f44) = true)
    (l44 : K.lookup f44 = some ⟨oc44, od44, .func (PySem.W.fnOf "way_to" "Net.way_to" (Zap Zb1) (Zan Zb1) (Zab Zb1) .none kV44 dc44 pm44 an44 cd44 ct44), sl44⟩)
    (c44 : PySem.W.codeIn K cd44 "Net.way_to" = true)
    (k44 : PySem.W.keepIn K (.ref f44) = true)
    (a45 : PySem.W.findIn K (.ref C) "__init__" = some (some (.ref f45)))
    (i45 : PySem.W.isFn K (.ref f45) = true)
    (l45 : K.lookup f45 = some ⟨oc45, od45, .func (PySem.W.fnOf "__init__" "Net.__init__" (Zap Zbr) (Zan Zbr) (Zab Zbr) .none kV45 dc45 pm45 an45 cd45 ct45), sl45⟩)
    (c45 : PySem.W.codeIn K cd45 "Net.__init__" = true)
    (k45 : PySem.W.keepIn K (.ref f45) = true)
    (pg : PySem.W.plainGet K C Str.empty = true)
    (hd : PySem.W.hasDictIn K C = true)
    (po : PySem.W.plainOver K C = true)
    (sa : PySem.W.findIn K (.ref C) "__setattr__" = some (some (.builtin "object.__setattr__")))
    (mk : PySem.W.makesIn K C = true)
    (kc : PySem.W.keepIn K (.ref C) = true)
    (n0 : PySem.W.findIn K (.ref C) "ends" = some none)
    (n1 : PySem.W.findIn K (.ref C) "rooms" = some none)
    (n2 : PySem.W.findIn K (.ref C) "leaving" = some none)
    (n3 : PySem.W.findIn K (.ref C) "laid" = some none)
    (aS : PySem.W.nsIn K mainGlobals "START" = some (some (.ref gS)))
    (lS : K.lookup gS = some ⟨.type "tuple", dS, .seq #[.str "start" tS] nS, slS⟩)
    (aE : PySem.W.nsIn K mainGlobals "END" = some (some (.ref gE)))
    (lE : K.lookup gE = some ⟨.type "tuple", dE, .seq #[.str "end" tE] nE, slE⟩)
    (z0 : PySem.W.nsIn K mainGlobals "abs" = some none)
    (z1 : PySem.W.nsIn K mainGlobals "len" = some none)
    (z2 : PySem.W.nsIn K mainGlobals "max" = some none)
    (z3 : PySem.W.nsIn K mainGlobals "min" = some none)
    (z4 : PySem.W.nsIn K mainGlobals "sum" = some none)
    (z5 : PySem.W.nsIn K mainGlobals "any" = some none)
    (z6 : PySem.W.nsIn K mainGlobals "all" = some none)
    (z7 : PySem.W.nsIn K mainGlobals "isinstance" = some none)
    (z8 : PySem.W.nsIn K mainGlobals "int" = some none)
    (z9 : PySem.W.nsIn K mainGlobals "bool" = some none)
    (z10 : PySem.W.nsIn K mainGlobals "list" = some none)
    (z11 : PySem.W.nsIn K mainGlobals "tuple" = some none)
    (z12 : PySem.W.nsIn K mainGlobals "range" = some none)
    (z13 : PySem.W.nsIn K mainGlobals "zip" = some none)
    (z14 : PySem.W.nsIn K mainGlobals "enumerate" = some none)
    : (∃ gS gE, PySem.W.nsIn K mainGlobals "START" = some (some (.ref gS)) /\ PySem.W.nsIn K mainGlobals "END" = some (some (.ref gE)) /\ KTup K gS "start" /\ KTup K gE "end") /\ ∃ fd : FuncData, (∀ (s : Shared) (v : Value), BindsTo s fd ⟨[v], []⟩ [("_law_script", v)]) /\ ∀ base : Heap, K.In base -> base.Ns mainGlobals mg -> FnOk P w K mg base CX0 8 fa fd ["_law_script"] (ZiR K) := by
  have e := hfa.symm.trans (PySem.W.mg_of X G a37)
  cases e
  have T : Bl mg := ⟨PySem.W.mg_none_of X G z0, PySem.W.mg_none_of X G z1, PySem.W.mg_none_of X G z2, PySem.W.mg_none_of X G z3, PySem.W.mg_none_of X G z4, PySem.W.mg_none_of X G z5, PySem.W.mg_none_of X G z6, PySem.W.mg_none_of X G z7, PySem.W.mg_none_of X G z8, PySem.W.mg_none_of X G z9, PySem.W.mg_none_of X G z10, PySem.W.mg_none_of X G z11, PySem.W.mg_none_of X G z12, PySem.W.mg_none_of X G z13, PySem.W.mg_none_of X G z14⟩
  have U : Tx K mg C gS gE := ⟨⟨⟨pg, hd, po, sa⟩, n0, n1, n2, n3⟩, PySem.W.mg_of X G aS, PySem.W.mg_of X G aE, aS, aE⟩
  have F_turns_of := Za1 (st := Zcu) l0 c0 k0
  have D_turns_of : Df K mg "turns_of" Zcu ["yard"] := ⟨_, _, F_turns_of, PySem.W.mg_of X G a0, F_turns_of.binds (ps := ["yard"]) fun _ _ _ _ _ _ us hl => ln1 hl fun _ => rfl⟩
  have F_line_count := Za1 (st := Zb0) l1 c1 k1
  have D_line_count : Df K mg "line_count" Zb0 ["yard"] := ⟨_, _, F_line_count, PySem.W.mg_of X G a1, F_line_count.binds (ps := ["yard"]) fun _ _ _ _ _ _ us hl => ln1 hl fun _ => rfl⟩
  have F_above_of := Za1 (st := Zcy) l2 c2 k2
  have D_above_of : Df K mg "above_of" Zcy ["yard", "line"] := ⟨_, _, F_above_of, PySem.W.mg_of X G a2, F_above_of.binds (ps := ["yard", "line"]) fun _ _ _ _ _ _ us hl => ln2 hl fun _ _ => rfl⟩
  have F_bound_at := Za1 (st := Zcv) l3 c3 k3
  have D_bound_at : Df K mg "bound_at" Zcv ["yard", "line", "turn"] := ⟨_, _, F_bound_at, PySem.W.mg_of X G a3, F_bound_at.binds (ps := ["yard", "line", "turn"]) fun _ _ _ _ _ _ us hl => ln3 hl fun _ _ _ => rfl⟩
  have F_line_of := Za1 (st := ZcO) l4 c4 k4
  have D_line_of : Df K mg "line_of" ZcO ["guest"] := ⟨_, _, F_line_of, PySem.W.mg_of X G a4, F_line_of.binds (ps := ["guest"]) fun _ _ _ _ _ _ us hl => ln1 hl fun _ => rfl⟩
  have F_is_there := Za1 (st := Zcw) l5 c5 k5
  have D_is_there : Df K mg "is_there" Zcw ["guest", "turn"] := ⟨_, _, F_is_there, PySem.W.mg_of X G a5, F_is_there.binds (ps := ["guest", "turn"]) fun _ _ _ _ _ _ us hl => ln2 hl fun _ _ => rfl⟩
  have F_want_of := Za1 (st := ZcI) l6 c6 k6
  have D_want_of : Df K mg "want_of" ZcI ["guest"] := ⟨_, _, F_want_of, PySem.W.mg_of X G a6, F_want_of.binds (ps := ["guest"]) fun _ _ _ _ _ _ us hl => ln1 hl fun _ => rfl⟩
  have F_most_of := Za1 (st := ZcM) l7 c7 k7
  have D_most_of : Df K mg "most_of" ZcM ["guest"] := ⟨_, _, F_most_of, PySem.W.mg_of X G a7, F_most_of.binds (ps := ["guest"]) fun _ _ _ _ _ _ us hl => ln1 hl fun _ => rfl⟩
  have F_lines_beneath := Za1 (st := ZaQ) l8 c8 k8
  have D_lines_beneath : Df K mg "lines_beneath" ZaQ ["yard", "line"] := ⟨_, _, F_lines_beneath, PySem.W.mg_of X G a8, F_lines_beneath.binds (ps := ["yard", "line"]) fun _ _ _ _ _ _ us hl => ln2 hl fun _ _ => rfl⟩
  have F_totals_of := Za1 (st := Zb4) l9 c9 k9
  have D_totals_of : Df K mg "totals_of" Zb4 ["filling"] := ⟨_, _, F_totals_of, PySem.W.mg_of X G a9, F_totals_of.binds (ps := ["filling"]) fun _ _ _ _ _ _ us hl => ln1 hl fun _ => rfl⟩
  have F_lacks_of := Za1 (st := ZbO) l10 c10 k10
  have D_lacks_of : Df K mg "lacks_of" ZbO ["guests", "filling"] := ⟨_, _, F_lacks_of, PySem.W.mg_of X G a10, F_lacks_of.binds (ps := ["guests", "filling"]) fun _ _ _ _ _ _ us hl => ln2 hl fun _ _ => rfl⟩
  have F_loads_of_line := Za1 (st := ZaC) l11 c11 k11
  have D_loads_of_line : Df K mg "loads_of_line" ZaC ["yard", "guests", "filling", "line"] := ⟨_, _, F_loads_of_line, PySem.W.mg_of X G a11, F_loads_of_line.binds (ps := ["yard", "guests", "filling", "line"]) fun _ _ _ _ _ _ us hl => ln4 hl fun _ _ _ _ => rfl⟩
  have F_loads_of := Za1 (st := ZbR) l12 c12 k12
  have D_loads_of : Df K mg "loads_of" ZbR ["yard", "guests", "filling"] := ⟨_, _, F_loads_of, PySem.W.mg_of X G a12, F_loads_of.binds (ps := ["yard", "guests", "filling"]) fun _ _ _ _ _ _ us hl => ln3 hl fun _ _ _ => rfl⟩
  have F_fault_at_turn := Za1 (st := ZaP) l13 c13 k13
  have D_fault_at_turn : Df K mg "fault_at_turn" ZaP ["number", "guest", "turn", "take"] := ⟨_, _, F_fault_at_turn, PySem.W.mg_of X G a13, F_fault_at_turn.binds (ps := ["number", "guest", "turn", "take"]) fun _ _ _ _ _ _ us hl => ln4 hl fun _ _ _ _ => rfl⟩
  have F_fault_of_guest := Za1 (st := ZaI) l14 c14 k14
  have D_fault_of_guest : Df K mg "fault_of_guest" ZaI ["number", "guest", "takes"] := ⟨_, _, F_fault_of_guest, PySem.W.mg_of X G a14, F_fault_of_guest.binds (ps := ["number", "guest", "takes"]) fun _ _ _ _ _ _ us hl => ln3 hl fun _ _ _ => rfl⟩
  have F_fault_of_lines := Za1 (st := ZaJ) l15 c15 k15
  have D_fault_of_lines : Df K mg "fault_of_lines" ZaJ ["yard", "guests", "filling"] := ⟨_, _, F_fault_of_lines, PySem.W.mg_of X G a15, F_fault_of_lines.binds (ps := ["yard", "guests", "filling"]) fun _ _ _ _ _ _ us hl => ln3 hl fun _ _ _ => rfl⟩
  have F_fault_of := Za1 (st := Zcs) l16 c16 k16
  have D_fault_of : Df K mg "fault_of" Zcs ["yard", "guests", "filling"] := ⟨_, _, F_fault_of, PySem.W.mg_of X G a16, F_fault_of.binds (ps := ["yard", "guests", "filling"]) fun _ _ _ _ _ _ us hl => ln3 hl fun _ _ _ => rfl⟩
  have F_guest_node := Za1 (st := Zby) l17 c17 k17
  have D_guest_node : Df K mg "guest_node" Zby ["number"] := ⟨_, _, F_guest_node, PySem.W.mg_of X G a17, F_guest_node.binds (ps := ["number"]) fun _ _ _ _ _ _ us hl => ln1 hl fun _ => rfl⟩
  have F_line_node := Za1 (st := ZbM) l18 c18 k18
  have D_line_node : Df K mg "line_node" ZbM ["line", "turn"] := ⟨_, _, F_line_node, PySem.W.mg_of X G a18, F_line_node.binds (ps := ["line", "turn"]) fun _ _ _ _ _ _ us hl => ln2 hl fun _ _ => rfl⟩
  have F_lay_guest := Za1 (st := ZbN) l19 c19 k19
  have D_lay_guest : Df K mg "lay_guest" ZbN ["net", "yard", "number", "guest"] := ⟨_, _, F_lay_guest, PySem.W.mg_of X G a19, F_lay_guest.binds (ps := ["net", "yard", "number", "guest"]) fun _ _ _ _ _ _ us hl => ln4 hl fun _ _ _ _ => rfl⟩
  have F_lay_turn := Za1 (st := Zcp) l20 c20 k20
  have D_lay_turn : Df K mg "lay_turn" Zcp ["net", "yard", "turn"] := ⟨_, _, F_lay_turn, PySem.W.mg_of X G a20, F_lay_turn.binds (ps := ["net", "yard", "turn"]) fun _ _ _ _ _ _ us hl => ln3 hl fun _ _ _ => rfl⟩
  have F_filled_net := Za1 (st := Zb2) l21 c21 k21
  have D_filled_net : Df K mg "filled_net" Zb2 ["yard", "guests"] := ⟨_, _, F_filled_net, PySem.W.mg_of X G a21, F_filled_net.binds (ps := ["yard", "guests"]) fun _ _ _ _ _ _ us hl => ln2 hl fun _ _ => rfl⟩
  have F_takes_by := Za1 (st := ZbT) l22 c22 k22
  have D_takes_by : Df K mg "takes_by" ZbT ["net", "yard", "number", "guest"] := ⟨_, _, F_takes_by, PySem.W.mg_of X G a22, F_takes_by.binds (ps := ["net", "yard", "number", "guest"]) fun _ _ _ _ _ _ us hl => ln4 hl fun _ _ _ _ => rfl⟩
  have F_greatest_filling := Za1 (st := Za5) l23 c23 k23
  have D_greatest_filling : Df K mg "greatest_filling" Za5 ["yard", "guests"] := ⟨_, _, F_greatest_filling, PySem.W.mg_of X G a23, F_greatest_filling.binds (ps := ["yard", "guests"]) fun _ _ _ _ _ _ us hl => ln2 hl fun _ _ => rfl⟩
  have F_guests_reached := Za1 (st := ZaD) l24 c24 k24
  have D_guests_reached : Df K mg "guests_reached" ZaD ["yard", "guests"] := ⟨_, _, F_guests_reached, PySem.W.mg_of X G a24, F_guests_reached.binds (ps := ["yard", "guests"]) fun _ _ _ _ _ _ us hl => ln2 hl fun _ _ => rfl⟩
  have F_least_lack := Za1 (st := Zb6) l25 c25 k25
  have D_least_lack : Df K mg "least_lack" Zb6 ["yard", "guests"] := ⟨_, _, F_least_lack, PySem.W.mg_of X G a25, F_least_lack.binds (ps := ["yard", "guests"]) fun _ _ _ _ _ _ us hl => ln2 hl fun _ _ => rfl⟩
  have F_best_filling := Za1 (st := ZaY) l26 c26 k26
  have D_best_filling : Df K mg "best_filling" ZaY ["yard", "guests"] := ⟨_, _, F_best_filling, PySem.W.mg_of X G a26, F_best_filling.binds (ps := ["yard", "guests"]) fun _ _ _ _ _ _ us hl => ln2 hl fun _ _ => rfl⟩
  have F_lacking_set := Za1 (st := Zbl) l27 c27 k27
  have D_lacking_set : Df K mg "lacking_set" Zbl ["yard", "guests"] := ⟨_, _, F_lacking_set, PySem.W.mg_of X G a27, F_lacking_set.binds (ps := ["yard", "guests"]) fun _ _ _ _ _ _ us hl => ln2 hl fun _ _ => rfl⟩
  have F__law_cell_at := Za1 (st := Zba) l28 c28 k28
  have D__law_cell_at : Df K mg "_law_cell_at" Zba ["_law_script", "_law_k"] := ⟨_, _, F__law_cell_at, PySem.W.mg_of X G a28, F__law_cell_at.binds (ps := ["_law_script", "_law_k"]) fun _ _ _ _ _ _ us hl => ln2 hl fun _ _ => rfl⟩
  have F__law_whole := Za1 (st := Zb7) l29 c29 k29
  have D__law_whole : Df K mg "_law_whole" Zb7 ["_law_found"] := ⟨_, _, F__law_whole, PySem.W.mg_of X G a29, F__law_whole.binds (ps := ["_law_found"]) fun _ _ _ _ _ _ us hl => ln1 hl fun _ => rfl⟩
  have F__law_number := Za1 (st := Zbi) l30 c30 k30
  have D__law_number : Df K mg "_law_number" Zbi ["_law_script", "_law_k"] := ⟨_, _, F__law_number, PySem.W.mg_of X G a30, F__law_number.binds (ps := ["_law_script", "_law_k"]) fun _ _ _ _ _ _ us hl => ln2 hl fun _ _ => rfl⟩
  have F__law_amount := Za1 (st := Zbn) l31 c31 k31
  have D__law_amount : Df K mg "_law_amount" Zbn ["_law_number_here"] := ⟨_, _, F__law_amount, PySem.W.mg_of X G a31, F__law_amount.binds (ps := ["_law_number_here"]) fun _ _ _ _ _ _ us hl => ln1 hl fun _ => rfl⟩
  have F__law_yard := Za1 (st := ZbL) l32 c32 k32
  have D__law_yard : Df K mg "_law_yard" ZbL ["_law_script"] := ⟨_, _, F__law_yard, PySem.W.mg_of X G a32, F__law_yard.binds (ps := ["_law_script"]) fun _ _ _ _ _ _ us hl => ln1 hl fun _ => rfl⟩
  have F__law_guests := Za1 (st := Zbo) l33 c33 k33
  have D__law_guests : Df K mg "_law_guests" Zbo ["_law_script", "_law_yard_here"] := ⟨_, _, F__law_guests, PySem.W.mg_of X G a33, F__law_guests.binds (ps := ["_law_script", "_law_yard_here"]) fun _ _ _ _ _ _ us hl => ln2 hl fun _ _ => rfl⟩
  have F__law_given := Za1 (st := Zbg) l34 c34 k34
  have D__law_given : Df K mg "_law_given" Zbg ["_law_yard_here", "_law_guests_here", "_law_some"] := ⟨_, _, F__law_given, PySem.W.mg_of X G a34, F__law_given.binds (ps := ["_law_yard_here", "_law_guests_here", "_law_some"]) fun _ _ _ _ _ _ us hl => ln3 hl fun _ _ _ => rfl⟩
  have F__law_sets := Za1 (st := Zbz) l35 c35 k35
  have D__law_sets : Df K mg "_law_sets" Zbz ["_law_many"] := ⟨_, _, F__law_sets, PySem.W.mg_of X G a35, F__law_sets.binds (ps := ["_law_many"]) fun _ _ _ _ _ _ us hl => ln1 hl fun _ => rfl⟩
  have F__law_is_filling := Za1 (st := Za8) l36 c36 k36
  have D__law_is_filling : Df K mg "_law_is_filling" Za8 ["_law_yard_here", "_law_guests_here", "_law_k", "_law_filling"] := ⟨_, _, F__law_is_filling, PySem.W.mg_of X G a36, F__law_is_filling.binds (ps := ["_law_yard_here", "_law_guests_here", "_law_k", "_law_filling"]) fun _ _ _ _ _ _ us hl => ln4 hl fun _ _ _ _ => rfl⟩
  have F_law := Za1 (st := ZeG) l37 c37 k37
  have D_law : Df K mg "law" ZeG ["_law_script"] := ⟨_, _, F_law, PySem.W.mg_of X G a37, F_law.binds (ps := ["_law_script"]) fun _ _ _ _ _ _ us hl => ln1 hl fun _ => rfl⟩
  have F_Net_lay := Za1 (st := ZcK) l38 c38 k38
  have D_Net_lay : Mf K C "lay" "Net.lay" ZcK ["self", "start", "end", "room"] := ⟨_, _, F_Net_lay, ⟨a38, i38, k38⟩, F_Net_lay.binds (ps := ["self", "start", "end", "room"]) fun _ _ _ _ _ _ us hl => ln4 hl fun _ _ _ _ => rfl⟩
  have F_Net_lay_one := Za1 (st := Zbj) l39 c39 k39
  have D_Net_lay_one : Mf K C "lay_one" "Net.lay_one" Zbj ["self", "start", "end", "room"] := ⟨_, _, F_Net_lay_one, ⟨a39, i39, k39⟩, F_Net_lay_one.binds (ps := ["self", "start", "end", "room"]) fun _ _ _ _ _ _ us hl => ln4 hl fun _ _ _ _ => rfl⟩
  have F_Net_flow := Za1 (st := Zcq) l40 c40 k40
  have D_Net_flow : Mf K C "flow" "Net.flow" Zcq ["self", "start", "end"] := ⟨_, _, F_Net_flow, ⟨a40, i40, k40⟩, F_Net_flow.binds (ps := ["self", "start", "end"]) fun _ _ _ _ _ _ us hl => ln3 hl fun _ _ _ => rfl⟩
  have F_Net_reached := Za1 (st := Zbk) l41 c41 k41
  have D_Net_reached : Mf K C "reached" "Net.reached" Zbk ["self", "start"] := ⟨_, _, F_Net_reached, ⟨a41, i41, k41⟩, F_Net_reached.binds (ps := ["self", "start"]) fun _ _ _ _ _ _ us hl => ln2 hl fun _ _ => rfl⟩
  have F_Net_push := Za1 (st := ZbQ) l42 c42 k42
  have D_Net_push : Mf K C "push" "Net.push" ZbQ ["self", "way"] := ⟨_, _, F_Net_push, ⟨a42, i42, k42⟩, F_Net_push.binds (ps := ["self", "way"]) fun _ _ _ _ _ _ us hl => ln2 hl fun _ _ => rfl⟩
  have F_Net_fill := Za1 (st := Zcr) l43 c43 k43
  have D_Net_fill : Mf K C "fill" "Net.fill" Zcr ["self", "start", "end"] := ⟨_, _, F_Net_fill, ⟨a43, i43, k43⟩, F_Net_fill.binds (ps := ["self", "start", "end"]) fun _ _ _ _ _ _ us hl => ln3 hl fun _ _ _ => rfl⟩
  have F_Net_way_to := Za1 (st := Zb1) l44 c44 k44
  have D_Net_way_to : Mf K C "way_to" "Net.way_to" Zb1 ["self", "edges", "end"] := ⟨_, _, F_Net_way_to, ⟨a44, i44, k44⟩, F_Net_way_to.binds (ps := ["self", "edges", "end"]) fun _ _ _ _ _ _ us hl => ln3 hl fun _ _ _ => rfl⟩
  have F_Net := Za1 (st := Zbr) l45 c45 k45
  have B_Net := F_Net.binds (ps := ["self"]) fun _ _ _ _ _ _ us hl => ln1 hl fun _ => rfl
  refine ⟨⟨gS, gE, aS, aE, ⟨_, _, _, _, lS⟩, ⟨_, _, _, _, lE⟩⟩, PySem.W.fnOf "law" "law" (Zap ZeG) (Zan ZeG) (Zab ZeG) .none kV37 dc37 pm37 an37 cd37 ct37, fun s v => .of_eq rfl, fun base _ _ => ?_⟩
  have c__law_cell_at := Zp9 (P := P) (w := w) (base := base) T D__law_cell_at 
  have c__law_number := Zl7 (P := P) (w := w) (base := base) T D__law_number (c__law_cell_at := c__law_cell_at)
  have c__law_amount := Zl0 (P := P) (w := w) (base := base) T D__law_amount 
  have c__law_yard := ZoY (P := P) (w := w) (base := base) T D__law_yard (c__law_cell_at := c__law_cell_at) (c__law_number := c__law_number) (c__law_amount := c__law_amount)
  have c__law_guests := Zk1 (P := P) (w := w) (base := base) T D__law_guests (c__law_cell_at := c__law_cell_at) (c__law_number := c__law_number) (c__law_amount := c__law_amount)
  have c_Net : Zr5 P w K mg base "Net" C 1 := ⟨_, _, ⟨mk, a45, i45, kc⟩, PySem.W.mg_of X G aC, B_Net, Zq1 (P := P) (w := w) (base := base) T U F_Net⟩
  have c_Net_lay_one := ZoG (P := P) (w := w) (base := base) T U D_Net_lay_one 
  have c_Net_lay := ZpU (P := P) (w := w) (base := base) T U D_Net_lay (c_Net_lay_one := c_Net_lay_one)
  have c_want_of := Zo6 (P := P) (w := w) (base := base) T D_want_of 
  have c_guest_node := ZmE (P := P) (w := w) (base := base) T D_guest_node 
  have c_turns_of := Zns (P := P) (w := w) (base := base) T D_turns_of 
  have c_is_there := Zmk (P := P) (w := w) (base := base) T D_is_there 
  have c_most_of := ZoM (P := P) (w := w) (base := base) T D_most_of 
  have c_line_node := ZmW (P := P) (w := w) (base := base) T D_line_node 
  have c_line_of := ZkZ (P := P) (w := w) (base := base) T D_line_of 
  have c_lay_guest := Zk2 (P := P) (w := w) (base := base) T U D_lay_guest (c_Net_lay := c_Net_lay) (c_want_of := c_want_of) (c_guest_node := c_guest_node) (c_turns_of := c_turns_of) (c_is_there := c_is_there) (c_most_of := c_most_of) (c_line_node := c_line_node) (c_line_of := c_line_of)
  have c_bound_at := Znc (P := P) (w := w) (base := base) T D_bound_at 
  have c_line_count := ZmA (P := P) (w := w) (base := base) T D_line_count 
  have c_above_of := Zne (P := P) (w := w) (base := base) T D_above_of 
  have c_lay_turn := Zmj (P := P) (w := w) (base := base) T U D_lay_turn (c_Net_lay := c_Net_lay) (c_bound_at := c_bound_at) (c_line_node := c_line_node) (c_line_count := c_line_count) (c_above_of := c_above_of)
  have c_Net_reached := ZjC (P := P) (w := w) (base := base) T U D_Net_reached 
  have c_Net_push := ZoC (P := P) (w := w) (base := base) T U D_Net_push 
  have c_Net_way_to := ZpG (P := P) (w := w) (base := base) T U D_Net_way_to 
  have c_Net_fill := ZoE (P := P) (w := w) (base := base) T U D_Net_fill (c_Net_reached := c_Net_reached) (c_Net_push := c_Net_push) (c_Net_way_to := c_Net_way_to)
  have c_filled_net := Zlr (P := P) (w := w) (base := base) T U D_filled_net (c_Net := c_Net) (c_lay_guest := c_lay_guest) (c_turns_of := c_turns_of) (c_lay_turn := c_lay_turn) (c_Net_fill := c_Net_fill)
  have c_Net_flow := Zpu (P := P) (w := w) (base := base) T U D_Net_flow 
  have c_takes_by := ZmN (P := P) (w := w) (base := base) T U D_takes_by (c_turns_of := c_turns_of) (c_Net_flow := c_Net_flow) (c_line_node := c_line_node) (c_line_of := c_line_of) (c_guest_node := c_guest_node)
  have c_greatest_filling := ZmJ (P := P) (w := w) (base := base) T U D_greatest_filling (c_filled_net := c_filled_net) (c_takes_by := c_takes_by)
  have c_best_filling := Zp4 (P := P) (w := w) (base := base) T D_best_filling (c_greatest_filling := c_greatest_filling)
  have c_totals_of := ZlQ (P := P) (w := w) (base := base) T D_totals_of 
  have c_lacks_of := Znu (P := P) (w := w) (base := base) T D_lacks_of (c_want_of := c_want_of) (c_totals_of := c_totals_of)
  have c_least_lack := Zn4 (P := P) (w := w) (base := base) T D_least_lack (c_lacks_of := c_lacks_of) (c_best_filling := c_best_filling)
  have c__law_is_filling := ZlN (P := P) (w := w) (base := base) T D__law_is_filling 
  have c__law_whole := Zno (P := P) (w := w) (base := base) T D__law_whole 
  have c_guests_reached := Zi3 (P := P) (w := w) (base := base) T U D_guests_reached (c_filled_net := c_filled_net) (c_Net_reached := c_Net_reached) (c_guest_node := c_guest_node)
  have c_lacking_set := Zo1 (P := P) (w := w) (base := base) T D_lacking_set (c_guests_reached := c_guests_reached)
  have c__law_given := Zlg (P := P) (w := w) (base := base) T D__law_given 
  have c__law_sets := Zpb (P := P) (w := w) (base := base) T D__law_sets 
  have c_fault_at_turn := ZmI (P := P) (w := w) (base := base) T D_fault_at_turn (c_is_there := c_is_there) (c_most_of := c_most_of)
  have c_fault_of_guest := Zky (P := P) (w := w) (base := base) T D_fault_of_guest (c_fault_at_turn := c_fault_at_turn) (c_want_of := c_want_of)
  have c_lines_beneath := ZjS (P := P) (w := w) (base := base) T D_lines_beneath (c_line_count := c_line_count) (c_above_of := c_above_of)
  have c_loads_of_line := Zmq (P := P) (w := w) (base := base) T D_loads_of_line (c_lines_beneath := c_lines_beneath) (c_turns_of := c_turns_of) (c_line_of := c_line_of)
  have c_loads_of := ZmU (P := P) (w := w) (base := base) T D_loads_of (c_loads_of_line := c_loads_of_line) (c_line_count := c_line_count)
  have c_fault_of_lines := ZkW (P := P) (w := w) (base := base) T D_fault_of_lines (c_loads_of := c_loads_of) (c_bound_at := c_bound_at)
  have c_fault_of := ZmD (P := P) (w := w) (base := base) T D_fault_of (c_fault_of_guest := c_fault_of_guest) (c_fault_of_lines := c_fault_of_lines)
  exact ZqL T F_law (c__law_yard := c__law_yard) (c__law_guests := c__law_guests) (c_best_filling := c_best_filling) (c_least_lack := c_least_lack) (c__law_is_filling := c__law_is_filling) (c__law_whole := c__law_whole) (c_lacking_set := c_lacking_set) (c__law_given := c__law_given) (c__law_sets := c__law_sets) (c_fault_of := c_fault_of) (c_lacks_of := c_lacks_of)
end My
noncomputable def PySem.W.Fast.tw6700881161727407610 : Unit := ()
noncomputable def PySem.W.Fast.tw6662654293159855116 : Unit := ()
noncomputable def PySem.W.Fast.tw13347017620138358684 : Unit := ()
noncomputable def PySem.W.Fast.tw18444963376039973173 : Unit := ()
noncomputable def PySem.W.Fast.tw10802103027886438897 : Unit := ()
noncomputable def PySem.W.Fast.tw2207684285515862878 : Unit := ()
noncomputable def PySem.W.Fast.tw11172466332839170525 : Unit := ()
noncomputable def PySem.W.Fast.tw7993182200167845783 : Unit := ()
noncomputable def PySem.W.Fast.tw14827755524544976106 : Unit := ()
noncomputable def PySem.W.Fast.tw1314419803851234934 : Unit := ()
noncomputable def PySem.W.Fast.tw6784807114135339237 : Unit := ()
noncomputable def PySem.W.Fast.tw3643231952332487727 : Unit := ()
noncomputable def PySem.W.Fast.tw8132597836489921200 : Unit := ()
noncomputable def PySem.W.Fast.tw13085182349080561741 : Unit := ()
noncomputable def PySem.W.Fast.tw1629284589789649632 : Unit := ()
noncomputable def PySem.W.Fast.tw15172992302490628255 : Unit := ()
noncomputable def PySem.W.Fast.tw12583924895910367970 : Unit := ()
noncomputable def PySem.W.Fast.tw4462706949311894965 : Unit := ()
noncomputable def PySem.W.Fast.tw2560896418544213649 : Unit := ()
noncomputable def PySem.W.Fast.tw13642414014511390922 : Unit := ()
noncomputable def PySem.W.Fast.tw13281907510076783481 : Unit := ()
noncomputable def PySem.W.Fast.tw2491271198226668752 : Unit := ()
noncomputable def PySem.W.Fast.tw10300100702879935993 : Unit := ()
noncomputable def PySem.W.Fast.tw11778690483192567783 : Unit := ()
noncomputable def PySem.W.Fast.tw16369801333785075505 : Unit := ()
noncomputable def PySem.W.Fast.tw14544918117179186266 : Unit := ()
open PySem PySem.W PyProof.Rows
set_option maxRecDepth 100000 in
set_option maxHeartbeats 0 in
theorem PySem.Challenge.cw_chargeyard_k90_whole_lack_of_all_sets_holds : PySem.Challenge.rw_chargeyard_k90_whole_lack_of_all_sets.Holds := by
  w_on; o_law; k_head; (case hw => w_witness2)
  k_fill
  refine L2.Zli (l := PySem.Challenge.rw_chargeyard_k90_whole_lack_of_all_sets) (k := 8) (x := "_law_script") rfl rfl ⟨rfl, by decide, by decide⟩ (fun w h Y => PySem.W.kIn_of Y) ?F
  case F =>
    intro w mg fa h KX G hmg
    refine' My.ZqB KX G hmg ?aC ?a0 ?l0 ?c0 ?k0 ?a1 ?l1 ?c1 ?k1 ?a2 ?l2 ?c2 ?k2 ?a3 ?l3 ?c3 ?k3 ?a4 ?l4 ?c4 ?k4 ?a5 ?l5 ?c5 ?k5 ?a6 ?l6 ?c6 ?k6 ?a7 ?l7 ?c7 ?k7 ?a8 ?l8 ?c8 ?k8 ?a9 ?l9 ?c9 ?k9 ?a10 ?l10 ?c10 ?k10 ?a11 ?l11 ?c11 ?k11 ?a12 ?l12 ?c12 ?k12 ?a13 ?l13 ?c13 ?k13 ?a14 ?l14 ?c14 ?k14 ?a15 ?l15 ?c15 ?k15 ?a16 ?l16 ?c16 ?k16 ?a17 ?l17 ?c17 ?k17 ?a18 ?l18 ?c18 ?k18 ?a19 ?l19 ?c19 ?k19 ?a20 ?l20 ?c20 ?k20 ?a21 ?l21 ?c21 ?k21 ?a22 ?l22 ?c22 ?k22 ?a23 ?l23 ?c23 ?k23 ?a24 ?l24 ?c24 ?k24 ?a25 ?l25 ?c25 ?k25 ?a26 ?l26 ?c26 ?k26 ?a27 ?l27 ?c27 ?k27 ?a28 ?l28 ?c28 ?k28 ?a29 ?l29 ?c29 ?k29 ?a30 ?l30 ?c30 ?k30 ?a31 ?l31 ?c31 ?k31 ?a32 ?l32 ?c32 ?k32 ?a33 ?l33 ?c33 ?k33 ?a34 ?l34 ?c34 ?k34 ?a35 ?l35 ?c35 ?k35 ?a36 ?l36 ?c36 ?k36 ?a37 ?l37 ?c37 ?k37 ?a38 ?i38 ?l38 ?c38 ?k38 ?a39 ?i39 ?l39 ?c39 ?k39 ?a40 ?i40 ?l40 ?c40 ?k40 ?a41 ?i41 ?l41 ?c41 ?k41 ?a42 ?i42 ?l42 ?c42 ?k42 ?a43 ?i43 ?l43 ?c43 ?k43 ?a44 ?i44 ?l44 ?c44 ?k44 ?a45 ?i45 ?l45 ?c45 ?k45 ?pg ?hd ?po ?sa ?mk ?kc ?n0 ?n1 ?n2 ?n3 ?aS ?lS ?aE ?lE ?z0 ?z1 ?z2 ?z3 ?z4 ?z5 ?z6 ?z7 ?z8 ?z9 ?z10 ?z11 ?z12 ?z13 ?z14
    case aC | a0 | l0 | c0 | k0 | a1 | l1 | c1 | k1 | a2 | l2 | c2 | k2 | a3 | l3 | c3 | k3 | a4 | l4 | c4 | k4 | a5 | l5 | c5 | k5 | a6 | l6 | c6 | k6 | a7 | l7 | c7 | k7 | a8 | l8 | c8 | k8 | a9 | l9 | c9 | k9 | a10 | l10 | c10 | k10 | a11 | l11 | c11 | k11 | a12 | l12 | c12 | k12 | a13 | l13 | c13 | k13 | a14 | l14 | c14 | k14 | a15 | l15 | c15 | k15 | a16 | l16 | c16 | k16 | a17 | l17 | c17 | k17 | a18 | l18 | c18 | k18 | a19 | l19 | c19 | k19 | a20 | l20 | c20 | k20 | a21 | l21 | c21 | k21 | a22 | l22 | c22 | k22 | a23 | l23 | c23 | k23 | a24 | l24 | c24 | k24 | a25 | l25 | c25 | k25 | a26 | l26 | c26 | k26 | a27 | l27 | c27 | k27 | a28 | l28 | c28 | k28 | a29 | l29 | c29 | k29 | a30 | l30 | c30 | k30 | a31 | l31 | c31 | k31 | a32 | l32 | c32 | k32 | a33 | l33 | c33 | k33 | a34 | l34 | c34 | k34 | a35 | l35 | c35 | k35 | a36 | l36 | c36 | k36 | a37 | l37 | c37 | k37 | a38 | i38 | l38 | c38 | k38 | a39 | i39 | l39 | c39 | k39 | a40 | i40 | l40 | c40 | k40 | a41 | i41 | l41 | c41 | k41 | a42 | i42 | l42 | c42 | k42 | a43 | i43 | l43 | c43 | k43 | a44 | i44 | l44 | c44 | k44 | a45 | i45 | l45 | c45 | k45 | pg | hd | po | sa | mk | kc | n0 | n1 | n2 | n3 | aS | lS | aE | lE | z0 | z1 | z2 | z3 | z4 | z5 | z6 | z7 | z8 | z9 | z10 | z11 | z12 | z13 | z14 => k_is
end
