import PyProof.Rows.All
import Wide.All
import OpenK.AllK
import Wide.FinOn
import Lean
import PyProof.EqAt
import PyProof.EqKinds
import PyProof.TupleCall
import PyProof.EqLayable
import PyProof.SumAny
import PyProof.ListRange
import PyProof.WalksEnum
import PyProof.ZipIter
import PyProof.EnumMake
import PyProof.ConsumeS
import PyProof.SeqI3
import PyProof.MaxThree
import PyProof.Rows.TupAdd
import PySem.Challenge.RW_chargeyard_k70_yards_written
set_option Elab.async false
set_option linter.all false
set_option maxRecDepth 100000
/-! THE HAND LAYER, for ints, bools, texts, own classes, LISTS and tuples (index, slices, in, append, pop ..), calls, loops. Paste it whole ahead of your own text; what your proof does not reach may be deleted. -/
namespace L2
open PySem PySem.Spec PyProof.Rows

/-- a key: an int or a str -/
abbrev Key := Sum Int Str
def keyIs : Key → Value → Bool
  | .inl k, v => Value.isInt k v
  | .inr x, v => Value.isStrOf x v
def keyH (w : World) : Key → Int
  | .inl k => hashInt k
  | .inr x => hashStr w x
theorem keyIs_shape : ∀ {k : Key} {v : Value}, keyIs k v = true → (∃ i t, k = Sum.inl i ∧ v = Value.int i t) ∨ (∃ x t, k = Sum.inr x ∧ v = Value.str x t)
  | .inl i, v, h => by
    obtain ⟨t, e⟩ := Value.isInt_shape (k := i) (v := v) h
    exact .inl ⟨i, t, rfl, e⟩
  | .inr x, v, h => by
    obtain ⟨t, e⟩ := Value.isStrOf_shape (x := x) (v := v) h
    exact .inr ⟨x, t, rfl, e⟩
theorem keyIs_int (i : Int) (t : Tok) : keyIs (.inl i) (.int i t) = true := by simp [keyIs, Value.isInt]
theorem keyIs_str (x : Str) (t : Tok) : keyIs (.inr x) (.str x t) = true := by simp [keyIs, Value.isStrOf]
theorem key_ll (a b : Int) : decide ((Sum.inl a : Key) = Sum.inl b) = (a == b) := by
  by_cases e : a = b
  · subst e; simp
  · have h : ¬ (Sum.inl a : Key) = Sum.inl b := fun q => e (Sum.inl.inj q)
    rw [decide_eq_false h]
    exact (beq_eq_false_iff_ne.mpr e).symm
theorem key_rr (a b : Str) : decide ((Sum.inr a : Key) = Sum.inr b) = decide (a = b) := by
  by_cases e : a = b
  · subst e; simp
  · have h : ¬ (Sum.inr a : Key) = Sum.inr b := fun q => e (Sum.inr.inj q)
    rw [decide_eq_false h, decide_eq_false e]
theorem key_lr (a : Int) (b : Str) : decide ((Sum.inl a : Key) = Sum.inr b) = false := decide_eq_false (fun q => nomatch q)
theorem key_rl (a : Str) (b : Int) : decide ((Sum.inr a : Key) = Sum.inl b) = false := decide_eq_false (fun q => nomatch q)

def mixKind (prog : Program) (w : World) : PySem.KeyKind prog w Key where
  is := keyIs
  hash := keyH w
  inj := fun v a b ha hb => by
    rcases keyIs_shape ha with ⟨i, t, rfl, rfl⟩ | ⟨x, t, rfl, rfl⟩
    · rcases keyIs_shape hb with ⟨j, u, rfl, e⟩ | ⟨y, u, rfl, e⟩
      · injection e with e1 _; rw [e1]
      · exact nomatch e
    · rcases keyIs_shape hb with ⟨j, u, rfl, e⟩ | ⟨y, u, rfl, e⟩
      · exact nomatch e
      · injection e with e1 _; rw [e1]
  byValue := fun k v h => by
    rcases keyIs_shape h with ⟨i, t, rfl, rfl⟩ | ⟨x, t, rfl, rfl⟩ <;> rfl
  pyHash := fun hv h => by
    rcases keyIs_shape hv with ⟨i, t, rfl, rfl⟩ | ⟨x, t, rfl, rfl⟩
    · exact wpAny_pyHash_int h
    · exact wpAny_pyHash_str h
  eqBool := fun hu hv h => by
    rcases keyIs_shape hu with ⟨i, t, rfl, rfl⟩ | ⟨x, t, rfl, rfl⟩
    · rcases keyIs_shape hv with ⟨j, u, rfl, rfl⟩ | ⟨y, u, rfl, rfl⟩
      · rw [key_ll] at h; exact wpAny_eqBool_int h
      · rw [key_lr] at h; exact SeqAt.EqAt.int_str i t y u _ _ _ _ h
    · rcases keyIs_shape hv with ⟨j, u, rfl, rfl⟩ | ⟨y, u, rfl, rfl⟩
      · rw [key_rl] at h; exact SeqAt.EqAt.str_int x t j u _ _ _ _ h
      · rw [key_rr] at h; exact wpAny_eqBool_str h
  «strs» := fun k x t v h => by
    rcases keyIs_shape h with ⟨i, u, rfl, e⟩ | ⟨y, u, rfl, e⟩
    · exact nomatch e
    · injection e with e1 _
      subst e1
      cases v <;> rfl

theorem mixKind_is (prog : Program) (w : World) (k : Key) (v : Value) : (mixKind prog w).is k v = keyIs k v := rfl
theorem mixKind_int (prog : Program) (w : World) (i : Int) (t : Tok) : (mixKind prog w).is (.inl i) (.int i t) = true := keyIs_int i t
theorem mixKind_str (prog : Program) (w : World) (x : Str) (t : Tok) : (mixKind prog w).is (.inr x) (.str x t) = true := keyIs_str x t
end L2

namespace L2
open PySem PySem.Spec PyProof.Rows

/-- a value, without the heap -/
inductive V where
  | non | bl (b : Bool) | int (i : Int) | str (x : Str) | byt (b : Array UInt8) | flt (b : UInt64) | ref (a : Addr) | ty (n : String)
  deriving DecidableEq

def RelV : V → Value → Prop
  | .non, u => u = Value.none
  | .bl b, u => u = Value.bool b
  | .int i, u => ∃ t, u = Value.int i t
  | .str x, u => ∃ t, u = Value.str x t
  | .byt b, u => ∃ t, u = Value.bytes b t
  | .flt b, u => ∃ t, u = Value.float b t
  | .ref a, u => u = Value.ref a
  | .ty n, u => u = Value.type n

abbrev Vals : List V → List Value → Prop := Paired RelV
theorem Vals.length {xs : List V} {us : List Value} (r : Vals xs us) : xs.length = us.length := Paired.length r
theorem Vals.get : ∀ {xs : List V} {us : List Value} {i : Nat} {x : V}, Vals xs us → xs[i]? = some x → ∃ u, us[i]? = some u ∧ RelV x u
  | _, _, _, _, .nil, e => by simp at e
  | _, _, 0, _, .cons r _, e => by simp at e; subst e; exact ⟨_, rfl, r⟩
  | _, _, i + 1, x, .cons _ t, e => by
    obtain ⟨u, h1, h2⟩ := Vals.get (i := i) (x := x) t (by simpa using e)
    exact ⟨u, by simpa using h1, h2⟩
theorem Vals.set {x : V} {u : Value} (r : RelV x u) : ∀ {xs : List V} {us : List Value} (i : Nat), Vals xs us → Vals (xs.set i x) (us.set i u)
  | _, _, _, .nil => .nil
  | _, _, 0, .cons _ t => .cons r t
  | _, _, i + 1, .cons q t => .cons q (Vals.set r i t)
theorem Vals.append : ∀ {xs ys : List V} {us ws : List Value}, Vals xs us → Vals ys ws → Vals (xs ++ ys) (us ++ ws)
  | _, _, _, _, .nil, s => s
  | _, _, _, _, .cons r t, s => .cons r (Vals.append t s)
theorem Vals.take : ∀ {xs : List V} {us : List Value} (n : Nat), Vals xs us → Vals (xs.take n) (us.take n)
  | _, _, 0, _ => .nil
  | _, _, _ + 1, .nil => .nil
  | _, _, n + 1, .cons r t => .cons r (Vals.take n t)
theorem Vals.drop : ∀ {xs : List V} {us : List Value} (n : Nat), Vals xs us → Vals (xs.drop n) (us.drop n)
  | _, _, 0, r => r
  | _, _, _ + 1, .nil => .nil
  | _, _, n + 1, .cons _ t => Vals.drop n t
theorem Vals.none_of : ∀ {xs : List V} {us : List Value} {i : Nat}, Vals xs us → xs[i]? = none → us[i]? = none := fun {xs us i} r e => by
  have h1 := r.length
  have h2 : xs.length ≤ i := List.getElem?_eq_none_iff.mp e
  exact List.getElem?_eq_none_iff.mpr (by omega)

def RelO : Option V → Option Value → Prop
  | some v, some u => RelV v u
  | none, none => True
  | _, _ => False
def KV {κ : Type} : List (κ × V) → List (κ × Value) → Prop := Paired fun (p : κ × V) (q : κ × Value) => p.1 = q.1 ∧ RelV p.2 q.2

/-- a key of a dict (00_mix): an int or a text -/
def kV : Key → V
  | .inl i => .int i
  | .inr x => .str x

/-- what stands at a tracked address -/
inductive HO where
  /-- a list -/
  | lst (xs : List V)
  /-- a tuple (never changes) -/
  | tup (xs : List V)
  /-- a dict whose keys are ints and texts; one whose keys are tuples of ints and texts (the empty one is both) -/
  | dK (kvs : List (Key × V)) | dT (kvs : List (List Key × V))
  /-- a set of ints: its members, its size -/
  | set (S : Int → Bool) (n : Nat)
  /-- an instance of the class at C, its dict at dx, its attributes -/
  | ins (C dx : Addr) (fs : List (Str × V))
  /-- the dict of the instance at x -/
  | own (x : Addr)
  /-- the dict of an exception -/
  | xd (fs : List (Str × V))
  /-- a bound method, f of x -/
  | met (f x : Addr)
  /-- a range object lo, lo + 1, .. below hi -/
  | rng (lo hi : Int)
  /-- a thing that is known to the object (the script; a dict while a loop walks it): read, never written while it is so -/
  | frz (o : Obj) (u : HO)
  /-- a code object's table -/
  | tbl (ps : Array Value)
  /-- any other thing, by what is true of its one object (a def of one's own: SetO a S n := HO.ext fun h => ..) -/
  | ext (φ : Heap → Prop)

abbrev Hp := Addr → Option HO
def upd (H : Hp) (a : Addr) (o : HO) : Hp := fun b => if b = a then some o else H b
theorem upd_same {H : Hp} {a : Addr} {o : HO} : upd H a o a = some o := by unfold upd; rw [if_pos rfl]
theorem upd_ne {H : Hp} {a b : Addr} {o : HO} (h : b ≠ a) : upd H a o b = H b := by unfold upd; rw [if_neg h]
theorem upd_upd {H : Hp} {a : Addr} {o u : HO} : upd (upd H a o) a u = upd H a u := by
  funext b; unfold upd; split <;> rfl
/-- two objects of different content stand apart -/
theorem ne_of {H : Hp} {a b : Addr} {o u : HO} (h : H a = some o) (h' : H b = some u) (d : o ≠ u) : a ≠ b := by
  intro e; subst e; rw [h] at h'; exact d (Option.some.inj h')
theorem ne_of_none {H : Hp} {a b : Addr} {o : HO} (h : H a = some o) (h' : H b = none) : a ≠ b := by
  intro e; subst e; rw [h] at h'; cases h'

section
variable (P : Program) (w : World)
def ObjOk (H : Hp) (h : Heap) (a : Addr) : HO → Prop
  | .lst xs => xs.length ≤ sizeLine ∧ ∃ (its : List Value) (n : Nat), Vals xs its ∧ h.get? a = some { cls := .type "list", data := .seq its.toArray n }
  | .tup xs => xs.length ≤ sizeLine ∧ ∃ its : List Value, Vals xs its ∧ IsTup h a its.toArray
  | .dK kvs => kvs.length ≤ sizeLine ∧ (a == sysModules) = false ∧ ∃ vs, KV kvs vs ∧ h.DictOf (mixKind P w) a vs
  | .dT kvs => kvs.length ≤ sizeLine ∧ (a == sysModules) = false ∧ ∃ xs : List (List Key × Addr × Value),
      Paired (fun (p : List Key × V) (q : List Key × Addr × Value) => p.1 = q.1 ∧ H q.2.1 = some (.tup (p.1.map kV)) ∧ RelV p.2 q.2.2) kvs xs ∧
      ∃ o es ep, h.get? a = some o ∧ o.ExactDict ∧ o.data = .dict es ep ∧ es.toList = xs.map (entryOfKey (tupleKind (mixKind P w))) ∧ (xs.map (·.1)).Nodup
  | .set S n => h.SetOf (intKind P w) a S n
  | .ins C dx fs => H dx = some (.own a) ∧ fs.length ≤ 1000 ∧ dx ≠ a ∧ h.get? a = some (PySem.W.instObj C dx) ∧
      ∃ mA, h.Ns1 dx mA ∧ (∀ f, RelO (fs.lookup f) (mA f)) ∧ PySem.Within mA (fs.map (·.1))
  | .own _ => ∃ o, h.get? a = some o
  | .xd fs => ∃ mA, h.Ns1 a mA ∧ ∀ f, RelO (fs.lookup f) (mA f)
  | .rng lo hi => ∃ t u v, h.get? a = some { cls := .type "range", data := .fields #[.int lo t, .int hi u, .int 1 v] }
  | .frz o u => h.get? a = some o ∧ ObjOk H h a u
  | .tbl ps => h.get? a = some { cls := .none, data := .fields ps }
  | .met f x => h.get? a = some (PySem.W.methodObj (.ref f) (.ref x))
  | .ext φ => φ h ∧ (∃ o, h.get? a = some o) ∧ ∀ h1 h2 : Heap, φ h1 → (∀ o, h1.get? a = some o → h2.get? a = some o) → φ h2
/-- the abstract heap is held -/
def HOk (H : Hp) (h : Heap) : Prop := ∀ a o, H a = some o → ObjOk P w H h a o
end

section
variable {P : Program} {w : World} {H H' : Hp} {h h' : Heap} {a : Addr} {o : HO}
theorem ObjOk.lt (x : ObjOk P w H h a o) : a < h.objs.size := by
  cases o with
  | lst xs => obtain ⟨_, _, _, _, e⟩ := x; exact Heap.lt_size e
  | tup xs => obtain ⟨_, _, _, p⟩ := x; exact p.lt
  | dK kvs => obtain ⟨_, _, _, _, o, _, _, e, _⟩ := x; exact Heap.lt_size e
  | dT kvs => obtain ⟨_, _, _, _, o, _, _, e, _⟩ := x; exact Heap.lt_size e
  | set S n => obtain ⟨o, _, _, _, e, _⟩ := x; exact Heap.lt_size e
  | ins C dx fs => obtain ⟨_, _, _, e, _⟩ := x; exact Heap.lt_size e
  | own y => obtain ⟨_, e⟩ := x; exact Heap.lt_size e
  | xd fs => obtain ⟨_, ⟨_, _, _, e, _⟩, _⟩ := x; exact Heap.lt_size e
  | rng lo hi => obtain ⟨_, _, _, e⟩ := x; exact Heap.lt_size e
  | frz ob u => obtain ⟨e, _⟩ := x; exact Heap.lt_size e
  | tbl ps => exact Heap.lt_size (show h.get? a = some _ from x)
  | met f y => exact Heap.lt_size (show h.get? a = some _ from x)
  | ext φ => obtain ⟨_, ⟨_, e⟩, _⟩ := x; exact Heap.lt_size e
theorem Paired.mapP {α β : Type} {F G : α → β → Prop} : ∀ {l₁ : List α} {l₂ : List β}, Paired F l₁ l₂ → (∀ a b, F a b → G a b) → Paired G l₁ l₂
  | _, _, .nil, _ => .nil
  | _, _, .cons r t, f => .cons (f _ _ r) (Paired.mapP t f)
theorem Paired.imp' {α β : Type} {F G : α → β → Prop} (f : ∀ a b, F a b → G a b) {l₁ : List α} {l₂ : List β} (r : Paired F l₁ l₂) : Paired G l₁ l₂ := Paired.mapP r f
/-- what an object's description leans on: its own object, its own dict, the tuples -/
theorem ObjOk.stay (x : ObjOk P w H h a o) (k : ∀ b u, (b = a ∨ H b = some (.own a)) → h.get? b = some u → h'.get? b = some u)
    (ho : ∀ b, H b = some (.own a) → H' b = some (.own a)) (ht : ∀ b xs, H b = some (.tup xs) → H' b = some (.tup xs)) : ObjOk P w H' h' a o := by
  induction o with
  | lst xs => obtain ⟨z, its, n, r, e⟩ := x; exact ⟨z, its, n, r, k _ _ (.inl rfl) e⟩
  | tup xs => obtain ⟨z, its, r, ob, e, c⟩ := x; exact ⟨z, its, r, ob, k _ _ (.inl rfl) e, c⟩
  | dK kvs => obtain ⟨z, y, vs, r, ob, es, ep, e, c⟩ := x; exact ⟨z, y, vs, r, ob, es, ep, k _ _ (.inl rfl) e, c⟩
  | dT kvs =>
    obtain ⟨z, y, xs, r, ob, es, ep, e, c⟩ := x
    exact ⟨z, y, xs, Paired.mapP r fun p q z => ⟨z.1, ht _ _ z.2.1, z.2.2⟩, ob, es, ep, k _ _ (.inl rfl) e, c⟩
  | set S n => obtain ⟨ob, es, ep, t, e, c⟩ := x; exact ⟨ob, es, ep, t, k _ _ (.inl rfl) e, c⟩
  | ins C dx fs =>
    obtain ⟨d, z, ne, e, mA, ⟨od, es, ep, e2, c⟩, r⟩ := x
    exact ⟨ho _ d, z, ne, k _ _ (.inl rfl) e, mA, ⟨od, es, ep, k _ _ (.inr d) e2, c⟩, r⟩
  | own y => obtain ⟨ob, e⟩ := x; exact ⟨ob, k _ _ (.inl rfl) e⟩
  | xd fs => obtain ⟨mA, ⟨od, es, ep, e, c⟩, r⟩ := x; exact ⟨mA, ⟨od, es, ep, k _ _ (.inl rfl) e, c⟩, r⟩
  | rng lo hi => obtain ⟨t, u, v, e⟩ := x; exact ⟨t, u, v, k _ _ (.inl rfl) e⟩
  | frz ob u ih => obtain ⟨e, q⟩ := x; exact ⟨k _ _ (.inl rfl) e, ih q⟩
  | tbl ps =>
    have e : h.get? a = some { cls := .none, data := .fields ps } := x
    show h'.get? a = some { cls := .none, data := .fields ps }
    exact k a _ (.inl rfl) e
  | met f y =>
    have e : h.get? a = some (PySem.W.methodObj (.ref f) (.ref y)) := x
    show h'.get? a = some (PySem.W.methodObj (.ref f) (.ref y))
    exact k a _ (.inl rfl) e
  | ext φ => obtain ⟨p, ⟨o, e⟩, st⟩ := x; exact ⟨st _ _ p fun o q => k _ _ (.inl rfl) q, ⟨o, k _ _ (.inl rfl) e⟩, st⟩
theorem HOk.lt (x : HOk P w H h) (e : H a = some o) : a < h.objs.size := (x a o e).lt
theorem HOk.fresh (x : HOk P w H h) (e : h.objs.size ≤ a) : H a = none := by
  cases q : H a with
  | none => rfl
  | some u => exact absurd (Nat.lt_of_lt_of_le (x.lt q) e) (Nat.lt_irrefl _)
/-- every object of the heap is kept -/
theorem HOk.kept (x : HOk P w H h) (k : ∀ b u, h.get? b = some u → h'.get? b = some u) : HOk P w H h' := fun a o e =>
  (x a o e).stay (fun b u _ q => k b u q) (fun _ q => q) fun _ _ q => q
/-- a new object is laid and tracked -/
theorem HOk.laid (x : HOk P w H h) (k : ∀ b u, h.get? b = some u → h'.get? b = some u) (hp : h.objs.size ≤ a) (new : ObjOk P w (upd H a o) h' a o) : HOk P w (upd H a o) h' := fun b u e => by
  have hn := x.fresh hp
  by_cases hb : b = a
  · subst hb; rw [upd_same] at e; cases e; exact new
  · rw [upd_ne hb] at e
    exact (x b u e).stay (fun c v _ q => k c v q) (fun c q => by rw [upd_ne (ne_of_none q hn)]; exact q) fun c xs q => by rw [upd_ne (ne_of_none q hn)]; exact q
end

/-- what may be read as u: it is u, or a known u -/
def Rd (H : Hp) (a : Addr) (u : HO) : Prop := H a = some u ∨ ∃ o, H a = some (.frz o u)
theorem Rd.of {H : Hp} {a : Addr} {u : HO} (h : H a = some u) : Rd H a u := .inl h
theorem Rd.ok {P : Program} {w : World} {H : Hp} {h : Heap} {a : Addr} {u : HO} (r : Rd H a u) (x : HOk P w H h) : ObjOk P w H h a u := by
  rcases r with r | ⟨o, r⟩
  · exact x a u r
  · obtain ⟨_, q⟩ := x a _ r
    exact q
/-- what may be written -/
def Mut : Option HO → Prop
  | some (.lst _) => True
  | some (.dK _) => True
  | some (.dT _) => True
  | some (.set _ _) => True
  | some (.ins _ _ _) => True
  | some (.ext _) => True
  | _ => False
section
variable {P : Program} {w : World} {H : Hp} {h h' : Heap} {x e : Addr} {o' : HO}
/-- the object at e is changed: x itself, or the dict of the instance x -/
theorem HOk.write (ok : HOk P w H h) (mu : Mut (H x)) (he : e = x ∨ H e = some (.own x)) (k : ∀ b u, b ≠ e → h.get? b = some u → h'.get? b = some u) (heo : ∃ u, h'.get? e = some u)
    (new : ObjOk P w (upd H x o') h' x o') : HOk P w (upd H x o') h' := fun b u q => by
  have nown : ∀ c y, H c = some (.own y) → c ≠ x := fun c y r z => by subst z; rw [r] at mu; exact mu
  have ntup : ∀ c xs, H c = some (.tup xs) → c ≠ x := fun c xs r z => by subst z; rw [r] at mu; exact mu
  by_cases hb : b = x
  · subst hb; rw [upd_same] at q; cases q; exact new
  · rw [upd_ne hb] at q
    by_cases hbe : b = e
    · have q' : H b = some (.own x) := by
        rcases he with z | z
        · exact absurd (hbe.trans z) hb
        · rw [hbe]; exact z
      rw [q] at q'; cases q'
      obtain ⟨v, hv⟩ := heo
      exact ⟨v, by rw [hbe]; exact hv⟩
    · refine (ok b u q).stay (fun c v hc r => k c v ?_ r) (fun c r => by rw [upd_ne (nown c b r)]; exact r) fun c xs r => by rw [upd_ne (ntup c xs r)]; exact r
      rcases hc with rfl | hc
      · exact hbe
      · rintro rfl
        rcases he with z | z
        · exact nown c b hc z
        · rw [hc] at z; cases z; exact hb rfl
end

/-! ### kept unless tracked; of the frames at fs (the callers') the slots may change (an exception that passes writes there); of the records at ex (iterators) nothing is said -/
structure Un (fs ex : List Addr) (H H' : Hp) (h h' : Heap) : Prop where
  keep : ∀ b o, h.get? b = some o → H b = none → b ∉ fs → b ∉ ex → h'.get? b = some o
  slot : ∀ b o, h.get? b = some o → H b = none → b ∈ fs → b ∉ ex → ∃ sl, h'.get? b = some { o with slots := sl }
  free : ∀ b o, h.get? b = some o → H b = none → b ∉ ex → H' b = none
  there : ∀ b o, h.get? b = some o → b ∉ ex → ∃ o', h'.get? b = some o'
  tups : ∀ b xs, H b = some (.tup xs) → H' b = some (.tup xs)
  frzs : ∀ b o u, H b = some (.frz o u) → H' b = some (.frz o u)
  tbls : ∀ b ps, H b = some (.tbl ps) → ∃ more, H' b = some (.tbl (ps ++ more))
section
variable {fs fs' ex ex' : List Addr} {H H1 H2 : Hp} {h h1 h2 h' : Heap} {a x e : Addr} {o : HO}
theorem Un.any (u : Un fs ex H H1 h h1) {b : Addr} {ob : Obj} (q : h.get? b = some ob) (n : H b = none) (hx : b ∉ ex) : ∃ sl, h1.get? b = some { ob with slots := sl } := by
  by_cases hb : b ∈ fs
  · exact u.slot b ob q n hb hx
  · exact ⟨ob.slots, u.keep b ob q n hb hx⟩
theorem Un.trans (a : Un fs ex H H1 h h1) (b : Un fs ex H1 H2 h1 h2) : Un fs ex H H2 h h2 where
  keep := fun c ob q n hc hx => b.keep c ob (a.keep c ob q n hc hx) (a.free c ob q n hx) hc hx
  slot := fun c ob q n hc hx => by
    obtain ⟨sl, e1⟩ := a.slot c ob q n hc hx
    obtain ⟨sl', e2⟩ := b.slot c _ e1 (a.free c ob q n hx) hc hx
    exact ⟨sl', e2⟩
  free := fun c ob q n hx => by
    obtain ⟨o', e1⟩ := a.there c ob q hx
    exact b.free c o' e1 (a.free c ob q n hx) hx
  there := fun c ob q hx => by
    obtain ⟨o', e1⟩ := a.there c ob q hx
    exact b.there c o' e1 hx
  tups := fun c xs q => b.tups c xs (a.tups c xs q)
  frzs := fun c ob xs q => b.frzs c ob xs (a.frzs c ob xs q)
  tbls := fun c ps q => by
    obtain ⟨m1, e1⟩ := a.tbls c ps q
    obtain ⟨m2, e2⟩ := b.tbls c _ e1
    exact ⟨m1 ++ m2, by rw [e2, Array.append_assoc]⟩
theorem Un.kept (k : ∀ b u, h.get? b = some u → h'.get? b = some u) : Un fs ex H H h h' :=
  ⟨fun b ob q _ _ _ => k b ob q, fun b ob q _ _ _ => ⟨ob.slots, k b ob q⟩, fun _ _ _ n _ => n, fun b ob q _ => ⟨ob, k b ob q⟩, fun _ _ q => q, fun _ _ _ q => q, fun _ ps q => ⟨#[], by rw [q]; simp⟩⟩
theorem Un.refl : Un fs ex H H h h := Un.kept fun _ _ q => q
theorem Un.laid (k : ∀ b u, h.get? b = some u → h'.get? b = some u) (hp : h.objs.size ≤ a) (hn : H a = none) : Un fs ex H (upd H a o) h h' where
  keep := fun b u q _ _ _ => k b u q
  slot := fun b u q _ _ _ => ⟨u.slots, k b u q⟩
  free := fun b u q n _ => by rw [upd_ne (Nat.ne_of_lt (Nat.lt_of_lt_of_le (Heap.lt_size q) hp))]; exact n
  there := fun b u q _ => ⟨u, k b u q⟩
  tups := fun b xs q => by rw [upd_ne (ne_of_none q hn)]; exact q
  frzs := fun b u xs q => by rw [upd_ne (ne_of_none q hn)]; exact q
  tbls := fun b ps q => ⟨#[], by rw [upd_ne (ne_of_none q hn), q]; simp⟩
theorem Un.write (mu : Mut (H x)) (he : e = x ∨ H e = some (.own x)) (k : ∀ b u, b ≠ e → h.get? b = some u → h'.get? b = some u) (heo : ∃ u, h'.get? e = some u) : Un fs ex H (upd H x o) h h' := by
  have hx : ∀ b, H b = none → b ≠ x := fun b n z => by subst z; rw [n] at mu; exact mu
  have hb : ∀ b, H b = none → b ≠ e := fun b n z => by
    subst z
    rcases he with r | r
    · exact hx b n r
    · rw [n] at r; cases r
  have hm : ∀ b u, H b = some u → ¬ Mut (some u) → b ≠ x := fun b u q nm z => by subst z; rw [q] at mu; exact nm mu
  refine ⟨fun b u q n _ _ => k b u (hb b n) q, fun b u q n _ _ => ⟨u.slots, k b u (hb b n) q⟩, fun b u q n _ => by rw [upd_ne (hx b n)]; exact n, fun b u q _ => ?_,
    fun b xs q => by rw [upd_ne (hm b _ q fun z => z)]; exact q, fun b u xs q => by rw [upd_ne (hm b _ q fun z => z)]; exact q, fun b ps q => ⟨#[], by rw [upd_ne (hm b _ q fun z => z), q]; simp⟩⟩
  by_cases hbe : b = e
  · subst hbe; exact heo
  · exact ⟨u, k b u hbe q⟩
theorem Un.mono (u : Un fs ex H H1 h h1) (hs : ∀ b ∈ fs, b ∈ fs') (hx : ∀ b ∈ ex, b ∈ ex') : Un fs' ex' H H1 h h1 :=
  ⟨fun b ob q n hb he => u.keep b ob q n (fun z => hb (hs b z)) fun z => he (hx b z), fun _ _ q n _ he => u.any q n fun z => he (hx _ z), fun b ob q n he => u.free b ob q n fun z => he (hx b z), fun b ob q he => u.there b ob q fun z => he (hx b z), u.tups, u.frzs, u.tbls⟩
end

/-! ### the heap without what is tracked -/
def trk (h : Heap) (H : Hp) : List Addr := (List.range h.objs.size).filter fun a => (H a).isSome
def hidT (h : Heap) (H : Hp) : Heap := PySem.W.hideAll h (trk h H)
theorem hidT_size (h : Heap) (H : Hp) : (hidT h H).objs.size = h.objs.size := PySem.W.hideAll_size _ _
theorem hidT_get {h : Heap} {H : Hp} {b : Addr} {o : Obj} (e : h.get? b = some o) (n : H b = none) : (hidT h H).get? b = some o :=
  PySem.W.hideAll_get _ e fun hm => by
    have q : (H b).isSome = true := (List.mem_filter.mp hm).2
    rw [n] at q; simp at q
theorem of_hidT {h : Heap} {H : Hp} {b : Addr} {o : Obj} (e : (hidT h H).get? b = some o) : h.get? b = some o ∧ H b = none := by
  have e' : h.get? b = some o := PySem.W.of_hideAll (trk h H) e
  refine ⟨e', ?_⟩
  cases q : H b with
  | none => rfl
  | some x =>
    have hm : b ∈ trk h H := List.mem_filter.mpr ⟨List.mem_range.mpr (Heap.lt_size e'), by simp [q]⟩
    have z : (hidT h H).get? b = none := PySem.W.hideAll_none (trk h H) hm
    rw [z] at e; cases e

/-! ### OpenK's ledger, filled with every new object but one -/
def allNews (g h : Heap) (L : Addr) : List (Addr × Obj) := (List.range h.objs.size).filterMap fun a => if a = L ∨ (g.get? a).isSome = true then none else (h.get? a).map fun o => (a, o)
theorem mem_allNews {g h : Heap} {L a : Addr} {o : Obj} (h1 : a ≠ L) (h2 : g.get? a = none) (h3 : h.get? a = some o) : (a, o) ∈ allNews g h L :=
  List.mem_filterMap.mpr ⟨a, List.mem_range.mpr (Heap.lt_size h3), by simp [h1, h2, h3]⟩
theorem of_mem_allNews {g h : Heap} {L : Addr} {p : Addr × Obj} (hp : p ∈ allNews g h L) : p.1 ≠ L ∧ g.get? p.1 = none ∧ h.get? p.1 = some p.2 := by
  obtain ⟨b, _, e⟩ := List.mem_filterMap.mp hp
  split at e
  · cases e
  · rename_i hn
    cases q : h.get? b with
    | none => rw [q] at e; simp at e
    | some u =>
      rw [q] at e
      simp only [Option.map_some, Option.some.injEq] at e
      subst e
      refine ⟨fun z => hn (.inl z), ?_, q⟩
      show g.get? b = none
      cases r : g.get? b with
      | none => rfl
      | some v => exact (hn (.inr (by simp [r]))).elim
def rest (g h : Heap) (L d : Addr) : List (Addr × Obj) := (allNews g h L).filter fun p => decide (p.1 ≠ d)
theorem rest_ne {g h : Heap} {L d : Addr} : ∀ p ∈ rest g h L d, p.1 ≠ d := fun p hp => of_decide_eq_true (List.mem_filter.mp hp).2
theorem mem_rest {g h : Heap} {L d a : Addr} {o : Obj} (h1 : a ≠ L) (h2 : g.get? a = none) (h3 : h.get? a = some o) (h4 : a ≠ d) : (a, o) ∈ rest g h L d :=
  List.mem_filter.mpr ⟨mem_allNews h1 h2 h3, decide_eq_true h4⟩
theorem news_all {g h : Heap} {L : Addr} : News g L h (allNews g h L) := fun p hp => let ⟨a, b, c⟩ := of_mem_allNews hp; ⟨c, a, b⟩
theorem news_at {g h : Heap} {L d : Addr} {o : Obj} (h1 : d ≠ L) (h2 : g.get? d = none) (h3 : h.get? d = some o) : News g L h ((d, o) :: rest g h L d) := fun p hp => by
  rcases List.mem_cons.mp hp with rfl | hp
  · exact ⟨h3, h1, h2⟩
  · exact news_all p (List.mem_filter.mp hp).1
/-- behind a rule that changed d alone: all else but the frame is kept -/
theorem kept_of_news {g h h' : Heap} {L d : Addr} {m : Str → Option Value} (k : ∀ b o, g.get? b = some o → h.get? b = some o) (F : Fr g L h' m) (N : News g L h' (rest g h L d)) :
    ∀ b o, b ≠ L → b ≠ d → h.get? b = some o → h'.get? b = some o := fun b o h1 h2 e => by
  cases q : g.get? b with
  | some u =>
    have := k b u q
    rw [e] at this; cases this
    exact F.keep b _ q
  | none => exact (N (b, o) (mem_rest h1 q e h2)).1
end L2

namespace L2
open PySem PySem.Spec PyProof.Rows

/-- the module's facts, over the base: the heap at the law's entry without what is tracked there -/
structure Mod (K : PySem.W.Frag) (mg : Str → Option Value) (base : Heap) : Prop where
  kin : K.In base
  glob : base.Ns mainGlobals mg
  blt : ∃ mb, base.Ns builtinsNs mb ∧ ∀ x : Str, x ≠ "__name__" → mb x = bootBuiltins x
  nolimit : base.NoLimit

/-- the context: a def's body (or a comprehension's block) running. base: fixed through the whole law; s₀, H₀: the entry; outer: the frames whose slots others may change (a def's callers); stack: all frames that run;
   ex: iterators that were made ahead of the entry and are walked here (a comprehension's); fn: the names whose cells were made at the entry (a def: all; a comprehension's block: its own); calm: not within an except suite; pn: pins that every state bears; xe: what is wanted of an exception that leaves the code -/
structure Cx where
  prog : Program
  w : World
  K : PySem.W.Frag
  mg : Str → Option Value
  base : Heap
  A : Around
  N : List Str
  s₀ : Shared
  H₀ : Hp
  env : Env
  outer : List Env
  stack : List Env
  ex : List Addr
  fn : Str → Bool
  calm : Bool
  pn : List (Addr × Obj)
  xe : Value → Shared → Prop
/-- the callers' frames -/
def frs (l : List Env) : List Addr := l.filterMap (·.frame)
abbrev Cx.fs (X : Cx) : List Addr := frs X.outer

def Vis (sc : Scope) (x : Str) : Prop := sc.names.lookup x = some .local ∨ sc.names.lookup x = some .cell ∨ sc.names.lookup x = some .free
def Loc (sc : Scope) (x : Str) : Prop := sc.names.lookup x = some .local ∨ sc.names.lookup x = some .cell
def Look (env : Env) (h : Heap) (m : Str → Option Value) (x : Str) (u : Value) : Prop :=
  (env.kindOf x = some .local ∧ m x = some u) ∨ ((env.kindOf x = some .cell ∨ env.kindOf x = some .free) ∧ ∃ c, env.cells.lookup x = some c ∧ h.IsCell c (some u))

structure Cx.Ok (X : Cx) : Prop where
  mod : Mod X.K X.mg X.base
  kind : X.env.scope.kind = .function
  glob : X.env.globals = mainGlobals
  blt : X.env.builtins = builtinsNs
  above : X.s₀.heap.objs.size ≤ X.env.locals
  inj : ∀ x y c, X.env.cells.lookup x = some c → X.env.cells.lookup y = some c → x = y
  has : ∀ x, (X.env.kindOf x = some .cell ∨ X.env.kindOf x = some .free) → ∃ c, X.env.cells.lookup x = some c
  cab : ∀ x c, X.fn x = true → X.env.cells.lookup x = some c → X.s₀.heap.objs.size ≤ c
  hd : X.calm = true → X.A.handled = none
  frames : X.A.frames = some X.stack
  stk : X.stack = X.outer ∨ (X.stack = X.env :: X.outer ∧ X.env.frame = some X.env.locals)
  exf : ∀ b ∈ X.ex, b ≠ X.env.locals ∧ ∀ x c, X.env.cells.lookup x = some c → c ≠ b
  bs : ∀ b o, X.base.get? b = some o → X.s₀.heap.get? b = some o ∧ X.H₀ b = none
  bsz : X.base.objs.size ≤ X.s₀.heap.objs.size
  noex : ∀ b o, X.base.get? b = some o → b ∉ X.ex
  exfs : ∀ b ∈ X.ex, b ∉ X.fs
  funs : X.s₀.heap.FunFrames X.base X.outer
  frf : ∀ b ∈ X.fs, X.H₀ b = none

structure Inv (X : Cx) (pins : List (Addr × Obj)) (σ : List (Option V)) (H : Hp) (s : Shared) : Prop where
  ok : X.Ok
  os : s.os = X.s₀.os
  bare : AllBare s.gens
  base : Un X.fs X.ex X.H₀ H X.s₀.heap s.heap
  loc : ∃ m, s.heap.Ns X.env.locals m ∧ ∀ (i : Nat) (x : Str) (v : V), X.N[i]? = some x → σ[i]? = some (some v) → Vis X.env.scope x → ∃ u, RelV v u ∧ Look X.env s.heap m x u
  cell : ∀ x c, X.env.cells.lookup x = some c → ∃ v, s.heap.IsCell c v
  free : H X.env.locals = none
  freeC : ∀ x c, X.env.cells.lookup x = some c → H c = none
  pin : ∀ p ∈ X.pn ++ pins, s.heap.get? p.1 = some p.2 ∧ H p.1 = none ∧ p.1 ≠ X.env.locals ∧ p.1 ∉ X.fs ∧ ∀ v, p.2.data ≠ .cell v
  hok : HOk X.prog X.w H s.heap
  len : σ.length = X.N.length

section
variable {X : Cx} {pins : List (Addr × Obj)} {σ : List (Option V)} {H H' : Hp} {s : Shared} {h' : Heap}

theorem Cx.Ok.nofr (ok : X.Ok) {b : Addr} {o : Obj} (e : X.base.get? b = some o) : b ∉ X.fs := fun hb => by
  have := (ok.funs.mem hb).1
  rw [e] at this; cases this
theorem Inv.bs (I : Inv X pins σ H s) : ∀ b o, X.base.get? b = some o → s.heap.get? b = some o ∧ H b = none := fun b o e =>
  ⟨I.base.keep b o (I.ok.bs b o e).1 (I.ok.bs b o e).2 (I.ok.nofr e) (I.ok.noex b o e), I.base.free b o (I.ok.bs b o e).1 (I.ok.bs b o e).2 (I.ok.noex b o e)⟩
theorem Inv.bk (I : Inv X pins σ H s) : ∀ b o, X.base.get? b = some o → s.heap.get? b = some o := fun b o e => (I.bs b o e).1
theorem Inv.mod (I : Inv X pins σ H s) : Mod X.K X.mg X.base := I.ok.mod
theorem Inv.kIn (I : Inv X pins σ H s) : X.K.In s.heap := I.ok.mod.kin.keeps I.bk
theorem Inv.nolimit (I : Inv X pins σ H s) : s.heap.NoLimit := I.ok.mod.nolimit.keeps I.bk
/-- the frame over the base: for OpenK's rules (K.In X.base is I.mod.kin) -/
theorem Inv.fr (I : Inv X pins σ H s) : ∃ m, Fr X.base X.env.locals s.heap m :=
  let ⟨m, hn, _⟩ := I.loc
  ⟨m, hn, I.bk, Nat.le_trans I.ok.bsz I.ok.above⟩
theorem Inv.lt (I : Inv X pins σ H s) : X.env.locals < s.heap.objs.size := let ⟨_, hn, _⟩ := I.loc; hn.lt
theorem Inv.sz (I : Inv X pins σ H s) : X.s₀.heap.objs.size ≤ s.heap.objs.size := Nat.le_trans I.ok.above (Nat.le_of_lt I.lt)
theorem Inv.nofs (I : Inv X pins σ H s) {a : Addr} (h : s.heap.objs.size ≤ a) : a ∉ X.fs := fun hb => by
  obtain ⟨_, o, ho, _⟩ := I.ok.funs.mem hb
  exact absurd (Nat.lt_of_lt_of_le (Heap.lt_size ho) (Nat.le_trans I.sz h)) (Nat.lt_irrefl _)
theorem Inv.cne (I : Inv X pins σ H s) : ∀ x c, X.env.cells.lookup x = some c → c ≠ X.env.locals := fun x c e z => by
  obtain ⟨v, o, ho, hd⟩ := I.cell x c e
  obtain ⟨m, ⟨o', es, ep, ho', hd', _⟩, _⟩ := I.loc
  rw [z, ho'] at ho; cases ho; rw [hd'] at hd; cases hd
theorem Inv.funs (I : Inv X pins σ H s) : s.heap.FunFrames X.base X.outer := by
  have all : ∀ (l : List Env), (∀ b ∈ frs l, b ∈ X.fs) → X.s₀.heap.FunFrames X.base l → s.heap.FunFrames X.base l := by
    intro l
    induction l with
    | nil => intro _ _; trivial
    | cons env r ih =>
      intro hs hl
      obtain ⟨hk, ⟨L, o, hf, hn, ho, hd⟩, hr⟩ := hl
      have hL : L ∈ X.fs := hs L (by unfold frs; rw [List.filterMap_cons, hf]; exact List.mem_cons_self)
      obtain ⟨sl, e⟩ := I.base.slot L o ho (I.ok.frf L hL) hL fun z => I.ok.exfs L z hL
      exact ⟨hk, ⟨L, _, hf, hn, e, hd⟩, ih (fun b hb => hs b (by unfold frs; rw [List.filterMap_cons, hf]; exact List.mem_cons_of_mem _ hb)) hr⟩
  exact all X.outer (fun _ hb => hb) I.ok.funs

/-- the frames that run, for a call -/
theorem Inv.stack (I : Inv X pins σ H s) : s.heap.FunFrames X.base X.stack := by
  rcases I.ok.stk with e | ⟨e, hf⟩
  · rw [e]; exact I.funs
  · rw [e]
    obtain ⟨m, hn, _⟩ := I.loc
    refine .cons (by rw [I.ok.kind]; decide) hf hn ?_ I.funs
    exact Heap.get?_none_of_le (Nat.le_trans I.ok.bsz I.ok.above)
theorem Inv.stkSub (I : Inv X pins σ H s) : ∀ b ∈ frs X.stack, b ∈ X.env.locals :: X.fs := fun b hb => by
  rcases I.ok.stk with e | ⟨e, hf⟩
  · rw [e] at hb; exact List.mem_cons_of_mem _ hb
  · rw [e] at hb
    unfold frs at hb
    rw [List.filterMap_cons, hf] at hb
    exact hb
theorem Inv.stkFree (I : Inv X pins σ H s) : ∀ b ∈ frs X.stack, H b = none := fun b hb => by
  rcases List.mem_cons.mp (I.stkSub b hb) with e | hb
  · rw [e]; exact I.free
  · obtain ⟨_, o, ho, _⟩ := I.ok.funs.mem hb
    exact I.base.free b o ho (I.ok.frf b hb) fun z => I.ok.exfs b z hb

/-- THE STEP: the untracked objects but the frame and the records at ch are kept (the callers' frames up to slots), the frame's map is kept, the new abstract heap is held -/
theorem Inv.step {g' : Array GenState} {t' : Nat} {d' : Drawn} {ch : List Addr} (I : Inv X pins σ H s)
    (hch : ∀ b ∈ ch, (b ∈ X.ex ∨ X.s₀.heap.objs.size ≤ b) ∧ b ≠ X.env.locals ∧ (∀ x c, X.env.cells.lookup x = some c → c ≠ b) ∧ ∀ p ∈ X.pn ++ pins, p.1 ≠ b)
    (keep : ∀ b o, b ≠ X.env.locals → b ∉ X.fs → b ∉ ch → s.heap.get? b = some o → H b = none → h'.get? b = some o)
    (slot : ∀ b o, b ≠ X.env.locals → b ∈ X.fs → b ∉ ch → s.heap.get? b = some o → H b = none → ∃ sl, h'.get? b = some { o with slots := sl }) (free : ∀ b o, b ∉ ch → s.heap.get? b = some o → H b = none → H' b = none)
    (there : ∀ b o, b ∉ ch → s.heap.get? b = some o → ∃ o', h'.get? b = some o')
    (tups : ∀ b xs, H b = some (.tup xs) → H' b = some (.tup xs)) (frzs : ∀ b o u, H b = some (.frz o u) → H' b = some (.frz o u)) (tbls : ∀ b ps, H b = some (.tbl ps) → ∃ more, H' b = some (.tbl (ps ++ more)))
    (ns : ∀ m, s.heap.Ns X.env.locals m → h'.Ns X.env.locals m) (hok : HOk X.prog X.w H' h') (hg : AllBare g') :
    Inv X pins σ H' { s with heap := h', gens := g', drawn := d', toks := t' } := by
  have neL : ∀ b o, X.s₀.heap.get? b = some o → b ≠ X.env.locals := fun b o e => Nat.ne_of_lt (Nat.lt_of_lt_of_le (Heap.lt_size e) I.ok.above)
  have neC : ∀ b o, X.s₀.heap.get? b = some o → b ∉ X.ex → b ∉ ch := fun b o e hx hb => by
    rcases (hch b hb).1 with z | z
    · exact hx z
    · exact absurd (Nat.lt_of_lt_of_le (Heap.lt_size e) z) (Nat.lt_irrefl _)
  have cellK : ∀ x c, X.env.cells.lookup x = some c → ∀ v, s.heap.IsCell c v → h'.IsCell c v := fun x c e v ⟨o, ho, hd⟩ => by
    have nch : c ∉ ch := fun z => (hch c z).2.2.1 x c e rfl
    by_cases hc : c ∈ X.fs
    · obtain ⟨sl, q⟩ := slot c o (I.cne x c e) hc nch ho (I.freeC x c e)
      exact ⟨_, q, hd⟩
    · exact ⟨o, keep c o (I.cne x c e) hc nch ho (I.freeC x c e), hd⟩
  refine ⟨I.ok, I.os, hg, ⟨fun b o e n hb hx => ?_, fun b o e n hb hx => ?_, fun b o e n hx => ?_, fun b o e hx => ?_, fun b xs e => tups b xs (I.base.tups b xs e), fun b o xs e => frzs b o xs (I.base.frzs b o xs e), fun b ps e => ?_⟩, ?_, fun x c e => ?_, ?_, fun x c e => ?_, fun p hp => ?_, hok, I.len⟩
  · exact keep b o (neL b o e) hb (neC b o e hx) (I.base.keep b o e n hb hx) (I.base.free b o e n hx)
  · obtain ⟨sl, e1⟩ := I.base.slot b o e n hb hx
    obtain ⟨sl', e2⟩ := slot b _ (neL b o e) hb (neC b o e hx) e1 (I.base.free b o e n hx)
    exact ⟨sl', e2⟩
  · obtain ⟨o', e1⟩ := I.base.there b o e hx
    exact free b o' (neC b o e hx) e1 (I.base.free b o e n hx)
  · obtain ⟨o', e1⟩ := I.base.there b o e hx
    exact there b o' (neC b o e hx) e1
  · obtain ⟨m1, e1⟩ := I.base.tbls b ps e
    obtain ⟨m2, e2⟩ := tbls b _ e1
    exact ⟨m1 ++ m2, by rw [e2, Array.append_assoc]⟩
  · obtain ⟨m, hn, hl⟩ := I.loc
    refine ⟨m, ns m hn, fun i x v e1 e2 e3 => ?_⟩
    obtain ⟨u, r, l⟩ := hl i x v e1 e2 e3
    refine ⟨u, r, ?_⟩
    rcases l with l | ⟨k, c, e, z⟩
    · exact .inl l
    · exact .inr ⟨k, c, e, cellK x c e _ z⟩
  · obtain ⟨v, z⟩ := I.cell x c e
    exact ⟨v, cellK x c e v z⟩
  · obtain ⟨m, ⟨o, _, _, ho, _⟩, _⟩ := I.loc
    exact free _ o (fun z => (hch _ z).2.1 rfl) ho I.free
  · obtain ⟨v, o, ho, hd⟩ := I.cell x c e
    exact free c o (fun z => (hch c z).2.2.1 x c e rfl) ho (I.freeC x c e)
  · obtain ⟨e, n, ne, nf, d⟩ := I.pin p hp
    have nch : p.1 ∉ ch := fun z => (hch p.1 z).2.2.2 p hp rfl
    exact ⟨keep p.1 p.2 ne nf nch e n, free p.1 p.2 nch e n, ne, nf, d⟩
/-- .. where the frame's own object is kept too -/
theorem Inv.un {t' : Nat} (I : Inv X pins σ H s) (u : Un X.fs [] H H' s.heap h') (hok : HOk X.prog X.w H' h') : Inv X pins σ H' { s with heap := h', toks := t' } := by
  obtain ⟨m, ⟨o, es, ep, ho, r⟩, _⟩ := id I.loc
  obtain ⟨sl, hL⟩ := u.any ho I.free (by simp)
  exact I.step (g' := s.gens) (d' := s.drawn) (ch := []) (fun _ z => nomatch z) (fun b o _ hb _ e n => u.keep b o e n hb (by simp)) (fun b o _ hb _ e n => u.slot b o e n hb (by simp)) (fun b o _ e n => u.free b o e n (by simp)) (fun b o _ e => u.there b o e (by simp)) u.tups u.frzs u.tbls (fun m' hm => by
    obtain ⟨o', es', ep', ho', r'⟩ := hm
    rw [ho] at ho'; cases ho'
    exact ⟨_, es', ep', hL, r'⟩) hok I.bare
/-- behind a call (or a comprehension's block): the slots of this frame may have changed too, the records at ch may have turned -/
theorem Inv.call {g' : Array GenState} {t' : Nat} {d' : Drawn} {ch : List Addr} (I : Inv X pins σ H s) (u : Un (frs X.stack) ch H H' s.heap h') (hok : HOk X.prog X.w H' h') (hg : AllBare g')
    (hch : ∀ b ∈ ch, (b ∈ X.ex ∨ X.s₀.heap.objs.size ≤ b) ∧ b ≠ X.env.locals ∧ (∀ x c, X.env.cells.lookup x = some c → c ≠ b) ∧ ∀ p ∈ X.pn ++ pins, p.1 ≠ b) :
    Inv X pins σ H' { s with heap := h', gens := g', drawn := d', toks := t' } := by
  obtain ⟨m, ⟨o, es, ep, ho, r⟩, _⟩ := id I.loc
  obtain ⟨sl, hL⟩ := u.any ho I.free fun z => (hch _ z).2.1 rfl
  exact I.step (ch := ch) hch (fun b o hL hb hc e n => u.keep b o e n (fun z => (List.mem_cons.mp (I.stkSub b z)).elim hL hb) hc) (fun b o _ _ hc e n => u.any e n hc) (fun b o hc e n => u.free b o e n hc) (fun b o hc e => u.there b o e hc) u.tups u.frzs u.tbls (fun m' hm => by
    obtain ⟨o', es', ep', ho', r'⟩ := hm
    rw [ho] at ho'; cases ho'
    exact ⟨_, es', ep', hL, r'⟩) hok hg
/-- an untracked record of ours (an iterator) has turned -/
theorem Inv.turned {t' : Nat} {it : Addr} (I : Inv X pins σ H s) (k : ∀ b o, b ≠ it → s.heap.get? b = some o → h'.get? b = some o) (hn : H it = none) (hL : it ≠ X.env.locals)
    (h1 : it ∈ X.ex ∨ X.s₀.heap.objs.size ≤ it) (h2 : ∀ x c, X.env.cells.lookup x = some c → c ≠ it) (h3 : ∀ p ∈ X.pn ++ pins, p.1 ≠ it) : Inv X pins σ H { s with heap := h', toks := t' } := by
  have nit : ∀ b u, H b = some u → b ≠ it := fun b u e z => by rw [z, hn] at e; cases e
  refine I.step (g' := s.gens) (d' := s.drawn) (ch := [it]) (fun b hb => ?_) (fun b o _ _ hc e _ => k b o (fun z => hc (by simp [z])) e) (fun b o _ _ hc e _ => ⟨o.slots, k b o (fun z => hc (by simp [z])) e⟩) (fun _ _ _ _ n => n)
    (fun b o hc e => ⟨o, k b o (fun z => hc (by simp [z])) e⟩) (fun _ _ e => e) (fun _ _ _ e => e) (fun b ps e => ⟨#[], by rw [e]; simp⟩) (fun m hm => ?_) (fun b u e => ?_) I.bare
  · have e : b = it := by simpa using hb
    subst e
    exact ⟨h1, hL, h2, h3⟩
  · obtain ⟨o, es, ep, ho, r⟩ := hm
    exact ⟨o, es, ep, k _ o (Ne.symm hL) ho, r⟩
  · refine (I.hok b u e).stay (fun c v hc q => k c v ?_ q) (fun _ q => q) fun _ _ q => q
    rcases hc with z | z
    · rw [z]; exact nit b u e
    · exact nit c _ z
theorem Inv.tok (I : Inv X pins σ H s) (t : Nat) : Inv X pins σ H { s with toks := t } := I.un (h' := s.heap) (t' := t) Un.refl I.hok
/-- all objects kept -/
theorem Inv.kept {t' : Nat} (I : Inv X pins σ H s) (k : ∀ b u, s.heap.get? b = some u → h'.get? b = some u) : Inv X pins σ H { s with heap := h', toks := t' } := I.un (Un.kept k) (I.hok.kept k)
/-- a new object laid and tracked -/
theorem Inv.laid {a : Addr} {o : HO} {t' : Nat} (I : Inv X pins σ H s) (k : ∀ b u, s.heap.get? b = some u → h'.get? b = some u) (hp : s.heap.objs.size ≤ a) (new : ObjOk X.prog X.w (upd H a o) h' a o) :
    Inv X pins σ (upd H a o) { s with heap := h', toks := t' } := I.un (Un.laid k hp (I.hok.fresh hp)) (I.hok.laid k hp new)
/-- an object written -/
theorem Inv.write {x e : Addr} {o : HO} {t' : Nat} (I : Inv X pins σ H s) (mu : Mut (H x)) (he : e = x ∨ H e = some (.own x)) (k : ∀ b u, b ≠ e → s.heap.get? b = some u → h'.get? b = some u) (heo : ∃ u, h'.get? e = some u)
    (new : ObjOk X.prog X.w (upd H x o) h' x o) : Inv X pins σ (upd H x o) { s with heap := h', toks := t' } := I.un (Un.write mu he k heo) (I.hok.write mu he k heo new)
/-- forgetting slots, pins -/
theorem Inv.weak {σ' : List (Option V)} (I : Inv X pins σ H s) (hl : σ'.length = σ.length) (w : ∀ (i : Nat) v, σ'[i]? = some (some v) → σ[i]? = some (some v)) : Inv X pins σ' H s :=
  ⟨I.ok, I.os, I.bare, I.base, let ⟨m, hn, hl'⟩ := I.loc; ⟨m, hn, fun i x v e1 e2 e3 => hl' i x v e1 (w i v e2) e3⟩, I.cell, I.free, I.freeC, I.pin, I.hok, hl.trans I.len⟩
theorem Inv.pins_of {pins' : List (Addr × Obj)} (I : Inv X pins σ H s) (h : ∀ p ∈ pins', s.heap.get? p.1 = some p.2 ∧ H p.1 = none ∧ p.1 ≠ X.env.locals ∧ p.1 ∉ X.fs ∧ ∀ v, p.2.data ≠ .cell v) : Inv X pins' σ H s :=
  ⟨I.ok, I.os, I.bare, I.base, I.loc, I.cell, I.free, I.freeC, fun p hp => (List.mem_append.mp hp).elim (fun z => I.pin p (List.mem_append_left _ z)) (h p), I.hok, I.len⟩

theorem nodup_ix {N : List Str} (hN : N.Nodup) {i j : Nat} {x : Str} (a : N[i]? = some x) (b : N[j]? = some x) : i = j := by
  obtain ⟨h1, e1⟩ := List.getElem?_eq_some_iff.mp a
  obtain ⟨h2, e2⟩ := List.getElem?_eq_some_iff.mp b
  exact (List.getElem_inj hN).mp (e1.trans e2.symm)

/-- a name is stored; what changed -/
theorem store_ok2 {M : Model} {A : Around} {E : Value → Shared → Prop} {i : Nat} {x : Str} {v : V} {u : Value} {Q : Unit → Shared → Prop} (I : Inv X pins σ H s) (hN : X.N.Nodup) (hi : X.N[i]? = some x) (hx : Loc X.env.scope x) (r : RelV v u)
    (h : ∀ s', Inv X pins (σ.set i (some v)) H s' → (∃ a, Heap.SameBut a s.heap s'.heap ∧ (a = X.env.locals ∨ X.env.cells.lookup x = some a)) → Q () s') (hf : X.fn x = true ∨ X.env.scope.names.lookup x = some .local := by first | exact .inl rfl | exact .inr rfl | assumption) : wpAny M A (storeName X.env x u) Q E s := by
  obtain ⟨m, hn, hl⟩ := id I.loc
  have hcls : (X.env.scope.kind == .class || (X.env.scope.kind == .module && X.env.locals != X.env.globals)) = false := by rw [I.ok.kind]; rfl
  have hiσ : i < σ.length := by rw [I.len]; exact (List.getElem?_eq_some_iff.mp hi).1
  have cne := I.cne
  have tracked : ∀ {a : Addr} {h' : Heap}, (∃ o, s.heap.get? a = some o ∧ H a = none) → Heap.SameBut a s.heap h' → HOk X.prog X.w H h' := fun {a h'} ha hs b ob e => by
    obtain ⟨_, _, hfree⟩ := ha
    refine (I.hok b ob e).stay (fun c w' hc q => (hs.2 c ?_).trans q) (fun _ q => q) fun _ _ q => q
    rintro rfl
    rcases hc with rfl | hc
    · rw [hfree] at e; cases e
    · rw [hfree] at hc; cases hc
  rcases hx with hk | hk
  · refine wpAny_storeName_local hk hn (fun h' hn' hs => ?_) hcls
    obtain ⟨oL, _, _, hoL, _⟩ := id hn
    refine h _ ⟨I.ok, I.os, I.bare, ⟨fun b o e n hb hx => ?_, fun b o e n hb hx => ?_, I.base.free, fun b o e hx => ?_, I.base.tups, I.base.frzs, I.base.tbls⟩, ⟨_, hn', fun j y v' e1 e2 e3 => ?_⟩, fun y c e => ?_, I.free, I.freeC, fun p hp => ?_, tracked ⟨oL, hoL, I.free⟩ hs, by simpa using I.len⟩ ⟨_, hs, .inl rfl⟩
    · exact (hs.2 b (Nat.ne_of_lt (Nat.lt_of_lt_of_le (Heap.lt_size e) I.ok.above))).trans (I.base.keep b o e n hb hx)
    · obtain ⟨sl, e1⟩ := I.base.slot b o e n hb hx
      exact ⟨sl, (hs.2 b (Nat.ne_of_lt (Nat.lt_of_lt_of_le (Heap.lt_size e) I.ok.above))).trans e1⟩
    · obtain ⟨o', e1⟩ := I.base.there b o e hx
      exact ⟨o', (hs.2 b (Nat.ne_of_lt (Nat.lt_of_lt_of_le (Heap.lt_size e) I.ok.above))).trans e1⟩
    · by_cases hj : j = i
      · subst hj
        rw [hi] at e1; cases e1
        rw [List.getElem?_set_self hiσ] at e2
        cases e2
        exact ⟨u, r, .inl ⟨hk, by simp⟩⟩
      · rw [List.getElem?_set_ne (Ne.symm hj)] at e2
        obtain ⟨u', r', q⟩ := hl j y v' e1 e2 e3
        refine ⟨u', r', ?_⟩
        rcases q with ⟨k, e⟩ | ⟨k, c, e, z⟩
        · refine .inl ⟨k, ?_⟩
          have : y ≠ x := fun e => hj (nodup_ix hN e1 (e ▸ hi))
          simp [this, e]
        · exact .inr ⟨k, c, e, z.sameBut hs (cne y c e)⟩
    · obtain ⟨w', z⟩ := I.cell y c e
      exact ⟨w', z.sameBut hs (cne y c e)⟩
    · obtain ⟨e, n, ne, nf, d⟩ := I.pin p hp
      exact ⟨(hs.2 p.1 ne).trans e, n, ne, nf, d⟩
  · have hfn : X.fn x = true := by
      rcases hf with z | z
      · exact z
      · rw [z] at hk; cases hk
    obtain ⟨c, hc⟩ := I.ok.has x (.inl hk)
    obtain ⟨w', z⟩ := I.cell x c hc
    refine wpAny_storeName_cell I.ok.kind hk hc z (fun h' hc' hs => ?_)
    obtain ⟨oc, hoc, hocd⟩ := id z
    refine h { s with heap := h' } ⟨I.ok, I.os, I.bare, ⟨fun b o e n hb hx => ?_, fun b o e n hb hx => ?_, I.base.free, fun b o e hx => ?_, I.base.tups, I.base.frzs, I.base.tbls⟩, ⟨m, hn.sameBut hs (Ne.symm (cne x c hc)), fun j y v' e1 e2 e3 => ?_⟩, fun y c' e => ?_, I.free, I.freeC, fun p hp => ?_, tracked ⟨oc, hoc, I.freeC x c hc⟩ hs, by simpa using I.len⟩ ⟨c, hs, .inr hc⟩
    · exact (hs.2 b (Nat.ne_of_lt (Nat.lt_of_lt_of_le (Heap.lt_size e) (I.ok.cab x c hfn hc)))).trans (I.base.keep b o e n hb hx)
    · obtain ⟨sl, e1⟩ := I.base.slot b o e n hb hx
      exact ⟨sl, (hs.2 b (Nat.ne_of_lt (Nat.lt_of_lt_of_le (Heap.lt_size e) (I.ok.cab x c hfn hc)))).trans e1⟩
    · obtain ⟨o', e1⟩ := I.base.there b o e hx
      exact ⟨o', (hs.2 b (Nat.ne_of_lt (Nat.lt_of_lt_of_le (Heap.lt_size e) (I.ok.cab x c hfn hc)))).trans e1⟩
    · by_cases hj : j = i
      · subst hj
        rw [hi] at e1; cases e1
        rw [List.getElem?_set_self hiσ] at e2
        cases e2
        exact ⟨u, r, .inr ⟨.inl hk, c, hc, hc'⟩⟩
      · rw [List.getElem?_set_ne (Ne.symm hj)] at e2
        obtain ⟨u', r', q⟩ := hl j y v' e1 e2 e3
        refine ⟨u', r', ?_⟩
        rcases q with q | ⟨k, c', e, z'⟩
        · exact .inl q
        · refine .inr ⟨k, c', e, z'.sameBut hs ?_⟩
          rintro rfl
          exact hj (nodup_ix hN e1 (I.ok.inj _ _ _ e hc ▸ hi))
    · by_cases hcc : c' = c
      · subst hcc; exact ⟨_, hc'⟩
      · obtain ⟨w2, z2⟩ := I.cell y c' e
        exact ⟨w2, z2.sameBut hs hcc⟩
    · obtain ⟨e, n, ne, nf, d⟩ := I.pin p hp
      refine ⟨(hs.2 p.1 ?_).trans e, n, ne, nf, d⟩
      intro q
      rw [q, hoc] at e
      have q' : oc = p.2 := Option.some.inj e
      exact d w' (by rw [← q']; exact hocd)
theorem store_ok {M : Model} {A : Around} {E : Value → Shared → Prop} {i : Nat} {x : Str} {v : V} {u : Value} {Q : Unit → Shared → Prop} (I : Inv X pins σ H s) (hN : X.N.Nodup) (hi : X.N[i]? = some x) (hx : Loc X.env.scope x) (r : RelV v u)
    (h : ∀ s', Inv X pins (σ.set i (some v)) H s' → Q () s') (hf : X.fn x = true ∨ X.env.scope.names.lookup x = some .local := by first | exact .inl rfl | exact .inr rfl | assumption) : wpAny M A (storeName X.env x u) Q E s :=
  store_ok2 I hN hi hx r (fun s' I' _ => h s' I') hf
/-- behind a call or a block, the state as it is -/
theorem Inv.call' {s' : Shared} {ch : List Addr} (I : Inv X pins σ H s) (ho : s'.os = s.os) (u : Un (frs X.stack) ch H H' s.heap s'.heap) (hok : HOk X.prog X.w H' s'.heap) (hg : AllBare s'.gens)
    (hch : ∀ b ∈ ch, (b ∈ X.ex ∨ X.s₀.heap.objs.size ≤ b) ∧ b ≠ X.env.locals ∧ (∀ x c, X.env.cells.lookup x = some c → c ≠ b) ∧ ∀ p ∈ X.pn ++ pins, p.1 ≠ b) : Inv X pins σ H' s' := by
  obtain ⟨h', g', d', t', o'⟩ := s'
  have e : o' = s.os := ho
  subst e
  exact I.call (g' := g') (t' := t') (d' := d') u hok hg hch
end

/-! ### the judgements -/
/-- an exception: its class, its own dict's address (where it has one), the abstract heap behind it -/
abbrev XK := Value → Option Addr → Hp → Prop
abbrev St := List (Option V)
abbrev VK := V → Hp → Prop
/-- an expression's reading; a test's; an argument list's -/
abbrev TE := St → Hp → VK → Prop
abbrev TT := St → Hp → (Bool → Hp → Prop) → Prop
abbrev TA := St → Hp → (List V → Hp → Prop) → Prop
/-- what is wanted behind a statement -/
structure Ends where
  nx : St → Hp → Prop
  rt : VK
  bk : St → Hp → Prop := fun _ _ => False
  ct : St → Hp → Prop := fun _ _ => False
abbrev TS := Ends → St → Hp → Prop

def EP (X : Cx) (pins : List (Addr × Obj)) (σ : St) (Q : VK) (u : Value) (s' : Shared) : Prop := ∃ v H', Inv X pins σ H' s' ∧ RelV v u ∧ Q v H'
def TP (X : Cx) (pins : List (Addr × Obj)) (σ : St) (Q : Bool → Hp → Prop) (b : Bool) (s' : Shared) : Prop := ∃ H', Inv X pins σ H' s' ∧ Q b H'
def AP (X : Cx) (pins : List (Addr × Obj)) (σ : St) (Q : List V → Hp → Prop) (us : List Value) (s' : Shared) : Prop := ∃ vs H', Inv X pins σ H' s' ∧ Vals vs us ∧ Q vs H'
def SP (X : Cx) (pins : List (Addr × Obj)) (D : Ends) (f : Flow) (s' : Shared) : Prop :=
  match f with
  | .next => ∃ σ' H', Inv X pins σ' H' s' ∧ D.nx σ' H'
  | .brk => ∃ σ' H', Inv X pins σ' H' s' ∧ D.bk σ' H'
  | .cont => ∃ σ' H', Inv X pins σ' H' s' ∧ D.ct σ' H'
  | .ret u => ∃ v σ' H', Inv X pins σ' H' s' ∧ RelV v u ∧ D.rt v H'

def PE (X : Cx) (e : Expr) (t : TE) : Prop :=
  ∀ (pins : List (Addr × Obj)) (s : Shared) (σ : St) (H : Hp) (Q : VK), Inv X pins σ H s → t σ H Q → wpAny (model X.prog X.w) X.A (eval e X.env) (EP X pins σ Q) X.xe s
def PT (X : Cx) (e : Expr) (t : TT) : Prop :=
  ∀ (pins : List (Addr × Obj)) (s : Shared) (σ : St) (H : Hp) (Q : Bool → Hp → Prop), Inv X pins σ H s → t σ H Q → wpAny (model X.prog X.w) X.A (isTrue e X.env (eval e X.env)) (TP X pins σ Q) X.xe s
/-- a test whatever its 'whole' is (and, or) -/
def PW (X : Cx) (e : Expr) (t : TT) : Prop :=
  ∀ (whole : Sem Value) (pins : List (Addr × Obj)) (s : Shared) (σ : St) (H : Hp) (Q : Bool → Hp → Prop), Inv X pins σ H s → t σ H Q → wpAny (model X.prog X.w) X.A (isTrue e X.env whole) (TP X pins σ Q) X.xe s
theorem PW.pt {X : Cx} {e : Expr} {t : TT} (h : PW X e t) : PT X e t := h _
/-- an argument list (no star), from the left -/
def PA (X : Cx) (es : List Expr) (t : TA) : Prop :=
  ∀ (pos : Pos) (pins : List (Addr × Obj)) (s : Shared) (σ : St) (H : Hp) (Q : List V → Hp → Prop), Inv X pins σ H s → t σ H Q → wpAny (model X.prog X.w) X.A (spliced (backTo pos (starEach es X.env))) (AP X pins σ Q) X.xe s
def PS (X : Cx) (st : Stmt) (t : TS) : Prop :=
  ∀ (pins : List (Addr × Obj)) (s : Shared) (σ : St) (H : Hp) (D : Ends), Inv X pins σ H s → t D σ H → wpAny (model X.prog X.w) X.A (exec st X.env) (SP X pins D) X.xe s
def PSs (X : Cx) (st : List Stmt) (t : TS) : Prop :=
  ∀ (pins : List (Addr × Obj)) (s : Shared) (σ : St) (H : Hp) (D : Ends), Inv X pins σ H s → t D σ H → wpAny (model X.prog X.w) X.A (execs st X.env) (SP X pins D) X.xe s
/-- weaken the end -/
theorem thn {α : Type} {t : Sem α} {Q Q' : α → Shared → Prop} {M : Model} {A : Around} {E : Value → Shared → Prop} {s : Shared} (h : wpAny M A t Q E s) (hQ : ∀ a s, Q a s → Q' a s) : wpAny M A t Q' E s := wpAny_mono h hQ fun _ _ x => x
end L2

namespace L2
open PySem PySem.Spec PyProof.Rows
section
variable {X : Cx}

/-- two expressions in a row -/
theorem bin {a b : Expr} {ta tb : TE} (ha : PE X a ta) (hb : PE X b tb) {pins : List (Addr × Obj)} {s : Shared} {σ : St} {H : Hp} {R : V → V → Hp → Prop} (I : Inv X pins σ H s) (h : ta σ H fun x H1 => tb σ H1 fun y H2 => R x y H2)
    {α : Type} {Q : α → Shared → Prop} {f : Value → Value → Sem α}
    (hf : ∀ v u s2 x y H2, Inv X pins σ H2 s2 → RelV x v → RelV y u → R x y H2 → wpAny (model X.prog X.w) X.A (f v u) Q X.xe s2) :
    wpAny (model X.prog X.w) X.A (eval a X.env) (fun v s₁ => wpAny (model X.prog X.w) X.A (eval b X.env) (fun u s₂ => wpAny (model X.prog X.w) X.A (f v u) Q X.xe s₂) X.xe s₁) X.xe s := by
  refine thn (ha pins s σ H _ I h) fun v s1 ⟨x, H1, I1, r1, q1⟩ => ?_
  refine thn (hb pins s1 σ H1 _ I1 q1) fun u s2 ⟨y, H2, I2, r2, q2⟩ => ?_
  exact hf v u s2 x y H2 I2 r1 r2 q2

/-! ### names and constants -/
def tVar (i : Nat) : TE := fun σ H Q => ∃ v, σ[i]? = some (some v) ∧ Q v H
def tC (v : V) : TE := fun _ H Q => Q v H
theorem pe_var {i : Nat} {x : Str} {pos : Pos} (hN : X.N[i]? = some x) (hv : Vis X.env.scope x) (hd : (x == ("__debug__" : Str)) = false := by decide) (hcd : (x == ("__classdict__" : Str)) = false := by decide) : PE X (.Name x pos) (tVar i) := by
  intro pins s σ H Q I h
  obtain ⟨v, e, h⟩ := h
  obtain ⟨m, hn, hl⟩ := I.loc
  obtain ⟨u, r, l⟩ := hl i x v hN e hv
  have fin : EP X pins σ Q u s := ⟨v, H, I, r, h⟩
  rcases l with ⟨hk, hm⟩ | ⟨hk, c, hc, hcell⟩
  · exact wpAny_Name (wpAny_loadName_local I.ok.kind hk hn hm fin) hd
  · rcases hk with hk | hk
    · exact wpAny_Name (wpAny_loadName_cell I.ok.kind hk hc hcell fin) hd
    · exact wpAny_Name (wpAny_loadName_free I.ok.kind hk hc hcell fin hcd) hd
theorem pe_int {i j pos} : PE X (.Constant (.int i) j pos) (tC (.int i)) := fun _ _ _ H _ I h => wpAny_Constant_int ⟨.int i, H, I.tok _, ⟨_, rfl⟩, h⟩
theorem pe_bl {b j pos} : PE X (.Constant (.bool b) j pos) (tC (.bl b)) := fun _ _ _ H _ I h => Constant_bool ⟨.bl b, H, I, rfl, h⟩
theorem pe_non {j pos} : PE X (.Constant .none j pos) (tC .non) := fun _ _ _ H _ I h => Constant_none ⟨.non, H, I, rfl, h⟩
theorem pe_str {x j pos} : PE X (.Constant (.str x) j pos) (tC (.str x)) := fun _ _ _ H _ I h => Calls.Constant_str ⟨.str x, H, I.tok _, ⟨_, rfl⟩, h⟩

/-- a global name of the def -/
def Gl (X : Cx) (x : Str) : Prop := X.env.kindOf x = some .globalImplicit
theorem ld_glob {E : Value → Shared → Prop} {pins : List (Addr × Obj)} {s : Shared} {σ : St} {H : Hp} {x : Str} {u : Value} {pos : Pos} {Q : Value → Shared → Prop} (I : Inv X pins σ H s) (hg : Gl X x) (hm : X.mg x = some u) (h : Q u s)
    (hd : (x == ("__debug__" : Str)) = false := by decide) : wpAny (model X.prog X.w) X.A (eval (.Name x pos) X.env) Q E s :=
  Calls.Name_function_global I.ok.kind hg (Calls.loadGlobal_global (by rw [I.ok.glob]; exact I.mod.glob.keeps I.bk) hm h) hd
theorem ld_blt {E : Value → Shared → Prop} {pins : List (Addr × Obj)} {s : Shared} {σ : St} {H : Hp} {x : Str} {u : Value} {pos : Pos} {Q : Value → Shared → Prop} (I : Inv X pins σ H s) (hg : Gl X x) (hm : X.mg x = none) (hv : bootBuiltins x = some u) (h : Q u s)
    (hn : x ≠ "__name__" := by decide) (hd : (x == ("__debug__" : Str)) = false := by decide) : wpAny (model X.prog X.w) X.A (eval (.Name x pos) X.env) Q E s := by
  obtain ⟨mb, h1, h2⟩ := I.mod.blt
  exact Calls.Name_function_global I.ok.kind hg (Calls.loadGlobal_builtin (by rw [I.ok.glob]; exact I.mod.glob.keeps I.bk) hm (by rw [I.ok.blt]; exact h1.keeps I.bk) ((h2 x hn).trans hv) h) hd
/-- a module's constant, a class, a function, as a value -/
theorem pe_glob {x : Str} {v : V} {u : Value} {pos : Pos} (hg : Gl X x) (hm : X.mg x = some u) (r : RelV v u) (hd : (x == ("__debug__" : Str)) = false := by decide) : PE X (.Name x pos) (tC v) :=
  fun _ _ _ H _ I h => ld_glob I hg hm ⟨v, H, I, r, h⟩ hd
theorem pe_bltn {x : Str} {v : V} {u : Value} {pos : Pos} (hg : Gl X x) (hm : X.mg x = none) (hv : bootBuiltins x = some u) (r : RelV v u) (hn : x ≠ "__name__" := by decide) (hd : (x == ("__debug__" : Str)) = false := by decide) : PE X (.Name x pos) (tC v) :=
  fun _ _ _ H _ I h => ld_blt I hg hm hv ⟨v, H, I, r, h⟩ hn hd

/-! ### arithmetic -/
/-- two ints -/
def t2I (ta tb : TE) (k : Int → Int → Hp → Prop) : St → Hp → Prop := fun σ H => ta σ H fun x H1 => tb σ H1 fun y H2 => ∃ i j, x = .int i ∧ y = .int j ∧ k i j H2
def tAdd (ta tb : TE) : TE := fun σ H Q => t2I ta tb (fun i j H2 => Q (.int (i + j)) H2) σ H
def tSub (ta tb : TE) : TE := fun σ H Q => t2I ta tb (fun i j H2 => Q (.int (i - j)) H2) σ H
/-- the left factor below 2^64 -/
def tMul (ta tb : TE) : TE := fun σ H Q => t2I ta tb (fun i j H2 => (-(2 ^ 64) < i ∧ i < 2 ^ 64) ∧ Q (.int (i * j)) H2) σ H
variable {a b : Expr} {ta tb : TE} {pos : Pos}
theorem pe_add (ha : PE X a ta) (hb : PE X b tb) : PE X (.BinOp a .Add b pos) (tAdd ta tb) := by
  intro pins s σ H Q I h
  refine wpAny_BinOp (bin ha hb I h fun v u s2 x y H2 I2 rx ry q => ?_)
  obtain ⟨i, j, rfl, rfl, q⟩ := q
  obtain ⟨t, rfl⟩ := rx
  obtain ⟨t', rfl⟩ := ry
  exact add_int ⟨.int _, H2, I2.tok _, ⟨_, rfl⟩, q⟩
theorem pe_sub (ha : PE X a ta) (hb : PE X b tb) : PE X (.BinOp a .Sub b pos) (tSub ta tb) := by
  intro pins s σ H Q I h
  refine wpAny_BinOp (bin ha hb I h fun v u s2 x y H2 I2 rx ry q => ?_)
  obtain ⟨i, j, rfl, rfl, q⟩ := q
  obtain ⟨t, rfl⟩ := rx
  obtain ⟨t', rfl⟩ := ry
  exact sub_int ⟨.int _, H2, I2.tok _, ⟨_, rfl⟩, q⟩
theorem pe_mul (ha : PE X a ta) (hb : PE X b tb) : PE X (.BinOp a .Mult b pos) (tMul ta tb) := by
  intro pins s σ H Q I h
  refine wpAny_BinOp (bin ha hb I h fun v u s2 x y H2 I2 rx ry q => ?_)
  obtain ⟨i, j, rfl, rfl, ⟨q1, q2⟩, q⟩ := q
  obtain ⟨t, rfl⟩ := rx
  obtain ⟨t', rfl⟩ := ry
  exact mul_int ⟨.int _, H2, I2.tok _, ⟨_, rfl⟩, q⟩ (.of_left (intBits_le_64 q1 q2))

/-! ### comparisons -/
def PC (X : Cx) (op : CmpOp) (a b : Expr) (t : TE) : Prop :=
  ∀ (pins : List (Addr × Obj)) (s : Shared) (σ : St) (H : Hp) (Q : VK), Inv X pins σ H s → t σ H Q →
    wpAny (model X.prog X.w) X.A (eval a X.env) (fun v s₁ => wpAny (model X.prog X.w) X.A (eval b X.env) (fun u s₂ => wpAny (model X.prog X.w) X.A (compareOp op v u) (EP X pins σ Q) X.xe s₂) X.xe s₁) X.xe s
theorem nobehind (b : Expr) {op : CmpOp} (h : op ≠ .In) (h2 : op ≠ .NotIn) : behindInMarks op b = false := by
  have e1 : (op == CmpOp.In) = false := by cases op <;> first | rfl | exact absurd rfl h
  have e2 : (op == CmpOp.NotIn) = false := by cases op <;> first | rfl | exact absurd rfl h2
  cases b <;> simp [behindInMarks, e1, e2]
def tCmp (p : Int → Int → Bool) (ta tb : TE) : TE := fun σ H Q => t2I ta tb (fun i j H2 => Q (.bl (p i j)) H2) σ H
abbrev tLt : TE → TE → TE := tCmp fun i j => decide (i < j)
abbrev tLe : TE → TE → TE := tCmp fun i j => decide (i ≤ j)
abbrev tGt : TE → TE → TE := tCmp fun i j => decide (j < i)
abbrev tGe : TE → TE → TE := tCmp fun i j => decide (j ≤ i)
abbrev tEqI : TE → TE → TE := tCmp fun i j => decide (i = j)
abbrev tNeI : TE → TE → TE := tCmp fun i j => !decide (i = j)
/-- a comparison of two ints, by its rule -/
theorem pc_int {op : CmpOp} {p : Int → Int → Bool} (ha : PE X a ta) (hb : PE X b tb)
    (rule : ∀ (i j : Int) (t u : Tok) (Q : Value → Shared → Prop) (s : Shared), Q (.bool (p i j)) s → wpAny (model X.prog X.w) X.A (compareOp op (.int i t) (.int j u)) Q X.xe s) : PC X op a b (tCmp p ta tb) := by
  intro pins s σ H Q I h
  refine bin ha hb I h fun v u s2 x y H2 I2 rx ry q => ?_
  obtain ⟨i, j, rfl, rfl, q⟩ := q
  obtain ⟨t, rfl⟩ := rx
  obtain ⟨t', rfl⟩ := ry
  exact rule i j t t' _ s2 ⟨.bl _, H2, I2, rfl, q⟩
theorem pc_lt (ha : PE X a ta) (hb : PE X b tb) : PC X .Lt a b (tLt ta tb) := pc_int ha hb fun _ _ _ _ _ _ h => lt_int h
theorem pc_le (ha : PE X a ta) (hb : PE X b tb) : PC X .LtE a b (tLe ta tb) := pc_int ha hb fun _ _ _ _ _ _ h => le_int h
theorem pc_gt (ha : PE X a ta) (hb : PE X b tb) : PC X .Gt a b (tGt ta tb) := pc_int ha hb fun _ _ _ _ _ _ h => gt_int h
theorem pc_ge (ha : PE X a ta) (hb : PE X b tb) : PC X .GtE a b (tGe ta tb) := pc_int ha hb fun _ _ _ _ _ _ h => ge_int h
theorem pc_eqI (ha : PE X a ta) (hb : PE X b tb) : PC X .Eq a b (tEqI ta tb) := pc_int ha hb fun _ _ _ _ _ _ h => eq_int (by rw [Bool.beq_eq_decide_eq]; exact h)
theorem pc_neI (ha : PE X a ta) (hb : PE X b tb) : PC X .NotEq a b (tNeI ta tb) := pc_int ha hb fun _ _ _ _ _ _ h => ne_int (by rw [bne, Bool.beq_eq_decide_eq]; exact h)
/-- is None -/
def tIsN (ta : TE) : TE := fun σ H Q => ta σ H fun x H1 => Q (.bl (decide (x = .non))) H1
def tNotN (ta : TE) : TE := fun σ H Q => ta σ H fun x H1 => Q (.bl (!decide (x = .non))) H1
theorem RelV.none_iff {x : V} {v : Value} (r : RelV x v) : (v == Value.none) = decide (x = .non) := by
  cases x with
  | non => cases r; rfl
  | bl _ => cases r; rfl
  | int _ => obtain ⟨t, rfl⟩ := r; rfl
  | str _ => obtain ⟨t, rfl⟩ := r; rfl
  | byt _ => obtain ⟨t, rfl⟩ := r; rfl
  | flt _ => obtain ⟨t, rfl⟩ := r; rfl
  | ref _ => cases r; rfl
  | ty _ => cases r; rfl
theorem pc_isN {j pos'} (ha : PE X a ta) : PC X .Is a (.Constant .none j pos') (tIsN ta) := by
  intro pins s σ H Q I h
  refine thn (ha pins s σ H _ I h) fun v s1 ⟨x, H1, I1, r1, q1⟩ => ?_
  exact Constant_none (is_none_gen ⟨.bl _, H1, I1, by rw [r1.none_iff]; rfl, q1⟩)
theorem pc_notN {j pos'} (ha : PE X a ta) : PC X .IsNot a (.Constant .none j pos') (tNotN ta) := by
  intro pins s σ H Q I h
  refine thn (ha pins s σ H _ I h) fun v s1 ⟨x, H1, I1, r1, q1⟩ => ?_
  exact Constant_none (isnot_none_gen ⟨.bl _, H1, I1, by rw [r1.none_iff]; rfl, q1⟩)
/-- a comparison as a value, as a test -/
def tB (t : TE) : TT := fun σ H Q => t σ H fun x H1 => ∃ c, x = .bl c ∧ Q c H1
theorem pe_cmp {op : CmpOp} {t : TE} (h : PC X op a b t) (h1 : behindInMarks op b = false := by first | exact nobehind _ (by decide) (by decide) | rfl) : PE X (.Compare a [op] [b] pos) t := fun pins s σ H Q I hw => wpAny_Compare1 (h pins s σ H Q I hw) h1
theorem pt_cmp {op : CmpOp} {t : TE} (h : PC X op a b t) (h1 : behindInMarks op b = false := by first | exact nobehind _ (by decide) (by decide) | rfl) : PT X (.Compare a [op] [b] pos) (tB t) := by
  intro pins s σ H Q I hw
  refine wpAny_isTrue_Compare1 (thn (h pins s σ H _ I hw) fun v s1 h1 => thn h1 fun u s2 h2 => thn h2 fun c s3 ⟨x, H1, I1, r1, q1⟩ => ?_) h1
  obtain ⟨d, rfl, q⟩ := q1
  cases r1
  exact wpAny_truthy_bool ⟨H1, I1, q⟩
/-- an expression whose value is a bool, as a test -/
theorem pt_val {e : Expr} {t : TE} (h : PE X e t) (he : ∀ whole, isTrue e X.env whole = (do let v ← whole; standAt e.pos; holding [v] (truthy v)) := by intro _; rfl) : PT X e (tB t) := by
  intro pins s σ H Q I hw
  refine isTrue_plain (thn (h pins s σ H _ I hw) fun v s1 ⟨x, H1, I1, r1, q1⟩ => ?_) (he _)
  obtain ⟨d, rfl, q⟩ := q1
  cases r1
  exact wpAny_truthy_bool ⟨H1, I1, q⟩

/-! ### and, or, not -/
variable {tA tB' : TT} {rest : List Expr}
def tAnd (t u : TT) : TT := fun σ H Q => t σ H fun c H1 => if c = true then u σ H1 Q else Q false H1
def tOr (t u : TT) : TT := fun σ H Q => t σ H fun c H1 => if c = true then Q true H1 else u σ H1 Q
def tNot (t : TT) : TT := fun σ H Q => t σ H fun c H1 => Q (!c) H1
theorem pw_and1 (ha : PT X a tA) : PW X (.BoolOp .And [a] pos) tA := by
  intro wh pins s σ H Q I h
  refine isTrue_and (thn (ha pins s σ H Q I h) fun c s1 e => ?_)
  cases c with
  | true => exact isTrue_and_nil e
  | false => exact e
theorem pw_or1 (ha : PT X a tA) : PW X (.BoolOp .Or [a] pos) tA := by
  intro wh pins s σ H Q I h
  refine isTrue_or (thn (ha pins s σ H Q I h) fun c s1 e => ?_)
  cases c with
  | false => exact isTrue_or_nil e
  | true => exact e
theorem pw_and (ha : PT X a tA) (hb : PW X (.BoolOp .And (b :: rest) pos) tB') : PW X (.BoolOp .And (a :: b :: rest) pos) (tAnd tA tB') := by
  intro wh pins s σ H Q I h
  refine isTrue_and (thn (ha pins s σ H _ I h) fun c s1 ⟨H1, I1, q1⟩ => ?_)
  cases c with
  | true => exact hb wh pins s1 σ H1 Q I1 q1
  | false => exact ⟨H1, I1, q1⟩
theorem pw_or (ha : PT X a tA) (hb : PW X (.BoolOp .Or (b :: rest) pos) tB') : PW X (.BoolOp .Or (a :: b :: rest) pos) (tOr tA tB') := by
  intro wh pins s σ H Q I h
  refine isTrue_or (thn (ha pins s σ H _ I h) fun c s1 ⟨H1, I1, q1⟩ => ?_)
  cases c with
  | true => exact ⟨H1, I1, q1⟩
  | false => exact hb wh pins s1 σ H1 Q I1 q1
theorem pt_not (ha : PT X a tA) : PT X (.UnaryOp .Not a pos) (tNot tA) := by
  intro pins s σ H Q I h
  exact isTrue_not (ha pins s σ H (fun c H1 => Q (!c) H1) I h)
/-- .. as values (bools) -/
def tAndV (ta tb : TE) : TE := fun σ H Q => ta σ H fun x H1 => ∃ c, x = .bl c ∧ if c = true then tb σ H1 Q else Q (.bl false) H1
def tOrV (ta tb : TE) : TE := fun σ H Q => ta σ H fun x H1 => ∃ c, x = .bl c ∧ if c = true then Q (.bl true) H1 else tb σ H1 Q
def tNotV (ta : TE) : TE := fun σ H Q => ta σ H fun x H1 => ∃ c, x = .bl c ∧ Q (.bl (!c)) H1
theorem pe_one {op} {t : TE} (h : PE X a t) : PE X (.BoolOp op [a] pos) t := fun pins s σ H Q I hw => BoolOp_one (h pins s σ H Q I hw)
theorem pe_and (ha : PE X a ta) (hb : PE X (.BoolOp .And (b :: rest) pos) tb) : PE X (.BoolOp .And (a :: b :: rest) pos) (tAndV ta tb) := by
  intro pins s σ H Q I h
  refine BoolOp_and (thn (ha pins s σ H _ I h) fun v s1 ⟨x, H1, I1, r1, q1⟩ => ?_)
  obtain ⟨c, rfl, q1⟩ := q1
  cases r1
  refine wpAny_truthy_bool ?_
  cases c with
  | true => exact hb pins s1 σ H1 Q I1 q1
  | false => exact ⟨.bl false, H1, I1, rfl, q1⟩
theorem pe_or (ha : PE X a ta) (hb : PE X (.BoolOp .Or (b :: rest) pos) tb) : PE X (.BoolOp .Or (a :: b :: rest) pos) (tOrV ta tb) := by
  intro pins s σ H Q I h
  refine BoolOp_or (thn (ha pins s σ H _ I h) fun v s1 ⟨x, H1, I1, r1, q1⟩ => ?_)
  obtain ⟨c, rfl, q1⟩ := q1
  cases r1
  refine wpAny_truthy_bool ?_
  cases c with
  | false => exact hb pins s1 σ H1 Q I1 q1
  | true => exact ⟨.bl true, H1, I1, rfl, q1⟩
theorem pe_not (ha : PE X a ta) : PE X (.UnaryOp .Not a pos) (tNotV ta) := by
  intro pins s σ H Q I h
  refine UnaryOp_ (thn (ha pins s σ H _ I h) fun v s1 ⟨x, H1, I1, r1, q1⟩ => ?_)
  obtain ⟨c, rfl, q1⟩ := q1
  cases r1
  exact not_of (wpAny_truthy_bool ⟨.bl (!c), H1, I1, rfl, q1⟩)
/-- a if t else b -/
def tIf (t : TT) (ta tb : TE) : TE := fun σ H Q => t σ H fun c H1 => if c = true then ta σ H1 Q else tb σ H1 Q
theorem pe_ifExp {c : Expr} (hc : PT X c tA) (ha : PE X a ta) (hb : PE X b tb) : PE X (.IfExp c a b pos) (tIf tA ta tb) := by
  intro pins s σ H Q I h
  refine wpAny_IfExp (thn (hc pins s σ H _ I h) fun d s1 ⟨H1, I1, q1⟩ => ?_)
  cases d with
  | true => exact ha pins s1 σ H1 Q I1 q1
  | false => exact hb pins s1 σ H1 Q I1 q1
end
end L2

namespace L2
open PySem PySem.Spec PyProof.Rows

/-! ### a list, a tuple that is read: tracked, frozen, or an object of the module -/
def SqL (K : PySem.W.Frag) (H : Hp) (a : Addr) (xs : List V) : Prop :=
  Rd H a (.lst xs) ∨
    ∃ (o : Obj) (its : Array Value) (n : Nat), K.lookup a = some o ∧ o.cls = .type "list" ∧ o.dict = none ∧ o.data = .seq its n ∧ its.size ≤ sizeLine ∧ Vals xs its.toList
def SqT (K : PySem.W.Frag) (H : Hp) (a : Addr) (xs : List V) : Prop :=
  Rd H a (.tup xs) ∨
    ∃ (o : Obj) (its : Array Value) (n : Nat), K.lookup a = some o ∧ o.cls = .type "tuple" ∧ o.data = .seq its n ∧ its.size ≤ sizeLine ∧ Vals xs its.toList
def absV : Value → Option V
  | .none => some .non
  | .bool b => some (.bl b)
  | .int i _ => some (.int i)
  | .str x _ => some (.str x)
  | .bytes b _ => some (.byt b)
  | .float b _ => some (.flt b)
  | .ref a => some (.ref a)
  | .type n => some (.ty n)
  | _ => none
theorem RelV.abs {x : V} {u : Value} (r : RelV x u) : absV u = some x := by
  cases x with
  | non => cases r; rfl
  | bl _ => cases r; rfl
  | int _ => obtain ⟨t, rfl⟩ := r; rfl
  | str _ => obtain ⟨t, rfl⟩ := r; rfl
  | byt _ => obtain ⟨t, rfl⟩ := r; rfl
  | flt _ => obtain ⟨t, rfl⟩ := r; rfl
  | ref _ => cases r; rfl
  | ty _ => cases r; rfl
theorem RelV.inj {x y : V} {u : Value} (r : RelV x u) (q : RelV y u) : x = y := Option.some.inj (r.abs.symm.trans q.abs)
theorem Vals.inj : ∀ {xs ys : List V} {us : List Value}, Vals xs us → Vals ys us → xs = ys
  | _, _, _, .nil, .nil => rfl
  | _, _, _, .cons r t, .cons r' t' => by rw [r.inj r', Vals.inj t t']
section
variable {X : Cx} {pins : List (Addr × Obj)} {σ : St} {H : Hp} {s : Shared} {a : Addr} {xs ys : List V}
theorem SqL.of {K : PySem.W.Frag} (h : H a = some (.lst xs)) : SqL K H a xs := .inl (.inl h)
theorem SqT.of {K : PySem.W.Frag} (h : H a = some (.tup xs)) : SqT K H a xs := .inl (.inl h)
theorem Inv.list (I : Inv X pins σ H s) (h : SqL X.K H a xs) : ∃ its : List Value, Vals xs its ∧ PlainL s.heap a its.toArray ∧ xs.length ≤ sizeLine := by
  rcases h with h | ⟨o, its, n, hk, hc, hd, hs, hz, r⟩
  · obtain ⟨z, its, n, r, e⟩ := h.ok I.hok
    exact ⟨its, r, ⟨_, n, e, rfl, rfl, rfl⟩, z⟩
  · refine ⟨its.toList, r, ⟨o, n, I.kIn a o hk, hc, hd, by simpa using hs⟩, ?_⟩
    have e := r.length
    simp only [Array.length_toList] at e
    omega
theorem Inv.tuple (I : Inv X pins σ H s) (h : SqT X.K H a xs) : ∃ its : List Value, Vals xs its ∧ IsTup s.heap a its.toArray ∧ xs.length ≤ sizeLine := by
  rcases h with h | ⟨o, its, n, hk, hc, hs, hz, r⟩
  · obtain ⟨z, its, r, p⟩ := h.ok I.hok
    exact ⟨its, r, p, z⟩
  · refine ⟨its.toList, r, ⟨o, I.kIn a o hk, hc, n, by simpa using hs⟩, ?_⟩
    have e := r.length
    simp only [Array.length_toList] at e
    omega
theorem Inv.list_inj (I : Inv X pins σ H s) (h : SqL X.K H a xs) (h' : SqL X.K H a ys) : xs = ys := by
  obtain ⟨its, r, ⟨o, n, e, _, _, d⟩, _⟩ := I.list h
  obtain ⟨its', r', ⟨o', n', e', _, _, d'⟩, _⟩ := I.list h'
  rw [e] at e'; cases e'
  rw [d] at d'
  injection d' with d1 _
  have : its = its' := by simpa using congrArg Array.toList d1
  subst this
  exact r.inj r'
theorem Inv.tuple_inj (I : Inv X pins σ H s) (h : SqT X.K H a xs) (h' : SqT X.K H a ys) : xs = ys := by
  obtain ⟨its, r, ⟨o, e, _, n, d⟩, _⟩ := I.tuple h
  obtain ⟨its', r', ⟨o', e', _, n', d'⟩, _⟩ := I.tuple h'
  rw [e] at e'; cases e'
  rw [d] at d'
  injection d' with d1 _
  have : its = its' := by simpa using congrArg Array.toList d1
  subst this
  exact r.inj r'
end

/-! ### another wish about exceptions -/
abbrev Cx.wish (X : Cx) (E : Value → Shared → Prop) : Cx := { X with xe := E }
/-- no exception leaves -/
abbrev Cx.nox (X : Cx) : Cx := X.wish fun _ _ => False
theorem Cx.Ok.wish {X : Cx} (ok : X.Ok) (E : Value → Shared → Prop) : (X.wish E).Ok :=
  ⟨ok.mod, ok.kind, ok.glob, ok.blt, ok.above, ok.inj, ok.has, ok.cab, ok.hd, ok.frames, ok.stk, ok.exf, ok.bs, ok.bsz, ok.noex, ok.exfs, ok.funs, ok.frf⟩
theorem Cx.Ok.unwish {X : Cx} {E : Value → Shared → Prop} (ok : (X.wish E).Ok) : X.Ok :=
  ⟨ok.mod, ok.kind, ok.glob, ok.blt, ok.above, ok.inj, ok.has, ok.cab, ok.hd, ok.frames, ok.stk, ok.exf, ok.bs, ok.bsz, ok.noex, ok.exfs, ok.funs, ok.frf⟩
section
variable {X : Cx} {pins : List (Addr × Obj)} {σ : St} {H : Hp} {s : Shared} {E : Value → Shared → Prop}
theorem Inv.wish (I : Inv X pins σ H s) (E : Value → Shared → Prop) : Inv (X.wish E) pins σ H s := ⟨I.ok.wish E, I.os, I.bare, I.base, I.loc, I.cell, I.free, I.freeC, I.pin, I.hok, I.len⟩
theorem Inv.unwish (I : Inv (X.wish E) pins σ H s) : Inv X pins σ H s := ⟨I.ok.unwish, I.os, I.bare, I.base, I.loc, I.cell, I.free, I.freeC, I.pin, I.hok, I.len⟩
theorem SP.unwish {D : Ends} {f : Flow} {s' : Shared} (h : SP (X.wish E) pins D f s') : SP X pins D f s' := by
  cases f with
  | next => obtain ⟨σ', H', I, q⟩ := h; exact ⟨σ', H', I.unwish, q⟩
  | brk => obtain ⟨σ', H', I, q⟩ := h; exact ⟨σ', H', I.unwish, q⟩
  | cont => obtain ⟨σ', H', I, q⟩ := h; exact ⟨σ', H', I.unwish, q⟩
  | ret u => obtain ⟨v, σ', H', I, r, q⟩ := h; exact ⟨v, σ', H', I.unwish, r, q⟩
theorem PE.nox {e : Expr} {t : TE} (h : PE X.nox e t) : PE X e t := fun pins s σ H Q I hw =>
  wpAny_mono (h pins s σ H Q (I.wish _) hw) (fun _ _ ⟨v, H', I', r, q⟩ => ⟨v, H', I'.unwish, r, q⟩) fun _ _ z => False.elim z
theorem PT.nox {e : Expr} {t : TT} (h : PT X.nox e t) : PT X e t := fun pins s σ H Q I hw =>
  wpAny_mono (h pins s σ H Q (I.wish _) hw) (fun _ _ ⟨H', I', q⟩ => ⟨H', I'.unwish, q⟩) fun _ _ z => False.elim z
theorem PSs.nox {st : List Stmt} {t : TS} (h : PSs X.nox st t) : PSs X st t := fun pins s σ H D I hw =>
  wpAny_mono (h pins s σ H D (I.wish _) hw) (fun _ _ q => q.unwish) fun _ _ z => False.elim z
end

/-! ### blocks and small statements -/
section
variable {X : Cx} {st : Stmt} {rest : List Stmt} {t u : TS} {e : Expr} {te : TE} {pos : Pos}
def tNext : TS := fun D σ H => D.nx σ H
def tSeq (t u : TS) : TS := fun D σ H => t { D with nx := u D } σ H
theorem pss_nil : PSs X [] tNext := fun _ _ σ H _ I h => wpAny_execs_nil ⟨σ, H, I, h⟩
theorem pss_cons (h1 : PS X st t) (h2 : PSs X rest u) : PSs X (st :: rest) (tSeq t u) := by
  intro pins s σ H D I h
  refine wpAny_execs_cons (thn (h1 pins s σ H { D with nx := u D } I h) fun f s1 q => ?_)
  cases f with
  | next =>
    obtain ⟨σ', H', I', q⟩ := q
    exact h2 pins s1 σ' H' D I' q
  | ret v => exact q
  | brk => exact q
  | cont => exact q
theorem pss_one (h1 : PS X st t) : PSs X [st] t := by
  intro pins s σ H D I h
  refine wpAny_execs_cons (thn (h1 pins s σ H D I h) fun f s1 q => ?_)
  cases f with
  | next => exact wpAny_execs_nil q
  | ret v => exact q
  | brk => exact q
  | cont => exact q
def tBreak : TS := fun D σ H => D.bk σ H
def tCont : TS := fun D σ H => D.ct σ H
theorem ps_pass : PS X (.Pass pos) tNext := fun _ _ σ H _ I h => wpAny_Pass ⟨σ, H, I, h⟩
theorem ps_break : PS X (.Break pos) tBreak := fun _ _ σ H _ I h => wpAny_Break ⟨σ, H, I, h⟩
theorem ps_continue : PS X (.Continue pos) tCont := fun _ _ σ H _ I h => wpAny_Continue ⟨σ, H, I, h⟩
/-- in a def's body nothing is shown -/
theorem Inv.quiet {pins : List (Addr × Obj)} {σ : St} {H : Hp} {s : Shared} (I : Inv X pins σ H s) : interactive X.env = false := by simp [interactive, I.ok.kind]
/-- a docstring -/
theorem ps_doc {x j pos pos'} : PS X (.Expr (.Constant (.str x) j pos) pos') tNext := fun _ s σ H _ I h => wpAny_Expr (Calls.Constant_str (show SP X _ _ .next { s with toks := s.toks + 1 } from ⟨σ, H, I.tok _, h⟩)) I.quiet
/-- an expression whose value is dropped -/
def tDrop (te : TE) : TS := fun D σ H => te σ H fun _ H1 => D.nx σ H1
theorem ps_expr (he : PE X e te) (hs : swapsWith e none pos.line X.env = pure false := by rfl) : PS X (.Expr e pos) (tDrop te) := by
  intro pins s σ H D I h
  exact wpAny_Expr_any (thn (he pins s σ H _ I h) fun v s1 ⟨x, H1, I1, r1, q1⟩ => ⟨σ, H1, I1, q1⟩) I.quiet hs
def tRet (te : TE) : TS := fun D σ H => te σ H D.rt
theorem ps_ret (he : PE X e te) : PS X (.Return (some e) pos) (tRet te) := by
  intro pins s σ H D I h
  exact wpAny_Return_some (thn (he pins s σ H _ I h) fun v s1 ⟨x, H1, I1, r1, q1⟩ => ⟨x, σ, H1, I1, r1, q1⟩)
def tRetN : TS := fun D _ H => D.rt .non H
theorem ps_retN : PS X (.Return none pos) tRetN := fun _ _ σ H _ I h => wpAny_Return_none ⟨.non, σ, H, I, rfl, h⟩
def tIfS (c : TT) (t u : TS) : TS := fun D σ H => c σ H fun b H1 => if b = true then t D σ H1 else u D σ H1
theorem ps_if {c : Expr} {a b : List Stmt} {tc : TT} (hc : PT X c tc) (ha : PSs X a t) (hb : PSs X b u) : PS X (.If c a b pos) (tIfS tc t u) := by
  intro pins s σ H D I h
  refine wpAny_If (thn (hc pins s σ H _ I h) fun d s1 ⟨H1, I1, q1⟩ => ?_)
  cases d with
  | true => exact ha pins s1 σ H1 D I1 q1
  | false => exact hb pins s1 σ H1 D I1 q1
/-- code that the proof never comes to -/
def tNever : TS := fun _ _ _ => False
theorem ps_never : PS X st tNever := fun _ _ _ _ _ _ h => h.elim
theorem pss_never {sts : List Stmt} : PSs X sts tNever := fun _ _ _ _ _ _ h => h.elim
end

/-! ### targets -/
abbrev TG := V → St → Hp → (St → Hp → Prop) → Prop
abbrev TGs := List V → St → Hp → (St → Hp → Prop) → Prop
def PG (X : Cx) (target : Expr) (t : TG) : Prop :=
  ∀ (pins : List (Addr × Obj)) (s : Shared) (σ : St) (H : Hp) (v : V) (u : Value) (Q : St → Hp → Prop), Inv X pins σ H s → RelV v u → t v σ H Q →
    wpAny (model X.prog X.w) X.A (assign target X.env u) (fun _ s' => ∃ σ' H', Inv X pins σ' H' s' ∧ Q σ' H') X.xe s
/-- several targets, one after another -/
def PGs (X : Cx) (ts : List Expr) (t : TGs) : Prop :=
  ∀ (pins : List (Addr × Obj)) (s : Shared) (σ : St) (H : Hp) (vs : List V) (us : List Value) (Q : St → Hp → Prop), Inv X pins σ H s → Vals vs us → t vs σ H Q →
    wpAny (model X.prog X.w) X.A (assignInOrder ((assignEach ts X.env).map (·.2)) us) (fun _ s' => ∃ σ' H', Inv X pins σ' H' s' ∧ Q σ' H') X.xe s
/-- o[i] = v, by values -/
abbrev TSet := V → V → V → Hp → (Hp → Prop) → Prop
def PSet (X : Cx) (t : TSet) : Prop :=
  ∀ (pins : List (Addr × Obj)) (s : Shared) (σ : St) (H : Hp) (o i v : V) (ov iv u : Value) (Q : Hp → Prop), Inv X pins σ H s → RelV o ov → RelV i iv → RelV v u → t o i v H Q →
    wpAny (model X.prog X.w) X.A (setItem ov iv u) (fun _ s' => ∃ H', Inv X pins σ H' s' ∧ Q H') X.xe s
/-- a op= b, by values -/
abbrev TIp := V → V → Hp → VK → Prop
def PIp (X : Cx) (op : Operator) (t : TIp) : Prop :=
  ∀ (pins : List (Addr × Obj)) (s : Shared) (σ : St) (H : Hp) (x y : V) (v u : Value) (Q : VK), Inv X pins σ H s → RelV x v → RelV y u → t x y H Q →
    wpAny (model X.prog X.w) X.A (inplaceOp op v u) (EP X pins σ Q) X.xe s
section
variable {X : Cx} {pos : Pos}
def gName (i : Nat) : TG := fun v σ H Q => Q (σ.set i (some v)) H
theorem pg_name {i : Nat} {x : Str} (hN : X.N.Nodup) (hi : X.N[i]? = some x) (hx : Loc X.env.scope x) (hf : X.fn x = true ∨ X.env.scope.names.lookup x = some .local := by first | exact .inl rfl | exact .inr rfl | assumption) : PG X (.Name x pos) (gName i) := by
  intro pins s σ H v u Q I r h
  exact wpAny_assign_Name (store_ok I hN hi hx r (fun s' I' => ⟨_, H, I', h⟩) hf)
def gNil : TGs := fun vs σ H Q => vs = [] ∧ Q σ H
def gCons (t : TG) (u : TGs) : TGs := fun vs σ H Q => ∃ v r, vs = v :: r ∧ t v σ H fun σ' H' => u r σ' H' Q
theorem pgs_nil : PGs X [] gNil := by
  intro pins s σ H vs us Q I r h
  obtain ⟨e, h⟩ := h
  subst e
  cases r
  exact assignInOrder_nil ⟨σ, H, I, h⟩
theorem pgs_cons {e : Expr} {es : List Expr} {t : TG} {u : TGs} (h1 : PG X e t) (h2 : PGs X es u)
    (hs : (assignEach (e :: es) X.env).map (·.2) = assign e X.env :: (assignEach es X.env).map (·.2) := by rfl) : PGs X (e :: es) (gCons t u) := by
  intro pins s σ H vs us Q I r h
  obtain ⟨v, vr, e1, h⟩ := h
  subst e1
  cases r with
  | cons r rr =>
    rw [hs]
    refine assignInOrder_cons (thn (h1 pins s σ H _ _ _ I r h) fun _ s1 ⟨σ1, H1, I1, q1⟩ => ?_)
    exact h2 pins s1 σ1 H1 _ _ Q I1 rr q1
/-- (a, b, ..) = a tuple of that length -/
def gTup (K : PySem.W.Frag) (n : Nat) (t : TGs) : TG := fun v σ H Q => ∃ a xs, v = .ref a ∧ SqT K H a xs ∧ xs.length = n ∧ t xs σ H Q
theorem pg_tup {es : List Expr} {k : Nat} {t : TGs} {n : Nat} (hc : X.calm = true) (h : PGs X es t)
    (hn : (assignEach es X.env).length = n := by rfl) (hst : (assignEach es X.env).findIdx? (·.1) = none := by rfl) : PG X (.Tuple es k pos) (gTup X.K n t) := by
  intro pins s σ H v u Q I r hw
  obtain ⟨a, xs, e1, hq, hl, hw⟩ := hw
  subst e1
  cases r
  obtain ⟨its, rv, ht, hz⟩ := I.tuple hq
  refine assign_Tuple_tuple (I.ok.hd hc) ht (by simp [hn, ← hl, rv.length]) hst fun h' hx => ?_
  have I1 : Inv X pins σ H { s with heap := h' } := I.kept (t' := s.toks) fun b o e => hx b o (Nat.ne_of_lt (Heap.lt_size e)) e
  exact h pins _ σ H xs _ Q I1 (by simpa using rv) hw
/-- o[i] = .. -/
def gSub (to ti : TE) (t : TSet) : TG := fun v σ H Q => to σ H fun o H1 => ti σ H1 fun i H2 => t o i v H2 fun H3 => Q σ H3
theorem pg_sub {o i : Expr} {to ti : TE} {t : TSet} (ho : PE X o to) (hi : PE X i ti) (hs : PSet X t)
    (ha : ∀ v, assign (.Subscript o i pos) X.env v = (do
      let ov ← holding [v] (eval o X.env)
      let iv ← holding [v, ov] (eval i X.env)
      standAt pos
      holding [v, ov, iv] (setItem ov iv v)
      release [v, ov, iv] []) := by intro _; rfl) : PG X (.Subscript o i pos) (gSub to ti t) := by
  intro pins s σ H v u Q I r h
  rw [ha]
  refine wpAny_bind (wpAny_holding (thn (ho pins s σ H _ I h) fun ov s1 ⟨x, H1, I1, r1, q1⟩ => ?_))
  refine wpAny_bind (wpAny_holding (thn (hi pins s1 σ H1 _ I1 q1) fun iv s2 ⟨y, H2, I2, r2, q2⟩ => ?_))
  refine wpAny_bind (wpAny_standAt (wpAny_bind (wpAny_holding (thn (hs pins s2 σ H2 x y v ov iv u _ I2 r1 r2 r q2) fun _ s3 ⟨H3, I3, q3⟩ => ?_))))
  exact wpAny_release ⟨σ, H3, I3, q3⟩
/-- target = value -/
def tAsg (te : TE) (g : TG) : TS := fun D σ H => te σ H fun x H1 => g x σ H1 D.nx
theorem ps_asg {tg e : Expr} {te : TE} {g : TG} (he : PE X e te) (hg : PG X tg g) (hs : swapsWithSole [tg] e pos.line X.env = pure false := by rfl) (hw : swappedStores [tg] e X.env = pure none := by rfl)
    (h1 : (assignEach [tg] X.env).map (·.2) = [assign tg X.env] := by rfl) : PS X (.Assign [tg] e pos) (tAsg te g) := by
  intro pins s σ H D I h
  refine wpAny_Assign_stores (thn (he pins s σ H _ I h) fun v s1 ⟨x, H1, I1, r1, q1⟩ => ?_) hs hw
  rw [h1]
  exact thn (hg pins s1 σ H1 x v _ I1 r1 q1) fun _ s2 q => q
/-- name = value -/
theorem ps_set {i : Nat} {x : Str} {e : Expr} {te : TE} {pos' : Pos} (hN : X.N.Nodup) (hi : X.N[i]? = some x) (hx : Loc X.env.scope x) (he : PE X e te) (hs : swapsWith e (some (.Name x pos')) pos.line X.env = pure false := by rfl) (hf : X.fn x = true ∨ X.env.scope.names.lookup x = some .local := by first | exact .inl rfl | exact .inr rfl | assumption) :
    PS X (.Assign [.Name x pos'] e pos) (tAsg te (gName i)) := by
  intro pins s σ H D I h
  refine wpAny_Assign_Name (thn (he pins s σ H _ I h) fun v s1 ⟨y, H1, I1, r1, q1⟩ => ?_) hs
  exact store_ok I1 hN hi hx r1 (fun s2 I2 => ⟨_, H1, I2, q1⟩) hf
/-- a, b = x, y with plain local names: stored from the right; the pair itself is not tracked (the opening rows as in PyProof/Rows/TupAssign.lean:23) -/
def tPar (i j : Nat) (ta : TA) : TS := fun D σ H => ta σ H fun vs H1 => ∃ v w, vs = [v, w] ∧ D.nx ((σ.set i (some v)).set j (some w)) H1
theorem ps_par {i j : Nat} {x y : Str} {a b : Expr} {ta : TA} {px py pt : Pos} {kt k2 pt2} (hc : X.calm = true) (hN : X.N.Nodup) (hi : X.N[i]? = some x) (hj : X.N[j]? = some y) (hij : i ≠ j)
    (hx : X.env.scope.names.lookup x = some .local) (hy : X.env.scope.names.lookup y = some .local) (ha : PA X [a, b] ta)
    (hw : swappedStores [.Tuple [.Name x px, .Name y py] kt pt] (.Tuple [a, b] k2 pt2) X.env = pure (some [x, y]))
    (hs : swapsWithSole [.Tuple [.Name x px, .Name y py] kt pt] (.Tuple [a, b] k2 pt2) pos.line X.env = pure false := by rfl) :
    PS X (.Assign [.Tuple [.Name x px, .Name y py] kt pt] (.Tuple [a, b] k2 pt2) pos) (tPar i j ta) := by
  intro pins s σ H D I h
  rw [exec_Assign_arm]
  refine wpAny_bind (wpAny_standAt ?_)
  rw [hs]
  refine wpAny_bind (wpAny_pure ?_)
  rw [if_neg (by decide)]
  refine wpAny_bind (Tuple_ (thn (ha _ pins s σ H _ I h) fun us s1 ⟨vs, H1, I1, r1, q1⟩ => ?_))
  obtain ⟨v, w, e1, q1⟩ := q1
  subst e1
  obtain ⟨u1, u2, rfl, rv, rw'⟩ : ∃ u1 u2, us = [u1, u2] ∧ RelV v u1 ∧ RelV w u2 := by
    cases r1 with
    | cons p q =>
      cases q with
      | cons p' q' =>
        cases q'
        exact ⟨_, _, rfl, p, p'⟩
  refine wpAny_newObj_type ?_ (by show 2 ≤ sizeLine; decide)
  have I2 : Inv X pins σ H1 { s1 with heap := s1.heap.push { cls := .type "tuple", data := .seq [u1, u2].toArray } } := I1.kept (t' := s1.toks) fun b o e => Heap.get?_push_of_some _ e
  rw [hw]
  refine wpAny_bind (wpAny_pure ?_)
  show wpAny (model X.prog X.w) X.A (do rule "assign.swapped-stores"; let items ← unpackItems (.ref s1.heap.objs.size) 2 none; assignInOrder [fun v => bindName X.env y v, fun v => bindName X.env x v] items.reverse; pure Flow.next) _ _ _
  refine wpAny_bind (wpAny_rule (wpAny_bind (unpackItems_tuple (items := #[u1, u2]) (I.ok.hd hc) (IsTup.new s1.heap _) fun h' hx' => ?_)))
  have I3 := I2.kept (h' := h') (t' := s1.toks) fun b o e => hx' b o (Nat.ne_of_lt (Heap.lt_size e)) e
  show wpAny _ _ (assignInOrder [fun v => bindName X.env y v, fun v => bindName X.env x v] [u2, u1] >>= fun _ => pure Flow.next) _ _ _
  refine wpAny_bind (assignInOrder_cons (wpAny_bindName (store_ok I3 hN hj (.inl hy) rw' (fun s2 I4 => ?_) (.inr hy))))
  refine assignInOrder_cons (wpAny_bindName (store_ok I4 hN hi (.inl hx) rv (fun s3 I5 => assignInOrder_nil (wpAny_pure ?_)) (.inr hx)))
  rw [List.set_comm _ _ (Ne.symm hij)] at I5
  exact ⟨_, H1, I5, q1⟩
/-- name op= e -/
def tAug (i : Nat) (te : TE) (ti : TIp) : TS := fun D σ H => ∃ x, σ[i]? = some (some x) ∧ te σ H fun y H1 => ti x y H1 fun z H2 => D.nx (σ.set i (some z)) H2
theorem ps_aug {i : Nat} {x : Str} {e : Expr} {te : TE} {op : Operator} {ti : TIp} {pos' : Pos} (hN : X.N.Nodup) (hi : X.N[i]? = some x) (hx : Loc X.env.scope x) (he : PE X e te) (ho : PIp X op ti) (hf : X.fn x = true ∨ X.env.scope.names.lookup x = some .local := by first | exact .inl rfl | exact .inr rfl | assumption) :
    PS X (.AugAssign (.Name x pos') op e pos) (tAug i te ti) := by
  intro pins s σ H D I h
  obtain ⟨v, e1, h⟩ := h
  obtain ⟨m, hn, hl⟩ := I.loc
  have vis : Vis X.env.scope x := by rcases hx with k | k; exact .inl k; exact .inr (.inl k)
  obtain ⟨u, r, l⟩ := hl i x v hi e1 vis
  refine wpAny_AugAssign_Name ?_
  have go : wpAny (model X.prog X.w) X.A (eval e X.env) (fun w s₂ => wpAny (model X.prog X.w) X.A (inplaceOp op u w) (fun r s₃ => wpAny (model X.prog X.w) X.A (storeName X.env x r) (fun _ => SP X pins D .next) X.xe s₃) X.xe s₂) X.xe s := by
    refine thn (he pins s σ H _ I h) fun w s1 ⟨y, H1, I1, r1, q1⟩ => ?_
    refine thn (ho pins s1 σ H1 v y u w _ I1 r r1 q1) fun z s2 ⟨zv, H2, I2, r2, q2⟩ => ?_
    exact store_ok I2 hN hi hx r2 (fun s3 I3 => ⟨_, H2, I3, q2⟩) hf
  rcases l with ⟨hk, hm⟩ | ⟨hk, c, hc, hcell⟩
  · exact wpAny_loadName_local I.ok.kind hk hn hm go
  · rcases hk with hk | hk
    · exact wpAny_loadName_cell I.ok.kind hk hc hcell go
    · rcases hx with k | k
      · have : X.env.scope.names.lookup x = some .free := hk
        rw [k] at this; cases this
      · have : X.env.scope.names.lookup x = some .free := hk
        rw [k] at this; cases this
/-- o[i] op= e -/
def tAugS (to ti te : TE) (tget : V → V → Hp → VK → Prop) (tip : TIp) (tset : TSet) : TS := fun D σ H => to σ H fun o H1 => ti σ H1 fun i H2 => tget o i H2 fun x H3 => te σ H3 fun y H4 => tip x y H4 fun z H5 => tset o i z H5 fun H6 => D.nx σ H6
/-- o[i], by values -/
def PGet (X : Cx) (t : V → V → Hp → VK → Prop) : Prop :=
  ∀ (pins : List (Addr × Obj)) (s : Shared) (σ : St) (H : Hp) (o i : V) (ov iv : Value) (Q : VK), Inv X pins σ H s → RelV o ov → RelV i iv → t o i H Q →
    wpAny (model X.prog X.w) X.A (getItem ov iv) (EP X pins σ Q) X.xe s
theorem ps_augS {o i e : Expr} {to ti te : TE} {tget : V → V → Hp → VK → Prop} {tip : TIp} {tset : TSet} {op : Operator} {tpos : Pos} (ho : PE X o to) (hi : PE X i ti) (hg : PGet X tget) (he : PE X e te) (hp : PIp X op tip) (hs : PSet X tset)
    (ha : ∀ ov iv new, augStore i ov iv new = (do holding [new, ov, iv] (setItem ov iv new); release [new, ov, iv] []; pure .next) := by intros; rfl) : PS X (.AugAssign (.Subscript o i tpos) op e pos) (tAugS to ti te tget tip tset) := by
  intro pins s σ H D I h
  refine wpAny_AugAssign_SubscriptAny (thn (ho pins s σ H _ I h) fun ov s1 ⟨x1, H1, I1, r1, q1⟩ => ?_) ha
  refine thn (hi pins s1 σ H1 _ I1 q1) fun iv s2 ⟨x2, H2, I2, r2, q2⟩ => ?_
  refine thn (hg pins s2 σ H2 x1 x2 ov iv _ I2 r1 r2 q2) fun old s3 ⟨x3, H3, I3, r3, q3⟩ => ?_
  refine thn (he pins s3 σ H3 _ I3 q3) fun v s4 ⟨x4, H4, I4, r4, q4⟩ => ?_
  refine thn (hp pins s4 σ H4 x3 x4 old v _ I4 r3 r4 q4) fun new s5 ⟨x5, H5, I5, r5, q5⟩ => ?_
  exact thn (hs pins s5 σ H5 x1 x2 x5 ov iv new _ I5 r1 r2 r5 q5) fun _ s6 ⟨H6, I6, q6⟩ => ⟨σ, H6, I6, q6⟩
/-- ints -/
def ipI (f : Int → Int → Int) : TIp := fun x y H Q => ∃ i j, x = .int i ∧ y = .int j ∧ Q (.int (f i j)) H
theorem ip_add : PIp X .Add (ipI fun i j => i + j) := by
  intro pins s σ H x y v u Q I r1 r2 h
  obtain ⟨i, j, e1, e2, q⟩ := h
  subst e1; subst e2
  obtain ⟨t, rfl⟩ := r1
  obtain ⟨t', rfl⟩ := r2
  exact iadd_int ⟨.int _, H, I.tok _, ⟨_, rfl⟩, q⟩
theorem ip_sub : PIp X .Sub (ipI fun i j => i - j) := by
  intro pins s σ H x y v u Q I r1 r2 h
  obtain ⟨i, j, e1, e2, q⟩ := h
  subst e1; subst e2
  obtain ⟨t, rfl⟩ := r1
  obtain ⟨t', rfl⟩ := r2
  exact isub_int ⟨.int _, H, I.tok _, ⟨_, rfl⟩, q⟩
end

/-! ### while -/
section
variable {X : Cx} {pos : Pos}
/-- the invariant W with its measure -/
def tWhile (c : TT) (tb : TS) : TS := fun D σ H => ∃ W : Nat → St → Hp → Prop, (∃ m, W m σ H) ∧ ∀ m σ H, W m σ H →
  c σ H fun b H1 => if b = true then ∃ N : St → Hp → Prop, (∀ σ' H', N σ' H' → ∃ m', m' < m ∧ W m' σ' H') ∧ tb { D with nx := N, ct := N, bk := D.nx } σ H1 else D.nx σ H1
theorem ps_while {c : Expr} {body : List Stmt} {tc : TT} {tb : TS} (hp : PassesOwn (model X.prog X.w) X.A X.env X.xe) (hc : PT X c tc) (hb : PSs X body tb) : PS X (.While c body [] pos) (tWhile tc tb) := by
  intro pins s σ H D I h
  obtain ⟨W, ⟨m0, w0⟩, turn⟩ := h
  refine wpAny_While (codeAny_whileLoop (fun n s' => ∃ σ' H', Inv X pins σ' H' s' ∧ W n σ' H') ?_ m0 ⟨σ, H, I, w0⟩)
  rintro n s1 ⟨σ1, H1, I1, w1⟩
  refine wpAny_passesOwn hp (thn (hc pins s1 σ1 H1 _ I1 (turn n σ1 H1 w1)) fun b s2 ⟨H2, I2, q2⟩ => ?_)
  cases b with
  | true =>
    obtain ⟨N, hN, q2⟩ := q2
    rw [if_pos rfl]
    refine wpAny_passesOwn hp (thn (hb pins s2 σ1 H2 _ I2 q2) fun f s3 q3 => ?_)
    cases f with
    | next =>
      obtain ⟨σ3, H3, I3, n3⟩ := q3
      obtain ⟨m', hm, w3⟩ := hN σ3 H3 n3
      exact ⟨m', hm, σ3, H3, I3, w3⟩
    | cont =>
      obtain ⟨σ3, H3, I3, n3⟩ := q3
      obtain ⟨m', hm, w3⟩ := hN σ3 H3 n3
      exact ⟨m', hm, σ3, H3, I3, w3⟩
    | brk => exact q3
    | ret v => exact q3
  | false =>
    rw [if_neg Bool.false_ne_true]
    exact wpAny_execs_nil ⟨σ1, H2, I2, q2⟩
end

/-! ### what a loop or a comprehension walks -/
/-- at turn i: it yields x (the heap may grow), or it stops -/
structure It where
  go : Nat → Hp → Prop
  yld : Nat → Hp → V → Hp → Prop
  stop : Nat → Hp → Prop
/-- the iterator's own objects may turn: they are not the frame's, not pinned, younger than the entry (or a comprehension's own) -/
def FpOk (X : Cx) (pins : List (Addr × Obj)) (H : Hp) (b : Addr) : Prop :=
  H b = none ∧ b ≠ X.env.locals ∧ b ∉ X.fs ∧ (b ∈ X.ex ∨ X.s₀.heap.objs.size ≤ b) ∧ (∀ x c, X.env.cells.lookup x = some c → c ≠ b) ∧ ∀ p ∈ X.pn ++ pins, p.1 ≠ b
theorem Inv.fpOk {X : Cx} {pins : List (Addr × Obj)} {σ : St} {H H' : Hp} {s : Shared} {b : Addr} (I : Inv X pins σ H s) (hb : s.heap.objs.size ≤ b) (hn : H' b = none) : FpOk X pins H' b := by
  refine ⟨hn, Nat.ne_of_gt (Nat.lt_of_lt_of_le I.lt hb), I.nofs hb, .inr (Nat.le_trans I.sz hb), fun x c e z => ?_, fun p hp z => ?_⟩
  · obtain ⟨v, q⟩ := I.cell x c e
    exact absurd (Nat.lt_of_lt_of_le q.lt (by rw [z]; exact hb)) (Nat.lt_irrefl _)
  · exact absurd (Nat.lt_of_lt_of_le (Heap.lt_size (I.pin p hp).1) (by rw [z]; exact hb)) (Nat.lt_irrefl _)
structure Turn (P : Program) (w : World) (K : PySem.W.Frag) (tg : Expr) (J : It) (fp : List Addr) (it : Addr) (tn : Nat → Heap → Prop) : Prop where
  mem : it ∈ fp
  obj : ∀ i h, tn i h → ∀ b ∈ fp, ∃ o, h.get? b = some o ∧ ∀ v, o.data ≠ .cell v
  keep : ∀ i h h', tn i h → (∀ b ∈ fp, ∀ o, h.get? b = some o → h'.get? b = some o) → tn i h'
  item : ∀ (X : Cx), X.prog = P → X.w = w → X.K = K → X.calm = true → ∀ (i : Nat) (pins : List (Addr × Obj)) (s : Shared) (σ : St) (H : Hp) (E : Value → Shared → Prop), Inv X pins σ H s → (∀ b ∈ fp, FpOk X pins H b) → tn i s.heap → J.go i H →
    wpAny (model P w) X.A (pyNext (.ref it)) (fun r s1 => ∃ u, r = some u ∧
      wpAny (model P w) X.A (letOwnedTupleGo tg (.ref it) u) (fun _ s2 => ∃ x H', Inv X pins σ H' s2 ∧ RelV x u ∧ J.yld i H x H' ∧ tn (i + 1) s2.heap ∧ ∀ b ∈ fp, H' b = none) E s1) E s
  done : ∀ (X : Cx), X.prog = P → X.w = w → X.K = K → X.calm = true → ∀ (i : Nat) (pins : List (Addr × Obj)) (s : Shared) (σ : St) (H : Hp) (E : Value → Shared → Prop), Inv X pins σ H s → (∀ b ∈ fp, FpOk X pins H b) → tn i s.heap → J.stop i H →
    wpAny (model P w) X.A (pyNext (.ref it)) (fun r s1 => r = none ∧ Inv X pins σ H s1) E s
  self : ∀ (A : Around) (i : Nat) (s : Shared) (Q : Value → Shared → Prop) (E : Value → Shared → Prop), tn i s.heap → Q (.ref it) s → wpAny (model P w) A (pyIter (.ref it)) Q E s
abbrev TI := St → Hp → (It → Hp → Prop) → Prop
/-- an iterator has come -/
def PIE (X : Cx) (pins : List (Addr × Obj)) (σ : St) (tg : Expr) (R : It → Hp → Prop) (itv : Value) (s2 : Shared) : Prop :=
  ∃ (it : Addr) (fp : List Addr) (tn : Nat → Heap → Prop) (J : It) (H' : Hp), itv = .ref it ∧ Inv X pins σ H' s2 ∧ Turn X.prog X.w X.K tg J fp it tn ∧ tn 0 s2.heap ∧ (∀ b ∈ fp, FpOk X pins H' b) ∧ R J H'
def PI (X : Cx) (tg iter : Expr) (wi : TI) : Prop :=
  ∀ (pins : List (Addr × Obj)) (s : Shared) (σ : St) (H : Hp) (R : It → Hp → Prop), Inv X pins σ H s → wi σ H R →
    wpAny (model X.prog X.w) X.A (eval iter X.env) (fun v s1 => wpAny (model X.prog X.w) X.A (pyIter v) (PIE X pins σ tg R) X.xe s1) X.xe s

/-- the step ahead of the store is nothing for an iterator that keeps no tuple -/
theorem go_of {M : Model} {A : Around} {E : Value → Shared → Prop} {s : Shared} {tg : Expr} {it : Addr} {u : Value} {o : Obj} {n : String} {vs : Array Value} {Q : Unit → Shared → Prop} (ho : s.heap.get? it = some o) (hc : o.cls = .type n) (hd : o.data = .fields vs)
    (hn : ["enumerate", "zip", "dict_itemiterator", "dict_reverseitemiterator", "odict_iterator", "itertools.zip_longest", "itertools.pairwise"].contains n = false) (hQ : Q () s) : wpAny M A (letOwnedTupleGo tg (.ref it) u) Q E s := by
  unfold letOwnedTupleGo
  cases tg <;> first
    | exact wpAny_pure hQ
    | (cases u <;> first
        | exact wpAny_pure hQ
        | (refine wpAny_bind (wpAny_load ho ?_)
           rw [hc, hd]
           show wpAny M A (if (["enumerate", "zip", "dict_itemiterator", "dict_reverseitemiterator", "odict_iterator", "itertools.zip_longest", "itertools.pairwise"].contains n && vs[0]? == some (rawInt _)) = true then _ else _) Q E s
           rw [if_neg (by intro h; rw [hn, Bool.false_and] at h; cases h)]
           exact wpAny_pure hQ))

/-- the list at a, as it stands at each turn (a loop may append to it) -/
def Itl (K : PySem.W.Frag) (a : Addr) : It :=
  ⟨fun i H => ∃ xs x, SqL K H a xs ∧ xs[i]? = some x, fun i H x H' => H' = H ∧ ∀ xs, SqL K H a xs → xs[i]? = some x, fun i H => ∃ xs, SqL K H a xs ∧ xs.length ≤ i⟩
def Itt (K : PySem.W.Frag) (a : Addr) : It :=
  ⟨fun i H => ∃ xs x, SqT K H a xs ∧ xs[i]? = some x, fun i H x H' => H' = H ∧ ∀ xs, SqT K H a xs → xs[i]? = some x, fun i H => ∃ xs, SqT K H a xs ∧ xs.length ≤ i⟩
/-- lo, lo + 1, .. (n of them) -/
def Itr (lo : Int) (n : Nat) : It := ⟨fun i _ => i < n, fun i H x H' => H' = H ∧ x = .int (lo + i), fun i _ => n ≤ i⟩
theorem turn_list {P : Program} {w : World} {K : PySem.W.Frag} {tg : Expr} (a it : Addr) : Turn P w K tg (Itl K a) [it] it (fun i h => h.IsListIter it a i) where
  mem := by simp
  obj := fun i h st b hb => by
    have e : b = it := by simpa using hb
    subst e
    obtain ⟨o, e, c, d⟩ := st
    exact ⟨o, e, fun v z => by rw [d] at z; cases z⟩
  keep := fun i h h' st k => st.at fun o e => k it (by simp) o e
  item := by
    intro X hP hw hK hc i pins s σ H E I hf st hg
    subst hP hw hK
    obtain ⟨xs, x, hq, hx⟩ := hg
    obtain ⟨its, rv, p, hz⟩ := I.list hq
    obtain ⟨u, hu, ru⟩ := rv.get hx
    obtain ⟨f0, f1, f2, f3, f4, f5⟩ := hf it (by simp)
    refine wpAny_pyNext_list_item st p.isList (x := u) (by simpa using hu) fun h' st' sb => ?_
    have I1 : Inv X pins σ H { s with heap := h' } := I.turned (t' := s.toks) (fun b o hb e => (sb.2 b hb).trans e) f0 f1 f3 f4 f5
    obtain ⟨o, e, c, d⟩ := id st'
    exact ⟨u, rfl, go_of (s := { s with heap := h' }) e c d (by decide) ⟨x, H, I1, ru, ⟨rfl, fun ys hy => by rw [I.list_inj hy hq]; exact hx⟩, st', fun b hb => (hf b hb).1⟩⟩
  done := by
    intro X hP hw hK hc i pins s σ H E I hf st hg
    subst hP hw hK
    obtain ⟨xs, hq, hx⟩ := hg
    obtain ⟨its, rv, p, hz⟩ := I.list hq
    obtain ⟨f0, f1, f2, f3, f4, f5⟩ := hf it (by simp)
    have hl := rv.length
    exact wpAny_pyNext_list_end (I.ok.hd hc) st p.isList (by simp; omega) fun h' eb => ⟨rfl, I.turned (t' := s.toks) (fun b o hb e => eb b o hb e) f0 f1 f3 f4 f5⟩
  self := fun _ _ _ _ _ st h => wpAny_pyIter_listiter st h
theorem turn_tuple {P : Program} {w : World} {K : PySem.W.Frag} {tg : Expr} (a it : Addr) : Turn P w K tg (Itt K a) [it] it (fun i h => h.IsTupleIter it a i) where
  mem := by simp
  obj := fun i h st b hb => by
    have e : b = it := by simpa using hb
    subst e
    obtain ⟨o, e, c, d⟩ := st
    exact ⟨o, e, fun v z => by rw [d] at z; cases z⟩
  keep := fun i h h' st k => st.at fun o e => k it (by simp) o e
  item := by
    intro X hP hw hK hc i pins s σ H E I hf st hg
    subst hP hw hK
    obtain ⟨xs, x, hq, hx⟩ := hg
    obtain ⟨its, rv, p, hz⟩ := I.tuple hq
    obtain ⟨u, hu, ru⟩ := rv.get hx
    obtain ⟨f0, f1, f2, f3, f4, f5⟩ := hf it (by simp)
    refine wpAny_pyNext_tuple_item st (show s.heap.IsTuple a its.toArray from p) (x := u) (by simpa using hu) fun h' st' sb => ?_
    have I1 : Inv X pins σ H { s with heap := h' } := I.turned (t' := s.toks) (fun b o hb e => (sb.2 b hb).trans e) f0 f1 f3 f4 f5
    obtain ⟨o, e, c, d⟩ := id st'
    exact ⟨u, rfl, go_of (s := { s with heap := h' }) e c d (by decide) ⟨x, H, I1, ru, ⟨rfl, fun ys hy => by rw [I.tuple_inj hy hq]; exact hx⟩, st', fun b hb => (hf b hb).1⟩⟩
  done := by
    intro X hP hw hK hc i pins s σ H E I hf st hg
    subst hP hw hK
    obtain ⟨xs, hq, hx⟩ := hg
    obtain ⟨its, rv, p, hz⟩ := I.tuple hq
    obtain ⟨f0, f1, f2, f3, f4, f5⟩ := hf it (by simp)
    have hl := rv.length
    exact wpAny_pyNext_tuple_end (I.ok.hd hc) st (show s.heap.IsTuple a its.toArray from p) (by simp; omega) fun h' eb => ⟨rfl, I.turned (t' := s.toks) (fun b o hb e => eb b o hb e) f0 f1 f3 f4 f5⟩
  self := fun _ _ _ _ _ st h => wpAny_pyIter_tupleiter st h
theorem turn_range {P : Program} {w : World} {K : PySem.W.Frag} {tg : Expr} (it : Addr) (lo : Int) (n : Nat) : Turn P w K tg (Itr lo n) [it] it (fun i h => IsRangeIter h it (lo + (i : Nat) * 1) ((n : Int) - (i : Nat)) 1) where
  mem := by simp
  obj := fun i h st b hb => by
    have e : b = it := by simpa using hb
    subst e
    exact ⟨_, st, fun v z => by
      have z' : Data.fields _ = Data.cell v := z
      cases z'⟩
  keep := fun i h h' st k => k it (by simp) _ st
  item := by
    intro X hP hw hK hc i pins s σ H E I hf st hg
    subst hP hw hK
    obtain ⟨f0, f1, f2, f3, f4, f5⟩ := hf it (by simp)
    have W := Walks.range (prog := X.prog) (w := X.w) (I.ok.hd hc) it lo 1 n
    refine W.item i s _ _ hg st fun v h' tk hv st' kk => ?_
    obtain ⟨t, rfl⟩ := hv
    have I1 : Inv X pins σ H { s with heap := h', toks := tk } := I.turned (fun b o hb e => kk b o (by simpa using hb) e) f0 f1 f3 f4 f5
    refine ⟨_, rfl, go_of (s := { s with heap := h', toks := tk }) (n := "range_iterator") st' rfl rfl (by decide) ⟨.int (lo + i), H, I1, ⟨t, ?_⟩, ⟨rfl, rfl⟩, st', fun b hb => (hf b hb).1⟩⟩
    rw [Int.mul_one]
  done := by
    intro X hP hw hK hc i pins s σ H E I hf st hg
    subst hP hw hK
    obtain ⟨f0, f1, f2, f3, f4, f5⟩ := hf it (by simp)
    exact wpAny_pyNext_range_end (I.ok.hd hc) st (by have : n ≤ i := hg; omega) fun h' eb => ⟨rfl, I.turned (t' := s.toks) (fun b o hb e => eb b o hb e) f0 f1 f3 f4 f5⟩
  self := fun _ _ _ _ _ st h => wpAny_pyIter_rangeiter st h
end L2

namespace L2
open PySem PySem.Spec PyProof.Rows
section
variable {X : Cx} {tg : Expr}
def iList (K : PySem.W.Frag) (tl : TE) : TI := fun σ H R => tl σ H fun x H1 => ∃ a, x = .ref a ∧ (∃ xs, SqL K H1 a xs) ∧ R (Itl K a) H1
def iTup (K : PySem.W.Frag) (tl : TE) : TI := fun σ H R => tl σ H fun x H1 => ∃ a, x = .ref a ∧ (∃ xs, SqT K H1 a xs) ∧ R (Itt K a) H1
theorem pi_list {l : Expr} {tl : TE} (hl : PE X l tl) : PI X tg l (iList X.K tl) := by
  intro pins s σ H R I h
  refine thn (hl pins s σ H _ I h) fun v s1 ⟨x, H1, I1, r1, q1⟩ => ?_
  obtain ⟨a, e, ⟨xs, hq⟩, q⟩ := q1
  subst e
  cases r1
  obtain ⟨its, rv, p, hz⟩ := I1.list hq
  refine wpAny_pyIter_list p.isList ?_
  refine ⟨s1.heap.objs.size, [s1.heap.objs.size], _, _, H1, rfl, I1.kept (t' := s1.toks) fun b o e => Heap.get?_push_of_some _ e, turn_list a _, ⟨_, Heap.get?_push_size _ rfl, rfl, rfl⟩, fun b hb => ?_, q⟩
  have e : b = s1.heap.objs.size := by simpa using hb
  subst e
  exact I1.fpOk (Nat.le_refl _) (I1.hok.fresh (Nat.le_refl _))
theorem pi_tup {l : Expr} {tl : TE} (hl : PE X l tl) : PI X tg l (iTup X.K tl) := by
  intro pins s σ H R I h
  refine thn (hl pins s σ H _ I h) fun v s1 ⟨x, H1, I1, r1, q1⟩ => ?_
  obtain ⟨a, e, ⟨xs, hq⟩, q⟩ := q1
  subst e
  cases r1
  obtain ⟨its, rv, p, hz⟩ := I1.tuple hq
  refine wpAny_pyIter_tuple (show s1.heap.IsTuple a its.toArray from p) ?_
  refine ⟨s1.heap.objs.size, [s1.heap.objs.size], _, _, H1, rfl, I1.kept (t' := s1.toks) fun b o e => Heap.get?_push_of_some _ e, turn_tuple a _, ⟨_, Heap.get?_push_size _ rfl, rfl, rfl⟩, fun b hb => ?_, q⟩
  have e : b = s1.heap.objs.size := by simpa using hb
  subst e
  exact I1.fpOk (Nat.le_refl _) (I1.hok.fresh (Nat.le_refl _))
/-- a range object just made, walked -/
theorem range_it {pins : List (Addr × Obj)} {σ : St} {H : Hp} {s : Shared} {R : It → Hp → Prop} {E : Value → Shared → Prop} {lo hi : Int} {t u v : Tok} {tk : Nat} (I : Inv X pins σ H s) (h1 : -(2 ^ 62) ≤ lo) (h2 : lo < 2 ^ 62) (h3 : -(2 ^ 62) ≤ hi) (h4 : hi < 2 ^ 62)
    (q : R (Itr lo (hi - lo).toNat) H) : wpAny (model X.prog X.w) X.A (pyIter (.ref s.heap.objs.size)) (PIE X pins σ tg R) E { s with heap := s.heap.push { cls := .type "range", data := .fields #[.int lo t, .int hi u, .int 1 v] }, toks := tk } := by
  refine wpAny_pyIter_range (IsRange.new ..) (small_one h1 h2 h3 h4) ?_
  have I1 : Inv X pins σ H { s with heap := s.heap.push { cls := .type "range", data := .fields #[.int lo t, .int hi u, .int 1 v] }, toks := tk } := I.kept fun b o e => Heap.get?_push_of_some _ e
  refine ⟨(s.heap.push { cls := .type "range", data := .fields #[.int lo t, .int hi u, .int 1 v] }).objs.size, [(s.heap.push { cls := .type "range", data := .fields #[.int lo t, .int hi u, .int 1 v] }).objs.size], _, _, H, rfl,
    I1.kept (t' := tk) fun b o e => Heap.get?_push_of_some _ e, turn_range _ lo (hi - lo).toNat, ?_, fun b hb => ?_, q⟩
  · have e1 : lo + ((0 : Nat) : Int) * 1 = lo := by simp
    have e2 : (((hi - lo).toNat : Nat) : Int) - ((0 : Nat) : Int) = Builtin.Range.rangeSize lo hi 1 := by rw [rangeSize_one]; split <;> omega
    show IsRangeIter _ _ (lo + ((0 : Nat) : Int) * 1) ((((hi - lo).toNat : Nat) : Int) - ((0 : Nat) : Int)) 1
    rw [e1, e2]
    exact Heap.get?_push_size _ rfl
  · have e : b = (s.heap.push { cls := .type "range", data := .fields #[.int lo t, .int hi u, .int 1 v] }).objs.size := by simpa using hb
    subst e
    exact I1.fpOk (Nat.le_refl _) (I1.hok.fresh (Nat.le_refl _))
def iRng1 (ta : TA) : TI := fun σ H R => ta σ H fun vs H1 => ∃ j : Int, vs = [.int j] ∧ -(2 ^ 62) ≤ j ∧ j < 2 ^ 62 ∧ R (Itr 0 j.toNat) H1
def iRng2 (ta : TA) : TI := fun σ H R => ta σ H fun vs H1 => ∃ i j : Int, vs = [.int i, .int j] ∧ (-(2 ^ 62) ≤ i ∧ i < 2 ^ 62 ∧ -(2 ^ 62) ≤ j ∧ j < 2 ^ 62) ∧ R (Itr i (j - i).toNat) H1
theorem pi_range1 {a : Expr} {ta : TA} {p pos : Pos} (hg : Gl X "range") (hm : X.mg "range" = none) (ha : PA X [a] ta) (hs : starEach [a] X.env = [(false, eval a X.env)] := by rfl) : PI X tg (.Call (.Name "range" p) [a] [] pos) (iRng1 ta) := by
  intro pins s σ H R I h
  refine Call_ (ld_blt I hg hm boot_range (PyProof.Rows.callWith_type1 (thn (ha pos pins s σ H _ I h) fun us s1 ⟨vs, H1, I1, r1, q1⟩ => ?_) hs rfl))
  obtain ⟨j, e, q1, q2, q⟩ := q1
  subst e
  cases r1 with
  | cons r rr =>
    cases rr
    obtain ⟨t, rfl⟩ := r
    exact call_range_1 (range_it I1 (by omega) (by omega) q1 q2 (by simpa using q))
theorem pi_range2 {a b : Expr} {ta : TA} {p pos : Pos} (hg : Gl X "range") (hm : X.mg "range" = none) (ha : PA X [a, b] ta) (hs : starEach [a, b] X.env = [(false, eval a X.env), (false, eval b X.env)] := by rfl) (hs2 : starEach [b] X.env = [(false, eval b X.env)] := by rfl) :
    PI X tg (.Call (.Name "range" p) [a, b] [] pos) (iRng2 ta) := by
  intro pins s σ H R I h
  refine Call_ (ld_blt I hg hm boot_range (PyProof.Rows.callWith_type1 (thn (ha pos pins s σ H _ I h) fun us s1 ⟨vs, H1, I1, r1, q1⟩ => ?_) (by rw [hs, hs2]) (by rw [hs2]; rfl)))
  obtain ⟨i, j, e, ⟨q1, q2, q3, q4⟩, q⟩ := q1
  subst e
  cases r1 with
  | cons r rr =>
    cases rr with
    | cons r' rr =>
      cases rr
      obtain ⟨t, rfl⟩ := r
      obtain ⟨t', rfl⟩ := r'
      exact call_range_2 (range_it I1 q1 q2 q3 q4 q)

/-! ### for -/
/-- W: the invariant by the turn and a measure; N: what the body is to reach -/
def tFor (wi : TI) (g : TG) (tb : TS) : TS := fun D σ H => wi σ H fun J H1 => ∃ W : Nat → Nat → St → Hp → Prop, (∃ m, W 0 m σ H1) ∧ ∀ i m σ H, W i m σ H →
  (J.stop i H ∧ D.nx σ H) ∨ (J.go i H ∧ ∃ N : St → Hp → Prop, (∀ σ' H', N σ' H' → ∃ m', m' < m ∧ W (i + 1) m' σ' H') ∧ ∀ x H', J.yld i H x H' → g x σ H' fun σ2 H2 => tb { D with nx := N, ct := N, bk := D.nx } σ2 H2)
/-- the records at fp as they stand -/
def pinsAt (fp : List Addr) (h : Heap) : List (Addr × Obj) := fp.filterMap fun b => (h.get? b).map fun o => (b, o)
theorem mem_pinsAt {fp : List Addr} {h : Heap} {b : Addr} {o : Obj} (hb : b ∈ fp) (e : h.get? b = some o) : (b, o) ∈ pinsAt fp h := List.mem_filterMap.mpr ⟨b, hb, by rw [e]; rfl⟩
theorem of_pinsAt {fp : List Addr} {h : Heap} {p : Addr × Obj} (hp : p ∈ pinsAt fp h) : p.1 ∈ fp ∧ h.get? p.1 = some p.2 := by
  obtain ⟨b, hb, e⟩ := List.mem_filterMap.mp hp
  cases q : h.get? b with
  | none => rw [q] at e; cases e
  | some o =>
    rw [q] at e
    have e' : (b, o) = p := Option.some.inj e
    subst e'
    exact ⟨hb, q⟩
theorem Inv.pinned {pins : List (Addr × Obj)} {σ : St} {H : Hp} {s : Shared} {fp : List Addr} (I : Inv X pins σ H s) (hf : ∀ b ∈ fp, FpOk X pins H b) (ho : ∀ b ∈ fp, ∃ o, s.heap.get? b = some o ∧ ∀ v, o.data ≠ .cell v) : Inv X (pins ++ pinsAt fp s.heap) σ H s :=
  I.pins_of fun p hp => (List.mem_append.mp hp).elim (fun z => I.pin p (List.mem_append_right _ z)) fun z => by
    obtain ⟨hb, e⟩ := of_pinsAt z
    obtain ⟨f0, f1, f2, _⟩ := hf p.1 hb
    obtain ⟨o, e', d⟩ := ho p.1 hb
    rw [e] at e'; cases e'
    exact ⟨e, f0, f1, f2, d⟩
theorem Inv.unpinned {pins pl : List (Addr × Obj)} {σ : St} {H : Hp} {s : Shared} (I : Inv X (pins ++ pl) σ H s) : Inv X pins σ H s := I.pins_of fun p hp => I.pin p (List.mem_append_right _ (List.mem_append_left _ hp))
theorem ps_for {iter : Expr} {body : List Stmt} {wi : TI} {g : TG} {tb : TS} {pos : Pos} (hp : PassesOwn (model X.prog X.w) X.A X.env X.xe) (hc : X.calm = true) (hi : PI X tg iter wi) (hg : PG X tg g) (hb : PSs X body tb)
    (hs : ∀ x, foldedSetIterable iter X.env x = pure x := by intro _; rfl) : PS X (.For tg iter body [] pos) (tFor wi g tb) := by
  intro pins s σ H D I h
  refine wpAny_For (thn (hi pins s σ H _ I h) fun v s1 h1 => thn h1 fun itv s2 h2 => ?_) hs
  obtain ⟨it, fp, tn, J, H2, e, I2, T, st2, f2, W, ⟨m0, w0⟩, turn⟩ := h2
  subst e
  -- what stays true of the iterator's objects through the loop
  have stat : ∀ {H' : Hp}, (∀ b ∈ fp, H' b = none) → ∀ b ∈ fp, FpOk X pins H' b := fun hn b hb => ⟨hn b hb, (f2 b hb).2⟩
  refine codeAny_forLoop_any (fun n s' => ∃ i σ' H', Inv X pins σ' H' s' ∧ tn i s'.heap ∧ (∀ b ∈ fp, H' b = none) ∧ W i n σ' H') ?_ m0 ⟨0, σ, H2, I2, st2, fun b hb => (f2 b hb).1, w0⟩
  rintro n s3 ⟨i, σ3, H3, I3, st3, fr3, w3⟩
  rcases turn i n σ3 H3 w3 with ⟨stop, qn⟩ | ⟨go, N, hN, step⟩
  · refine wpAny_passesOwn hp (thn (T.done X rfl rfl rfl hc i pins s3 σ3 H3 X.xe I3 (stat fr3) st3 stop) fun r s4 ⟨hr, I4⟩ => ?_)
    subst hr
    exact wpAny_execs_nil ⟨σ3, H3, I4, qn⟩
  · refine wpAny_passesOwn hp (thn (T.item X rfl rfl rfl hc i pins s3 σ3 H3 X.xe I3 (stat fr3) st3 go) fun r s4 ⟨u, hr, h4⟩ => ?_)
    subst hr
    refine wpAny_passesOwn hp (thn h4 fun _ s5 ⟨x, H5, I5, r5, y5, st5, fr5⟩ => ?_)
    have I5' := I5.pinned (stat fr5) (T.obj _ _ st5)
    refine wpAny_passesOwn hp (thn (hg _ s5 σ3 H5 x u _ I5' r5 (step x H5 y5)) fun _ s6 ⟨σ6, H6, I6, q6⟩ => ?_)
    refine wpAny_passesOwn hp (thn (hb _ s6 σ6 H6 _ I6 q6) fun f s7 q7 => ?_)
    have again : ∀ {σ7 : St} {H7 : Hp}, Inv X (pins ++ pinsAt fp s5.heap) σ7 H7 s7 → N σ7 H7 → ∃ m, m < n ∧ ∃ i σ' H', Inv X pins σ' H' s7 ∧ tn i s7.heap ∧ (∀ b ∈ fp, H' b = none) ∧ W i m σ' H' := fun {σ7 H7} I7 n7 => by
      obtain ⟨m', hm, w7⟩ := hN σ7 H7 n7
      refine ⟨m', hm, i + 1, σ7, H7, I7.unpinned, T.keep _ _ _ st5 fun b hb o e => (I7.pin (b, o) (List.mem_append_right _ (List.mem_append_right _ (mem_pinsAt hb e)))).1, fun b hb => ?_, w7⟩
      obtain ⟨o, e, d⟩ := T.obj _ _ st5 b hb
      exact (I7.pin (b, o) (List.mem_append_right _ (List.mem_append_right _ (mem_pinsAt hb e)))).2.1
    cases f with
    | next => obtain ⟨σ7, H7, I7, n7⟩ := q7; exact again I7 n7
    | cont => obtain ⟨σ7, H7, I7, n7⟩ := q7; exact again I7 n7
    | brk => obtain ⟨σ7, H7, I7, q7⟩ := q7; exact ⟨σ7, H7, I7.unpinned, q7⟩
    | ret v => obtain ⟨x7, σ7, H7, I7, r7, q7⟩ := q7; exact ⟨x7, σ7, H7, I7.unpinned, r7, q7⟩
end

/-! ### the forms one uses -/
/-- over a list that the body leaves as it is -/
theorem for_list {K : PySem.W.Frag} {a : Addr} {xs : List V} {g : TG} {tb : TS} {D : Ends} {σ : St} {H : Hp} (Pv : Nat → St → Hp → Prop) (h0 : Pv 0 σ H) (hl : ∀ i σ H, i ≤ xs.length → Pv i σ H → SqL K H a xs)
    (hs : ∀ i x σ H, xs[i]? = some x → Pv i σ H → g x σ H fun σ2 H2 => tb { D with nx := Pv (i + 1), ct := Pv (i + 1), bk := D.nx } σ2 H2) (hd : ∀ σ H, Pv xs.length σ H → D.nx σ H) :
    ∃ W : Nat → Nat → St → Hp → Prop, (∃ m, W 0 m σ H) ∧ ∀ i m σ H, W i m σ H →
      ((Itl K a).stop i H ∧ D.nx σ H) ∨ ((Itl K a).go i H ∧ ∃ N : St → Hp → Prop, (∀ σ' H', N σ' H' → ∃ m', m' < m ∧ W (i + 1) m' σ' H') ∧ ∀ x H', (Itl K a).yld i H x H' → g x σ H' fun σ2 H2 => tb { D with nx := N, ct := N, bk := D.nx } σ2 H2) := by
  refine ⟨fun i m σ H => m = xs.length - i ∧ i ≤ xs.length ∧ Pv i σ H, ⟨xs.length, by simp, Nat.zero_le _, h0⟩, ?_⟩
  rintro i m σ H ⟨rfl, hi, p⟩
  have q := hl i σ H hi p
  by_cases hlt : i < xs.length
  · refine .inr ⟨⟨xs, xs[i], q, by simp [hlt]⟩, Pv (i + 1), fun σ' H' p' => ⟨xs.length - (i + 1), by omega, rfl, hlt, p'⟩, fun x H' y => ?_⟩
    obtain ⟨e, y⟩ := y
    subst e
    exact hs i x σ _ (y xs q) p
  · have e : i = xs.length := by omega
    subst e
    exact .inl ⟨⟨xs, q, Nat.le_refl _⟩, hd σ H p⟩
theorem for_tup {K : PySem.W.Frag} {a : Addr} {xs : List V} {g : TG} {tb : TS} {D : Ends} {σ : St} {H : Hp} (Pv : Nat → St → Hp → Prop) (h0 : Pv 0 σ H) (hl : ∀ i σ H, i ≤ xs.length → Pv i σ H → SqT K H a xs)
    (hs : ∀ i x σ H, xs[i]? = some x → Pv i σ H → g x σ H fun σ2 H2 => tb { D with nx := Pv (i + 1), ct := Pv (i + 1), bk := D.nx } σ2 H2) (hd : ∀ σ H, Pv xs.length σ H → D.nx σ H) :
    ∃ W : Nat → Nat → St → Hp → Prop, (∃ m, W 0 m σ H) ∧ ∀ i m σ H, W i m σ H →
      ((Itt K a).stop i H ∧ D.nx σ H) ∨ ((Itt K a).go i H ∧ ∃ N : St → Hp → Prop, (∀ σ' H', N σ' H' → ∃ m', m' < m ∧ W (i + 1) m' σ' H') ∧ ∀ x H', (Itt K a).yld i H x H' → g x σ H' fun σ2 H2 => tb { D with nx := N, ct := N, bk := D.nx } σ2 H2) := by
  refine ⟨fun i m σ H => m = xs.length - i ∧ i ≤ xs.length ∧ Pv i σ H, ⟨xs.length, by simp, Nat.zero_le _, h0⟩, ?_⟩
  rintro i m σ H ⟨rfl, hi, p⟩
  have q := hl i σ H hi p
  by_cases hlt : i < xs.length
  · refine .inr ⟨⟨xs, xs[i], q, by simp [hlt]⟩, Pv (i + 1), fun σ' H' p' => ⟨xs.length - (i + 1), by omega, rfl, hlt, p'⟩, fun x H' y => ?_⟩
    obtain ⟨e, y⟩ := y
    subst e
    exact hs i x σ _ (y xs q) p
  · have e : i = xs.length := by omega
    subst e
    exact .inl ⟨⟨xs, q, Nat.le_refl _⟩, hd σ H p⟩
theorem for_range {lo : Int} {n : Nat} {g : TG} {tb : TS} {D : Ends} {σ : St} {H : Hp} (Pv : Nat → St → Hp → Prop) (h0 : Pv 0 σ H)
    (hs : ∀ i σ H, i < n → Pv i σ H → g (.int (lo + i)) σ H fun σ2 H2 => tb { D with nx := Pv (i + 1), ct := Pv (i + 1), bk := D.nx } σ2 H2) (hd : ∀ σ H, Pv n σ H → D.nx σ H) :
    ∃ W : Nat → Nat → St → Hp → Prop, (∃ m, W 0 m σ H) ∧ ∀ i m σ H, W i m σ H →
      ((Itr lo n).stop i H ∧ D.nx σ H) ∨ ((Itr lo n).go i H ∧ ∃ N : St → Hp → Prop, (∀ σ' H', N σ' H' → ∃ m', m' < m ∧ W (i + 1) m' σ' H') ∧ ∀ x H', (Itr lo n).yld i H x H' → g x σ H' fun σ2 H2 => tb { D with nx := N, ct := N, bk := D.nx } σ2 H2) := by
  refine ⟨fun i m σ H => m = n - i ∧ i ≤ n ∧ Pv i σ H, ⟨n, by simp, Nat.zero_le _, h0⟩, ?_⟩
  rintro i m σ H ⟨rfl, hi, p⟩
  by_cases hlt : i < n
  · refine .inr ⟨hlt, Pv (i + 1), fun σ' H' p' => ⟨n - (i + 1), by omega, rfl, hlt, p'⟩, fun x H' y => ?_⟩
    obtain ⟨e, y⟩ := y
    subst e y
    exact hs i σ _ hlt p
  · have e : i = n := by omega
    subst e
    exact .inl ⟨Nat.le_refl _, hd σ H p⟩
/-- while, by a word and a measure of the state -/
theorem while_by {c : TT} {tb : TS} {D : Ends} {σ : St} {H : Hp} (Pv : St → Hp → Prop) (μ : St → Hp → Nat) (h0 : Pv σ H)
    (hs : ∀ σ H, Pv σ H → c σ H fun b H1 => if b = true then tb { D with nx := fun σ' H' => Pv σ' H' ∧ μ σ' H' < μ σ H, ct := fun σ' H' => Pv σ' H' ∧ μ σ' H' < μ σ H, bk := D.nx } σ H1 else D.nx σ H1)
    (mono : ∀ σ H Q Q', (∀ b H1, Q b H1 → Q' b H1) → c σ H Q → c σ H Q') : tWhile c tb D σ H := by
  refine ⟨fun m σ H => m = μ σ H ∧ Pv σ H, ⟨_, rfl, h0⟩, ?_⟩
  rintro m σ H ⟨rfl, p⟩
  refine mono σ H _ _ (fun b H1 q => ?_) (hs σ H p)
  cases b with
  | true => exact ⟨_, fun σ' H' ⟨p', l⟩ => ⟨_, l, rfl, p'⟩, q⟩
  | false => exact q
end L2

namespace L2
open PySem PySem.Spec PyProof.Rows

abbrev R2 := V → V → Hp → VK → Prop
/-- a two-place operation on values: f is binaryOp op, inplaceOp op or compareOp op -/
def OpR (X : Cx) (f : Value → Value → Sem Value) (r : R2) : Prop :=
  ∀ (pins : List (Addr × Obj)) (s : Shared) (σ : St) (H : Hp) (x y : V) (v u : Value) (Q : VK), Inv X pins σ H s → RelV x v → RelV y u → r x y H Q →
    wpAny (model X.prog X.w) X.A (f v u) (EP X pins σ Q) X.xe s
/-- a one-place operation -/
def UnR (X : Cx) (f : Value → Sem Value) (r : V → Hp → VK → Prop) : Prop :=
  ∀ (pins : List (Addr × Obj)) (s : Shared) (σ : St) (H : Hp) (x : V) (v : Value) (Q : VK), Inv X pins σ H s → RelV x v → r x H Q →
    wpAny (model X.prog X.w) X.A (f v) (EP X pins σ Q) X.xe s
/-- a call of a value that is known (a builtin, a type) with values -/
def CallR (X : Cx) (f : Value) (r : List V → Hp → VK → Prop) : Prop :=
  ∀ (pins : List (Addr × Obj)) (s : Shared) (σ : St) (H : Hp) (xs : List V) (us : List Value) (Q : VK), Inv X pins σ H s → Vals xs us → r xs H Q →
    wpAny (model X.prog X.w) X.A (call f us) (EP X pins σ Q) X.xe s
/-- a value's truth -/
def TruR (X : Cx) (r : V → Hp → (Bool → Hp → Prop) → Prop) : Prop :=
  ∀ (pins : List (Addr × Obj)) (s : Shared) (σ : St) (H : Hp) (x : V) (v : Value) (Q : Bool → Hp → Prop), Inv X pins σ H s → RelV x v → r x H Q →
    wpAny (model X.prog X.w) X.A (truthy v) (TP X pins σ Q) X.xe s

def tOp (r : R2) (ta tb : TE) : TE := fun σ H Q => ta σ H fun x H1 => tb σ H1 fun y H2 => r x y H2 Q
def tUn (r : V → Hp → VK → Prop) (ta : TE) : TE := fun σ H Q => ta σ H fun x H1 => r x H1 Q
/-- ints in, under C, and a value out -/
def rI (C : Int → Int → Prop) (g : Int → Int → V) : R2 := fun x y H Q => ∃ i j, x = .int i ∧ y = .int j ∧ C i j ∧ Q (g i j) H
def rI0 (g : Int → Int → V) : R2 := fun x y H Q => ∃ i j, x = .int i ∧ y = .int j ∧ Q (g i j) H
def rU (g : Int → V) : V → Hp → VK → Prop := fun x H Q => ∃ i, x = .int i ∧ Q (g i) H

section
variable {X : Cx} {a b c : Expr} {ta tb tc : TE} {pos : Pos}

theorem binT (ha : PE X a ta) (hb : PE X b tb) {pins : List (Addr × Obj)} {s : Shared} {σ : St} {H : Hp} {R : V → V → Hp → Prop} (I : Inv X pins σ H s)
    (h : ta σ H fun x H1 => tb σ H1 fun y H2 => R x y H2) {Q : Value → Shared → Prop} {f : Value → Value → Sem Value}
    (hf : ∀ v u s2 x y H2, Inv X pins σ H2 s2 → RelV x v → RelV y u → R x y H2 → wpAny (model X.prog X.w) X.A (f v u) Q X.xe s2) :
    wpAny (model X.prog X.w) X.A (eval a X.env) (fun v s₁ => wpAny (model X.prog X.w) X.A (eval b X.env) (fun u s₂ => wpAny (model X.prog X.w) X.A (f v u) Q X.xe s₂) X.xe s₁) X.xe s := by
  refine thn (ha pins s σ H _ I h) fun v s1 ⟨x, H1, I1, r1, q1⟩ => ?_
  refine thn (hb pins s1 σ H1 _ I1 q1) fun u s2 ⟨y, H2, I2, r2, q2⟩ => ?_
  exact hf v u s2 x y H2 I2 r1 r2 q2

theorem pe_op {op : Operator} {r : R2} (ho : OpR X (binaryOp op) r) (ha : PE X a ta) (hb : PE X b tb) : PE X (.BinOp a op b pos) (tOp r ta tb) := by
  intro pins s σ H Q I h
  exact wpAny_BinOp (binT ha hb I h fun v u s2 x y H2 I2 rx ry q => ho pins s2 σ H2 x y v u Q I2 rx ry q)
theorem pe_un {op : UnaryOp} {r : V → Hp → VK → Prop} (ho : UnR X (unaryOp op) r) (ha : PE X a ta) : PE X (.UnaryOp op a pos) (tUn r ta) := by
  intro pins s σ H Q I h
  exact UnaryOp_ (thn (ha pins s σ H _ I h) fun v s1 ⟨x, H1, I1, r1, q1⟩ => ho pins s1 σ H1 x v Q I1 r1 q1)
/-- a op= e at a name: the name's slot i -/
theorem augR {op : Operator} {r : R2} (ho : OpR X (inplaceOp op) r) {pins : List (Addr × Obj)} {s : Shared} {σ : St} {H : Hp} {x y : V} {v u : Value} {Q : VK} (I : Inv X pins σ H s)
    (rx : RelV x v) (ry : RelV y u) (q : r x y H Q) : wpAny (model X.prog X.w) X.A (inplaceOp op v u) (EP X pins σ Q) X.xe s := ho pins s σ H x y v u Q I rx ry q

/-! ### ints -/
theorem opI {f : Value → Value → Sem Value} {C : Int → Int → Prop} {g : Int → Int → Int}
    (rule : ∀ (i j : Int) (t u : Tok) (s : Shared) (Q : Value → Shared → Prop) (E : Value → Shared → Prop), C i j → Q (.int (g i j) s.toks) { s with toks := s.toks + 1 } → wpAny (model X.prog X.w) X.A (f (.int i t) (.int j u)) Q E s) :
    OpR X f (rI C fun i j => .int (g i j)) := by
  intro pins s σ H x y v u Q I rx ry h
  obtain ⟨i, j, rfl, rfl, hc, q⟩ := h
  obtain ⟨t, rfl⟩ := rx
  obtain ⟨t', rfl⟩ := ry
  exact rule i j t t' s _ _ hc ⟨.int (g i j), H, I.tok _, ⟨_, rfl⟩, q⟩
theorem opI0 {f : Value → Value → Sem Value} {g : Int → Int → Int}
    (rule : ∀ (i j : Int) (t u : Tok) (s : Shared) (Q : Value → Shared → Prop) (E : Value → Shared → Prop), Q (.int (g i j) s.toks) { s with toks := s.toks + 1 } → wpAny (model X.prog X.w) X.A (f (.int i t) (.int j u)) Q E s) :
    OpR X f (rI0 fun i j => .int (g i j)) := by
  intro pins s σ H x y v u Q I rx ry h
  obtain ⟨i, j, rfl, rfl, q⟩ := h
  obtain ⟨t, rfl⟩ := rx
  obtain ⟨t', rfl⟩ := ry
  exact rule i j t t' s _ _ ⟨.int (g i j), H, I.tok _, ⟨_, rfl⟩, q⟩
theorem opB0 {f : Value → Value → Sem Value} {g : Int → Int → Bool}
    (rule : ∀ (i j : Int) (t u : Tok) (s : Shared) (Q : Value → Shared → Prop) (E : Value → Shared → Prop), Q (.bool (g i j)) s → wpAny (model X.prog X.w) X.A (f (.int i t) (.int j u)) Q E s) :
    OpR X f (rI0 fun i j => .bl (g i j)) := by
  intro pins s σ H x y v u Q I rx ry h
  obtain ⟨i, j, rfl, rfl, q⟩ := h
  obtain ⟨t, rfl⟩ := rx
  obtain ⟨t', rfl⟩ := ry
  exact rule i j t t' s _ _ ⟨.bl (g i j), H, I, rfl, q⟩

def CDiv (i j : Int) : Prop := 0 < j ∧ j < 1073741824
def CDivN (i j : Int) : Prop := j ≠ 0 ∧ j.natAbs < 1073741824
def CPow (i j : Int) : Prop := 0 ≤ j ∧ j ≤ 1000000 ∧ i.natAbs < 2 ^ 64
def CMul (i j : Int) : Prop := (-(2 ^ 64) < i ∧ i < 2 ^ 64) ∨ (-(2 ^ 64) < j ∧ j < 2 ^ 64)
theorem CMul.ok {i j : Int} (h : CMul i j) : IntMulOk i j := by
  rcases h with ⟨h1, h2⟩ | ⟨h1, h2⟩
  · exact .of_left (intBits_le_64 h1 h2)
  · exact .of_right (intBits_le_64 h1 h2)
theorem two_pow_nn (k : Nat) : (0 : Int) ≤ 2 ^ k := by
  rw [two_pow_cast]
  exact Int.natCast_nonneg _

theorem op_add : OpR X (binaryOp .Add) (rI0 fun i j => .int (i + j)) := opI0 fun _ _ _ _ _ _ _ q => add_int q
theorem op_sub : OpR X (binaryOp .Sub) (rI0 fun i j => .int (i - j)) := opI0 fun _ _ _ _ _ _ _ q => sub_int q
theorem op_mul : OpR X (binaryOp .Mult) (rI CMul fun i j => .int (i * j)) := opI fun _ _ _ _ _ _ _ hc q => mul_int q hc.ok
/-- // by a positive divisor -/
theorem op_fdiv : OpR X (binaryOp .FloorDiv) (rI CDiv fun i j => .int (i / j)) := opI fun i j _ _ _ _ _ hc q => by
  have h1 : (0 : Int) < j := hc.1
  have h2 : j < 1073741824 := hc.2
  exact floordiv_int (by omega) (by rw [Int.fdiv_eq_ediv_of_nonneg i (by omega)]; exact q) (.inl (PyProof.noPylong_small (by omega)))
theorem op_fdivN : OpR X (binaryOp .FloorDiv) (rI CDivN fun i j => .int (i.fdiv j)) := opI fun _ _ _ _ _ _ _ hc q => floordiv_int hc.1 q (.inl (PyProof.noPylong_small hc.2))
/-- % by a positive divisor of any size -/
theorem op_mod : OpR X (binaryOp .Mod) (rI (fun _ j => 0 < j) fun i j => .int (i % j)) := opI fun i j _ _ _ _ _ hc q => by
  have h1 : (0 : Int) < j := hc
  exact mod_int' (by omega) (by rw [Int.fmod_eq_emod_of_nonneg i (by omega)]; exact q)
theorem op_modN : OpR X (binaryOp .Mod) (rI (fun _ j => j ≠ 0) fun i j => .int (i.fmod j)) := opI fun _ _ _ _ _ _ _ hc q => mod_int' hc q
theorem op_pow : OpR X (binaryOp .Pow) (rI CPow fun i j => .int (i ^ j.toNat)) := opI fun _ _ _ _ _ _ _ hc q => pow_int_small hc.1 hc.2.1 hc.2.2 q
theorem op_shl : OpR X (binaryOp .LShift) (rI CPow fun i j => .int (i * 2 ^ j.toNat)) := opI fun _ _ _ _ _ _ _ hc q => lshift_int_small hc.1 hc.2.1 hc.2.2 q
theorem op_shr : OpR X (binaryOp .RShift) (rI (fun _ j => 0 ≤ j) fun i j => .int (i / 2 ^ j.toNat)) := opI fun i j _ _ _ _ _ hc q =>
  rshift_int hc (by rw [Int.fdiv_eq_ediv_of_nonneg i (two_pow_nn _)]; exact q)
theorem op_and : OpR X (binaryOp .BitAnd) (rI0 fun i j => .int (Builtin.bitAnd i j)) := opI0 fun _ _ _ _ _ _ _ q => and_int q
theorem op_or : OpR X (binaryOp .BitOr) (rI0 fun i j => .int (Builtin.bitOr i j)) := opI0 fun _ _ _ _ _ _ _ q => or_int q
theorem op_xor : OpR X (binaryOp .BitXor) (rI0 fun i j => .int (Builtin.bitXor i j)) := opI0 fun _ _ _ _ _ _ _ q => xor_int q

theorem iop_add : OpR X (inplaceOp .Add) (rI0 fun i j => .int (i + j)) := opI0 fun _ _ _ _ _ _ _ q => iadd_int q
theorem iop_sub : OpR X (inplaceOp .Sub) (rI0 fun i j => .int (i - j)) := opI0 fun _ _ _ _ _ _ _ q => isub_int q
theorem iop_mul : OpR X (inplaceOp .Mult) (rI CMul fun i j => .int (i * j)) := opI fun _ _ _ _ _ _ _ hc q => imul_int q hc.ok
theorem iop_fdiv : OpR X (inplaceOp .FloorDiv) (rI CDiv fun i j => .int (i / j)) := opI fun i j _ _ _ _ _ hc q => by
  have h1 : (0 : Int) < j := hc.1
  have h2 : j < 1073741824 := hc.2
  exact ifloordiv_int (by omega) (by rw [Int.fdiv_eq_ediv_of_nonneg i (by omega)]; exact q) (.inl (PyProof.noPylong_small (by omega)))
theorem iop_mod : OpR X (inplaceOp .Mod) (rI (fun _ j => 0 < j) fun i j => .int (i % j)) := opI fun i j _ _ _ _ _ hc q => by
  have h1 : (0 : Int) < j := hc
  exact imod_int (by omega) (by rw [Int.fmod_eq_emod_of_nonneg i (by omega)]; exact q)
theorem iop_shl : OpR X (inplaceOp .LShift) (rI CPow fun i j => .int (i * 2 ^ j.toNat)) := opI fun _ _ _ _ _ _ _ hc q => ilshift_int_small hc.1 hc.2.1 hc.2.2 q
theorem iop_shr : OpR X (inplaceOp .RShift) (rI (fun _ j => 0 ≤ j) fun i j => .int (i / 2 ^ j.toNat)) := opI fun i j _ _ _ _ _ hc q =>
  irshift_int hc (by rw [Int.fdiv_eq_ediv_of_nonneg i (two_pow_nn _)]; exact q)
theorem iop_and : OpR X (inplaceOp .BitAnd) (rI0 fun i j => .int (Builtin.bitAnd i j)) := opI0 fun _ _ _ _ _ _ _ q => iand_int q
theorem iop_or : OpR X (inplaceOp .BitOr) (rI0 fun i j => .int (Builtin.bitOr i j)) := opI0 fun _ _ _ _ _ _ _ q => ior_int q
theorem iop_xor : OpR X (inplaceOp .BitXor) (rI0 fun i j => .int (Builtin.bitXor i j)) := opI0 fun _ _ _ _ _ _ _ q => ixor_int q

theorem unI {f : Value → Sem Value} {g : Int → Int}
    (rule : ∀ (i : Int) (t : Tok) (s : Shared) (Q : Value → Shared → Prop) (E : Value → Shared → Prop), Q (.int (g i) s.toks) { s with toks := s.toks + 1 } → wpAny (model X.prog X.w) X.A (f (.int i t)) Q E s) :
    UnR X f (rU fun i => .int (g i)) := by
  intro pins s σ H x v Q I rx h
  obtain ⟨i, rfl, q⟩ := h
  obtain ⟨t, rfl⟩ := rx
  exact rule i t s _ _ ⟨.int (g i), H, I.tok _, ⟨_, rfl⟩, q⟩
theorem un_neg : UnR X (unaryOp .USub) (rU fun i => .int (-i)) := unI fun _ _ _ _ _ q => neg_int q
theorem un_inv : UnR X (unaryOp .Invert) (rU fun i => .int (Builtin.bitNot i)) := unI fun _ _ _ _ _ q => invert_int q

/-! ### bools among ints: n += (a < b) -/
theorem op_add_ib : OpR X (binaryOp .Add) (fun x y H Q => ∃ i k, x = .int i ∧ y = .bl k ∧ Q (.int (i + b2i k)) H) := by
  intro pins s σ H x y v u Q I rx ry h
  obtain ⟨i, k, rfl, rfl, q⟩ := h
  obtain ⟨t, rfl⟩ := rx
  cases ry
  exact add_int_bool ⟨.int (i + b2i k), H, I.tok _, ⟨_, rfl⟩, q⟩
end

/-! ### comparisons -/
/-- the scalars that == tells apart as data does -/
def scal : V → V → Bool
  | .non, .non => true | .non, .int _ => true | .int _, .non => true | .non, .bl _ => true | .bl _, .non => true | .non, .str _ => true | .str _, .non => true
  | .int _, .int _ => true | .bl _, .bl _ => true | .str _, .str _ => true | .byt _, .byt _ => true
  | .int _, .str _ => true | .str _, .int _ => true | .bl _, .str _ => true | .str _, .bl _ => true
  | _, _ => false
def rEq : R2 := fun x y H Q => scal x y = true ∧ Q (.bl (decide (x = y))) H
def rNe : R2 := fun x y H Q => scal x y = true ∧ Q (.bl (!decide (x = y))) H

theorem dec_int {i j : Int} : decide (V.int i = V.int j) = (i == j) := by
  rw [Bool.eq_iff_iff]
  simp
theorem dec_bl {i j : Bool} : decide (V.bl i = V.bl j) = (i == j) := by
  rw [Bool.eq_iff_iff]
  simp
theorem dec_str {i j : Str} : decide (V.str i = V.str j) = (i == j) := by
  rw [Bool.eq_iff_iff]
  simp
theorem dec_byt {i j : Array UInt8} : decide (V.byt i = V.byt j) = (i.toList == j.toList) := by
  rw [Bool.eq_iff_iff]
  cases i
  cases j
  simp

section
variable {X : Cx} {a b c : Expr} {ta tb tc : TE} {pos : Pos}
theorem fin_bl {pins : List (Addr × Obj)} {σ : St} {H : Hp} {s : Shared} {Q : VK} {k k' : Bool} (I : Inv X pins σ H s) (q : Q (.bl k) H) (e : k = k') : EP X pins σ Q (.bool k') s := by
  subst e
  exact ⟨.bl k, H, I, rfl, q⟩
theorem op_eq : OpR X (compareOp .Eq) rEq := by
  intro pins s σ H x y v u Q I rx ry h
  obtain ⟨hs, q⟩ := h
  cases x with
  | non =>
    cases rx
    cases y with
    | non => cases ry; exact PySem.EqNone.eq_none_none (fin_bl I q (by simp))
    | bl j => cases ry; exact PySem.EqNone.eq_none_bool (fin_bl I q (by simp))
    | int j => obtain ⟨t', rfl⟩ := ry; exact PySem.EqNone.eq_none_int (fin_bl I q (by simp))
    | str j => obtain ⟨t', rfl⟩ := ry; exact PySem.EqNone.eq_none_str (fin_bl I q (by simp))
    | _ => exact absurd (show false = true from hs) Bool.false_ne_true
  | bl i =>
    cases rx
    cases y with
    | non => cases ry; exact PySem.EqNone.eq_bool_none (fin_bl I q (by simp))
    | bl j => cases ry; exact eq_bool (fin_bl I q dec_bl)
    | str j => obtain ⟨t', rfl⟩ := ry; exact PySem.EqMixed.eq_bool_str (fin_bl I q (by simp))
    | _ => exact absurd (show false = true from hs) Bool.false_ne_true
  | int i =>
    obtain ⟨t, rfl⟩ := rx
    cases y with
    | non => cases ry; exact PySem.EqNone.eq_int_none (fin_bl I q (by simp))
    | int j => obtain ⟨t', rfl⟩ := ry; exact eq_int (fin_bl I q dec_int)
    | str j => obtain ⟨t', rfl⟩ := ry; exact PySem.EqMixed.eq_int_str (fin_bl I q (by simp))
    | _ => exact absurd (show false = true from hs) Bool.false_ne_true
  | str i =>
    obtain ⟨t, rfl⟩ := rx
    cases y with
    | non => cases ry; exact PySem.EqNone.eq_str_none (fin_bl I q (by simp))
    | bl j => cases ry; exact PySem.EqMixed.eq_str_bool (fin_bl I q (by simp))
    | int j => obtain ⟨t', rfl⟩ := ry; exact PySem.EqMixed.eq_str_int (fin_bl I q (by simp))
    | str j => obtain ⟨t', rfl⟩ := ry; exact eq_str (fin_bl I q dec_str)
    | _ => exact absurd (show false = true from hs) Bool.false_ne_true
  | byt i =>
    obtain ⟨t, rfl⟩ := rx
    cases y with
    | byt j => obtain ⟨t', rfl⟩ := ry; exact PySem.W.eq_bytes (fin_bl I q dec_byt)
    | _ => exact absurd (show false = true from hs) Bool.false_ne_true
  | _ => cases y <;> exact absurd (show false = true from hs) Bool.false_ne_true
theorem op_ne : OpR X (compareOp .NotEq) rNe := by
  intro pins s σ H x y v u Q I rx ry h
  obtain ⟨hs, q⟩ := h
  cases x with
  | non =>
    cases rx
    cases y with
    | non => cases ry; exact PySem.EqNone.ne_none_none (fin_bl I q (by simp))
    | bl j => cases ry; exact PySem.EqNone.ne_none_bool (fin_bl I q (by simp))
    | int j => obtain ⟨t', rfl⟩ := ry; exact PySem.EqNone.ne_none_int (fin_bl I q (by simp))
    | str j => obtain ⟨t', rfl⟩ := ry; exact PySem.EqNone.ne_none_str (fin_bl I q (by simp))
    | _ => exact absurd (show false = true from hs) Bool.false_ne_true
  | bl i =>
    cases rx
    cases y with
    | non => cases ry; exact PySem.EqNone.ne_bool_none (fin_bl I q (by simp))
    | bl j => cases ry; exact ne_bool (fin_bl I q (congrArg not dec_bl))
    | str j => obtain ⟨t', rfl⟩ := ry; exact PySem.EqMixed.ne_bool_str (fin_bl I q (by simp))
    | _ => exact absurd (show false = true from hs) Bool.false_ne_true
  | int i =>
    obtain ⟨t, rfl⟩ := rx
    cases y with
    | non => cases ry; exact PySem.EqNone.ne_int_none (fin_bl I q (by simp))
    | int j => obtain ⟨t', rfl⟩ := ry; exact ne_int (fin_bl I q (congrArg not dec_int))
    | str j => obtain ⟨t', rfl⟩ := ry; exact PySem.EqMixed.ne_int_str (fin_bl I q (by simp))
    | _ => exact absurd (show false = true from hs) Bool.false_ne_true
  | str i =>
    obtain ⟨t, rfl⟩ := rx
    cases y with
    | non => cases ry; exact PySem.EqNone.ne_str_none (fin_bl I q (by simp))
    | bl j => cases ry; exact PySem.EqMixed.ne_str_bool (fin_bl I q (by simp))
    | int j => obtain ⟨t', rfl⟩ := ry; exact PySem.EqMixed.ne_str_int (fin_bl I q (by simp))
    | str j => obtain ⟨t', rfl⟩ := ry; exact ne_str (fin_bl I q (congrArg not dec_str))
    | _ => exact absurd (show false = true from hs) Bool.false_ne_true
  | byt i =>
    obtain ⟨t, rfl⟩ := rx
    cases y with
    | byt j => obtain ⟨t', rfl⟩ := ry; exact PySem.W.ne_bytes (fin_bl I q (congrArg not dec_byt))
    | _ => exact absurd (show false = true from hs) Bool.false_ne_true
  | _ => cases y <;> exact absurd (show false = true from hs) Bool.false_ne_true

theorem op_lt : OpR X (compareOp .Lt) (rI0 fun i j => .bl (decide (i < j))) := opB0 fun _ _ _ _ _ _ _ q => lt_int q
theorem op_le : OpR X (compareOp .LtE) (rI0 fun i j => .bl (decide (i ≤ j))) := opB0 fun _ _ _ _ _ _ _ q => le_int q
theorem op_gt : OpR X (compareOp .Gt) (rI0 fun i j => .bl (decide (j < i))) := opB0 fun _ _ _ _ _ _ _ q => gt_int q
theorem op_ge : OpR X (compareOp .GtE) (rI0 fun i j => .bl (decide (j ≤ i))) := opB0 fun _ _ _ _ _ _ _ q => ge_int q
theorem op_lt_str : OpR X (compareOp .Lt) (fun x y H Q => ∃ i j, x = .str i ∧ y = .str j ∧ Q (.bl (decide (i.cps.toList < j.cps.toList))) H) := by
  intro pins s σ H x y v u Q I rx ry h
  obtain ⟨i, j, rfl, rfl, q⟩ := h
  obtain ⟨t, rfl⟩ := rx
  obtain ⟨t', rfl⟩ := ry
  exact lt_str (fin_bl I q rfl)
/-- the one string within the other -/
theorem op_in_str : OpR X (compareOp .In) (fun x y H Q => ∃ i j, x = .str i ∧ y = .str j ∧ Q (.bl (!(Builtin.Str.occurrences j i 0 j.length 1).isEmpty)) H) := by
  intro pins s σ H x y v u Q I rx ry h
  obtain ⟨i, j, rfl, rfl, q⟩ := h
  obtain ⟨t, rfl⟩ := rx
  obtain ⟨t', rfl⟩ := ry
  exact in_str (fin_bl I q rfl)

/-- is None, is not None: the right side a value none -/
theorem op_isN : OpR X (compareOp .Is) (fun x y H Q => y = .non ∧ Q (.bl (decide (x = .non))) H) := by
  intro pins s σ H x y v u Q I rx ry h
  obtain ⟨rfl, q⟩ := h
  cases ry
  refine is_none_gen (fin_bl I q ?_)
  cases x <;> first
    | (cases rx; rfl)
    | (obtain ⟨t, rfl⟩ := rx; rfl)
theorem op_notN : OpR X (compareOp .IsNot) (fun x y H Q => y = .non ∧ Q (.bl (!decide (x = .non))) H) := by
  intro pins s σ H x y v u Q I rx ry h
  obtain ⟨rfl, q⟩ := h
  cases ry
  refine isnot_none_gen (fin_bl I q ?_)
  cases x <;> first
    | (cases rx; rfl)
    | (obtain ⟨t, rfl⟩ := rx; rfl)

theorem op_notin_str : OpR X (compareOp .NotIn) (fun x y H Q => ∃ i j, x = .str i ∧ y = .str j ∧ Q (.bl (!(!(Builtin.Str.occurrences j i 0 j.length 1).isEmpty))) H) := by
  intro pins s σ H x y v u Q I rx ry h
  obtain ⟨i, j, rfl, rfl, q⟩ := h
  obtain ⟨t, rfl⟩ := rx
  obtain ⟨t', rfl⟩ := ry
  exact notIn_str (fin_bl I q rfl)
/-- is, is not of two objects that are tracked lists or instances -/
def isObj : HO → Bool
  | .lst _ => true
  | .ins _ _ _ => true
  | _ => false
theorem obj_there {pins : List (Addr × Obj)} {s : Shared} {σ : St} {H : Hp} {a : Addr} {o : HO} (I : Inv X pins σ H s) (h : H a = some o) (p : isObj o = true) : ∃ ob, s.heap.get? a = some ob ∧ ob.cls ≠ .type "tuple" := by
  cases o with
  | lst xs =>
    obtain ⟨_, its, n, _, e⟩ : xs.length ≤ sizeLine ∧ ∃ (its : List Value) (n : Nat), Vals xs its ∧ s.heap.get? a = some { cls := .type "list", data := .seq its.toArray n } := I.hok a _ h
    exact ⟨_, e, (by show Value.type "list" ≠ .type "tuple"; decide +kernel)⟩
  | ins C dx fs =>
    have x := I.hok a _ h
    obtain ⟨_, _, _, e, _⟩ := x
    exact ⟨_, e, (by show Value.ref C ≠ .type "tuple"; exact fun z => by cases z)⟩
  | _ => exact absurd (show false = true from p) Bool.false_ne_true
theorem op_is_ref : OpR X (compareOp .Is) (fun x y H Q => ∃ a b oa ob, x = .ref a ∧ y = .ref b ∧ H a = some oa ∧ isObj oa = true ∧ H b = some ob ∧ isObj ob = true ∧ Q (.bl (decide (a = b))) H) := by
  intro pins s σ H x y v u Q I rx ry h
  obtain ⟨a, b, oa, ob, rfl, rfl, ha, pa, hb, pb, q⟩ := h
  cases rx
  cases ry
  obtain ⟨o1, e1, n1⟩ := obj_there I ha pa
  obtain ⟨o2, e2, _⟩ := obj_there I hb pb
  by_cases z : a = b
  · subst z
    exact wpAny_is_ref_self (fin_bl I q (by simp))
  · exact wpAny_is_ref_other z e1 e2 n1 (fin_bl I q (by simp [z]))
theorem op_isnot_ref : OpR X (compareOp .IsNot) (fun x y H Q => ∃ a b oa ob, x = .ref a ∧ y = .ref b ∧ H a = some oa ∧ isObj oa = true ∧ H b = some ob ∧ isObj ob = true ∧ Q (.bl (!decide (a = b))) H) := by
  intro pins s σ H x y v u Q I rx ry h
  obtain ⟨a, b, oa, ob, rfl, rfl, ha, pa, hb, pb, q⟩ := h
  cases rx
  cases ry
  obtain ⟨o1, e1, n1⟩ := obj_there I ha pa
  obtain ⟨o2, e2, _⟩ := obj_there I hb pb
  by_cases z : a = b
  · subst z
    exact wpAny_isNot_ref_self (fin_bl I q (by simp))
  · exact wpAny_isNot_ref_other z e1 e2 n1 (fin_bl I q (by simp [z]))

/-- two rules for one operation: by cases -/
theorem OpR.or {f : Value → Value → Sem Value} {r r' : R2} (h : OpR X f r) (h' : OpR X f r') : OpR X f (fun x y H Q => r x y H Q ∨ r' x y H Q) := by
  intro pins s σ H x y v u Q I rx ry q
  rcases q with q | q
  · exact h pins s σ H x y v u Q I rx ry q
  · exact h' pins s σ H x y v u Q I rx ry q

theorem nomark (b : Expr) {op : CmpOp} (h : op ≠ .In := by decide) (h2 : op ≠ .NotIn := by decide) : behindInMarks op b = false := by
  have e1 : (op == CmpOp.In) = false := by cases op <;> first | rfl | exact absurd rfl h
  have e2 : (op == CmpOp.NotIn) = false := by cases op <;> first | rfl | exact absurd rfl h2
  cases b <;> simp [behindInMarks, e1, e2]
/-- a comparison as a value; hm: nomark b, or (for in, not in) by with_unfolding_all rfl -/
theorem pe_cmpR {op : CmpOp} {r : R2} (ho : OpR X (compareOp op) r) (ha : PE X a ta) (hb : PE X b tb) (hm : behindInMarks op b = false) : PE X (.Compare a [op] [b] pos) (tOp r ta tb) := by
  intro pins s σ H Q I h
  exact wpAny_Compare1 (binT ha hb I h fun v u s2 x y H2 I2 rx ry q => ho pins s2 σ H2 x y v u Q I2 rx ry q) hm
/-- a reading of a value as a test -/
def tTest (t : TE) : TT := fun σ H Q => t σ H fun x H' => ∃ k, x = .bl k ∧ Q k H'
theorem pt_cmpR {op : CmpOp} {r : R2} (ho : OpR X (compareOp op) r) (ha : PE X a ta) (hb : PE X b tb) (hm : behindInMarks op b = false) : PT X (.Compare a [op] [b] pos) (tTest (tOp r ta tb)) := by
  intro pins s σ H Q I h
  refine wpAny_isTrue_Compare1 (thn (ha pins s σ H _ I h) fun v s1 ⟨x, H1, I1, r1, q1⟩ => thn (hb pins s1 σ H1 _ I1 q1) fun u s2 ⟨y, H2, I2, r2, q2⟩ =>
    thn (ho pins s2 σ H2 x y v u _ I2 r1 r2 q2) fun c s3 ⟨z, H3, I3, r3, k, e, q3⟩ => ?_) hm
  subst e
  cases r3
  exact wpAny_truthy_bool ⟨H3, I3, q3⟩
/-- a op1 b op2 c -/
def tChain (r r' : R2) (ta tb tc : TE) : TE := fun σ H Q => ta σ H fun x H1 => tb σ H1 fun y H2 => r x y H2 fun z H3 => ∃ k, z = .bl k ∧
  (if k = true then tc σ H3 fun w' H4 => r' y w' H4 Q else Q (.bl false) H3)
theorem pe_chain {op op' : CmpOp} {r r' : R2} (ho : OpR X (compareOp op) r) (ho' : OpR X (compareOp op') r') (ha : PE X a ta) (hb : PE X b tb) (hc : PE X c tc)
    (hm : lastMarks [op, op'] [b, c] = false := by with_unfolding_all rfl) : PE X (.Compare a [op, op'] [b, c] pos) (tChain r r' ta tb tc) := by
  intro pins s σ H Q I h
  refine Compare_chain (thn (ha pins s σ H _ I h) fun v s1 ⟨x, H1, I1, r1, q1⟩ => chain_link (thn (hb pins s1 σ H1 _ I1 q1) fun u s2 ⟨y, H2, I2, r2, q2⟩ =>
    thn (ho pins s2 σ H2 x y v u _ I2 r1 r2 q2) fun d s3 ⟨z, H3, I3, r3, k, e, q3⟩ => ?_)) hm
  subst e
  cases r3
  refine wpAny_truthy_bool ?_
  cases k with
  | false => exact ite_ff ⟨.bl false, H3, I3, rfl, q3⟩
  | true => exact ite_tt (chain_last (thn (hc pins s3 σ H3 _ I3 q3) fun w' s4 ⟨z', H4, I4, r4, q4⟩ => ho' pins s4 σ H4 y z' u w' Q I4 r2 r4 q4))
theorem pt_chain {op op' : CmpOp} {r r' : R2} (ho : OpR X (compareOp op) r) (ho' : OpR X (compareOp op') r') (ha : PE X a ta) (hb : PE X b tb) (hc : PE X c tc)
    (hm : lastMarks [op, op'] [b, c] = false := by with_unfolding_all rfl) : PT X (.Compare a [op, op'] [b, c] pos) (tTest (tChain r r' ta tb tc)) := by
  intro pins s σ H Q I h
  refine isTrue_chain (thn (ha pins s σ H _ I h) fun v s1 ⟨x, H1, I1, r1, q1⟩ => test_link (thn (hb pins s1 σ H1 _ I1 q1) fun u s2 ⟨y, H2, I2, r2, q2⟩ =>
    thn (ho pins s2 σ H2 x y v u _ I2 r1 r2 q2) fun d s3 ⟨z, H3, I3, r3, k, e, q3⟩ => ?_)) hm
  subst e
  cases r3
  refine wpAny_truthy_bool ?_
  cases k with
  | false =>
    obtain ⟨k', e', q'⟩ := q3
    cases e'
    exact ite_ff ⟨H3, I3, q'⟩
  | true =>
    refine ite_tt (test_last (thn (hc pins s3 σ H3 _ I3 q3) fun w' s4 ⟨z', H4, I4, r4, q4⟩ => thn (ho' pins s4 σ H4 y z' u w' _ I4 r2 r4 q4) fun d' s5 ⟨z2, H5, I5, r5, k2, e2, q5⟩ => ?_))
    subst e2
    cases r5
    exact wpAny_truthy_bool ⟨H5, I5, q5⟩

/-! ### truth -/
/-- a value's truth by the abstract heap -/
def TruV (K : PySem.W.Frag) (x : V) (H : Hp) (k : Bool) : Prop :=
  match x with
  | .non => k = false
  | .bl b => k = b
  | .int i => k = (i != 0)
  | .str y => y.length ≤ sizeLine ∧ k = ((y.length : Int) != 0)
  | .byt y => y.size ≤ sizeLine ∧ k = ((y.size : Int) != 0)
  | .ref p => (∃ xs, SqL K H p xs ∧ k = !xs.isEmpty) ∨ (∃ xs, SqT K H p xs ∧ k = !xs.isEmpty) ∨ ∃ kvs, H p = some (.dK kvs) ∧ k = !kvs.isEmpty
  | _ => False
theorem isEmpty_kv {κ : Type} {kvs : List (κ × V)} {vs : List (κ × Value)} (r : KV kvs vs) : (!vs.isEmpty) = !kvs.isEmpty := by
  cases r <;> rfl
theorem isEmpty_of {xs : List V} {its : List Value} (r : Vals xs its) : (!its.toArray.isEmpty) = !xs.isEmpty := by
  cases r <;> simp
theorem line63 : (sizeLine : Nat) < 2 ^ 63 := by rw [sizeLine_eq]; decide
theorem tru_ok : TruR X (fun x H Q => ∃ k, TruV X.K x H k ∧ Q k H) := by
  intro pins s σ H x v Q I rx h
  obtain ⟨k, e, q⟩ := h
  have hl := line63
  have hs : sizeLine = 16777216 := sizeLine_eq
  cases x with
  | non =>
    cases rx
    have e' : k = false := e
    subst e'
    exact truthy_none ⟨H, I, q⟩
  | bl b =>
    cases rx
    have e' : k = b := e
    subst e'
    exact wpAny_truthy_bool ⟨H, I, q⟩
  | int i =>
    obtain ⟨t, rfl⟩ := rx
    have e' : k = (i != 0) := e
    subst e'
    exact PySem.P.truthy_int ⟨H, I, q⟩
  | str y =>
    obtain ⟨t, rfl⟩ := rx
    obtain ⟨hy, e'⟩ : y.length ≤ sizeLine ∧ k = ((y.length : Int) != 0) := e
    subst e'
    exact PySem.P.truthy_str (by omega) ⟨H, I.tok _, q⟩
  | byt y =>
    obtain ⟨t, rfl⟩ := rx
    obtain ⟨hy, e'⟩ : y.size ≤ sizeLine ∧ k = ((y.size : Int) != 0) := e
    subst e'
    exact PySem.W.truthy_bytes (by omega) ⟨H, I.tok _, q⟩
  | ref p =>
    cases rx
    have e' : (∃ xs, SqL X.K H p xs ∧ k = !xs.isEmpty) ∨ (∃ xs, SqT X.K H p xs ∧ k = !xs.isEmpty) ∨ ∃ kvs, H p = some (.dK kvs) ∧ k = !kvs.isEmpty := e
    rcases e' with ⟨xs, hx, e'⟩ | ⟨xs, hx, e'⟩ | ⟨kvs, hx, e'⟩
    · subst e'
      obtain ⟨its, r, pl, hz⟩ := I.list hx
      have hlen := r.length
      exact wpAny_truthy_list pl.isList (by simp only [List.size_toArray]; omega) ⟨H, I.tok _, by rw [isEmpty_of r]; exact q⟩
    · subst e'
      obtain ⟨its, r, pl, hz⟩ := I.tuple hx
      have hlen := r.length
      exact truthy_tuple pl (by simp only [List.size_toArray]; omega) ⟨H, I.tok _, by rw [isEmpty_of r]; exact q⟩
    · subst e'
      obtain ⟨hz, hS, vs, r, m⟩ : kvs.length ≤ sizeLine ∧ (p == sysModules) = false ∧ ∃ vs, KV kvs vs ∧ s.heap.DictOf (mixKind X.prog X.w) p vs := I.hok p _ hx
      have hlen : kvs.length = vs.length := Paired.length r
      exact wpAny_truthy_dict hS m (by omega) ⟨H, I.tok _, by rw [isEmpty_kv r]; exact q⟩
  | _ => exact (show False from e).elim
/-- any expression whose test is its value's truth (a name, a call, a subscript, a field ..: he by fun _ => rfl) -/
theorem pt_truth (ha : PE X a ta) (he : ∀ whole, isTrue a X.env whole = (do let v ← whole; standAt a.pos; holding [v] (truthy v))) :
    PT X a (fun σ H Q => ta σ H fun x H' => ∃ k, TruV X.K x H' k ∧ Q k H') := by
  intro pins s σ H Q I h
  exact isTrue_plain (thn (ha pins s σ H _ I h) fun v s1 ⟨x, H1, I1, r1, q1⟩ => tru_ok pins s1 σ H1 x v Q I1 r1 q1) (he _)

/-! ### strs and bytes -/
theorem pe_byt {x : List UInt8} {k : Nat} : PE X (.Constant (.bytes x) k pos) (fun _ H Q => Q (.byt x.toArray) H) := fun _ _ _ H _ I h => PySem.W.Constant_bytes ⟨.byt x.toArray, H, I.tok _, ⟨_, rfl⟩, h⟩
theorem op_add_str : OpR X (binaryOp .Add) (fun x y H Q => ∃ i j, x = .str i ∧ y = .str j ∧ i.length + j.length ≤ sizeLine ∧ Q (.str (i ++ j)) H) := by
  intro pins s σ H x y v u Q I rx ry h
  obtain ⟨i, j, rfl, rfl, hz, q⟩ := h
  obtain ⟨t, rfl⟩ := rx
  obtain ⟨t', rfl⟩ := ry
  exact add_str (fun t' tk => ⟨.str (i ++ j), H, I.tok _, ⟨_, rfl⟩, q⟩) hz
theorem iop_add_str : OpR X (inplaceOp .Add) (fun x y H Q => ∃ i j, x = .str i ∧ y = .str j ∧ i.length + j.length ≤ sizeLine ∧ Q (.str (i ++ j)) H) := by
  intro pins s σ H x y v u Q I rx ry h
  obtain ⟨i, j, rfl, rfl, hz, q⟩ := h
  obtain ⟨t, rfl⟩ := rx
  obtain ⟨t', rfl⟩ := ry
  exact iadd_str (fun t' tk => ⟨.str (i ++ j), H, I.tok _, ⟨_, rfl⟩, q⟩) hz
theorem op_add_byt : OpR X (binaryOp .Add) (fun x y H Q => ∃ i j, x = .byt i ∧ y = .byt j ∧ i.size + j.size ≤ 16777216 ∧ Q (.byt (i ++ j)) H) := by
  intro pins s σ H x y v u Q I rx ry h
  obtain ⟨i, j, rfl, rfl, hz, q⟩ := h
  obtain ⟨t, rfl⟩ := rx
  obtain ⟨t', rfl⟩ := ry
  exact PySem.W.KBy.add_bytes hz (fun t' tk => ⟨.byt (i ++ j), H, I.tok _, ⟨_, rfl⟩, q⟩)

def PlainIxT (b : Expr) : Prop := ∀ o i, subscripted b false o i = operate [o, i] (getItem o i)
/-- s[i], 0 ≤ i < len -/
theorem pe_item_str (ha : PE X a ta) (hb : PE X b tb) (hs : PlainIxT b) :
    PE X (.Subscript a b pos) (tOp (fun x y H Q => ∃ z i c, x = .str z ∧ y = .int i ∧ 0 ≤ i ∧ i < 2 ^ 63 ∧ i < z.length ∧ z.cps[i.toNat]? = some c ∧ Q (.str ⟨#[c]⟩) H) ta tb) := by
  intro pins s σ H Q I h
  refine Subscript_ (binT ha hb I h fun v u s2 x y H2 I2 rx ry q => ?_)
  obtain ⟨z, i, c, rfl, rfl, h0, h63, h1, hc, q⟩ := q
  obtain ⟨t, rfl⟩ := rx
  obtain ⟨t', rfl⟩ := ry
  have e : seqIndex? i z.length = some i.toNat := PySem.StrLaws.seqIndex_nonneg h0 h1
  exact tail_any (typeIs_str s2 z t) slot_str_getitem.lookup (getItem_str (c := c) (by
    have e1 : decide (i < -(2 ^ 63 : Int)) = false := decide_eq_false (by omega)
    have e2 : decide (i ≥ 2 ^ 63) = false := decide_eq_false (by omega)
    rw [e1, e2] <;> rfl) (by rw [e]; exact hc) ⟨.str ⟨#[c]⟩, H2, I2.tok _, ⟨_, rfl⟩, q⟩) (hs _ _)
/-- b[i], 0 ≤ i < len -/
theorem pe_item_byt (ha : PE X a ta) (hb : PE X b tb) (hs : PlainIxT b) :
    PE X (.Subscript a b pos) (tOp (fun x y H Q => ∃ (z : List UInt8) (i : Int), x = .byt z.toArray ∧ y = .int i ∧ z.length ≤ sizeLine ∧ 0 ≤ i ∧ i < z.length ∧ Q (.int ((z.getD i.toNat 0).toNat : Nat)) H) ta tb) := by
  intro pins s σ H Q I h
  refine Subscript_ (binT ha hb I h fun v u s2 x y H2 I2 rx ry q => ?_)
  obtain ⟨z, i, rfl, rfl, hz, h0, h1, q⟩ := q
  obtain ⟨t, rfl⟩ := rx
  obtain ⟨t', rfl⟩ := ry
  have hl : sizeLine = 16777216 := sizeLine_eq
  exact tail_any (PySem.W.typeIs_bytes s2 z.toArray t) PySem.W.FB.slot_bytes_getitem.lookup (PySem.W.getItem_bytes (by omega) h0 h1 ⟨.int ((z.getD i.toNat 0).toNat : Nat), H2, I2.tok _, ⟨_, rfl⟩, q⟩) (hs _ _)

/-! ### scalar builtins, by CallR -/
theorem vals1 {x : V} {us : List Value} (r : Vals [x] us) : ∃ u, us = [u] ∧ RelV x u := by
  cases r with
  | cons r1 r2 => cases r2; exact ⟨_, rfl, r1⟩
theorem vals2 {x y : V} {us : List Value} (r : Vals [x, y] us) : ∃ u w', us = [u, w'] ∧ RelV x u ∧ RelV y w' := by
  cases r with
  | cons r1 r2 =>
    cases r2 with
    | cons r3 r4 => cases r4; exact ⟨_, _, rfl, r1, r3⟩
theorem call_abs : CallR X (.builtin "abs") (fun xs H Q => ∃ i, xs = [.int i] ∧ Q (.int (if i < 0 then -i else i)) H) := by
  intro pins s σ H xs us Q I r h
  obtain ⟨i, rfl, q⟩ := h
  obtain ⟨u, rfl, t, rfl⟩ := vals1 r
  exact call_abs_int fun u tk => ⟨.int (if i < 0 then -i else i), H, I.tok _, ⟨_, rfl⟩, q⟩
theorem call_max2 (hc : X.calm = true) : CallR X (.builtin "max") (fun xs H Q => ∃ i j, xs = [.int i, .int j] ∧ Q (.int (if j > i then j else i)) H) := by
  intro pins s σ H xs us Q I r h
  obtain ⟨i, j, rfl, q⟩ := h
  obtain ⟨u, w', rfl, ⟨t, rfl⟩, ⟨t', rfl⟩⟩ := vals2 r
  refine max_two_ints (I.ok.hd hc) fun h' tk k => ⟨_, H, I.kept k, ?_, q⟩
  by_cases hj : j > i
  · rw [if_pos hj, if_pos hj]; exact ⟨_, rfl⟩
  · rw [if_neg hj, if_neg hj]; exact ⟨_, rfl⟩
theorem call_min2 (hc : X.calm = true) : CallR X (.builtin "min") (fun xs H Q => ∃ i j, xs = [.int i, .int j] ∧ Q (.int (if j < i then j else i)) H) := by
  intro pins s σ H xs us Q I r h
  obtain ⟨i, j, rfl, q⟩ := h
  obtain ⟨u, w', rfl, ⟨t, rfl⟩, ⟨t', rfl⟩⟩ := vals2 r
  refine min_two_ints (I.ok.hd hc) fun h' tk k => ⟨_, H, I.kept k, ?_, q⟩
  by_cases hj : j < i
  · rw [if_pos hj, if_pos hj]; exact ⟨_, rfl⟩
  · rw [if_neg hj, if_neg hj]; exact ⟨_, rfl⟩
theorem call_int1 : CallR X (.type "int") (fun xs H Q => (∃ i, xs = [.int i] ∧ Q (.int i) H) ∨ ∃ k, xs = [.bl k] ∧ Q (.int (if k then 1 else 0)) H) := by
  intro pins s σ H xs us Q I r h
  rcases h with ⟨i, rfl, q⟩ | ⟨k, rfl, q⟩
  · obtain ⟨u, rfl, t, rfl⟩ := vals1 r
    exact call_int_int ⟨.int i, H, I, ⟨_, rfl⟩, q⟩
  · obtain ⟨u, rfl, r1⟩ := vals1 r
    cases r1
    exact call_int_bool ⟨.int (if k then 1 else 0), H, I.tok _, ⟨_, rfl⟩, q⟩
theorem call_bool1 : CallR X (.type "bool") (fun xs H Q => (∃ i, xs = [.int i] ∧ Q (.bl (i != 0)) H) ∨ ∃ k, xs = [.bl k] ∧ Q (.bl k) H) := by
  intro pins s σ H xs us Q I r h
  rcases h with ⟨i, rfl, q⟩ | ⟨k, rfl, q⟩
  · obtain ⟨u, rfl, t, rfl⟩ := vals1 r
    exact call_bool_int ⟨.bl (i != 0), H, I, rfl, q⟩
  · obtain ⟨u, rfl, r1⟩ := vals1 r
    cases r1
    exact call_bool_bool ⟨.bl k, H, I, rfl, q⟩
theorem call_str_int : CallR X (.type "str") (fun xs H Q => ∃ i, xs = [.int i] ∧ i.natAbs.log2 < 1920 ∧ Q (.str (toString i)) H) := by
  intro pins s σ H xs us Q I r h
  obtain ⟨i, rfl, hz, q⟩ := h
  obtain ⟨u, rfl, t, rfl⟩ := vals1 r
  exact PySem.P.str_of_int hz ⟨.str _, H, I.tok _, ⟨_, rfl⟩, q⟩
theorem call_ord : CallR X (.builtin "ord") (fun xs H Q => ∃ x, xs = [.str x] ∧ x.length = 1 ∧ Q (.int (x.cps.getD 0 0 : Nat)) H) := by
  intro pins s σ H xs us Q I r h
  obtain ⟨x, rfl, hz, q⟩ := h
  obtain ⟨u, rfl, t, rfl⟩ := vals1 r
  exact ord_of_one hz ⟨.int _, H, I.tok _, ⟨_, rfl⟩, q⟩
theorem call_chr : CallR X (.builtin "chr") (fun xs H Q => ∃ i, xs = [.int i] ∧ 0 ≤ i ∧ i ≤ 1114111 ∧ Q (.str ⟨#[i.toNat]⟩) H) := by
  intro pins s σ H xs us Q I r h
  obtain ⟨i, rfl, h0, h1, q⟩ := h
  obtain ⟨u, rfl, t, rfl⟩ := vals1 r
  exact chr_of_range h0 h1 ⟨.str _, H, I.tok _, ⟨_, rfl⟩, q⟩
/-- len of a str, a bytes, a list, a tuple -/
def LenV (K : PySem.W.Frag) (x : V) (H : Hp) (n : Nat) : Prop :=
  match x with
  | .str y => y.length ≤ sizeLine ∧ n = y.length
  | .byt y => y.size ≤ sizeLine ∧ n = y.size
  | .ref p => (∃ xs, SqL K H p xs ∧ n = xs.length) ∨ ∃ xs, SqT K H p xs ∧ n = xs.length
  | _ => False
theorem call_len : CallR X (.builtin "len") (fun xs H Q => ∃ x n, xs = [x] ∧ LenV X.K x H n ∧ Q (.int n) H) := by
  intro pins s σ H xs us Q I r h
  obtain ⟨x, n, rfl, e, q⟩ := h
  obtain ⟨u, rfl, rx⟩ := vals1 r
  have hl := line63
  have hs : sizeLine = 16777216 := sizeLine_eq
  cases x with
  | str y =>
    obtain ⟨t, rfl⟩ := rx
    obtain ⟨hy, e'⟩ : y.length ≤ sizeLine ∧ n = y.length := e
    subst e'
    exact len_str (by omega) ⟨.int _, H, I.tok _, ⟨_, rfl⟩, q⟩
  | byt y =>
    obtain ⟨t, rfl⟩ := rx
    obtain ⟨hy, e'⟩ : y.size ≤ sizeLine ∧ n = y.size := e
    subst e'
    exact PySem.W.len_bytes (by omega) ⟨.int _, H, I.tok _, ⟨_, rfl⟩, q⟩
  | ref p =>
    cases rx
    have e' : (∃ xs, SqL X.K H p xs ∧ n = xs.length) ∨ ∃ xs, SqT X.K H p xs ∧ n = xs.length := e
    rcases e' with ⟨xs, hx, e'⟩ | ⟨xs, hx, e'⟩
    · subst e'
      obtain ⟨its, r', pl, hz⟩ := I.list hx
      have hlen := r'.length
      exact Calls.call_len_list pl.isList (by simp only [List.size_toArray]; omega) ⟨.int xs.length, H, I.tok _, ⟨_, by simp only [List.size_toArray]; rw [hlen]⟩, q⟩
    · subst e'
      obtain ⟨its, r', pl, hz⟩ := I.tuple hx
      have hlen := r'.length
      exact len_tuple pl (by simp only [List.size_toArray]; omega) ⟨.int xs.length, H, I.tok _, ⟨_, by simp only [List.size_toArray]; rw [hlen]⟩, q⟩
  | _ => exact (show False from e).elim
/-- divmod: a new tuple -/
theorem call_divmod : CallR X (.builtin "divmod") (fun xs H Q => ∃ i j, xs = [.int i, .int j] ∧ CDiv i j ∧ ∀ p, H p = none → Q (.ref p) (upd H p (.tup [.int (i / j), .int (i % j)]))) := by
  intro pins s σ H xs us Q I r h
  obtain ⟨i, j, rfl, ⟨h1, h2⟩, q⟩ := h
  obtain ⟨u, w', rfl, ⟨t, rfl⟩, ⟨t', rfl⟩⟩ := vals2 r
  refine divmod_int (by omega) ?_ (.inl (PyProof.noPylong_small (by omega)))
  rw [Int.fdiv_eq_ediv_of_nonneg i (by omega), Int.fmod_eq_emod_of_nonneg i (by omega)]
  have hn : H s.heap.objs.size = none := I.hok.fresh (Nat.le_refl _)
  refine ⟨.ref s.heap.objs.size, _, ?_, rfl, q _ hn⟩
  refine I.laid (fun b o e => Heap.get?_push_of_some _ e) (Nat.le_refl _) ⟨by simp only [List.length_cons, List.length_nil]; rw [sizeLine_eq]; decide, [.int (i / j) s.toks, .int (i % j) (s.toks + 1)], .cons ⟨_, rfl⟩ (.cons ⟨_, rfl⟩ .nil), ?_⟩
  exact ⟨_, Heap.get?_push_size s.heap rfl, rfl, 0, rfl⟩
end
end L2

namespace L2
open PySem PySem.Spec PyProof.Rows

/-! ### an instance, its attributes a map -/
structure ObjM (h : Heap) (x dx C : Addr) (mA : Str → Option Value) : Prop where
  obj : h.get? x = some (PySem.W.instObj C dx)
  ns : h.Ns1 dx mA
  ne : dx ≠ x

theorem lookIn_ns {h : Heap} {dx : Addr} {mA : Str → Option Value} (n : h.Ns1 dx mA) : ∃ od, h.get? dx = some od ∧ ∀ name, PySem.W.lookIn name od = some (mA name) := by
  obtain ⟨o, es, ep, ho, hd, hk, _, hm⟩ := n
  refine ⟨o, ho, fun name => ?_⟩
  have e := hm name
  unfold nsFind findBy at e
  rw [← Array.find?_toList] at e
  unfold PySem.W.lookIn
  rw [hd]
  dsimp only
  split
  · rename_i y q
    rw [q] at e
    exact congrArg some e
  · rename_i q
    rw [q] at e
    have a : es.toList.any (·.refKey) = false := by
      rw [List.any_eq_false]
      intro y hy
      obtain ⟨z, t, hkey⟩ := hk y (Array.mem_toList_iff.mp hy)
      simp [DictEntry.refKey, hkey]
    have a' : ¬ es.toList.any (·.refKey) = true := by rw [a]; exact Bool.false_ne_true
    rw [if_neg a']
    exact congrArg some e

theorem ObjM.look {h : Heap} {x dx C : Addr} {mA : Str → Option Value} (I : ObjM h x dx C mA) : ∃ od, PySem.W.InstAt h x (PySem.W.instObj C dx) C (some od) ∧ ∀ name, PySem.W.lookIn name od = some (mA name) :=
  let ⟨od, ho, hl⟩ := lookIn_ns I.ns
  ⟨od, ⟨I.obj, rfl, rfl, ho⟩, hl⟩

section
variable {prog : Program} {w : World} {A : Around} {E : Value → Shared → Prop} {s : Shared} {K : PySem.W.Frag} {x dx C f : Addr} {mA : Str → Option Value} {name : Str} {v : Value}

theorem get_map {expr : Bool} {Q : Value → Shared → Prop} (X : K.In s.heap) (I : ObjM s.heap x dx C mA) (hg : PySem.W.plainGet K C name = true) (hh : PySem.W.hasDictIn K C = true)
    (ha : PySem.W.findIn K (.ref C) name = some none) (hv : mA name = some v) (hv' : PySem.W.handedIn v = true) (h : Q v { s with toks := s.toks + 1 }) :
    wpAny (model prog w) A (getAttr (.ref x) name expr) Q E s := by
  obtain ⟨od, J, hl⟩ := I.look
  exact PySem.W.get_value X J (PySem.W.plainGet_of hg).1 (PySem.W.findObj_own hh ha rfl (by rw [hl, hv])) hv' h

theorem get_const {expr : Bool} {a : Value} {Q : Value → Shared → Prop} (X : K.In s.heap) (I : ObjM s.heap x dx C mA) (hg : PySem.W.plainGet K C name = true) (hh : PySem.W.hasDictIn K C = true)
    (ha : PySem.W.findIn K (.ref C) name = some (some a)) (hn : PySem.W.specialIn K a "__get__" = some none) (hc : PySem.W.copiedNames.contains name = false) (hv : mA name = none) (hv' : PySem.W.handedIn a = true)
    (h : Q a { s with toks := s.toks + 1 }) : wpAny (model prog w) A (getAttr (.ref x) name expr) Q E s := by
  obtain ⟨od, J, hl⟩ := I.look
  exact PySem.W.get_value X J (PySem.W.plainGet_of hg).1 (PySem.W.findObj_cls hh ha hn hv' hc (by rw [hl, hv])) hv' h

theorem get_meth {pl : Sem Bool} {Q : Value × List Value → Shared → Prop} (X : K.In s.heap) (I : ObjM s.heap x dx C mA) (hg : PySem.W.plainGet K C name = true)
    (hf : PySem.W.findIn K (.ref C) name = some (some (.ref f))) (ht : PySem.W.isFn K (.ref f) = true) (hv : mA name = none) (h : Q (.ref f, [.ref x]) s) :
    wpAny (model prog w) A (getMethod (.ref x) name pl) Q E s := by
  obtain ⟨od, J, hl⟩ := I.look
  exact PySem.W.method_fn X J (PySem.W.plainGet_of hg).1 (PySem.W.plainGet_of hg).2 hf (beq_iff_eq.mp ht) (by show (PySem.W.lookIn name od).map (·.isSome) = some false; rw [hl, hv]; rfl) h

theorem set_map {ns : List Str} {Q : Unit → Shared → Prop} (X : K.In s.heap) (I : ObjM s.heap x dx C mA)
    (hs : PySem.W.findIn K (.ref C) "__setattr__" = some (some (.builtin "object.__setattr__"))) (hp : PySem.W.plainOver K C = true) (ht : PySem.W.takerIn K C name = some none) (hh : PySem.W.hasDictIn K C = true)
    (hw : PySem.Within mA ns) (hsz : ns.length ≤ sizeLine)
    (h : ∀ h', ObjM h' x dx C (fun y => if y = name then some v else mA y) → Heap.SameBut dx s.heap h' → Q () { s with heap := h', toks := s.toks + 2 }) :
    wpAny (model prog w) A (setAttr (.ref x) name v) Q E s := by
  obtain ⟨od, J, hl⟩ := I.look
  refine PySem.W.set_plain X J hs (PySem.W.osa_open (s := { s with toks := s.toks + 1 }) (r := none) X J hp ht fun b => ?_)
  obtain ⟨cd, hc, hd'⟩ := PySem.W.any_some hh
  have hx : s.heap.get? x = some ⟨.ref C, some dx, .plain, #[]⟩ := I.obj
  refine wpAny_bind (wpAny_pure (wpAny_bind (wpAny_bind (wpAny_loadPart hx (wpAny_bind (PySem.W.Looks.here (s := { s with toks := s.toks + 1 }) (PySem.W.looks_clsIn X hc) ?_))))))
  rw [hd']
  refine wpAny_pure (a := some dx) (wpAny_bind (wpAny_pure (wpAny_bind ?_)))
  refine wpAny_nsSet1 (s := { s with toks := s.toks + 1 }) I.ns fun h' hn2 hs2 => ?_
  obtain ⟨oD, esD, epD, hoD, hdD, hcD⟩ := hn2.count (PySem.Within.cons name v hw)
  refine wpAny_bind (wpAny_lookBehind hoD (by rw [hdD]; exact pastItsLine_dict (Nat.le_trans hcD (by rw [List.length_cons]; omega))) ?_)
  exact wpAny_pure (h _ ⟨(hs2.2 _ (Ne.symm I.ne)).trans I.obj, hn2, I.ne⟩ hs2)

/-- C(..): the dict at the heap's end, the instance behind it; then its __init__ -/
theorem make_map {R : Result → Shared → Prop} {vs : List Value} {kw : List (Str × Value)} (X : K.In s.heap) (hm : PySem.W.makesIn K C = true)
    (hi : PySem.W.findIn K (.ref C) "__init__" = some (some (.ref f))) (hf : PySem.W.typeIn K (.ref f) = some (.type "function"))
    (h : codeAny (model prog w) (A.under (.builtin "type.__call__" ⟨.ref C :: vs, kw⟩)) (.call (.ref f) ⟨.ref (s.heap.objs.size + 1) :: vs, kw⟩) (PySem.W.InitBack (s.heap.objs.size + 1) R)
      { s with heap := (s.heap.push PySem.W.emptyDict).push (PySem.W.instObj C s.heap.objs.size) }) :
    codeAny (model prog w) A (.call (.ref C) ⟨vs, kw⟩) R s := by
  obtain ⟨hh, g, d, t, os⟩ := s
  exact PySem.W.make_core (PySem.W.makes_of X hm) (PySem.W.looks_findIn X hi) (fun self => PySem.W.bind_fn X self hf) (.inl rfl) h
/-- C() where there is no __init__ but object's -/
theorem make_map0 {R : Result → Shared → Prop} (X : K.In s.heap) (hm : PySem.W.makesIn K C = true)
    (hi : PySem.W.findIn K (.ref C) "__init__" = some (some (.builtin "object.__init__")))
    (hb : ∀ self, PySem.W.Looks (model prog w) s.heap (bindSpecial (.builtin "object.__init__") self) (.builtin "object.__init__", [self]))
    (h : codeAny (model prog w) (A.under (.builtin "type.__call__" ⟨[.ref C], []⟩)) (.call (.builtin "object.__init__") ⟨[.ref (s.heap.objs.size + 1)], []⟩) (PySem.W.InitBack (s.heap.objs.size + 1) R)
      { s with heap := (s.heap.push PySem.W.emptyDict).push (PySem.W.instObj C s.heap.objs.size) }) :
    codeAny (model prog w) A (.call (.ref C) ⟨[], []⟩) R s := by
  obtain ⟨hh, g, d, t, os⟩ := s
  exact PySem.W.make_core (PySem.W.makes_of X hm) (PySem.W.looks_findIn X hi) hb (.inr ⟨rfl, rfl⟩) h
end

/-! ### the attributes as a list of pairs -/
def putF (f : Str) (v : V) : List (Str × V) → List (Str × V)
  | [] => [(f, v)]
  | (g, x) :: r => if g = f then (g, v) :: r else (g, x) :: putF f v r
theorem lookup_putF (f g : Str) (v : V) : ∀ fs : List (Str × V), (putF f v fs).lookup g = if g = f then some v else fs.lookup g
  | [] => by
    show List.lookup g [(f, v)] = _
    by_cases h : g = f
    · have hb : (g == f) = true := beq_iff_eq.mpr h
      simp only [List.lookup, hb, if_pos h]
    · have hb : (g == f) = false := beq_eq_false_iff_ne.mpr h
      simp only [List.lookup, hb, if_neg h]
  | (k, x) :: r => by
    have ih := lookup_putF f g v r
    rw [show putF f v ((k, x) :: r) = (if k = f then (k, v) :: r else (k, x) :: putF f v r) from rfl]
    by_cases hk : k = f
    · rw [if_pos hk]
      by_cases h : g = k
      · have hb : (g == k) = true := beq_iff_eq.mpr h
        simp only [List.lookup, hb, if_pos (h.trans hk)]
      · have hb : (g == k) = false := beq_eq_false_iff_ne.mpr h
        simp only [List.lookup, hb, if_neg (fun e : g = f => h (e.trans hk.symm))]
    · rw [if_neg hk]
      by_cases h : g = k
      · have hb : (g == k) = true := beq_iff_eq.mpr h
        simp only [List.lookup, hb, if_neg (fun e : g = f => hk (h.symm.trans e))]
      · have hb : (g == k) = false := beq_eq_false_iff_ne.mpr h
        simp only [List.lookup, hb]
        exact ih
theorem keys_putF (f : Str) (v : V) : ∀ fs : List (Str × V), f ∈ (putF f v fs).map (·.1) ∧ ∀ g, g ∈ fs.map (·.1) → g ∈ (putF f v fs).map (·.1)
  | [] => ⟨by simp [putF], fun g h => by simp at h⟩
  | (k, x) :: r => by
    obtain ⟨i1, i2⟩ := keys_putF f v r
    rw [show putF f v ((k, x) :: r) = (if k = f then (k, v) :: r else (k, x) :: putF f v r) from rfl]
    by_cases hk : k = f
    · rw [if_pos hk]
      subst hk
      exact ⟨by simp, fun g h => by simpa using h⟩
    · rw [if_neg hk]
      refine ⟨?_, fun g h => ?_⟩
      · rw [List.map_cons]
        exact List.mem_cons_of_mem _ i1
      · rw [List.map_cons] at h ⊢
        rcases List.mem_cons.mp h with e | e
        · exact List.mem_cons.mpr (.inl e)
        · exact List.mem_cons_of_mem _ (i2 g e)
theorem length_putF (f : Str) (v : V) : ∀ fs : List (Str × V), (putF f v fs).length ≤ fs.length + 1
  | [] => by simp [putF]
  | (k, x) :: r => by
    have ih := length_putF f v r
    rw [show putF f v ((k, x) :: r) = (if k = f then (k, v) :: r else (k, x) :: putF f v r) from rfl]
    by_cases hk : k = f
    · rw [if_pos hk, List.length_cons, List.length_cons]; omega
    · rw [if_neg hk, List.length_cons, List.length_cons]; omega

theorem RelO.some_of {v : V} {o : Option Value} (r : RelO (some v) o) : ∃ u, o = some u ∧ RelV v u := by
  cases o with
  | none => exact (show False from r).elim
  | some u => exact ⟨u, rfl, r⟩
theorem RelO.none_of {o : Option Value} (r : RelO none o) : o = none := by
  cases o with
  | none => rfl
  | some u => exact (show False from r).elim
theorem handed_of {v : V} {u : Value} (r : RelV v u) : PySem.W.handedIn u = true := by
  cases v with
  | non => cases (show u = Value.none from r); rfl
  | bl b => cases (show u = Value.bool b from r); rfl
  | int i => obtain ⟨t, e⟩ := (show ∃ t, u = Value.int i t from r); cases e; rfl
  | str x => obtain ⟨t, e⟩ := (show ∃ t, u = Value.str x t from r); cases e; rfl
  | byt b => obtain ⟨t, e⟩ := (show ∃ t, u = Value.bytes b t from r); cases e; rfl
  | flt b => obtain ⟨t, e⟩ := (show ∃ t, u = Value.float b t from r); cases e; rfl
  | ref a => cases (show u = Value.ref a from r); rfl
  | ty n => cases (show u = Value.type n from r); rfl

section
variable {P : Program} {w : World} {H H' : Hp} {h h' : Heap} {a C dx : Addr} {fs fs' : List (Str × V)}
theorem ins_get (hok : HOk P w H h) (e : H a = some (.ins C dx fs)) : ∃ mA, ObjM h a dx C mA ∧ (∀ f, RelO (fs.lookup f) (mA f)) ∧ PySem.Within mA (fs.map (·.1)) ∧ fs.length ≤ 1000 ∧ H dx = some (.own a) := by
  obtain ⟨d, z, ne, ob, mA, n, r, q⟩ := (show ObjOk P w H h a (.ins C dx fs) from hok a _ e)
  exact ⟨mA, ⟨ob, n, ne⟩, r, q, z, d⟩
end

/-! ### what of the text a class must have -/
structure Cls (K : PySem.W.Frag) (C : Addr) : Prop where
  pg : PySem.W.plainGet K C Str.empty = true
  hd : PySem.W.hasDictIn K C = true
  po : PySem.W.plainOver K C = true
  sa : PySem.W.findIn K (.ref C) "__setattr__" = some (some (.builtin "object.__setattr__"))
theorem Cls.get {K : PySem.W.Frag} {C : Addr} (c : Cls K C) (f : Str) : PySem.W.plainGet K C f = true := c.pg
/-- no class of it has the name -/
def NoAttr (K : PySem.W.Frag) (C : Addr) (f : Str) : Prop := PySem.W.findIn K (.ref C) f = some none
theorem NoAttr.taker {K : PySem.W.Frag} {C : Addr} {f : Str} (n : NoAttr K C f) : PySem.W.takerIn K C f = some none := by
  unfold PySem.W.takerIn
  rw [show PySem.W.findIn K (.ref C) f = some none from n]
  rfl
/-- a constant of the class -/
structure Con (K : PySem.W.Frag) (C : Addr) (f : Str) (v : V) (u : Value) : Prop where
  at_ : PySem.W.findIn K (.ref C) f = some (some u)
  rel : RelV v u
  get : PySem.W.specialIn K u "__get__" = some none
  cp : PySem.W.copiedNames.contains f = false
/-- a method: a plain def of the class or of one above it -/
structure Meth (K : PySem.W.Frag) (C : Addr) (m : Str) (f : Addr) : Prop where
  at_ : PySem.W.findIn K (.ref C) m = some (some (.ref f))
  fn : PySem.W.isFn K (.ref f) = true
  kp : PySem.W.keepIn K (.ref f) = true

section
variable {X : Cx} {pins : List (Addr × Obj)} {σ : St} {H : Hp} {s : Shared} {a C dx : Addr} {fs : List (Str × V)} {f : Str} {v : V} {A : Around} {E : Value → Shared → Prop}

theorem getattr_ok {b : Bool} {Q : Value → Shared → Prop} (I : Inv X pins σ H s) (e : H a = some (.ins C dx fs)) (c : Cls X.K C) (n : NoAttr X.K C f) (l : fs.lookup f = some v)
    (h : ∀ u s', Inv X pins σ H s' → RelV v u → Q u s') : wpAny (model X.prog X.w) A (getAttr (.ref a) f b) Q E s := by
  obtain ⟨mA, O, r, _, _, _⟩ := ins_get I.hok e
  obtain ⟨u, hu, ru⟩ := RelO.some_of (v := v) (o := mA f) (by rw [← l]; exact r f)
  exact get_map I.kIn O (c.get f) c.hd n hu (handed_of ru) (h u _ (I.tok _) ru)

theorem getcon_ok {b : Bool} {u : Value} {Q : Value → Shared → Prop} (I : Inv X pins σ H s) (e : H a = some (.ins C dx fs)) (c : Cls X.K C) (k : Con X.K C f v u) (l : fs.lookup f = none)
    (h : ∀ s', Inv X pins σ H s' → Q u s') : wpAny (model X.prog X.w) A (getAttr (.ref a) f b) Q E s := by
  obtain ⟨mA, O, r, _, _, _⟩ := ins_get I.hok e
  have hn : mA f = none := RelO.none_of (by rw [← l]; exact r f)
  exact get_const I.kIn O (c.get f) c.hd k.at_ k.get k.cp hn (handed_of k.rel) (h _ (I.tok _))

theorem getmeth_ok {m : Str} {g : Addr} {pl : Sem Bool} {Q : Value × List Value → Shared → Prop} (I : Inv X pins σ H s) (e : H a = some (.ins C dx fs)) (c : Cls X.K C) (k : Meth X.K C m g) (l : fs.lookup m = none)
    (h : Q (.ref g, [.ref a]) s) : wpAny (model X.prog X.w) A (getMethod (.ref a) m pl) Q E s := by
  obtain ⟨mA, O, r, _, _, _⟩ := ins_get I.hok e
  have hn : mA m = none := RelO.none_of (by rw [← l]; exact r m)
  exact get_meth I.kIn O (c.get m) k.at_ k.fn hn h

theorem setattr_ok {y : V} {u : Value} {Q : Unit → Shared → Prop} (I : Inv X pins σ H s) (e : H a = some (.ins C dx fs)) (c : Cls X.K C) (n : NoAttr X.K C f) (hl : fs.length < 1000) (ry : RelV y u)
    (h : ∀ s', Inv X pins σ (upd H a (.ins C dx (putF f y fs))) s' → Q () s') : wpAny (model X.prog X.w) A (setAttr (.ref a) f u) Q E s := by
  obtain ⟨mA, O, r, wi, _, ho⟩ := ins_get I.hok e
  have hz : (fs.map (·.1)).length ≤ sizeLine := by rw [List.length_map, sizeLine_eq]; omega
  refine set_map I.kIn O c.sa c.po n.taker c.hd wi hz fun h' O' sb => h _ ?_
  have hd : ∃ o, h'.get? dx = some o := let ⟨o, _, _, e', _⟩ := O'.ns; ⟨o, e'⟩
  refine I.write (x := a) (e := dx) (by rw [e]; exact True.intro) (.inr ho) (fun b q hb z => (sb.2 b hb).trans z) hd ?_
  refine ⟨by rw [upd_ne O.ne]; exact ho, ?_, O.ne, O'.obj, _, O'.ns, fun g => ?_, fun g hg => ?_⟩
  · have := length_putF f y fs; omega
  · show RelO ((putF f y fs).lookup g) (if g = f then some u else mA g)
    rw [lookup_putF]
    by_cases q : g = f
    · rw [if_pos q, if_pos q]; exact ry
    · rw [if_neg q, if_neg q]; exact r g
  · by_cases q : g = f
    · rw [q]; exact (keys_putF f y fs).1
    · refine (keys_putF f y fs).2 g (wi g fun z => hg ?_)
      show (if g = f then some u else mA g) = none
      rw [if_neg q]; exact z

/-- a new instance, tracked, without attributes -/
theorem Inv.made (I : Inv X pins σ H s) : Inv X pins σ (upd (upd H s.heap.objs.size (.own (s.heap.objs.size + 1))) (s.heap.objs.size + 1) (.ins C s.heap.objs.size []))
    { s with heap := (s.heap.push PySem.W.emptyDict).push (PySem.W.instObj C s.heap.objs.size) } := by
  have e1 : (s.heap.push PySem.W.emptyDict).get? s.heap.objs.size = some PySem.W.emptyDict := Heap.get?_push_size s.heap rfl
  have e2 : ((s.heap.push PySem.W.emptyDict).push (PySem.W.instObj C s.heap.objs.size)).get? (s.heap.objs.size + 1) = some (PySem.W.instObj C s.heap.objs.size) := by
    have := Heap.get?_push_size (s.heap.push PySem.W.emptyDict) (o := PySem.W.instObj C s.heap.objs.size) rfl
    rwa [Heap.size_push] at this
  have e3 : (s.heap.push PySem.W.emptyDict).Ns s.heap.objs.size (fun _ => none) := ⟨PySem.W.emptyDict, #[], _, e1, rfl, (fun e he => absurd he (by simp)), fun _ => rfl⟩
  have I1 := I.laid (a := s.heap.objs.size) (o := .own (s.heap.objs.size + 1)) (h' := s.heap.push PySem.W.emptyDict) (t' := s.toks) (fun b u q => Heap.get?_push_of_some _ q) (Nat.le_refl _) ⟨_, e1⟩
  refine I1.laid (a := s.heap.objs.size + 1) (o := .ins C s.heap.objs.size []) (t' := s.toks) (fun b u q => Heap.get?_push_of_some _ q) (Nat.le_of_eq (Heap.size_push _ _)) ?_
  have ne : s.heap.objs.size ≠ s.heap.objs.size + 1 := Nat.ne_of_lt (Nat.lt_succ_self _)
  refine ⟨by rw [upd_ne ne, upd_same], Nat.zero_le _, ne, e2, fun _ => none, (Heap.Ns1.of_empty e3).at fun o q => Heap.get?_push_of_some _ q, fun _ => True.intro, fun y hy => absurd rfl hy⟩

/-- e.f where nothing but the object is asked: through attributeBase (super) and the last hold -/
theorem attr_of {prog : Program} {w : World} {env : Env} {e : Expr} {f : Str} {pos : Pos} {s : Shared} {Q : Value → Shared → Prop} (hb : attributeBase e f env (eval e env) = eval e env)
    (h : wpAny (model prog w) A (eval e env) (fun o s₁ => wpAny (model prog w) A (getAttr o f true) Q E s₁) E s) : wpAny (model prog w) A (eval (.Attribute e f pos) env) Q E s :=
  Attribute_any_ h (by rw [arm_eval_Attribute, hb])
end

/-! ### readings and rules -/
/-- e.f, an attribute of the instance -/
def tFld (K : PySem.W.Frag) (ta : TE) (f : Str) : TE := fun σ H Q => ta σ H fun x H1 => ∃ a C dx fs v, x = .ref a ∧ H1 a = some (.ins C dx fs) ∧ Cls K C ∧ NoAttr K C f ∧ fs.lookup f = some v ∧ Q v H1
/-- e.f, a constant of the class -/
def tCon (K : PySem.W.Frag) (ta : TE) (f : Str) : TE := fun σ H Q => ta σ H fun x H1 => ∃ a C dx fs v u, x = .ref a ∧ H1 a = some (.ins C dx fs) ∧ Cls K C ∧ Con K C f v u ∧ fs.lookup f = none ∧ Q v H1
/-- e.f = value -/
def sFld (K : PySem.W.Frag) (ta tv : TE) (f : Str) : TS := fun D σ H => tv σ H fun y H1 => ta σ H1 fun x H2 => ∃ a C dx fs, x = .ref a ∧ H2 a = some (.ins C dx fs) ∧ Cls K C ∧ NoAttr K C f ∧ fs.length < 1000 ∧
  D.nx σ (upd H2 a (.ins C dx (putF f y fs)))
/-- an augmented operator on two values -/
def InOp (X : Cx) (op : Operator) (rd : V → V → Hp → VK → Prop) : Prop :=
  ∀ (pins : List (Addr × Obj)) (s : Shared) (σ : St) (H : Hp) (x y : V) (u v : Value) (Q : VK), Inv X pins σ H s → RelV x u → RelV y v → rd x y H Q → wpAny (model X.prog X.w) X.A (inplaceOp op u v) (EP X pins σ Q) X.xe s
/-- e.f op= value -/
def sFldAug (K : PySem.W.Frag) (ta tv : TE) (rd : V → V → Hp → VK → Prop) (f : Str) : TS := fun D σ H => ta σ H fun x H1 => ∃ a C dx fs v, x = .ref a ∧ H1 a = some (.ins C dx fs) ∧ Cls K C ∧ NoAttr K C f ∧ fs.lookup f = some v ∧
  tv σ H1 fun y H2 => rd v y H2 fun z H3 => ∃ dx' fs', H3 a = some (.ins C dx' fs') ∧ fs'.length < 1000 ∧ D.nx σ (upd H3 a (.ins C dx' (putF f z fs')))

section
variable {X : Cx} {o e value : Expr} {f : Str} {pos pos' tpos : Pos} {ta tv : TE}
theorem pe_fld (he : PE X e ta) (hb : attributeBase e f X.env (eval e X.env) = eval e X.env) : PE X (.Attribute e f pos) (tFld X.K ta f) := by
  intro pins s σ H Q I h
  refine attr_of hb (thn (he pins s σ H _ I h) fun u s1 ⟨x, H1, I1, rx, a, C, dx, fs, v, ex, ea, c, n, l, q⟩ => ?_)
  subst ex
  obtain rfl : u = Value.ref a := rx
  exact getattr_ok I1 ea c n l fun u' s2 I2 ru => ⟨v, H1, I2, ru, q⟩
theorem pe_con (he : PE X e ta) (hb : attributeBase e f X.env (eval e X.env) = eval e X.env) : PE X (.Attribute e f pos) (tCon X.K ta f) := by
  intro pins s σ H Q I h
  refine attr_of hb (thn (he pins s σ H _ I h) fun u s1 ⟨x, H1, I1, rx, a, C, dx, fs, v, u0, ex, ea, c, k, l, q⟩ => ?_)
  subst ex
  obtain rfl : u = Value.ref a := rx
  exact getcon_ok I1 ea c k l fun s2 I2 => ⟨v, H1, I2, k.rel, q⟩
theorem ps_fld (ha : PE X o ta) (hv : PE X value tv) (hs : swapsWith value (some (.Attribute o f pos')) pos.line X.env = pure false) : PS X (.Assign [.Attribute o f pos'] value pos) (sFld X.K ta tv f) := by
  intro pins s σ H D I h
  refine plainObj_wpAny_Assign_Attribute (thn (hv pins s σ H _ I h) fun u s1 ⟨y, H1, I1, ry, q⟩ => thn (ha pins s1 σ H1 _ I1 q) fun ov s2 ⟨x, H2, I2, rx, a, C, dx, fs, ex, ea, c, n, l, q2⟩ => ?_) hs
  subst ex
  obtain rfl : ov = Value.ref a := rx
  exact setattr_ok I2 ea c n l ry fun s3 I3 => ⟨σ, _, I3, q2⟩
theorem ps_fldaug {op : Operator} {rd : V → V → Hp → VK → Prop} (ha : PE X o ta) (hv : PE X value tv) (hop : InOp X op rd) : PS X (.AugAssign (.Attribute o f tpos) op value pos) (sFldAug X.K ta tv rd f) := by
  intro pins s σ H D I h
  refine wpAny_AugAssign_AttributeAny (thn (ha pins s σ H _ I h) fun ov s1 ⟨x, H1, I1, rx, a, C, dx, fs, v, ex, ea, c, n, l, q⟩ => ?_)
  subst ex
  obtain rfl : ov = Value.ref a := rx
  refine getattr_ok I1 ea c n l fun u s2 I2 ru => thn (hv pins s2 σ H1 _ I2 q) fun w3 s3 ⟨y, H2, I3, ry, q3⟩ => thn (hop pins s3 σ H2 v y u w3 _ I3 ru ry q3) fun w4 s4 ⟨z, H3, I4, rz, dx', fs', ea', l', q4⟩ => ?_
  exact setattr_ok I4 ea' c n l' rz fun s5 I5 => ⟨σ, _, I5, q4⟩
def rAdd : V → V → Hp → VK → Prop := fun x y H Q => ∃ i j, x = .int i ∧ y = .int j ∧ Q (.int (i + j)) H
def rSub : V → V → Hp → VK → Prop := fun x y H Q => ∃ i j, x = .int i ∧ y = .int j ∧ Q (.int (i - j)) H
theorem in_add : InOp X .Add rAdd := by
  rintro pins s σ H x y u v Q I rx ry ⟨i, j, rfl, rfl, q⟩
  obtain ⟨t, rfl⟩ := (show ∃ t, u = Value.int i t from rx)
  obtain ⟨t', rfl⟩ := (show ∃ t', v = Value.int j t' from ry)
  exact PyProof.Rows.iadd_int ⟨.int (i + j), H, I.tok _, ⟨_, rfl⟩, q⟩
theorem in_sub : InOp X .Sub rSub := by
  rintro pins s σ H x y u v Q I rx ry ⟨i, j, rfl, rfl, q⟩
  obtain ⟨t, rfl⟩ := (show ∃ t, u = Value.int i t from rx)
  obtain ⟨t', rfl⟩ := (show ∃ t', v = Value.int j t' from ry)
  exact PyProof.Rows.isub_int ⟨.int (i - j), H, I.tok _, ⟨_, rfl⟩, q⟩

/-- what is between an instance and its method: the tree of a method call -/
theorem methcall_of {pl : Sem Bool} {m : Str} {apos : Pos} {args : List Expr} {pins : List (Addr × Obj)} {s : Shared} {σ : St} {H : Hp} {Q : Value → Shared → Prop} {te : TE} (he : PE X e te) (I : Inv X pins σ H s)
    (h : te σ H fun x H1 => ∃ a C dx fs g, x = .ref a ∧ H1 a = some (.ins C dx fs) ∧ Cls X.K C ∧ Meth X.K C m g ∧ fs.lookup m = none ∧
      ∀ s1, Inv X pins σ H1 s1 → wpAny (model X.prog X.w) X.A (callWith pos (.ref g) [.ref a] (backTo pos (starEach args X.env)) (backToKw pos (keywordEach [] X.env))) Q X.xe s1)
    (ht : eval (.Call (.Attribute e m apos) args [] pos) X.env = (do
      let ov ← eval e X.env
      standAt apos.atName
      let (f, first) ← holding [ov] (getMethod ov m pl)
      callWith pos f first (backTo pos (starEach args X.env)) (backToKw pos (keywordEach [] X.env)))) :
    wpAny (model X.prog X.w) X.A (eval (.Call (.Attribute e m apos) args [] pos) X.env) Q X.xe s := by
  refine PySem.W.methodCall_KW (pl := pl) (thn (he pins s σ H _ I h) fun u s1 ⟨x, H1, I1, rx, a, C, dx, fs, g, ex, ea, c, k, l, q⟩ => ?_) ht
  subst ex
  obtain rfl : u = Value.ref a := rx
  exact getmeth_ok I1 ea c k l (q s1 I1)
end

/-! ### isinstance -/
section
variable {X : Cx} {pins : List (Addr × Obj)} {σ : St} {H : Hp} {s : Shared} {A : Around} {E : Value → Shared → Prop} {Q : Value → Shared → Prop} {c : Value} {b : Bool}
/-- the type of a value, as the fragment's deciders take it; for an instance its class -/
inductive TyOf (K : PySem.W.Frag) (H : Hp) : V → Value → Prop where
  | non : TyOf K H .non (.type "NoneType")
  | bl (x : Bool) : TyOf K H (.bl x) (.type "bool")
  | int (i : Int) : TyOf K H (.int i) (.type "int")
  | str (x : Str) : TyOf K H (.str x) (.type "str")
  | flt (x : UInt64) : TyOf K H (.flt x) (.type "float")
  | lst {a : Addr} {xs : List V} (e : H a = some (.lst xs)) : TyOf K H (.ref a) (.type "list")
  | frz {a : Addr} {o : Obj} {xs : List V} (e : H a = some (.frz o (.lst xs))) : TyOf K H (.ref a) (.type "list")
  | tup {a : Addr} {xs : List V} (e : H a = some (.tup xs)) : TyOf K H (.ref a) (.type "tuple")
  | dK {a : Addr} {kvs : List (Key × V)} (e : H a = some (.dK kvs)) : TyOf K H (.ref a) (.type "dict")
  | dT {a : Addr} {kvs : List (List Key × V)} (e : H a = some (.dT kvs)) : TyOf K H (.ref a) (.type "dict")
  | ins {a C dx : Addr} {fs : List (Str × V)} (e : H a = some (.ins C dx fs)) (cl : Cls K C) (ha : PySem.W.findIn K (.ref C) "__class__" = some (some (.builtin "object.__class__")))
      (hn : PySem.W.specialIn K (.builtin "object.__class__") "__get__" = some (some (.builtin "getset_descriptor.__get__"))) (htk : PySem.W.takesIn K (.builtin "object.__class__") = some true)
      (hm : PySem.W.mroIn K C (.type "object") = some true) : TyOf K H (.ref a) (.ref C)
/-- isinstance(x, c) for one class c, a built-in or an own one: kitOne's answer -/
theorem isinst_ok {x : V} {u t : Value} (I : Inv X pins σ H s) (rx : RelV x u) (ty : TyOf X.K H x t) (e : PySem.W.kitOne X.K t c = some b) (h : ∀ tk, Q (.bool b) { s with toks := tk }) :
    wpAny (model X.prog X.w) A (call (.builtin "isinstance") [u, c]) Q E s := by
  cases ty with
  | non => cases (show u = Value.none from rx); exact PySem.W.kia_one PySem.W.kitx_none I.kIn True.intro e (fun z => nomatch z) h
  | bl y => cases (show u = Value.bool y from rx); exact PySem.W.kia_one PySem.W.kitx_bool I.kIn True.intro e (fun z => nomatch z) h
  | int i => obtain ⟨t, q⟩ := (show ∃ t, u = Value.int i t from rx); cases q; exact PySem.W.kia_one PySem.W.kitx_int I.kIn True.intro e (fun z => nomatch z) h
  | str y => obtain ⟨t, q⟩ := (show ∃ t, u = Value.str y t from rx); cases q; exact PySem.W.kia_one PySem.W.kitx_str I.kIn True.intro e (fun z => nomatch z) h
  | flt y => obtain ⟨t, q⟩ := (show ∃ t, u = Value.float y t from rx); cases q; exact PySem.W.kia_one PySem.W.kitx_float I.kIn True.intro e (fun z => nomatch z) h
  | @lst a xs ea =>
    cases (show u = Value.ref a from rx)
    obtain ⟨_, _, n, _, h1⟩ := (show ObjOk X.prog X.w H s.heap a (.lst xs) from I.hok a _ ea)
    exact PySem.W.kia_one PySem.W.kitx_list I.kIn ⟨_, h1, rfl⟩ e (fun z => nomatch z) h
  | @frz a ob xs ea =>
    cases (show u = Value.ref a from rx)
    obtain ⟨_, _, _, n, _, h1⟩ := (show ObjOk X.prog X.w H s.heap a (.frz ob (.lst xs)) from I.hok a _ ea)
    exact PySem.W.kia_one PySem.W.kitx_list I.kIn ⟨_, h1, rfl⟩ e (fun z => nomatch z) h
  | @tup a xs ea =>
    cases (show u = Value.ref a from rx)
    obtain ⟨_, _, _, p⟩ := (show ObjOk X.prog X.w H s.heap a (.tup xs) from I.hok a _ ea)
    obtain ⟨o, h1, h2, _⟩ := p
    exact PySem.W.kia_one PySem.W.kitx_tuple I.kIn ⟨o, h1, h2⟩ e (fun z => nomatch z) h
  | @dK a kvs ea =>
    cases (show u = Value.ref a from rx)
    obtain ⟨_, _, vs, _, p⟩ := (show ObjOk X.prog X.w H s.heap a (.dK kvs) from I.hok a _ ea)
    obtain ⟨o, es, ep, h1, h2, _⟩ := p
    exact PySem.W.kia_one PySem.W.kitx_dict I.kIn ⟨o, h1, h2.1⟩ e (fun z => nomatch z) h
  | @dT a kvs ea =>
    cases (show u = Value.ref a from rx)
    obtain ⟨_, _, xs, _, o, es, ep, h1, h2, _⟩ := (show ObjOk X.prog X.w H s.heap a (.dT kvs) from I.hok a _ ea)
    exact PySem.W.kia_one PySem.W.kitx_dict I.kIn ⟨o, h1, h2.1⟩ e (fun z => nomatch z) h
  | @ins a C dx fs ea cl ha hn htk hm =>
    cases (show u = Value.ref a from rx)
    obtain ⟨mA, O, _⟩ := ins_get I.hok ea
    obtain ⟨od, J, _⟩ := O.look
    exact PySem.W.kia_one (PySem.W.kitx_own (cl.get _) cl.hd ha hn htk hm) I.kIn J e (fun z => nomatch z) h
end
end L2

namespace L2
open PySem PySem.Spec PyProof.Rows

/-! ### room -/
structure Room (k : Nat) (A : Around) : Prop where
  hd : A.handled = none
  dp : A.depth + 3 * k + 5 < recursionLimit
  un : A.units + 16 * k + 200 < cLine
theorem Room.mono {j k : Nat} {A : Around} (r : Room k A) (h : j ≤ k) : Room j A := ⟨r.hd, by have := r.dp; omega, by have := r.un; omega⟩
theorem Room.deeper {k : Nat} {A : Around} (r : Room (k + 1) A) (env : Env) : Room k (A.deeper env) :=
  ⟨r.hd, by have := r.dp; show A.depth + 1 + 3 * k + 5 < _; omega, by have := r.un; show A.units + 3 + 16 * k + 200 < _; omega⟩
theorem Room.in1 {k : Nat} {A : Around} (r : Room (k + 1) A) : Room k A.in1 :=
  ⟨r.hd, by have := r.dp; show A.depth + 3 * k + 5 < _; omega, by have := r.un; show A.units + 1 + 16 * k + 200 < _; omega⟩
theorem make_depth {A : Around} {C : Addr} {us : List Value} {kw : List (Str × Value)} : (A.under (.builtin "type.__call__" ⟨.ref C :: us, kw⟩)).depth = A.depth + 1 := by
  first | rfl | simp [Around.under, Code.weight, Code.isCreation, Code.isGuard, Code.isCaller, Code.frames, Code.isFrame, guardIds]
theorem make_units {A : Around} {C : Addr} {us : List Value} {kw : List (Str × Value)} : (A.under (.builtin "type.__call__" ⟨.ref C :: us, kw⟩)).units = A.units + 1 := by
  first | rfl | simp [Around.under, Code.cUnits, Code.frames, Code.isFrame]
theorem Room.make {k : Nat} {A : Around} (r : Room (k + 1) A) (C : Addr) (us : List Value) (kw : List (Str × Value)) : Room k (A.under (.builtin "type.__call__" ⟨.ref C :: us, kw⟩)) :=
  ⟨r.hd, by have := r.dp; rw [make_depth]; omega, by have := r.un; rw [make_units]; omega⟩
theorem Room.depth {k : Nat} {A : Around} (r : Room k A) : A.depth < recursionLimit := by have := r.dp; omega
theorem Room.units {k : Nat} {A : Around} (r : Room k A) : A.units + 64 < cLine := by have := r.un; omega
theorem Room.units0 {k : Nat} {A : Around} (r : Room k A) : A.units < cLine := by have := r.un; omega

/-! ### argument lists and displays -/
def tNil : TA := fun _ H Q => Q [] H
def tCons (ta : TE) (tr : TA) : TA := fun σ H Q => ta σ H fun x H1 => tr σ H1 fun xs H2 => Q (x :: xs) H2
section
variable {X : Cx} {e : Expr} {es : List Expr} {te : TE} {t : TA} {pos : Pos}
theorem pa_nil : PA X [] tNil := fun _ _ _ _ H Q I h => Calls.spliced_nil ⟨[], H, I, .nil, h⟩
theorem pa_cons (ha : PE X e te) (hr : PA X es t) (hs : starEach (e :: es) X.env = (false, eval e X.env) :: starEach es X.env := by rfl) : PA X (e :: es) (tCons te t) := by
  intro pos pins s σ H Q I h
  rw [hs]
  show wpAny _ _ (spliced ((false, eval e X.env) :: backTo pos (starEach es X.env))) _ _ s
  refine Calls.spliced_cons (thn (ha pins s σ H _ I h) fun u s1 ⟨x, H1, I1, r1, q1⟩ => ?_)
  exact thn (hr pos pins s1 σ H1 _ I1 q1) fun us s2 ⟨xs, H2, I2, r2, q2⟩ => ⟨x :: xs, H2, I2, .cons r1 r2, q2⟩

/-- a tuple, a list of written items -/
def tTup (t : TA) : TE := fun σ H Q => t σ H fun xs H1 => xs.length ≤ sizeLine ∧ ∀ p, H1 p = none → Q (.ref p) (upd H1 p (.tup xs))
def tLst (t : TA) : TE := fun σ H Q => t σ H fun xs H1 => xs.length ≤ sizeLine ∧ ∀ p, H1 p = none → Q (.ref p) (upd H1 p (.lst xs))
theorem pe_tup {x1} (h : PA X es t) : PE X (.Tuple es x1 pos) (tTup t) := by
  intro pins s σ H Q I hq
  refine wpAny_Tuple_spliced (thn (h pos pins s σ H _ I hq) fun us s1 ⟨xs, H1, I1, r, z, q⟩ => ⟨by rw [← r.length]; exact z, ?_⟩)
  have hf : H1 s1.heap.objs.size = none := I1.hok.fresh (Nat.le_refl _)
  refine ⟨.ref s1.heap.objs.size, upd H1 s1.heap.objs.size (.tup xs), I1.laid (t' := s1.toks) (fun b u e => Heap.get?_push_of_some _ e) (Nat.le_refl _) ?_, rfl, q _ hf⟩
  exact ⟨z, us, r, ⟨_, Heap.get?_push_size _ rfl, rfl, _, rfl⟩⟩
theorem pe_lst (h : PA X es t) : PE X (.List es pos) (tLst t) := by
  intro pins s σ H Q I hq
  refine wpAny_List_spliced (thn (h pos pins s σ H _ I hq) fun us s1 ⟨xs, H1, I1, r, z, q⟩ => ⟨by rw [← r.length]; exact z, ?_⟩)
  have hf : H1 s1.heap.objs.size = none := I1.hok.fresh (Nat.le_refl _)
  refine ⟨.ref s1.heap.objs.size, upd H1 s1.heap.objs.size (.lst xs), I1.laid (t' := s1.toks) (fun b u e => Heap.get?_push_of_some _ e) (Nat.le_refl _) ?_, rfl, q _ hf⟩
  exact ⟨z, us, 0, r, Heap.get?_push_size _ rfl⟩
end

/-! ### what a def promises -/
/-- a def's promise: the bound arguments in the parameters' order, the heap, the wanted end, the wanted exception -/
abbrev Sp := List V → Hp → VK → XK → Prop
/-- how an exception lies behind a call (file 08 gives it): the callers' frames, abstract heap and state ahead of the call, the wish, the exception, the state -/
abbrev CXT := List Env → Hp → Shared → XK → Value → Shared → Prop

/-- the state at a call -/
structure Env0 (P : Program) (w : World) (K : PySem.W.Frag) (mg : Str → Option Value) (base : Heap) (A : Around) (outer : List Env) (s : Shared) (H : Hp) : Prop where
  frames : A.frames = some outer
  mod : Mod K mg base
  bs : ∀ b o, base.get? b = some o → s.heap.get? b = some o ∧ H b = none
  bsz : base.objs.size ≤ s.heap.objs.size
  funs : s.heap.FunFrames base outer
  frf : ∀ b ∈ frs outer, H b = none
  hok : HOk P w H s.heap
  bare : AllBare s.gens
/-- a call's end -/
def CE (outer : List Env) (P : Program) (w : World) (H : Hp) (s : Shared) (Q : VK) (u : Value) (s' : Shared) : Prop :=
  ∃ v H', s'.os = s.os ∧ AllBare s'.gens ∧ Un (frs outer) [] H H' s.heap s'.heap ∧ HOk P w H' s'.heap ∧ RelV v u ∧ Q v H'
def CR (CX : CXT) (outer : List Env) (P : Program) (w : World) (H : Hp) (s : Shared) (Q : VK) (E : XK) (r : Result) (s' : Shared) : Prop :=
  match r with
  | .ok (.ret u) => CE outer P w H s Q u s'
  | .ok _ => False
  | .error e => CX outer H s E e s'
structure FnOk (P : Program) (w : World) (K : PySem.W.Frag) (mg : Str → Option Value) (base : Heap) (CX : CXT) (k : Nat) (f : Addr) (fd : FuncData) (ps : List Str) (sp : Sp) : Prop where
  len : ∀ vs H Q E, sp vs H Q E → vs.length = ps.length
  run : ∀ (A : Around) (outer : List Env) (s : Shared) (H : Hp) (args : Args) (us : List Value) (vs : List V) (Q : VK) (E : XK), Room k A → Env0 P w K mg base A outer s H → BindsTo s fd args (ps.zip us) → Vals vs us → sp vs H Q E →
    codeAny (model P w) A (.call (.ref f) args) (CR CX outer P w H s Q E) s
theorem FnOk.mono {P : Program} {w : World} {K : PySem.W.Frag} {mg : Str → Option Value} {base : Heap} {CX : CXT} {j k : Nat} {f : Addr} {fd : FuncData} {ps : List Str} {sp : Sp} (F : FnOk P w K mg base CX j f fd ps sp) (h : j ≤ k) :
    FnOk P w K mg base CX k f fd ps sp := ⟨F.len, fun A outer s H args us vs Q E hr => F.run A outer s H args us vs Q E (hr.mono h)⟩
/-- a weaker promise -/
theorem FnOk.imp {P : Program} {w : World} {K : PySem.W.Frag} {mg : Str → Option Value} {base : Heap} {CX : CXT} {k : Nat} {f : Addr} {fd : FuncData} {ps : List Str} {sp sp' : Sp} (F : FnOk P w K mg base CX k f fd ps sp)
    (h : ∀ vs H Q E, sp' vs H Q E → sp vs H Q E) : FnOk P w K mg base CX k f fd ps sp' :=
  ⟨fun vs H Q E q => F.len vs H Q E (h _ _ _ _ q), fun A outer s H args us vs Q E hr he hb hv hs => F.run A outer s H args us vs Q E hr he hb hv (h _ _ _ _ hs)⟩

theorem Env0.make {P : Program} {w : World} {K : PySem.W.Frag} {mg : Str → Option Value} {base : Heap} {A : Around} {outer : List Env} {s : Shared} {H : Hp} (e : Env0 P w K mg base A outer s H) (C : Addr) (us : List Value) (kw : List (Str × Value)) :
    Env0 P w K mg base (A.under (.builtin "type.__call__" ⟨.ref C :: us, kw⟩)) outer s H := ⟨by first | exact e.frames | (simpa [Around.under, Code.envs, Code.isFrame, pushEnvs] using e.frames), e.mod, e.bs, e.bsz, e.funs, e.frf, e.hok, e.bare⟩
theorem Env0.in1 {P : Program} {w : World} {K : PySem.W.Frag} {mg : Str → Option Value} {base : Heap} {A : Around} {outer : List Env} {s : Shared} {H : Hp} (e : Env0 P w K mg base A outer s H) :
    Env0 P w K mg base A.in1 outer s H := ⟨e.frames, e.mod, e.bs, e.bsz, e.funs, e.frf, e.hok, e.bare⟩

section
variable {X : Cx} {pins : List (Addr × Obj)} {σ : St} {H : Hp} {s s' : Shared}
/-- from a body: what a callee wants -/
theorem Inv.env0 (I : Inv X pins σ H s) : Env0 X.prog X.w X.K X.mg X.base X.A X.stack s H :=
  ⟨I.ok.frames, I.ok.mod, I.bs, Nat.le_trans I.ok.bsz I.sz, I.stack, I.stkFree, I.hok, I.bare⟩
/-- behind a call -/
theorem Inv.after {Q : VK} {u : Value} (I : Inv X pins σ H s) (h : CE X.stack X.prog X.w H s Q u s') : EP X pins σ Q u s' := by
  obtain ⟨v, H', os, bare, un, hok, r, q⟩ := h
  obtain ⟨hh, g, d, t, os'⟩ := s'
  obtain rfl : os' = s.os := os
  exact ⟨v, H', I.call (h' := hh) (g' := g) (d' := d) (t' := t) (ch := []) un hok bare (fun b z => absurd z (by simp)), r, q⟩
end

/-! ### calls -/
/-- f(..): the written arguments, then the defaults dvs; E: what is wanted of an exception -/
def tCall (sp : Sp) (dvs : List V) (E : XK) (t : TA) : TE := fun σ H Q => t σ H fun vs H1 => sp (vs ++ dvs) H1 Q E
/-- o.m(..) of an instance of the class at C -/
def tMeth (C : Addr) (m : Str) (sp : Sp) (dvs : List V) (E : XK) (ta : TE) (t : TA) : TE := fun σ H Q => ta σ H fun x H1 => ∃ a dx fs, x = .ref a ∧ H1 a = some (.ins C dx fs) ∧ fs.lookup m = none ∧
  t σ H1 fun vs H2 => sp (x :: (vs ++ dvs)) H2 Q E
/-- C(..): a new instance and its dict, then __init__ -/
def tMake (C : Addr) (sp : Sp) (dvs : List V) (E : XK) (t : TA) : TE := fun σ H Q => t σ H fun vs H1 => ∀ x dx, H1 x = none → H1 dx = none → dx ≠ x →
  sp (.ref x :: (vs ++ dvs)) (upd (upd H1 dx (.own x)) x (.ins C dx [])) (fun v H2 => v = .non ∧ Q (.ref x) H2) E

/-- how the parameters are bound: us the positional arguments, kw the keywords' values by name, ds the defaults that fill up -/
def Binds (K : PySem.W.Frag) (fd : FuncData) (ps : List Str) (ds : List Value) : Prop :=
  ∀ (s : Shared) (us : List Value), K.In s.heap → (us ++ ds).length = ps.length → BindsTo s fd ⟨us, []⟩ (ps.zip (us ++ ds))
/-- every parameter is given -/
theorem Binds.all {K : PySem.W.Frag} {fd : FuncData} {ps : List Str} (h : ∀ us : List Value, us.length = ps.length → bindArgs fd ⟨us, []⟩ = pure (ps.zip us)) : Binds K fd ps [] := fun s us _ hl => by
  rw [List.append_nil] at hl ⊢
  exact .of_eq (h us hl)

/-- an exception of a callee reaches what this body wants of exceptions -/
def Passes (CX : CXT) (X : Cx) (E : XK) : Prop := ∀ (pins : List (Addr × Obj)) (σ : St) (H : Hp) (s : Shared) (e : Value) (s' : Shared), Inv X pins σ H s → CX X.stack H s E e s' → X.xe e s'

section
variable {X : Cx} {CX : CXT} {k : Nat} {f C : Addr} {fd : FuncData} {ps : List Str} {sp : Sp} {dvs : List V} {ds : List Value} {E : XK} {x m : Str} {p pos apos : Pos} {e o : Expr} {es : List Expr} {ta : TE} {t : TA}

/-- the callee runs -/
theorem run_fn {pins : List (Addr × Obj)} {σ : St} {H : Hp} {s : Shared} {Q : VK} {us : List Value} {vs : List V} (F : FnOk X.prog X.w X.K X.mg X.base CX k f fd ps sp) (hr : Room k X.A) (hb : Binds X.K fd ps ds) (hd : Vals dvs ds) (hx : Passes CX X E)
    (I : Inv X pins σ H s) (r : Vals vs us) (h : sp (vs ++ dvs) H Q E) : wpAny (model X.prog X.w) X.A (call (.ref f) us) (EP X pins σ Q) X.xe s := by
  have r2 : Vals (vs ++ dvs) (us ++ ds) := r.append hd
  have hl : (us ++ ds).length = ps.length := by rw [← r2.length]; exact F.len _ _ _ _ h
  refine wpAny_call (codeAny_mono (F.run X.A X.stack s H ⟨us, []⟩ (us ++ ds) (vs ++ dvs) Q E hr I.env0 (hb s us I.kIn hl) r2 h) fun r s' hq => ?_)
  cases r with
  | error e => exact hx pins σ H s e s' I hq
  | ok fl =>
    cases fl with
    | ret u => exact I.after hq
    | next => exact False.elim hq
    | brk => exact False.elim hq
    | cont => exact False.elim hq

theorem pe_call (F : FnOk X.prog X.w X.K X.mg X.base CX k f fd ps sp) (hr : Room k X.A) (hg : Gl X x) (hm : X.mg x = some (.ref f)) (hk : PySem.W.keepIn X.K (.ref f) = true) (hb : Binds X.K fd ps ds) (hd : Vals dvs ds) (hx : Passes CX X E)
    (ha : PA X (e :: es) t) (hdb : (x == ("__debug__" : Str)) = false := by decide) (he : starEach (e :: es) X.env = (false, eval e X.env) :: starEach es X.env := by rfl) (hpl : (backTo pos (starEach es X.env)).any (·.1) = false := by rfl) :
    PE X (.Call (.Name x p) (e :: es) [] pos) (tCall sp dvs E t) := by
  intro pins s σ H Q I h
  refine wpAny_Call_Name_kw (ld_glob I hg hm ?_ hdb)
  refine PySem.W.callWith_K (h₀ := X.base) I.ok.mod.kin hk (thn (ha pos pins s σ H _ I h) fun us s1 ⟨vs, H1, I1, r, q⟩ => ⟨I1.kIn, ?_⟩) he hpl
  exact run_fn F hr hb hd hx I1 r q
theorem pe_call0 (F : FnOk X.prog X.w X.K X.mg X.base CX k f fd ps sp) (hr : Room k X.A) (hg : Gl X x) (hm : X.mg x = some (.ref f)) (hk : PySem.W.keepIn X.K (.ref f) = true) (hb : Binds X.K fd ps ds) (hd : Vals dvs ds) (hx : Passes CX X E)
    (hdb : (x == ("__debug__" : Str)) = false := by decide) : PE X (.Call (.Name x p) [] [] pos) (tCall sp dvs E tNil) := by
  intro pins s σ H Q I h
  refine wpAny_Call_Name_kw (ld_glob I hg hm ?_ hdb)
  exact PySem.W.callWith_K0 I.kIn hk (run_fn (us := []) F hr hb hd hx I .nil h)

/-- o.m(e, ..) -/
theorem pe_meth {pl : Sem Bool} (he : PE X o ta) (c : Cls X.K C) (hm : Meth X.K C m f) (F : FnOk X.prog X.w X.K X.mg X.base CX k f fd ps sp) (hr : Room k X.A) (hb : Binds X.K fd ps ds) (hd : Vals dvs ds) (hx : Passes CX X E) (ha : PA X (e :: es) t)
    (hst : starEach (e :: es) X.env = (false, eval e X.env) :: starEach es X.env := by rfl) (hpl : (backTo pos (starEach es X.env)).any (·.1) = false := by rfl)
    (ht : eval (.Call (.Attribute o m apos) (e :: es) [] pos) X.env = (do
      let ov ← eval o X.env
      standAt apos.atName
      let (f, first) ← holding [ov] (getMethod ov m pl)
      callWith pos f first (backTo pos (starEach (e :: es) X.env)) (backToKw pos (keywordEach [] X.env))) := by rfl) :
    PE X (.Call (.Attribute o m apos) (e :: es) [] pos) (tMeth C m sp dvs E ta t) := by
  intro pins s σ H Q I h
  refine PySem.W.methodCall_KW (pl := pl) (thn (he pins s σ H _ I h) fun u s1 ⟨x, H1, I1, rx, a, dx, fs, ex, ea, l, q⟩ => ?_) ht
  subst ex
  obtain rfl : u = Value.ref a := rx
  refine getmeth_ok I1 ea c hm l ?_
  refine PySem.W.callWith_K (first := [.ref a]) (h₀ := X.base) I.ok.mod.kin hm.kp (thn (ha pos pins s1 σ H1 _ I1 q) fun us s2 ⟨vs, H2, I2, r, q2⟩ => ⟨I2.kIn, ?_⟩) hst hpl
  exact run_fn (us := .ref a :: us) (vs := .ref a :: vs) F hr hb hd hx I2 (.cons rfl r) q2
/-- o.m() -/
theorem pe_meth0 {pl : Sem Bool} (he : PE X o ta) (c : Cls X.K C) (hm : Meth X.K C m f) (F : FnOk X.prog X.w X.K X.mg X.base CX k f fd ps sp) (hr : Room k X.A) (hb : Binds X.K fd ps ds) (hd : Vals dvs ds) (hx : Passes CX X E)
    (ht : eval (.Call (.Attribute o m apos) [] [] pos) X.env = (do
      let ov ← eval o X.env
      standAt apos.atName
      let (f, first) ← holding [ov] (getMethod ov m pl)
      callWith pos f first (backTo pos (starEach [] X.env)) (backToKw pos (keywordEach [] X.env))) := by rfl) :
    PE X (.Call (.Attribute o m apos) [] [] pos) (tMeth C m sp dvs E ta tNil) := by
  intro pins s σ H Q I h
  refine PySem.W.methodCall_KW (pl := pl) (thn (he pins s σ H _ I h) fun u s1 ⟨x, H1, I1, rx, a, dx, fs, ex, ea, l, q⟩ => ?_) ht
  subst ex
  obtain rfl : u = Value.ref a := rx
  refine getmeth_ok I1 ea c hm l ?_
  exact PySem.W.callWith_K0 (first := [.ref a]) I1.kIn hm.kp (run_fn (us := [.ref a]) (vs := [.ref a]) F hr hb hd hx I1 (.cons rfl .nil) q)

/-- what a class must have to be made -/
structure Mk (K : PySem.W.Frag) (C f : Addr) : Prop where
  makes : PySem.W.makesIn K C = true
  init : PySem.W.findIn K (.ref C) "__init__" = some (some (.ref f))
  fn : PySem.W.isFn K (.ref f) = true
  kp : PySem.W.keepIn K (.ref C) = true

theorem run_make {pins : List (Addr × Obj)} {σ : St} {H : Hp} {s : Shared} {Q : VK} {us : List Value} {vs : List V} (M : Mk X.K C f) (F : FnOk X.prog X.w X.K X.mg X.base CX k f fd ps sp) (hr : Room (k + 1) X.A) (hb : Binds X.K fd ps ds) (hd : Vals dvs ds)
    (hx : Passes CX X E) (I : Inv X pins σ H s) (r : Vals vs us)
    (h : ∀ x dx, H x = none → H dx = none → dx ≠ x → sp (.ref x :: (vs ++ dvs)) (upd (upd H dx (.own x)) x (.ins C dx [])) (fun v H2 => v = .non ∧ Q (.ref x) H2) E) :
    wpAny (model X.prog X.w) X.A (call (.ref C) us) (EP X pins σ Q) X.xe s := by
  have hq := h (s.heap.objs.size + 1) s.heap.objs.size (I.hok.fresh (Nat.le_succ _)) (I.hok.fresh (Nat.le_refl _)) (Nat.ne_of_lt (Nat.lt_succ_self _))
  have I2 := Inv.made (C := C) I
  have r2 : Vals (V.ref (s.heap.objs.size + 1) :: (vs ++ dvs)) (Value.ref (s.heap.objs.size + 1) :: (us ++ ds)) := .cons rfl (r.append hd)
  have hl : (Value.ref (s.heap.objs.size + 1) :: us ++ ds).length = ps.length := by
    have e := r2.length
    rw [F.len _ _ _ _ hq] at e
    exact e.symm
  refine wpAny_call (make_map (f := f) I.kIn M.makes M.init (beq_iff_eq.mp M.fn) (codeAny_mono (F.run _ X.stack _ _ ⟨Value.ref (s.heap.objs.size + 1) :: us, []⟩ (Value.ref (s.heap.objs.size + 1) :: (us ++ ds)) _ _ E (hr.make C us [])
    (I2.env0.make C us []) (hb _ (Value.ref (s.heap.objs.size + 1) :: us) I2.kIn hl) r2 hq) fun r s' hq' => ?_))
  cases r with
  | error e => exact hx pins σ _ _ e s' I2 hq'
  | ok fl =>
    cases fl with
    | ret u =>
      obtain ⟨v, H', I3, rv, ev, q3⟩ := I2.after hq'
      subst ev
      exact ⟨rv, ⟨V.ref (s.heap.objs.size + 1), H', I3, rfl, q3⟩⟩
    | next => exact False.elim hq'
    | brk => exact False.elim hq'
    | cont => exact False.elim hq'
theorem pe_make (M : Mk X.K C f) (F : FnOk X.prog X.w X.K X.mg X.base CX k f fd ps sp) (hr : Room (k + 1) X.A) (hg : Gl X x) (hm : X.mg x = some (.ref C)) (hb : Binds X.K fd ps ds) (hd : Vals dvs ds) (hx : Passes CX X E)
    (ha : PA X (e :: es) t) (hdb : (x == ("__debug__" : Str)) = false := by decide) (he : starEach (e :: es) X.env = (false, eval e X.env) :: starEach es X.env := by rfl) (hpl : (backTo pos (starEach es X.env)).any (·.1) = false := by rfl) :
    PE X (.Call (.Name x p) (e :: es) [] pos) (tMake C sp dvs E t) := by
  intro pins s σ H Q I h
  refine wpAny_Call_Name_kw (ld_glob I hg hm ?_ hdb)
  refine PySem.W.callWith_K (h₀ := X.base) I.ok.mod.kin M.kp (thn (ha pos pins s σ H _ I h) fun us s1 ⟨vs, H1, I1, r, q⟩ => ⟨I1.kIn, ?_⟩) he hpl
  exact run_make M F hr hb hd hx I1 r q
theorem pe_make0 (M : Mk X.K C f) (F : FnOk X.prog X.w X.K X.mg X.base CX k f fd ps sp) (hr : Room (k + 1) X.A) (hg : Gl X x) (hm : X.mg x = some (.ref C)) (hb : Binds X.K fd ps ds) (hd : Vals dvs ds) (hx : Passes CX X E)
    (hdb : (x == ("__debug__" : Str)) = false := by decide) : PE X (.Call (.Name x p) [] [] pos) (tMake C sp dvs E tNil) := by
  intro pins s σ H Q I h
  refine wpAny_Call_Name_kw (ld_glob I hg hm ?_ hdb)
  exact PySem.W.callWith_K0 I.kIn M.kp (run_make (us := []) M F hr hb hd hx I .nil h)
end

/-! ### keywords -/
/-- the values of the keywords, from the left -/
def PK (X : Cx) (kws : List Keyword) (t : TA) : Prop :=
  ∀ (pos : Pos) (pins : List (Addr × Obj)) (s : Shared) (σ : St) (H : Hp) (Q : List V → Hp → Prop), Inv X pins σ H s → t σ H Q → wpAny (model X.prog X.w) X.A (evalAll ((backToKw pos (keywordEach kws X.env)).map (·.2))) (AP X pins σ Q) X.xe s
section
variable {X : Cx} {CX : CXT} {k : Nat} {f C : Addr} {fd : FuncData} {ps ks : List Str} {sp : Sp} {E : XK} {x m : Str} {p pos apos kpos : Pos} {e o : Expr} {es : List Expr} {kws : List Keyword} {te ta : TE} {t tk : TA} {nm : Option Str}
theorem pk_nil : PK X [] tNil := fun _ _ _ _ H Q I h => wpAny_evalAll_nil ⟨[], H, I, .nil, h⟩
theorem pk_cons (ha : PE X e te) (hr : PK X kws t) : PK X (⟨nm, e, kpos⟩ :: kws) (tCons te t) := by
  intro pos pins s σ H Q I h
  show wpAny _ _ (evalAll ((do let v ← eval e X.env; standAt pos; pure v) :: (backToKw pos (keywordEach kws X.env)).map (·.2))) _ _ s
  refine wpAny_evalAll_cons (wpAny_bind (thn (ha pins s σ H _ I h) fun u s1 ⟨x, H1, I1, r1, q1⟩ => wpAny_bind (wpAny_standAt (wpAny_pure ?_))))
  exact thn (hr pos pins s1 σ H1 _ I1 q1) fun us s2 ⟨xs, H2, I2, r2, q2⟩ => ⟨x :: xs, H2, I2, .cons r1 r2, q2⟩

/-- how a call with keywords binds: g puts the positional values us and the keywords' values ws (names ks) in the parameters' order, defaults among them -/
structure KBinds (K : PySem.W.Frag) (fd : FuncData) (ps ks : List Str) (g : List Value → List Value → List Value) (gV : List V → List V → List V) : Prop where
  to : ∀ (s : Shared) (us ws : List Value), K.In s.heap → (g us ws).length = ps.length → BindsTo s fd ⟨us, ks.zip ws⟩ (ps.zip (g us ws))
  rel : ∀ {vs : List V} {us : List Value} {zs : List V} {ws : List Value}, Vals vs us → Vals zs ws → Vals (gV vs zs) (g us ws)
def tCallK (sp : Sp) (gV : List V → List V → List V) (E : XK) (t tk : TA) : TE := fun σ H Q => t σ H fun vs H1 => tk σ H1 fun zs H2 => sp (gV vs zs) H2 Q E
variable {g : List Value → List Value → List Value} {gV : List V → List V → List V}
theorem run_fnk {pins : List (Addr × Obj)} {σ : St} {H : Hp} {s : Shared} {Q : VK} {us ws : List Value} {vs zs : List V} (F : FnOk X.prog X.w X.K X.mg X.base CX k f fd ps sp) (hr : Room k X.A) (hb : KBinds X.K fd ps ks g gV) (hx : Passes CX X E)
    (I : Inv X pins σ H s) (r : Vals vs us) (rz : Vals zs ws) (h : sp (gV vs zs) H Q E) : wpAny (model X.prog X.w) X.A (call (.ref f) us (ks.zip ws)) (EP X pins σ Q) X.xe s := by
  have r2 := hb.rel r rz
  have hl : (g us ws).length = ps.length := by rw [← r2.length]; exact F.len _ _ _ _ h
  refine wpAny_call (codeAny_mono (F.run X.A X.stack s H ⟨us, ks.zip ws⟩ (g us ws) (gV vs zs) Q E hr I.env0 (hb.to s us ws I.kIn hl) r2 h) fun r s' hq => ?_)
  cases r with
  | error e => exact hx pins σ H s e s' I hq
  | ok fl =>
    cases fl with
    | ret u => exact I.after hq
    | next => exact False.elim hq
    | brk => exact False.elim hq
    | cont => exact False.elim hq
/-- f(e, .., k = v, ..) -/
theorem pe_callK (F : FnOk X.prog X.w X.K X.mg X.base CX k f fd ps sp) (hr : Room k X.A) (hg : Gl X x) (hm : X.mg x = some (.ref f)) (hk : PySem.W.keepIn X.K (.ref f) = true) (hb : KBinds X.K fd ps ks g gV) (hx : Passes CX X E)
    (ha : PA X (e :: es) t) (hkw : PK X kws tk) (hall : (backToKw pos (keywordEach kws X.env)).all (·.1.isSome) = true := by rfl) (hks : (backToKw pos (keywordEach kws X.env)).filterMap (·.1) = ks := by rfl)
    (hdb : (x == ("__debug__" : Str)) = false := by decide) (he : starEach (e :: es) X.env = (false, eval e X.env) :: starEach es X.env := by rfl)
    (hpl : ((backTo pos (starEach (e :: es) X.env)).any (·.1) || (backToKw pos (keywordEach kws X.env)).any (·.1.isNone)) = false := by rfl) :
    PE X (.Call (.Name x p) (e :: es) kws pos) (tCallK sp gV E t tk) := by
  intro pins s σ H Q I h
  refine wpAny_Call_Name_kw (ld_glob I hg hm ?_ hdb)
  refine PySem.W.callWith_KW (h₀ := X.base) I.ok.mod.kin hk hall (thn (ha pos pins s σ H _ I h) fun us s1 ⟨vs, H1, I1, r, q⟩ => ?_) hpl he
  refine thn (hkw pos pins s1 σ H1 _ I1 q) fun ws s2 ⟨zs, H2, I2, rz, q2⟩ => ⟨I2.kIn, ?_⟩
  rw [hks]
  exact run_fnk F hr hb hx I2 r rz q2
end

/-! ### a def's body keeps its promise -/
/-- names: the parameters first -/
structure FnScope (N P : List Str) (sc : Scope) : Prop where
  kind : sc.kind = .function
  co : sc.isCoroutine = false
  gen : sc.isGenerator = false
  nd : N.Nodup
  pre : N.take P.length = P
  par : ∀ x ∈ P, sc.names.lookup x = some .local ∨ sc.names.lookup x = some .cell
  nofree : ∀ y ∈ sc.names, y.2 ≠ .free

theorem bindL_out {kindOf : Str → Option NameKind} {x : Str} : ∀ {binds : List (Str × Value)} {m : Str → Option Value}, (∀ v, (x, v) ∉ binds) → bindL kindOf binds m x = m x
  | [], _, _ => rfl
  | (n, v) :: r, m, h => by
    unfold bindL
    rw [bindL_out fun w hw => h w (List.mem_cons_of_mem _ hw)]
    split
    · have : x ≠ n := by rintro rfl; exact h v List.mem_cons_self
      simp [this]
    · rfl
theorem bindC_out {kindOf : Str → Option NameKind} {x : Str} : ∀ {binds : List (Str × Value)} {m : Str → Option Value}, (∀ v, (x, v) ∉ binds) → bindC kindOf binds m x = m x
  | [], _, _ => rfl
  | (n, v) :: r, m, h => by
    unfold bindC
    rw [bindC_out fun w hw => h w (List.mem_cons_of_mem _ hw)]
    split
    · rfl
    · have : x ≠ n := by rintro rfl; exact h v List.mem_cons_self
      simp [this]
theorem bindL_get {kindOf : Str → Option NameKind} {x : Str} {v : Value} : ∀ {P : List Str} {vs : List Value} {i : Nat} {m : Str → Option Value}, P.Nodup → P[i]? = some x → vs[i]? = some v → kindOf x = some .local →
    bindL kindOf (P.zip vs) m x = some v
  | [], _, _, _, _, h, _, _ => by simp at h
  | _ :: _, [], _, _, _, _, h, _ => by simp at h
  | p :: P, w :: vs, 0, m, nd, h1, h2, hk => by
    simp at h1 h2; subst h1; subst h2
    show bindL kindOf ((p, w) :: P.zip vs) m p = _
    unfold bindL
    rw [bindL_out fun v hv => (List.nodup_cons.mp nd).1 (List.of_mem_zip hv).1, if_pos hk]
    simp
  | p :: P, w :: vs, i + 1, m, nd, h1, h2, hk => by
    show bindL kindOf ((p, w) :: P.zip vs) m x = _
    unfold bindL
    exact bindL_get (i := i) (List.nodup_cons.mp nd).2 (by simpa using h1) (by simpa using h2) hk
theorem bindC_get {kindOf : Str → Option NameKind} {x : Str} {v : Value} : ∀ {P : List Str} {vs : List Value} {i : Nat} {m : Str → Option Value}, P.Nodup → P[i]? = some x → vs[i]? = some v → kindOf x ≠ some .local →
    bindC kindOf (P.zip vs) m x = some v
  | [], _, _, _, _, h, _, _ => by simp at h
  | _ :: _, [], _, _, _, _, h, _ => by simp at h
  | p :: P, w :: vs, 0, m, nd, h1, h2, hk => by
    simp at h1 h2; subst h1; subst h2
    show bindC kindOf ((p, w) :: P.zip vs) m p = _
    unfold bindC
    rw [bindC_out fun v hv => (List.nodup_cons.mp nd).1 (List.of_mem_zip hv).1, if_neg hk]
    simp
  | p :: P, w :: vs, i + 1, m, nd, h1, h2, hk => by
    show bindC kindOf ((p, w) :: P.zip vs) m x = _
    unfold bindC
    exact bindC_get (i := i) (List.nodup_cons.mp nd).2 (by simpa using h1) (by simpa using h2) hk

/-- the names' values at the entry -/
def start (N : List Str) (vs : List V) : St := vs.map some ++ List.replicate (N.length - vs.length) none

/-- the context of a def's body, at its entry; an exception leaves the frame, then lies as CX says -/
def cxOf (CX : CXT) (P : Program) (w : World) (K : PySem.W.Frag) (mg : Str → Option Value) (base : Heap) (N : List Str) (qual : Str) (scope : Scope) (f : Addr) (cd : Value) (A : Around) (outer : List Env) (s : Shared) (H : Hp) (E : XK) : Cx where
  prog := P
  w := w
  K := K
  mg := mg
  base := base
  A := A.deeper (envOfC qual scope s.heap.objs.size f cd)
  N := N
  s₀ := s
  H₀ := H
  env := envOfC qual scope s.heap.objs.size f cd
  outer := outer
  stack := envOfC qual scope s.heap.objs.size f cd :: outer
  ex := []
  calm := true
  fn := fun _ => true
  pn := []
  xe := fun e s' => wpAny (model P w) (A.deeper (envOfC qual scope s.heap.objs.size f cd)) (leaving (envOfC qual scope s.heap.objs.size f cd) e) (fun _ s'' => CX outer H s E e s'') (fun e' s'' => CX outer H s E e' s'') s'

theorem cell_has {sc : Scope} {n : Nat} {x : Str} (h : sc.names.lookup x = some .cell) : ∃ c, (cellsFrom n sc.names []).lookup x = some c := by
  have q := PySem.W.cellsFrom_some sc.names n [] (.inl h)
  exact Option.isSome_iff_exists.mp q

theorem inv_start {CX : CXT} {P : Program} {w : World} {K : PySem.W.Frag} {mg : Str → Option Value} {base : Heap} {N ps : List Str} {qual : Str} {scope : Scope} {f : Addr} {cd : Value} {A : Around} {outer : List Env} {s s1 : Shared} {H : Hp} {E : XK} {us : List Value} {vs : List V}
    (S : FnScope N ps scope) (hd : A.handled = none) (e0 : Env0 P w K mg base A outer s H) (hl : vs.length = ps.length) (r : Vals vs us)
    (x : InCallC s s.heap.objs.size (bindL (envOfC qual scope s.heap.objs.size f cd).kindOf (ps.zip us) fun _ => none) (cellsFrom (s.heap.objs.size + 1) scope.names []) (bindC (envOfC qual scope s.heap.objs.size f cd).kindOf (ps.zip us) fun _ => none) s1) :
    Inv (cxOf CX P w K mg base N qual scope f cd A outer s H E) [] (start N vs) H s1 := by
  have hpl : ps.length ≤ N.length := by have := congrArg List.length S.pre; rw [List.length_take] at this; omega
  obtain ⟨h1, tk, rfl, hk⟩ := x.done
  have noA : ∀ b : Addr, b ∉ (cxOf CX P w K mg base N qual scope f cd A outer s H E).ex := fun b z => absurd (show b ∈ ([] : List Addr) from z) (by simp)
  refine ⟨⟨e0.mod, S.kind, rfl, rfl, Nat.le_refl _, fun y z c h1 h2 => ?_, fun y hy => ?_, fun y c _ h => ?_, fun _ => hd, Around.frames_deeper e0.frames, .inr ⟨rfl, rfl⟩, fun b z => absurd z (noA b), e0.bs, e0.bsz, fun b _ _ => noA b, fun b z => absurd z (noA b), e0.funs, e0.frf⟩,
    rfl, e0.bare, Un.kept hk, ⟨_, x.toInCall.ns, fun i y v h1 h2 h3 => ?_⟩, fun y c h => ⟨_, x.cell y c h⟩, e0.hok.fresh (Nat.le_refl _), fun y c h => ?_, fun p hp => absurd (show p ∈ ([] : List (Addr × Obj)) from hp) (by simp), e0.hok.kept hk, ?_⟩
  · exact name_of_addr x.apart (PySem.mem_of_lookup h1) (PySem.mem_of_lookup h2)
  · have hy : scope.names.lookup y = some .cell ∨ scope.names.lookup y = some .free := hy
    rcases hy with hy | hy
    · exact cell_has hy
    · exact absurd rfl (S.nofree _ (PySem.mem_of_lookup hy))
  · exact Nat.le_of_lt (x.above y c (PySem.mem_of_lookup h))
  · have hi : i < vs.length := by
      unfold start at h2
      by_cases hi : i < vs.length
      · exact hi
      · rw [List.getElem?_append_right (by simpa using hi)] at h2
        rw [List.getElem?_replicate] at h2
        split at h2 <;> cases h2
    have ha : vs[i]? = some v := by
      unfold start at h2
      rw [List.getElem?_append_left (by simpa using hi), List.getElem?_map] at h2
      cases e : vs[i]? with
      | none => rw [e] at h2; cases h2
      | some a => rw [e] at h2; cases h2; rfl
    obtain ⟨u, hu, rv⟩ := r.get ha
    have hp : ps[i]? = some y := by
      rw [← S.pre, List.getElem?_take_of_lt (by omega)]; exact h1
    have ndP : ps.Nodup := by rw [← S.pre]; exact S.nd.sublist (List.take_sublist _ _)
    refine ⟨u, rv, ?_⟩
    rcases S.par y (List.mem_of_getElem? hp) with k | k
    · exact .inl ⟨k, bindL_get ndP hp hu k⟩
    · obtain ⟨c, e⟩ := cell_has (n := s.heap.objs.size + 1) k
      refine .inr ⟨.inl k, c, e, ?_⟩
      have q := x.cell y c e
      rw [bindC_get ndP hp hu (by show scope.names.lookup y ≠ _; rw [k]; decide)] at q
      exact q
  · exact e0.hok.fresh (Nat.le_of_lt (x.above y c (PySem.mem_of_lookup h)))
  · unfold start
    show _ = N.length
    rw [List.length_append, List.length_map, List.length_replicate]
    omega

/-- THE RULE: a def (or a method) of the text, by its body. The body's reading t is chosen for each entry; it is run at the parameters' values -/
theorem fn_of {CX : CXT} {P : Program} {w : World} {K : PySem.W.Frag} {mg : Str → Option Value} {base : Heap} {k : Nat} {f : Addr} {name qual : Str} {params : Arguments} {body : List Stmt} {scope : Scope} {dV kV doc pm cdv ct oc : Value} {an od : Option Addr}
    {osl : Array (Option Value)} {N ps : List Str} {sp : Sp} (lk : K.lookup f = some ⟨oc, od, .func (PySem.W.fnOf name qual params body scope dV kV doc pm an cdv ct), osl⟩) (hcd : PySem.W.codeIn K cdv qual = true) (S : FnScope N ps scope)
    (len : ∀ vs H Q E, sp vs H Q E → vs.length = ps.length)
    (hbody : ∀ (A : Around) (outer : List Env) (s : Shared) (H : Hp) (vs : List V) (Q : VK) (E : XK), Room k (A.deeper (envOfC qual scope s.heap.objs.size f cdv)) → sp vs H Q E →
      ∃ t, PSs (cxOf CX P w K mg base N qual scope f cdv A outer s H E) body t ∧ t { nx := fun _ H' => Q .non H', rt := Q } (start N vs) H) :
    FnOk P w K mg base CX (k + 1) f (PySem.W.fnOf name qual params body scope dV kV doc pm an cdv ct) ps sp := by
  refine ⟨len, fun A outer s H args us vs Q E hr e0 hb r hsp => ?_⟩
  have hl := len _ _ _ _ hsp
  have KX : K.In s.heap := e0.mod.kin.keeps fun b o e => (e0.bs b o e).1
  have lim : s.heap.NoLimit := e0.mod.nolimit.keeps fun b o e => (e0.bs b o e).1
  have hkind : ∀ y ∈ ps.zip us, scope.names.lookup y.1 = some .local ∨ (scope.names.lookup y.1 = some .cell ∧ ((cellsFrom (s.heap.objs.size + 1) scope.names []).lookup y.1).isSome = true) := fun ⟨n, v⟩ hy => by
    rcases S.par n (List.of_mem_zip hy).1 with q | q
    · exact .inl q
    · exact .inr ⟨q, PySem.W.cellsFrom_some _ _ _ (.inl q)⟩
  refine codeAny_call_function hr.depth (KX _ _ lk) rfl S.co S.gen rfl (PySem.W.codeRec_of KX hcd) (hb _ _ _ _ ?_)
  refine wpAny_newFunctionEnv_cells S.kind hkind fun env he s1 x => ?_
  subst he
  refine ⟨lim.keeps x.toInCall.keep, codeAny_func ?_⟩
  obtain ⟨t, ht, hq⟩ := hbody A outer s H vs Q E (hr.deeper _) hsp
  have I : Inv (cxOf CX P w K mg base N qual scope f cdv A outer s H E) [] (start N vs) H s1 := inv_start S hr.hd e0 hl r x
  refine wpAny_mono (ht [] s1 (start N vs) H _ I hq) (fun fl s' hs => ?_) fun e s' hs => hs
  have fin : ∀ {σ' : St} {H' : Hp} {v : V} {u : Value}, Inv (cxOf CX P w K mg base N qual scope f cdv A outer s H E) [] σ' H' s' → RelV v u → Q v H' → CE outer P w H s Q u s' :=
    fun {σ' H' v u} J rv q => ⟨v, H', J.os, J.bare, J.base, J.hok, rv, q⟩
  cases fl with
  | ret u =>
    obtain ⟨v, σ', H', J, rv, q⟩ := hs
    exact fin J rv q
  | next =>
    obtain ⟨σ', H', J, q⟩ := hs
    exact fin (v := V.non) (u := Value.none) J rfl q
  | brk =>
    obtain ⟨_, _, _, q⟩ := hs
    exact False.elim q
  | cont =>
    obtain ⟨_, _, _, q⟩ := hs
    exact False.elim q
end L2

namespace L2
open PySem PySem.Spec PyProof.Rows
section
variable {X : Cx} {x : Str} {p pos : Pos} {e : Expr} {es : List Expr} {t : TA} {id T : String} {r : List V → Hp → VK → Prop}

def tCB (r : List V → Hp → VK → Prop) (t : TA) : TE := fun σ H Q => t σ H fun vs H1 => r vs H1 Q
/-- f(e, ..), f a built-in function -/
theorem pe_callB (hc : CallR X (.builtin id) r) (hg : Gl X x) (hm : X.mg x = none) (hv : bootBuiltins x = some (.builtin id)) (ha : PA X (e :: es) t) (hn : x ≠ "__name__" := by decide) (hdb : (x == ("__debug__" : Str)) = false := by decide)
    (he : starEach (e :: es) X.env = (false, eval e X.env) :: starEach es X.env := by rfl) (hpl : (backTo pos (starEach es X.env)).any (·.1) = false := by rfl) : PE X (.Call (.Name x p) (e :: es) [] pos) (tCB r t) := by
  intro pins s σ H Q I h
  refine wpAny_Call_Name_kw (ld_blt I hg hm hv ?_ hn hdb)
  exact PyProof.Rows.callWith_builtin1 (thn (ha pos pins s σ H _ I h) fun us s1 ⟨vs, H1, I1, r1, q1⟩ => hc pins s1 σ H1 vs us Q I1 r1 q1) he hpl
/-- T(e, ..), T a built-in type -/
theorem pe_callTy (hc : CallR X (.type T) r) (hg : Gl X x) (hm : X.mg x = none) (hv : bootBuiltins x = some (.type T)) (ha : PA X (e :: es) t) (hn : x ≠ "__name__" := by decide) (hdb : (x == ("__debug__" : Str)) = false := by decide)
    (he : starEach (e :: es) X.env = (false, eval e X.env) :: starEach es X.env := by rfl) (hpl : (backTo pos (starEach es X.env)).any (·.1) = false := by rfl) : PE X (.Call (.Name x p) (e :: es) [] pos) (tCB r t) := by
  intro pins s σ H Q I h
  refine wpAny_Call_Name_kw (ld_blt I hg hm hv ?_ hn hdb)
  exact PyProof.Rows.callWith_type1 (thn (ha pos pins s σ H _ I h) fun us s1 ⟨vs, H1, I1, r1, q1⟩ => hc pins s1 σ H1 vs us Q I1 r1 q1) he hpl
/-- T() -/
theorem pe_callTy0 (hc : CallR X (.type T) r) (hg : Gl X x) (hm : X.mg x = none) (hv : bootBuiltins x = some (.type T)) (hn : x ≠ "__name__" := by decide) (hdb : (x == ("__debug__" : Str)) = false := by decide) :
    PE X (.Call (.Name x p) [] [] pos) (tCB r tNil) := by
  intro pins s σ H Q I h
  refine wpAny_Call_Name_kw (ld_blt I hg hm hv ?_ hn hdb)
  exact PyProof.Rows.callWith_type0 (hc pins s σ H [] [] Q I .nil h)
end
end L2

namespace HT
open PySem PyProof.Rows

/-- t < u of tuples of ints -/
def lexLt : List Int → List Int → Bool
  | [], [] => false
  | [], _ :: _ => true
  | _ :: _, [] => false
  | x :: xs, y :: ys => if x = y then lexLt xs ys else decide (x < y)
theorem lexLt_cons (x y : Int) (xs ys : List Int) : lexLt (x :: xs) (y :: ys) = if x = y then lexLt xs ys else decide (x < y) := rfl
theorem lexLt_nil_nil : lexLt [] [] = false := rfl
theorem lexLt_nil_cons (y : Int) (ys : List Int) : lexLt [] (y :: ys) = true := rfl
theorem lexLt_cons_nil (x : Int) (xs : List Int) : lexLt (x :: xs) [] = false := rfl

theorem eqAt_int (A : Around) (s : Shared) (a : Int) (t : Tok) (c : Int) (u : Tok) : ∃ e, SeqAt.EqAt A s (.int a t) (.int c u) e ∧ (e = true ↔ a = c) :=
  ⟨(a == c), SeqAt.EqAt.int_int a t c u, by simp⟩
theorem rcLt_int (A : Around) (s : Shared) (a : Int) (t : Tok) (c : Int) (u : Tok) (prog : Program) (w : World) (E : Value → Shared → Prop) (Q : Value → Shared → Prop) (h : Q (.bool (decide (a < c))) s) :
    wpAny (model prog w) A (richCompare .Lt (.int a t) (.int c u)) Q E s :=
  (PyProof.Rows.lt_int h : wpAny (model prog w) A (compareOp .Lt (.int a t) (.int c u)) Q E s)

section
open PySem.SeqAt
open PySem.AutoSeq1 (wpAny_loadPart')
open PySem.MeetsSeq PySem.MeetsSeq2 PySem.MeetsSeq3

theorem tuple_lt_ints (l b : Addr) (items items2 : Array Value) (n n2 : Nat) (dd dd2 : Option Addr) (sl sl2 : Array (Option Value)) (ns ms : List Int) (hi : IntsAre items.toList ns) (hj : IntsAre items2.toList ms) :
    Meets (Builtin.«tuple.__lt__» ⟨[.ref l, .ref b], []⟩)
      (fun _ R s => s.heap.get? l = some { cls := .type "tuple", dict := dd, data := .seq items n, slots := sl } ∧ s.heap.get? b = some { cls := .type "tuple", dict := dd2, data := .seq items2 n2, slots := sl2 } ∧
        R (.ok (.ret (.bool (lexLt ns ms)))) s) :=
  .of_wp fun prog w A R s h => by
    obtain ⟨hp, g, d, tk, os⟩ := s; obtain ⟨hl, hb, h⟩ := h
    have f2 := AutoSeq1.sub_tuple_tuple
    have z1 : items.size = ns.length := by rw [← hi.length]; simp
    have z2 : items2.size = ms.length := by rw [← hj.length]; simp
    wp_walk using wpAny_loadPart' hl, wpAny_loadPart' hb, wpAny_forIn_list _ (fun rest b s' => b.1 = none ∧ s' = ⟨hp, g, d, tk, os⟩ ∧ ∃ (vs ws : List Value) (ns' ms' : List Int), rest = vs.zip ws ∧
      IntsAre vs ns' ∧ IntsAre ws ms' ∧ ns'.length + items2.size = ms'.length + items.size ∧ R (.ok (.ret (.bool (lexLt ns' ms')))) ⟨hp, g, d, tk, os⟩) _
    case turn =>
      rintro ⟨y, x⟩ rest b s' ⟨hb', rfl, vs, ws, ns', ms', hz, hvi, hwi, hlen, hR⟩
      cases hvi with
      | nil => rw [List.zip_nil_left] at hz; cases hz
      | cons a t hvi' =>
        cases hwi with
        | nil => rw [List.zip_nil_right] at hz; cases hz
        | cons c u hwi' =>
          rw [List.zip_cons_cons] at hz
          injection hz with hyx hrest
          injection hyx with hy hx
          subst hy hx
          rw [lexLt_cons] at hR
          simp only [List.length_cons] at hlen
          obtain ⟨e, he, hiff⟩ := eqAt_int A.in1 ⟨hp, g, d, tk, os⟩ a t c u
          refine wpAny_bind (he prog w _ _ ?_)
          cases e with
          | true =>
            rw [if_pos (hiff.mp rfl)] at hR
            wp_walk
            exact ⟨rfl, rfl, _, _, _, _, hrest, hvi', hwi', by omega, hR⟩
          | false =>
            rw [if_neg (fun q => absurd (hiff.mpr q) Bool.false_ne_true)] at hR
            have hri := rcLt_int A.in1 ⟨hp, g, d, tk, os⟩ a t c u prog w
            wp_walk using hri
            exact ⟨_, rfl, by simpa using hR⟩
    case fin =>
      rintro ⟨b1, b2⟩ s' ⟨hb', rfl, vs, ws, ns', ms', hz, hvi, hwi, hlen, hR⟩
      simp only at hb'
      subst hb'
      have hv : lexLt ns' ms' = decide (items.size < items2.size) := by
        cases hvi with
        | nil =>
          cases hwi with
          | nil =>
            simp only [List.length_nil] at hlen
            rw [lexLt_nil_nil]
            exact (decide_eq_false (by omega)).symm
          | cons c u hw =>
            simp only [List.length_nil, List.length_cons] at hlen
            rw [lexLt_nil_cons]
            exact (decide_eq_true (by omega)).symm
        | cons a t hv =>
          cases hwi with
          | nil =>
            simp only [List.length_nil, List.length_cons] at hlen
            rw [lexLt_cons_nil]
            exact (decide_eq_false (by omega)).symm
          | cons c u hw =>
            rw [List.zip_cons_cons] at hz
            cases hz
      rw [hv] at hR
      wp_walk
      exact ⟨_, rfl, by simpa [Builtin.Tuple.tupleCompareSizes] using hR⟩
    case h =>
      exact ⟨rfl, rfl, items.toList, items2.toList, ns, ms, rfl, hi, hj, by omega, h⟩
end

section
variable {prog : Program} {w : World} {A : Around} {E : Value → Shared → Prop} {s : Shared}

theorem lt_tupInts {l b : Addr} {items items2 : Array Value} {ns ms : List Int} {Q : Value → Shared → Prop} (hl : IsTup s.heap l items) (hb : IsTup s.heap b items2) (hi : IntsAre items.toList ns) (hj : IntsAre items2.toList ms)
    (hu : A.units < cLine) (h : Q (.bool (lexLt ns ms)) s) : wpAny (model prog w) A (compareOp .Lt (.ref l) (.ref b)) Q E s := by
  obtain ⟨⟨cls, dd, data, sl⟩, ho, hc, n, hd⟩ := id hl
  obtain ⟨⟨cls2, dd2, data2, sl2⟩, ho2, hc2, n2, hd2⟩ := id hb
  simp only at hc hd hc2 hd2
  subst hc hd hc2 hd2
  exact richCompare_meets_room (op := .Lt) ⟨_, ho, rfl⟩ ⟨_, ho2, rfl⟩ PySem.F.slot_tuple_lt PySem.F.entry_tuple_lt (PySem.F.args_tuple_lt_2 _ _) (tuple_lt_ints l b items items2 n n2 dd dd2 sl sl2 ns ms hi hj)
    ⟨ho, ho2, show Value.bool (lexLt ns ms) ≠ Value.notImplemented ∧ Q (.bool (lexLt ns ms)) s from ⟨(fun x => nomatch x), h⟩⟩ hu

/-- t + u, t not empty -/
theorem cat_tup {t b : Addr} {vs ws : List Value} {Q : Value → Shared → Prop} (ht : IsTup s.heap t vs.toArray) (hb : IsTup s.heap b ws.toArray) (hv : vs ≠ [])
    (h1 : ws = [] → Q (.ref t) s) (h2 : ws ≠ [] → Q (.ref s.heap.objs.size) { s with heap := s.heap.push { cls := .type "tuple", data := .seq (vs ++ ws).toArray } })
    (hsz : vs.length + ws.length ≤ sizeLine) : wpAny (model prog w) A (binaryOp .Add (.ref t) (.ref b)) Q E s := by
  obtain ⟨⟨cls, dd, data, sl⟩, ho, hc, n, hd⟩ := id ht
  obtain ⟨⟨cls2, dd2, data2, sl2⟩, ho2, hc2, n2, hd2⟩ := id hb
  simp only at hc hd hc2 hd2
  subst hc hd hc2 hd2
  have e : vs.toArray ++ ws.toArray = (vs ++ ws).toArray := by simp
  by_cases hw : ws = []
  · exact concat_meets ⟨_, ho, rfl⟩ ⟨_, ho2, rfl⟩ noFill_tuple_add seq_tuple_add PySem.F.slot_tuple_add PySem.F.entry_tuple_add (PySem.F.args_tuple_add_2 _ _)
      (tuple_addW1 t b vs.toArray ws.toArray n n2 dd dd2 sl sl2 (by simpa using hv) (by simp [hw])) ⟨ho, ho2, h1 hw⟩
  · refine concat_meets ⟨_, ho, rfl⟩ ⟨_, ho2, rfl⟩ noFill_tuple_add seq_tuple_add PySem.F.slot_tuple_add PySem.F.entry_tuple_add (PySem.F.args_tuple_add_2 _ _)
      (tuple_addW2 t b vs.toArray ws.toArray n n2 dd dd2 sl sl2 (by simpa using hv) (by simpa using hw) (by rw [List.size_toArray, List.size_toArray]; exact hsz)) ⟨ho, ho2, ?_⟩
    rw [e]
    exact h2 hw

/-! ### t[a:b], not the whole -/
/-- a slice's bound as a place among n (d where it is left out) -/
def sIx (n d : Nat) : Option Int → Nat
  | none => d
  | some v => if v < 0 then (v + (n : Int)).toNat else min v.toNat n
theorem sIx_none (n d : Nat) : sIx n d none = d := rfl
theorem sIx_nat (n d k : Nat) : sIx n d (some (k : Int)) = min k n := by
  show (if (k : Int) < 0 then ((k : Int) + (n : Int)).toNat else min (k : Int).toNat n) = min k n
  rw [if_neg (by omega), Int.toNat_natCast]
theorem sIx_le (n d : Nat) (hd : d ≤ n) (o : Option Int) : sIx n d o ≤ n := by
  cases o with
  | none => exact hd
  | some v =>
    show (if v < 0 then (v + (n : Int)).toNat else min v.toNat n) ≤ n
    by_cases hv : v < 0
    · rw [if_pos hv]; omega
    · rw [if_neg hv]; exact Nat.min_le_right _ _
theorem clip_eq (v : Int) (n d : Nat) : (if v < 0 then max (v + (n : Int)) 0 else min v (n : Int)) = ((sIx n d (some v) : Nat) : Int) := by
  show (if v < 0 then max (v + (n : Int)) 0 else min v (n : Int)) = (((if v < 0 then (v + (n : Int)).toNat else min v.toNat n) : Nat) : Int)
  by_cases hv : v < 0
  · simp only [if_pos hv]; omega
  · simp only [if_neg hv]; omega
theorem adjust_gen (lo hi : Option Int) (n : Nat) : Builtin.Slice.sliceAdjust lo hi 1 (n : Int) = (((sIx n 0 lo : Nat) : Int), ((sIx n n hi : Nat) : Int)) := by
  have h1 : ¬ ((1 : Int) < 0) := by omega
  unfold Builtin.Slice.sliceAdjust
  simp only [h1, if_false]
  refine Prod.ext ?_ ?_
  · cases lo with
    | none => rfl
    | some v => exact clip_eq v n 0
  · cases hi with
    | none => rfl
    | some v => exact clip_eq v n n
theorem places_gen (i j : Nat) : Builtin.Slice.slicePlaces (i : Int) (j : Int) 1 = j - i := by
  unfold Builtin.Slice.slicePlaces
  have h1 : (1 : Int) > 0 := by omega
  simp only [h1, if_true, Int.ediv_one]
  split <;> omega
theorem slicePart_ {v : Value} {o : Option Int} {Q : Option Int → Shared → Prop} (p : IsPart v o) (h : Q o s) : wpAny (model prog w) A (Builtin.Slice.slicePartIndex v) Q E s := by
  cases p with
  | none => exact slicePart_none h
  | int i t => exact slicePart_int h
theorem sliceApplied_gen {sl : Addr} {vl vu : Value} {lo hi : Option Int} {n : Nat} {Q : Int × Int × Nat → Shared → Prop} (hs : s.heap.IsSliceOf sl vl vu .none) (pl : IsPart vl lo) (pu : IsPart vu hi)
    (h : Q (((sIx n 0 lo : Nat) : Int), 1, sIx n n hi - sIx n 0 lo) s) : wpAny (model prog w) A (Builtin.Slice.sliceApplied (.ref sl) (pure (n : Int))) Q E s := by
  obtain ⟨os, hos, hcs, hds⟩ := id hs
  unfold Builtin.Slice.sliceApplied Builtin.Slice.sliceFields
  refine wpAny_bind (wpAny_bind (wpAny_field hos hds (x := vl) rfl (wpAny_bind (wpAny_field hos hds (x := vu) rfl (wpAny_bind (wpAny_field hos hds (x := .none) rfl (wpAny_pure ?_)))))))
  refine wpAny_bind (slicePart_none ?_)
  show wpAny _ _ (if ((1 : Int) == 0) = true then _ else _) _ _ s
  rw [if_neg (by decide)]
  refine wpAny_bind (slicePart_ pl (wpAny_bind (slicePart_ pu (wpAny_bind (wpAny_pure ?_)))))
  show wpAny _ _ (match Builtin.Slice.sliceAdjust lo hi 1 (n : Int) with | (lo, hi) => pure (lo, (1 : Int), Builtin.Slice.slicePlaces lo hi 1)) _ _ s
  rw [adjust_gen lo hi n]
  show wpAny _ _ (pure (((sIx n 0 lo : Nat) : Int), (1 : Int), Builtin.Slice.slicePlaces ((sIx n 0 lo : Nat) : Int) ((sIx n n hi : Nat) : Int) 1)) _ _ s
  rw [places_gen]
  exact wpAny_pure h
theorem pick_gen (xs : Array Value) (i k : Nat) : ((List.range k).filterMap fun (m : Nat) => xs[((i : Int) + (m : Int) * 1).toNat]?).toArray = ((xs.toList.drop i).take k).toArray := by
  have e : (fun (m : Nat) => xs[((i : Int) + (m : Int) * 1).toNat]?) = fun m => xs[i + m]? := by
    funext m
    have : ((i : Int) + (m : Int) * 1).toNat = i + m := by omega
    rw [this]
  rw [e]
  have := pick_run xs i k
  rw [List.filterMap_map] at this
  have e2 : ((fun x => xs[x]?) ∘ fun x => i + x) = fun m => xs[i + m]? := rfl
  rw [e2] at this
  rw [this]

theorem getItem_tuple_cut {t sl : Addr} {items : Array Value} {vl vu : Value} {lo hi : Option Int} {Q : Value → Shared → Prop} (ht : IsTup s.heap t items) (hs : s.heap.IsSliceOf sl vl vu .none) (pl : IsPart vl lo) (pu : IsPart vu hi)
    (hw : ¬ (sIx items.size 0 lo = 0 ∧ sIx items.size items.size hi = items.size))
    (h : Q (.ref s.heap.objs.size) { s with heap := s.heap.push { cls := .type "tuple", data := .seq ((items.toList.drop (sIx items.size 0 lo)).take (sIx items.size items.size hi - sIx items.size 0 lo)).toArray } })
    (hsz : items.size ≤ sizeLine) : wpAny (model prog w) A (getItem (.ref t) (.ref sl)) Q E s := by
  have htake : sizeOk (.seq ((items.toList.drop (sIx items.size 0 lo)).take (sIx items.size items.size hi - sIx items.size 0 lo)).toArray) := by
    show ((items.toList.drop (sIx items.size 0 lo)).take (sIx items.size items.size hi - sIx items.size 0 lo)).toArray.size ≤ sizeLine
    rw [List.size_toArray, List.length_take, List.length_drop, Array.length_toList]
    omega
  have hj : sIx items.size items.size hi ≤ items.size := sIx_le _ _ (Nat.le_refl _) hi
  obtain ⟨os, hos, hcs, hds⟩ := id hs
  have hTs : s.TypeIs (.ref sl) "slice" := ⟨os, hos, hcs⟩
  unfold getItem
  try with_reducible refine wpAny_holding ?_
  first | refine wpAny_bind (wpAny_pure ?_) | skip
  refine wpAny_bind (wpAny_sequenceKey ht.typeIs (by decide) ?_)
  refine wpAny_bind (wpAny_callSpecial?_slot (name := Str.ofString "__getitem__") ht.typeIs PyProof.Rows.slot_tuple_getitem
    (wpAny_call_entry PyProof.Rows.slot_tuple_getitem ht.typeIs entry_tuple_getitem ?_ (args_tuple_getitem _ _)))
  show wpAny _ _ (Builtin.Tuple.tupleItemsOf (.ref t) >>= _) _ _ s
  refine wpAny_bind (tupleItemsOf_ ht ?_)
  refine wpAny_bind (wpAny_typeOf hTs ?_)
  rw [if_pos (by decide)]
  refine wpAny_bind (sliceApplied_gen hs pl pu ?_)
  have hno : ¬ ((((sIx items.size 0 lo : Nat) : Int) == 0 && (1 : Int) == 1 && (sIx items.size items.size hi - sIx items.size 0 lo) == items.size) = true) := by
    intro q
    rw [Bool.and_eq_true, Bool.and_eq_true] at q
    have q1 : ((sIx items.size 0 lo : Nat) : Int) = 0 := eq_of_beq q.1.1
    have q2 : sIx items.size items.size hi - sIx items.size 0 lo = items.size := eq_of_beq q.2
    exact hw ⟨by omega, by omega⟩
  show wpAny _ _ (if (((sIx items.size 0 lo : Nat) : Int) == 0 && (1 : Int) == 1 && (sIx items.size items.size hi - sIx items.size 0 lo) == items.size) = true then _ else _) _ _ s
  rw [if_neg hno, pick_gen]
  first
    | exact wpAny_bind (m := Builtin.Tuple.tupleExact _) (wpAny_newObj_type (wpAny_pure ⟨_, rfl, wpAny_pure h⟩) htake)
    | exact wpAny_bind (m := Builtin.Tuple.tupleExact _) (wpAny_newObj_type (wpAny_bind (wpAny_pure (wpAny_pure ⟨_, rfl, wpAny_pure h⟩))) htake)
    | exact wpAny_bind (wpAny_bind (m := Builtin.Tuple.tupleExact _) (wpAny_newObj_type (wpAny_pure (wpAny_pure ⟨_, rfl, wpAny_pure h⟩)) htake))
    | exact wpAny_bind (wpAny_bind (m := Builtin.Tuple.tupleExact _) (wpAny_newObj_type (wpAny_pure ⟨_, rfl, wpAny_pure h⟩) htake))
end
end HT

namespace L2
open PySem PySem.Spec PyProof.Rows

/-! ### the parts of a slice -/
abbrev TO := St → Hp → (Option Int → Hp → Prop) → Prop
/-- a slice's part (left out, or an int) -/
def PO (X : Cx) (e : Option Expr) (t : TO) : Prop :=
  ∀ (pins : List (Addr × Obj)) (s : Shared) (σ : St) (H : Hp) (Q : Option Int → Hp → Prop), Inv X pins σ H s → t σ H Q →
    wpAny (model X.prog X.w) X.A (evalPart e X.env) (fun u s' => ∃ o H', Inv X pins σ H' s' ∧ IsPart u o ∧ Q o H') X.xe s
def tNoPart : TO := fun _ H Q => Q none H
def tPart (t : TE) : TO := fun σ H Q => t σ H fun x H1 => ∃ i, x = .int i ∧ Q (some i) H1

theorem intsAre_of {ns : List Int} : ∀ {us : List Value}, Vals (ns.map V.int) us → IntsAre us ns := by
  induction ns with
  | nil => intro us r; rw [List.map_nil] at r; cases r; exact .nil
  | cons n ns ih =>
    intro us r
    rw [List.map_cons] at r
    cases r with
    | cons r1 r2 =>
      obtain ⟨t, e⟩ := r1
      subst e
      exact .cons n t (ih r2)

section
variable {X : Cx} {e : Expr} {te : TE} {lo hi : Option Expr} {tl th : TO} {pos p2 : Pos}

theorem po_none : PO X none tNoPart := by
  intro pins s σ H Q I h
  rw [evalPart_none]
  exact wpAny_pure ⟨none, H, I, .none, h⟩
theorem po_some (h : PE X e te) : PO X (some e) (tPart te) := by
  intro pins s σ H Q I hw
  rw [evalPart_some]
  refine thn (h pins s σ H _ I hw) fun u s1 ⟨x, H1, I1, r1, q1⟩ => ?_
  obtain ⟨i, rfl, q⟩ := q1
  obtain ⟨t, rfl⟩ := r1
  exact ⟨some i, H1, I1, .int i t, q⟩

/-- what a slice of a value is, by values: the slice object stands at sl -/
def SlR (X : Cx) (r : V → Option Int → Option Int → Hp → VK → Prop) : Prop :=
  ∀ (pins : List (Addr × Obj)) (s : Shared) (σ : St) (H : Hp) (x : V) (v vl vu : Value) (lo hi : Option Int) (sl : Addr) (Q : VK), Inv X pins σ H s → RelV x v → s.heap.IsSliceOf sl vl vu .none → IsPart vl lo → IsPart vu hi → r x lo hi H Q →
    ∃ T id, typeLookup (.type T) "__getitem__" = pure (some (.builtin id)) ∧ s.TypeIs v T ∧ wpAny (model X.prog X.w) X.A (getItem v (.ref sl)) (EP X pins σ Q) X.xe s
theorem SlR.or {r r' : V → Option Int → Option Int → Hp → VK → Prop} (h : SlR X r) (h' : SlR X r') : SlR X (fun x lo hi H Q => r x lo hi H Q ∨ r' x lo hi H Q) := by
  intro pins s σ H x v vl vu lo hi sl Q I rx hs pl pu q
  rcases q with q | q
  · exact h pins s σ H x v vl vu lo hi sl Q I rx hs pl pu q
  · exact h' pins s σ H x v vl vu lo hi sl Q I rx hs pl pu q
def tSl (r : V → Option Int → Option Int → Hp → VK → Prop) (te : TE) (tl th : TO) : TE := fun σ H Q => te σ H fun x H1 => tl σ H1 fun l H2 => th σ H2 fun u H3 => r x l u H3 Q
/-- a[lo:hi], any a -/
theorem pe_slice {r : V → Option Int → Option Int → Hp → VK → Prop} (hr : SlR X r) (he : PE X e te) (hl : PO X lo tl) (hu : PO X hi th) : PE X (.Subscript e (.Slice lo hi none p2) pos) (tSl r te tl th) := by
  intro pins s σ H Q I h
  refine Subscript_ (thn (he pins s σ H _ I h) fun v s1 ⟨x, H1, I1, r1, q1⟩ => ?_)
  refine wpAny_Slice (thn (hl pins s1 σ H1 _ I1 q1) fun vl s2 ⟨l, H2, I2, pl, q2⟩ => thn (hu pins s2 σ H2 _ I2 q2) fun vu s3 ⟨u, H3, I3, pu, q3⟩ => ?_)
  rw [evalPart_none]
  refine wpAny_pure ?_
  have I4 : Inv X pins σ H3 { s3 with heap := s3.heap.push { cls := .type "slice", data := .fields #[vl, vu, .none] } } := I3.kept (t' := s3.toks) fun b ob q => Heap.get?_push_of_some _ q
  obtain ⟨T, id, hT, ht, hg⟩ := hr pins { s3 with heap := s3.heap.push { cls := .type "slice", data := .fields #[vl, vu, .none] } } σ H3 x v vl vu l u s3.heap.objs.size Q I4 r1 (Heap.IsSliceOf.new ..) pl pu q3
  show wpAny (model X.prog X.w) X.A (subscriptTail e (.Slice lo hi none p2) v (.ref s3.heap.objs.size)) (EP X pins σ Q) X.xe { s3 with heap := s3.heap.push { cls := .type "slice", data := .fields #[vl, vu, .none] } }
  exact tail_any (ops := [.ref s3.heap.objs.size, v]) ht hT hg (by with_unfolding_all rfl)

/-- the items of xs[lo:hi] -/
def cutV (xs : List V) (lo hi : Option Int) : List V := (xs.drop (HT.sIx xs.length 0 lo)).take (HT.sIx xs.length xs.length hi - HT.sIx xs.length 0 lo)
theorem cutV_length (xs : List V) (lo hi : Option Int) : (cutV xs lo hi).length ≤ xs.length := by
  unfold cutV
  rw [List.length_take, List.length_drop]
  omega
/-- t[lo:hi], not the whole of it (the whole would be t itself) -/
def rSlT (K : PySem.W.Frag) : V → Option Int → Option Int → Hp → VK → Prop := fun x lo hi H Q => ∃ a xs, x = .ref a ∧ SqT K H a xs ∧
  ¬ (HT.sIx xs.length 0 lo = 0 ∧ HT.sIx xs.length xs.length hi = xs.length) ∧ ∀ p, H p = none → Q (.ref p) (upd H p (.tup (cutV xs lo hi)))
theorem sl_tup : SlR X (rSlT X.K) := by
  intro pins s σ H x v vl vu lo hi sl Q I rx hs pl pu h
  obtain ⟨a, xs, rfl, hx, hw, q⟩ := h
  cases rx
  obtain ⟨its, r, ht, hz⟩ := I.tuple hx
  have hlen : its.toArray.size = xs.length := by rw [List.size_toArray]; exact r.length.symm
  refine ⟨"tuple", _, PyProof.Rows.slot_tuple_getitem.lookup, ht.typeIs, ?_⟩
  refine HT.getItem_tuple_cut ht hs pl pu (by rw [hlen]; exact hw) ?_ (by rw [hlen]; exact hz)
  rw [hlen]
  refine ⟨.ref s.heap.objs.size, _, I.laid (t' := s.toks) (o := .tup (cutV xs lo hi)) (fun b ob q => Heap.get?_push_of_some _ q) (Nat.le_refl _) ?_, rfl, q _ (I.hok.fresh (Nat.le_refl _))⟩
  exact ⟨Nat.le_trans (cutV_length xs lo hi) hz, _, (r.drop (HT.sIx xs.length 0 lo)).take (HT.sIx xs.length xs.length hi - HT.sIx xs.length 0 lo), IsTup.new _ _⟩

/-! ### t < u, t + u -/
def rLtT (K : PySem.W.Frag) : R2 := fun x y H Q => ∃ a b ns ms, x = .ref a ∧ y = .ref b ∧ SqT K H a (ns.map V.int) ∧ SqT K H b (ms.map V.int) ∧ Q (.bl (HT.lexLt ns ms)) H
theorem op_ltT (hu : X.A.units < cLine) : OpR X (compareOp .Lt) (rLtT X.K) := by
  intro pins s σ H x y v u Q I rx ry h
  obtain ⟨a, b, ns, ms, rfl, rfl, ha, hb, q⟩ := h
  cases rx
  cases ry
  obtain ⟨its, r1, p1, _⟩ := I.tuple ha
  obtain ⟨its2, r2, p2, _⟩ := I.tuple hb
  have i1 : IntsAre its.toArray.toList ns := intsAre_of r1
  have i2 : IntsAre its2.toArray.toList ms := intsAre_of r2
  exact HT.lt_tupInts p1 p2 i1 i2 hu ⟨.bl (HT.lexLt ns ms), H, I, rfl, q⟩
/-- t + u, t not empty: u empty gives t itself -/
def rCatT (K : PySem.W.Frag) : R2 := fun x y H Q => ∃ a b xs ys, x = .ref a ∧ y = .ref b ∧ SqT K H a xs ∧ SqT K H b ys ∧ xs ≠ [] ∧ xs.length + ys.length ≤ sizeLine ∧
  (ys = [] → Q (.ref a) H) ∧ (ys ≠ [] → ∀ p, H p = none → Q (.ref p) (upd H p (.tup (xs ++ ys))))
theorem Vals.nil_iff {xs : List V} {us : List Value} (r : Vals xs us) : us = [] ↔ xs = [] := by
  cases r with
  | nil => simp
  | cons _ _ => simp
theorem op_catT : OpR X (binaryOp .Add) (rCatT X.K) := by
  intro pins s σ H x y v u Q I rx ry h
  obtain ⟨a, b, xs, ys, rfl, rfl, ha, hb, hx, hz, q1, q2⟩ := h
  cases rx
  cases ry
  obtain ⟨its, r1, p1, _⟩ := I.tuple ha
  obtain ⟨its2, r2, p2, _⟩ := I.tuple hb
  refine HT.cat_tup p1 p2 (fun z => hx (r1.nil_iff.mp z)) (fun z => ⟨.ref a, H, I, rfl, q1 (r2.nil_iff.mp z)⟩) (fun z => ?_) (by rw [← r1.length, ← r2.length]; exact hz)
  refine ⟨.ref s.heap.objs.size, _, I.laid (t' := s.toks) (o := .tup (xs ++ ys)) (fun b ob q => Heap.get?_push_of_some _ q) (Nat.le_refl _) ?_, rfl, q2 (fun w => z (r2.nil_iff.mpr w)) _ (I.hok.fresh (Nat.le_refl _))⟩
  exact ⟨by rw [List.length_append]; exact hz, _, r1.append r2, IsTup.new _ _⟩
/-- tuple(t) -/
theorem call_tupleT : CallR X (.type "tuple") (fun xs H Q => ∃ a ys, xs = [.ref a] ∧ SqT X.K H a ys ∧ Q (.ref a) H) := by
  intro pins s σ H xs us Q I r h
  obtain ⟨a, ys, rfl, ha, q⟩ := h
  obtain ⟨u, rfl, ru⟩ := vals1 r
  cases ru
  obtain ⟨its, _, p1, _⟩ := I.tuple ha
  exact call_tuple_same (items := its.toArray) p1 ⟨.ref a, H, I, rfl, q⟩
end
end L2

namespace L2
open PySem PySem.Spec PyProof.Rows

/-! ### places -/
/-- the place that an index of any sign means -/
def ixN (n : Nat) (i : Int) : Option Nat := if 0 ≤ i then (if i < n then some i.toNat else none) else if -(n : Int) ≤ i then some (i + n).toNat else none
def atI {α : Type} (xs : List α) (i : Int) : Option α := (ixN xs.length i).bind fun j => xs[j]?
theorem ixN_seq {n : Nat} {i : Int} {j : Nat} (h : ixN n i = some j) : seqIndex? i n = some j ∧ j < n ∧ -(n : Int) ≤ i ∧ i < n := by
  unfold ixN at h
  by_cases h0 : 0 ≤ i
  · rw [if_pos h0] at h
    by_cases h1 : i < n
    · rw [if_pos h1] at h
      have e : i.toNat = j := Option.some.inj h
      exact ⟨by rw [seqIndex_of h0 h1, e], by omega, by omega, h1⟩
    · rw [if_neg h1] at h; cases h
  · rw [if_neg h0] at h
    by_cases h1 : -(n : Int) ≤ i
    · rw [if_pos h1] at h
      have e : (i + n).toNat = j := Option.some.inj h
      exact ⟨by rw [seqIndex_neg (by omega) h1, e], by omega, h1, by omega⟩
    · rw [if_neg h1] at h; cases h
theorem atI_get {α : Type} {xs : List α} {i : Int} {v : α} (h : atI xs i = some v) : ∃ j, seqIndex? i xs.length = some j ∧ xs[j]? = some v ∧ j < xs.length ∧ -(xs.length : Int) ≤ i ∧ i < xs.length := by
  unfold atI at h
  cases e : ixN xs.length i with
  | none => rw [e] at h; cases h
  | some j =>
    rw [e] at h
    obtain ⟨h1, h2, h3, h4⟩ := ixN_seq e
    exact ⟨j, h1, h, h2, h3, h4⟩
theorem atI_nat {α : Type} {xs : List α} {j : Nat} {v : α} (h : xs[j]? = some v) : atI xs (j : Int) = some v := by
  have hj : j < xs.length := (List.getElem?_eq_some_iff.mp h).1
  have e : ixN xs.length (j : Int) = some j := by
    unfold ixN
    rw [if_pos (by omega), if_pos (by omega)]; simp
  unfold atI; rw [e]; exact h
theorem atI_last {α : Type} (xs : List α) (v : α) : atI (xs ++ [v]) (-1) = some v := by
  have hl : (xs ++ [v]).length = xs.length + 1 := by simp
  have e : ixN (xs ++ [v]).length (-1) = some xs.length := by
    unfold ixN
    rw [hl, if_neg (by decide), if_pos (by omega)]
    congr 1
    omega
  unfold atI
  rw [e]
  show (xs ++ [v])[xs.length]? = some v
  simp

/-! ### what may be subscripted -/
/-- what stands as an index of a plain subscript -/
def PlainIx (b : Expr) : Prop := ∀ o i, subscripted b false o i = operate [o, i] (getItem o i)
/-- a subscript by values -/
def IxR (X : Cx) (r : R2) : Prop :=
  ∀ (value slice : Expr) (pins : List (Addr × Obj)) (s : Shared) (σ : St) (H : Hp) (x y : V) (v u : Value) (Q : VK), Inv X pins σ H s → RelV x v → RelV y u → r x y H Q →
    subscripted slice false v u = operate [v, u] (getItem v u) → wpAny (model X.prog X.w) X.A (subscriptTail value slice v u) (EP X pins σ Q) X.xe s
/-- a call of a builtin's method by values: the receiver, the arguments -/
def MtR (X : Cx) (id : String) (r : V → List V → Hp → VK → Prop) : Prop :=
  ∀ (pins : List (Addr × Obj)) (s : Shared) (σ : St) (H : Hp) (x : V) (xs : List V) (v : Value) (us : List Value) (Q : VK), Inv X pins σ H s → RelV x v → Vals xs us → r x xs H Q →
    wpAny (model X.prog X.w) X.A (call (.builtin id) (v :: us)) (EP X pins σ Q) X.xe s
section
variable {X : Cx} {a b : Expr} {ta tb : TE} {pos : Pos}
theorem IxR.or {r r' : R2} (h : IxR X r) (h' : IxR X r') : IxR X (fun x y H Q => r x y H Q ∨ r' x y H Q) := by
  intro value slice pins s σ H x y v u Q I rx ry q hs
  rcases q with q | q
  · exact h value slice pins s σ H x y v u Q I rx ry q hs
  · exact h' value slice pins s σ H x y v u Q I rx ry q hs
theorem MtR.or {id : String} {r r' : V → List V → Hp → VK → Prop} (h : MtR X id r) (h' : MtR X id r') : MtR X id (fun x xs H Q => r x xs H Q ∨ r' x xs H Q) := by
  intro pins s σ H x xs v us Q I rx rs q
  rcases q with q | q
  · exact h pins s σ H x xs v us Q I rx rs q
  · exact h' pins s σ H x xs v us Q I rx rs q
/-- a[b] -/
theorem pe_ix {r : R2} (hr : IxR X r) (ha : PE X a ta) (hb : PE X b tb) (hs : PlainIx b) : PE X (.Subscript a b pos) (tOp r ta tb) := by
  intro pins s σ H Q I h
  exact Subscript_ (binT ha hb I h fun v u s2 x y H2 I2 rx ry q => hr a b pins s2 σ H2 x y v u Q I2 rx ry q (hs _ _))

def rIxL (K : PySem.W.Frag) : R2 := fun x y H Q => ∃ p xs i v, x = .ref p ∧ y = .int i ∧ SqL K H p xs ∧ atI xs i = some v ∧ Q v H
def rIxT (K : PySem.W.Frag) : R2 := fun x y H Q => ∃ p xs i v, x = .ref p ∧ y = .int i ∧ SqT K H p xs ∧ atI xs i = some v ∧ Q v H
def rIxS : R2 := fun x y H Q => ∃ z i c, x = .str z ∧ y = .int i ∧ z.length ≤ sizeLine ∧ atI z.cps.toList i = some c ∧ Q (.str ⟨#[c]⟩) H
theorem ix_list : IxR X (rIxL X.K) := by
  intro value slice pins s σ H x y v u Q I rx ry h hs
  obtain ⟨p, xs, i, z, rfl, rfl, hq, he, q⟩ := h
  cases rx
  obtain ⟨t, rfl⟩ := ry
  obtain ⟨its, r, pl, hz⟩ := I.list hq
  obtain ⟨j, h1, h2, h3, h4, h5⟩ := atI_get he
  obtain ⟨w, ew, rw'⟩ := r.get h2
  have hl := r.length
  have hn := line63
  have fin : EP X pins σ Q w s := ⟨z, H, I, rw', q⟩
  by_cases h0 : 0 ≤ i
  · have hj : i.toNat = j := by
      rw [seqIndex_of h0 h5] at h1
      exact Option.some.inj h1
    exact item_listR pl.isList h0 (by omega) (by rw [hj]; simpa using ew) fin hs
  · have hj : (i + (its.toArray.size : Int)).toNat = j := by
      rw [seqIndex_neg (by omega) h4] at h1
      rw [List.size_toArray, ← hl]
      exact Option.some.inj h1
    exact subscriptTail_builtinR (x := w) pl.isList.typeIs slot_list_getitem.lookup
      (wpAny_getItem_list_neg (Q := fun r s' => r = w ∧ EP X pins σ Q r s') pl.isList (by omega) (by rw [List.size_toArray] <;> omega) (by omega) (by rw [hj]; simpa using ew) ⟨rfl, fin⟩) hs
theorem ix_tup : IxR X (rIxT X.K) := by
  intro value slice pins s σ H x y v u Q I rx ry h hs
  obtain ⟨p, xs, i, z, rfl, rfl, hq, he, q⟩ := h
  cases rx
  obtain ⟨t, rfl⟩ := ry
  obtain ⟨its, r, pl, hz⟩ := I.tuple hq
  obtain ⟨j, h1, h2, h3, h4, h5⟩ := atI_get he
  obtain ⟨w, ew, rw'⟩ := r.get h2
  have hl := r.length
  have hn := line63
  have fin : EP X pins σ Q w s := ⟨z, H, I, rw', q⟩
  exact subscriptTail_builtinR (x := w) pl.typeIs slot_tuple_getitem.lookup
    (getItem_tuple (j := j) (Q := fun r s' => r = w ∧ EP X pins σ Q r s') pl (by omega) (by omega) (by rw [List.size_toArray, ← hl]; exact h1) (by simpa using ew) ⟨rfl, fin⟩) hs
theorem ix_str : IxR X rIxS := by
  intro value slice pins s σ H x y v u Q I rx ry h hs
  obtain ⟨z, i, c, rfl, rfl, hz, he, q⟩ := h
  obtain ⟨t, rfl⟩ := rx
  obtain ⟨t', rfl⟩ := ry
  obtain ⟨j, h1, h2, h3, h4, h5⟩ := atI_get he
  have hl : z.cps.toList.length = z.length := by simp [Str.length]
  rw [hl] at h1 h4 h5
  have hn := line63
  exact tail_any (typeIs_str s z t) slot_str_getitem.lookup (getItem_str (c := c) (by
    have e1 : decide (i < -(2 ^ 63 : Int)) = false := decide_eq_false (by omega)
    have e2 : decide (i ≥ 2 ^ 63) = false := decide_eq_false (by omega)
    rw [e1, e2, Bool.or_false]) (by rw [h1]; simpa using h2) ⟨.str ⟨#[c]⟩, H, I.tok _, ⟨_, rfl⟩, q⟩) hs
/-- list, tuple or str -/
def rIx (K : PySem.W.Frag) : R2 := fun x y H Q => rIxL K x y H Q ∨ rIxT K x y H Q ∨ rIxS x y H Q
theorem ix_seq : IxR X (rIx X.K) := ix_list.or (ix_tup.or ix_str)

/-! ### xs[i] = v, any sign -/
/-- the list's object behind a store -/
theorem mapSeq_set (its : List Value) (n j : Nat) (u : Value) : Obj.mapSeq (·.setIfInBounds j u) { cls := .type "list", data := .seq its.toArray n } = { cls := .type "list", data := .seq (its.set j u).toArray n } := by
  simp [Obj.mapSeq]
theorem Inv.lst {pins : List (Addr × Obj)} {σ : St} {H : Hp} {s : Shared} {p : Addr} {xs : List V} (I : Inv X pins σ H s) (h : H p = some (.lst xs)) :
    ∃ (its : List Value) (n : Nat), Vals xs its ∧ s.heap.get? p = some { cls := .type "list", data := .seq its.toArray n } ∧ xs.length ≤ sizeLine := by
  obtain ⟨z, its, n, r, e⟩ := I.hok p _ h
  exact ⟨its, n, r, e, z⟩
/-- the list at p is written by an update of its object -/
theorem Inv.lstUpd {pins : List (Addr × Obj)} {σ : St} {H : Hp} {s : Shared} {p : Addr} {xs ys : List V} {its its' : List Value} {n n' : Nat} {f : Obj → Obj} (I : Inv X pins σ H s) (h : H p = some (.lst xs))
    (ho : s.heap.get? p = some { cls := .type "list", data := .seq its.toArray n }) (hf : f { cls := .type "list", data := .seq its.toArray n } = { cls := .type "list", data := .seq its'.toArray n' }) (r : Vals ys its') (hz : ys.length ≤ sizeLine) (t : Nat) :
    Inv X pins σ (upd H p (.lst ys)) { s with heap := s.heap.update p f, toks := t } := by
  have e : (s.heap.update p f).get? p = some { cls := .type "list", data := .seq its'.toArray n' } := by
    rw [Heap.get?_update_self f ho (by rw [hf] <;> rfl), hf]
  refine I.write (x := p) (e := p) (by rw [h]; trivial) (.inl rfl) (fun b u hb q => (Heap.get?_update_other _ _ (Ne.symm hb)).trans q) ⟨_, e⟩ ?_
  exact ⟨hz, its', n', r, e⟩
def rSetL : V → V → V → Hp → (Hp → Prop) → Prop := fun o i v H Q => ∃ p xs k j, o = .ref p ∧ i = .int k ∧ H p = some (.lst xs) ∧ ixN xs.length k = some j ∧ Q (upd H p (.lst (xs.set j v)))
theorem set_list : PSet X rSetL := by
  intro pins s σ H o i v ov iv u Q I ro ri rv h
  obtain ⟨p, xs, k, j, rfl, rfl, hp, hj, q⟩ := h
  cases ro
  obtain ⟨t, rfl⟩ := ri
  obtain ⟨its, n, r, ho, hz⟩ := I.lst hp
  obtain ⟨h1, h2, h3, h4⟩ := ixN_seq hj
  have hl := r.length
  have hn := line63
  have I' : Inv X pins σ (upd H p (.lst (xs.set j v))) { s with heap := s.heap.update p (Obj.mapSeq (·.setIfInBounds j u)) } :=
    I.lstUpd hp ho (mapSeq_set its n j u) (r.set rv j) (by rw [List.length_set]; exact hz) s.toks
  by_cases h0 : 0 ≤ k
  · have hk : k.toNat = j := by
      rw [seqIndex_of h0 h4] at h1
      exact Option.some.inj h1
    exact PySem.W.ki_setAt ho h0 (by omega) (by rw [List.size_toArray, ← hl]; exact h4) (by rw [hk]; exact ⟨_, I', q⟩)
  · have hk : (k + (its.toArray.size : Int)).toNat = j := by
      rw [seqIndex_neg (by omega) h3] at h1
      rw [List.size_toArray, ← hl]
      exact Option.some.inj h1
    exact PySem.W.ki_setBack ho (by omega) (by rw [List.size_toArray, ← hl]; exact h3) (by omega) (by rw [hk]; exact ⟨_, I', q⟩)

/-! ### slices -/
theorem slice_bounds (lo hi : Option Int) (n : Nat) : (sliceBounds lo hi none n).1 = ((HT.sIx n 0 lo : Nat) : Int) ∧ (sliceBounds lo hi none n).2.1 = ((HT.sIx n n hi : Nat) : Int) ∧ (sliceBounds lo hi none n).2.2 = 1 := by
  refine ⟨?_, ?_, rfl⟩
  · cases lo with
    | none => simp [sliceBounds, HT.sIx]
    | some i =>
      simp only [sliceBounds, HT.sIx, Option.getD_none, show (1 : Int) > 0 by decide, if_true]
      by_cases h : i < 0
      · simp only [h, if_true] <;> omega
      · simp only [h, if_false] <;> omega
  · cases hi with
    | none => simp [sliceBounds, HT.sIx]
    | some i =>
      simp only [sliceBounds, HT.sIx, Option.getD_none, show (1 : Int) > 0 by decide, if_true]
      by_cases h : i < 0
      · simp only [h, if_true] <;> omega
      · simp only [h, if_false] <;> omega
theorem slicePick_cut (its : List Value) (lo hi : Option Int) : slicePick its.toArray lo hi none = ((its.drop (HT.sIx its.length 0 lo)).take (HT.sIx its.length its.length hi - HT.sIx its.length 0 lo)).toArray := by
  obtain ⟨h1, h2, h3⟩ := slice_bounds lo hi its.toArray.size
  unfold slicePick
  rw [h1, h2, h3]
  simp only [sliceRange_one, pick_run, List.size_toArray] <;> rfl
/-- xs[lo:hi] of a list: a new list -/
def rSlL (K : PySem.W.Frag) : V → Option Int → Option Int → Hp → VK → Prop := fun x lo hi H Q => ∃ a xs, x = .ref a ∧ SqL K H a xs ∧ ∀ p, H p = none → Q (.ref p) (upd H p (.lst (cutV xs lo hi)))
theorem sl_list : SlR X (rSlL X.K) := by
  intro pins s σ H x v vl vu lo hi sl Q I rx hs pl pu h
  obtain ⟨a, xs, rfl, hx, q⟩ := h
  cases rx
  obtain ⟨its, r, ht, hz⟩ := I.list hx
  have hlen := r.length
  refine ⟨"list", _, slot_list_getitem.lookup, ht.isList.typeIs, ?_⟩
  refine wpAny_getItem_list_slice ht.isList hs pl pu .none (by simp) ?_ (by rw [List.size_toArray] <;> omega)
  rw [slicePick_cut, ← hlen]
  refine ⟨.ref s.heap.objs.size, _, I.laid (t' := s.toks) (o := .lst (cutV xs lo hi)) (fun b ob q => Heap.get?_push_of_some _ q) (Nat.le_refl _) ?_, rfl, q _ (I.hok.fresh (Nat.le_refl _))⟩
  exact ⟨Nat.le_trans (cutV_length xs lo hi) hz, _, 0, (r.drop (HT.sIx xs.length 0 lo)).take (HT.sIx xs.length xs.length hi - HT.sIx xs.length 0 lo), Heap.get?_push_size _ rfl⟩

/-! ### in, not in: flat items -/
def flatV : V → Bool
  | .non => true
  | .bl _ => true
  | .int _ => true
  | .str _ => true
  | _ => false
/-- == of flat values -/
def eqV : V → V → Bool
  | .non, .non => true
  | .bl a, .bl b => a == b
  | .bl a, .int b => (if a then 1 else 0) == b
  | .int a, .bl b => a == (if b then 1 else 0)
  | .int a, .int b => a == b
  | .str a, .str b => a == b
  | _, _ => false
theorem eqAt_V {A : Around} {s : Shared} {y x : V} {u v : Value} (ry : RelV y u) (rx : RelV x v) (fy : flatV y = true) (fx : flatV x = true) : SeqAt.EqAt A s u v (eqV y x) := by
  cases y with
  | non =>
    cases ry
    cases x with
    | non => cases rx; exact SeqAt.EqAt.same _
    | bl b => cases rx; exact SeqAt.EqAt.none_bool b
    | int b => obtain ⟨t, rfl⟩ := rx; exact SeqAt.EqAt.none_int b t
    | str b => obtain ⟨t, rfl⟩ := rx; exact SeqAt.EqAt.none_str b t
    | _ => exact absurd (show false = true from fx) Bool.false_ne_true
  | bl a =>
    cases ry
    cases x with
    | non => cases rx; exact SeqAt.EqAt.bool_none a
    | bl b => cases rx; exact SeqAt.EqAt.bool_bool a b
    | int b => obtain ⟨t, rfl⟩ := rx; exact SeqAt.EqAt.bool_int a b t
    | str b => obtain ⟨t, rfl⟩ := rx; exact SeqAt.EqAt.bool_str a b t
    | _ => exact absurd (show false = true from fx) Bool.false_ne_true
  | int a =>
    obtain ⟨t', rfl⟩ := ry
    cases x with
    | non => cases rx; exact SeqAt.EqAt.int_none a t'
    | bl b => cases rx; exact SeqAt.EqAt.int_bool a t' b
    | int b => obtain ⟨t, rfl⟩ := rx; exact SeqAt.EqAt.int_int a t' b t
    | str b => obtain ⟨t, rfl⟩ := rx; exact SeqAt.EqAt.int_str a t' b t
    | _ => exact absurd (show false = true from fx) Bool.false_ne_true
  | str a =>
    obtain ⟨t', rfl⟩ := ry
    cases x with
    | non => cases rx; exact SeqAt.EqAt.str_none a t'
    | bl b => cases rx; exact SeqAt.EqAt.str_bool a t' b
    | int b => obtain ⟨t, rfl⟩ := rx; exact SeqAt.EqAt.str_int a t' b t
    | str b => obtain ⟨t, rfl⟩ := rx; exact SeqAt.EqAt.str_str a t' b t
    | _ => exact absurd (show false = true from fx) Bool.false_ne_true
  | _ => exact absurd (show false = true from fy) Bool.false_ne_true
/-- the items' answers, read off the values (a value's own answer does not lean on its token) -/
def eqU (x : V) (u : Value) : Bool := match u with
  | .none => eqV .non x
  | .bool b => eqV (.bl b) x
  | .int i _ => eqV (.int i) x
  | .str z _ => eqV (.str z) x
  | _ => false
theorem eqU_of {x y : V} {u : Value} (r : RelV y u) (f : flatV y = true) : eqU x u = eqV y x := by
  cases y with
  | non => cases r; rfl
  | bl b => cases r; rfl
  | int i => obtain ⟨t, rfl⟩ := r; rfl
  | str z => obtain ⟨t, rfl⟩ := r; rfl
  | _ => exact absurd (show false = true from f) Bool.false_ne_true
theorem any_eqU {x : V} : ∀ {xs : List V} {us : List Value}, Vals xs us → xs.all flatV = true → us.any (eqU x) = xs.any fun y => eqV y x
  | _, _, .nil, _ => rfl
  | y :: xs, u :: us, .cons r t, f => by
    rw [List.all_cons, Bool.and_eq_true] at f
    rw [List.any_cons, List.any_cons, eqU_of r f.1, any_eqU t f.2]
theorem mem_eqAt {A : Around} {s : Shared} {x : V} {v : Value} (rx : RelV x v) (fx : flatV x = true) : ∀ {xs : List V} {us : List Value}, Vals xs us → xs.all flatV = true → ∀ u ∈ us, SeqAt.EqAt A s u v (eqU x u)
  | _, _, .nil, _ => fun u hu => by cases hu
  | y :: xs, u :: us, .cons r t, f => fun u' hu => by
    rw [List.all_cons, Bool.and_eq_true] at f
    rcases List.mem_cons.mp hu with rfl | hu
    · rw [eqU_of r f.1]; exact eqAt_V r rx f.1 fx
    · exact mem_eqAt rx fx t f.2 u' hu
def inV (x : V) (xs : List V) : Bool := xs.any fun y => eqV y x
/-- x in a list or tuple of flat items -/
def rIn (K : PySem.W.Frag) (neg : Bool) : R2 := fun x y H Q => ∃ p xs, y = .ref p ∧ (SqL K H p xs ∨ SqT K H p xs) ∧ flatV x = true ∧ xs.all flatV = true ∧ Q (.bl (if neg then !inV x xs else inV x xs)) H
theorem op_in_seq : OpR X (compareOp .In) (rIn X.K false) := by
  intro pins s σ H x y v u Q I rx ry h
  obtain ⟨p, xs, rfl, hq, fx, fs, q⟩ := h
  cases ry
  rcases hq with hq | hq
  · obtain ⟨its, r, pl, hz⟩ := I.list hq
    refine SeqAt.in_listAt (eqU x) pl.isList (fun w hw => mem_eqAt rx fx r fs w (by simpa using hw)) ⟨.bl _, H, I, rfl, ?_⟩
    rw [show its.toArray.any (eqU x) = its.any (eqU x) by simp, any_eqU r fs]
    exact q
  · obtain ⟨its, r, pl, hz⟩ := I.tuple hq
    refine SeqAt.in_tupleAt (eqU x) pl (fun w hw => mem_eqAt rx fx r fs w (by simpa using hw)) ⟨.bl _, H, I, rfl, ?_⟩
    rw [show its.toArray.any (eqU x) = its.any (eqU x) by simp, any_eqU r fs]
    exact q
theorem op_notIn_seq : OpR X (compareOp .NotIn) (rIn X.K true) := by
  intro pins s σ H x y v u Q I rx ry h
  obtain ⟨p, xs, rfl, hq, fx, fs, q⟩ := h
  cases ry
  rcases hq with hq | hq
  · obtain ⟨its, r, pl, hz⟩ := I.list hq
    refine SeqAt.notIn_listAt (eqU x) pl.isList (fun w hw => mem_eqAt rx fx r fs w (by simpa using hw)) ⟨.bl _, H, I, rfl, ?_⟩
    rw [show its.toArray.any (eqU x) = its.any (eqU x) by simp, any_eqU r fs]
    exact q
  · obtain ⟨its, r, pl, hz⟩ := I.tuple hq
    refine SeqAt.notIn_tupleAt (eqU x) pl (fun w hw => mem_eqAt rx fx r fs w (by simpa using hw)) ⟨.bl _, H, I, rfl, ?_⟩
    rw [show its.toArray.any (eqU x) = its.any (eqU x) by simp, any_eqU r fs]
    exact q
theorem op_notIn_str : OpR X (compareOp .NotIn) (fun x y H Q => ∃ i j, x = .str i ∧ y = .str j ∧ Q (.bl (!(!(Builtin.Str.occurrences j i 0 j.length 1).isEmpty))) H) := by
  intro pins s σ H x y v u Q I rx ry h
  obtain ⟨i, j, rfl, rfl, q⟩ := h
  obtain ⟨t, rfl⟩ := rx
  obtain ⟨t', rfl⟩ := ry
  exact notIn_str ⟨.bl _, H, I, rfl, q⟩

/-! ### len, list(x), tuple(x) of any list or tuple that is read -/
theorem call_len_seq : CallR X (.builtin "len") (fun xs H Q => ∃ p ys, xs = [.ref p] ∧ (SqL X.K H p ys ∨ SqT X.K H p ys) ∧ Q (.int ys.length) H) := by
  intro pins s σ H xs us Q I r h
  obtain ⟨p, ys, rfl, hq, q⟩ := h
  obtain ⟨u, rfl, rx⟩ := vals1 r
  cases rx
  have hn := line63
  rcases hq with hq | hq
  · obtain ⟨its, r', pl, hz⟩ := I.list hq
    have hlen := r'.length
    exact Calls.call_len_list pl.isList (by simp only [List.size_toArray] <;> omega) ⟨.int ys.length, H, I.tok _, ⟨s.toks + 1, by rw [List.size_toArray, hlen]⟩, q⟩
  · obtain ⟨its, r', pl, hz⟩ := I.tuple hq
    have hlen := r'.length
    exact len_tuple pl (by simp only [List.size_toArray] <;> omega) ⟨.int ys.length, H, I.tok _, ⟨s.toks + 1, by rw [List.size_toArray, hlen]⟩, q⟩
theorem call_len_str : CallR X (.builtin "len") (fun xs H Q => ∃ z, xs = [.str z] ∧ z.length ≤ sizeLine ∧ Q (.int z.length) H) := by
  intro pins s σ H xs us Q I r h
  obtain ⟨z, rfl, hz, q⟩ := h
  obtain ⟨u, rfl, t, rfl⟩ := vals1 r
  have hn := line63
  exact len_str (by omega) ⟨.int z.length, H, I.tok _, ⟨_, rfl⟩, q⟩
theorem CallR.or {f : Value} {r r' : List V → Hp → VK → Prop} (h : CallR X f r) (h' : CallR X f r') : CallR X f (fun xs H Q => r xs H Q ∨ r' xs H Q) := by
  intro pins s σ H xs us Q I rs q
  rcases q with q | q
  · exact h pins s σ H xs us Q I rs q
  · exact h' pins s σ H xs us Q I rs q
theorem call_list_of : CallR X (.type "list") (fun xs H Q => ∃ p ys, xs = [.ref p] ∧ (SqL X.K H p ys ∨ SqT X.K H p ys) ∧ ∀ l, H l = none → Q (.ref l) (upd H l (.lst ys))) := by
  intro pins s σ H xs us Q I r h
  obtain ⟨p, ys, rfl, hq, q⟩ := h
  obtain ⟨u, rfl, rx⟩ := vals1 r
  cases rx
  have fin : ∀ (its : List Value), Vals ys its → ys.length ≤ sizeLine → ∀ (h' : Heap) (c' : Nat), (∀ b o', s.heap.get? b = some o' → h'.get? b = some o') →
      h'.get? s.heap.objs.size = some { cls := .type "list", dict := none, data := .seq its.toArray c', slots := #[] } → EP X pins σ Q (.ref s.heap.objs.size) { s with heap := h' } := fun its r' hz h' c' kp e =>
    ⟨.ref s.heap.objs.size, _, I.laid (t' := s.toks) kp (Nat.le_refl _) (show ObjOk X.prog X.w _ h' _ (.lst ys) from ⟨hz, its, c', r', e⟩), rfl, q _ (I.hok.fresh (Nat.le_refl _))⟩
  rcases hq with hq | hq
  · obtain ⟨its, r', pl, hz⟩ := I.list hq
    have hlen := r'.length
    obtain ⟨o, ho, hc, n, hd⟩ := pl.isList
    exact call_list_seq p (.inl rfl) ho hc hd (fun h' c' kp e => fin its r' hz h' c' kp e) (by simp only [List.size_toArray] <;> omega)
  · obtain ⟨its, r', pl, hz⟩ := I.tuple hq
    have hlen := r'.length
    obtain ⟨o, ho, hc, n, hd⟩ := pl
    exact call_list_seq p (.inr rfl) ho hc hd (fun h' c' kp e => fin its r' hz h' c' kp e) (by simp only [List.size_toArray] <;> omega)
theorem call_tuple_of : CallR X (.type "tuple") (fun xs H Q => ∃ p ys, xs = [.ref p] ∧ ((SqL X.K H p ys ∧ ∀ l, H l = none → Q (.ref l) (upd H l (.tup ys))) ∨ (SqT X.K H p ys ∧ Q (.ref p) H))) := by
  intro pins s σ H xs us Q I r h
  obtain ⟨p, ys, rfl, h⟩ := h
  obtain ⟨u, rfl, rx⟩ := vals1 r
  cases rx
  rcases h with ⟨hq, q⟩ | ⟨hq, q⟩
  · obtain ⟨its, r', pl, hz⟩ := I.list hq
    have hlen := r'.length
    refine call_tuple_list pl.isList (fun h' kp => ?_) (by simp only [List.size_toArray] <;> omega)
    have I1 : Inv X pins σ H { s with heap := h' } := I.kept (t' := s.toks) kp
    have I2 : Inv X pins σ (upd H h'.objs.size (.tup ys)) { s with heap := h'.push { cls := .type "tuple", data := .seq its.toArray } } :=
      I1.laid (t' := s.toks) (fun b o e => Heap.get?_push_of_some _ e) (Nat.le_refl _) (show ObjOk X.prog X.w _ _ _ (.tup ys) from ⟨hz, its, r', IsTup.new _ _⟩)
    exact ⟨.ref h'.objs.size, _, I2, rfl, q _ (I1.hok.fresh (Nat.le_refl _))⟩
  · obtain ⟨its, r', pl, hz⟩ := I.tuple hq
    exact call_tuple_same pl ⟨.ref p, H, I, rfl, q⟩

/-! ### the call of a builtin's method: o.m(..) -/
/-- the value is of that builtin type -/
def tyV (K : PySem.W.Frag) (T : String) (x : V) (H : Hp) : Prop := match x with
  | .str _ => T = "str"
  | .int _ => T = "int"
  | .ref p => (T = "list" ∧ ∃ xs, SqL K H p xs) ∨ (T = "tuple" ∧ ∃ o, K.lookup p = some o ∧ o.cls = .type "tuple" ∧ o.dict = none) ∨
      (T = "dict" ∧ ((∃ kvs, H p = some (.dK kvs)) ∨ ∃ kvs, H p = some (.dT kvs))) ∨ (T = "set" ∧ ∃ S n, H p = some (.set S n))
  | _ => False
theorem tyV_is {pins : List (Addr × Obj)} {σ : St} {H : Hp} {s : Shared} {T : String} {x : V} {v : Value} (I : Inv X pins σ H s) (r : RelV x v) (ty : tyV X.K T x H) :
    s.TypeIs v T ∧ ∀ a, v = .ref a → ∃ ob, s.heap.get? a = some ob ∧ ob.dict = none := by
  cases x with
  | str z =>
    obtain ⟨t, rfl⟩ := r
    cases (show T = "str" from ty)
    exact ⟨typeIs_str s z t, fun _ e => nomatch e⟩
  | int i =>
    obtain ⟨t, rfl⟩ := r
    cases (show T = "int" from ty)
    exact ⟨typeIs_int s i t, fun _ e => nomatch e⟩
  | ref p =>
    cases r
    rcases ty with ⟨rfl, xs, hq⟩ | ⟨rfl, o, hk, hc, hd⟩ | ⟨rfl, hk⟩ | ⟨rfl, S, n, hk⟩
    · obtain ⟨its, _, pl, _⟩ := I.list hq
      refine ⟨pl.isList.typeIs, fun a e => ?_⟩
      cases e
      obtain ⟨o, n, e, c, hd, _⟩ := pl
      exact ⟨o, e, hd⟩
    · refine ⟨⟨o, I.kIn p o hk, hc⟩, fun a e => ?_⟩
      cases e
      exact ⟨o, I.kIn _ o hk, hd⟩
    · have z : ∃ o, s.heap.get? p = some o ∧ o.ExactDict := by
        rcases hk with ⟨kvs, hk⟩ | ⟨kvs, hk⟩
        · obtain ⟨_, _, _, _, o, _, _, e, ex, _⟩ := I.hok p _ hk
          exact ⟨o, e, ex⟩
        · obtain ⟨_, _, _, _, o, _, _, e, ex, _⟩ := I.hok p _ hk
          exact ⟨o, e, ex⟩
      obtain ⟨o, e, ex⟩ := z
      refine ⟨⟨o, e, ex.1⟩, fun a e2 => ?_⟩
      cases e2
      exact ⟨o, e, ex.2.1⟩
    · obtain ⟨o, _, _, _, e, ex, _⟩ := I.hok p _ hk
      refine ⟨⟨o, e, ex.1⟩, fun a e2 => ?_⟩
      cases e2
      exact ⟨o, e, ex.2.1⟩
  | _ => exact False.elim ty
def tBM0 (K : PySem.W.Frag) (T : String) (r : V → List V → Hp → VK → Prop) (to : TE) : TE := fun σ H Q => to σ H fun x H1 => tyV K T x H1 ∧ r x [] H1 Q
def tBM (K : PySem.W.Frag) (T : String) (r : V → List V → Hp → VK → Prop) (to : TE) (t : TA) : TE := fun σ H Q => to σ H fun x H1 => tyV K T x H1 ∧ t σ H1 fun xs H2 => r x xs H2 Q
variable {o e : Expr} {es : List Expr} {to : TE} {t : TA} {name : Str} {apos cpos : Pos} {T id : String} {r : V → List V → Hp → VK → Prop}
theorem pe_bm0 (pa : PlainAttrs T) (slot : Slot T name id) (hty : typeOf (.builtin id) = pure (.type "method_descriptor")) (hm : MtR X id r) (ho : PE X o to)
    (hbase : attributeBase o name X.env (eval o X.env) = eval o X.env := by rfl) (hline : (apos.endLine == cpos.line) = true := by rfl) : PE X (.Call (.Attribute o name apos) [] [] cpos) (tBM0 X.K T r to) := by
  intro pins s σ H Q I h
  refine wpAny_Call_method0_late hbase hline (thn (ho pins s σ H _ I h) fun v s1 ⟨x, H1, I1, r1, ty, q1⟩ => ?_)
  obtain ⟨h1, h2⟩ := tyV_is I1 r1 ty
  exact ⟨T, id, pa, slot, hty, h1, h2, Calls.callWith_builtin rfl (PySem.evalArgs_none (hm pins s1 σ H1 x [] v [] Q I1 r1 .nil q1))⟩
theorem pe_bm (pa : PlainAttrs T) (slot : Slot T name id) (hty : typeOf (.builtin id) = pure (.type "method_descriptor")) (hm : MtR X id r) (ho : PE X o to) (ha : PA X (e :: es) t)
    (hbase : attributeBase o name X.env (eval o X.env) = eval o X.env := by rfl)
    (hfew : ((backTo cpos (starEach (e :: es) X.env)).all (fun x => !x.1) && (backToKw cpos (keywordEach [] X.env)).all (fun x => x.1.isSome)
      && decide ((e :: es).length + ([] : List Keyword).length + (if ([] : List Keyword).isEmpty then 0 else 1) < 30)) = true := by rfl)
    (hline : (apos.endLine == cpos.line) = true := by rfl) (hs : starEach (e :: es) X.env = (false, eval e X.env) :: starEach es X.env := by rfl) (hplain : (backTo cpos (starEach es X.env)).any (·.1) = false := by rfl) :
    PE X (.Call (.Attribute o name apos) (e :: es) [] cpos) (tBM X.K T r to t) := by
  intro pins s σ H Q I h
  refine wpAny_Call_method_late hbase hfew hline rfl (thn (ho pins s σ H _ I h) fun v s1 ⟨x, H1, I1, r1, ty, q1⟩ => ?_)
  obtain ⟨h1, h2⟩ := tyV_is I1 r1 ty
  refine ⟨T, id, pa, slot, hty, h1, h2, ?_⟩
  have hA := ha cpos pins s1 σ H1 _ I1 q1
  rw [hs] at hA ⊢
  refine Calls.callWith_builtin (by show (false || (backTo cpos (starEach es X.env)).any (·.1)) = false; rw [hplain] <;> rfl) (Calls.evalArgs_plain ?_)
  exact thn hA fun us s2 ⟨vs, H2, I2, r2, q2⟩ => hm pins s2 σ H2 x vs v us Q I2 r1 r2 q2
/- xs.append(e), list.index on a module's tuple .. are MtR facts of 06m -/
end
end L2

namespace L2
open PySem PySem.Spec PyProof.Rows

def MtM (X : Cx) (id : String) (r : V → List V → Hp → VK → Prop) : Prop :=
  ∀ (pins : List (Addr × Obj)) (s : Shared) (σ : St) (H : Hp) (x : V) (xs : List V) (v : Value) (us : List Value) (Q : VK), Inv X pins σ H s → RelV x v → Vals xs us → r x xs H Q →
    wpAny (model X.prog X.w) X.A (call (.builtin id) (v :: us)) (EP X pins σ Q) X.xe s

/-! ### lists of values -/
theorem Vals.one : ∀ {x : V} {us : List Value}, Vals [x] us → ∃ u, us = [u] ∧ RelV x u
  | _, _, .cons r .nil => ⟨_, rfl, r⟩
theorem Vals.two : ∀ {x y : V} {us : List Value}, Vals [x, y] us → ∃ u v, us = [u, v] ∧ RelV x u ∧ RelV y v
  | _, _, _, .cons r (.cons q .nil) => ⟨_, _, rfl, r, q⟩
theorem Vals.zero : ∀ {us : List Value}, Vals [] us → us = []
  | _, .nil => rfl
theorem Vals.dropLast {xs : List V} {us : List Value} (h : Vals xs us) : Vals xs.dropLast us.dropLast := by
  induction h with
  | nil => exact .nil
  | cons r t ih =>
    cases t with
    | nil => exact .nil
    | cons q t' => exact .cons r ih
theorem Vals.eraseIdx : ∀ {xs : List V} {us : List Value} (i : Nat), Vals xs us → Vals (xs.eraseIdx i) (us.eraseIdx i)
  | _, _, _, .nil => .nil
  | _, _, 0, .cons _ t => t
  | _, _, i + 1, .cons r t => .cons r (Vals.eraseIdx i t)
theorem Vals.reverse {xs : List V} {us : List Value} (h : Vals xs us) : Vals xs.reverse us.reverse := by
  induction h with
  | nil => exact .nil
  | cons r t ih => rw [List.reverse_cons, List.reverse_cons]; exact Vals.append ih (.cons r .nil)
theorem Vals.rep {xs : List V} {us : List Value} (h : Vals xs us) : ∀ k : Nat, Vals (List.replicate k xs).flatten (List.replicate k us).flatten
  | 0 => .nil
  | k + 1 => by
    rw [List.replicate_succ, List.replicate_succ, List.flatten_cons, List.flatten_cons]
    exact Vals.append h (Vals.rep h k)
theorem erase_last {α : Type} (l : List α) : l.eraseIdx (l.length - 1) = l.dropLast := by
  induction l with
  | nil => rfl
  | cons a r ih =>
    cases r with
    | nil => rfl
    | cons b r =>
      have e : (a :: b :: r).length - 1 = ((b :: r).length - 1) + 1 := by
        have h1 : (a :: b :: r).length = r.length + 2 := rfl
        have h2 : (b :: r).length = r.length + 1 := rfl
        omega
      rw [e, List.eraseIdx_cons_succ, ih]
      all_goals rfl
theorem len_erase {α : Type} : ∀ (l : List α) (i : Nat), (l.eraseIdx i).length ≤ l.length
  | [], _ => Nat.le_refl _
  | _ :: _, 0 => Nat.le_succ _
  | _ :: r, i + 1 => Nat.succ_le_succ (len_erase r i)
theorem foldl_rep (its : List Value) : ∀ (k : Nat) (acc : List Value),
    List.foldl (fun x1 x2 => x1 ++ x2) acc.toArray (List.replicate k its.toArray) = (acc ++ (List.replicate k its).flatten).toArray
  | 0, acc => by simp
  | k + 1, acc => by
    have e : acc.toArray ++ its.toArray = (acc ++ its).toArray := by simp
    have e2 : (acc ++ its) ++ (List.replicate k its).flatten = acc ++ (List.replicate (k + 1) its).flatten := by
      rw [List.replicate_succ, List.flatten_cons, List.append_assoc]
    rw [← e2, ← foldl_rep its k (acc ++ its), ← e, List.replicate_succ, List.foldl_cons]

section
variable {X : Cx} {pins : List (Addr × Obj)} {σ : St} {H : Hp} {s : Shared} {l b : Addr} {xs ys zs : List V}

/-! ### the two steps: a tracked list is rewritten, a new list is laid -/
theorem Inv.lset {its its' : List Value} {n : Nat} {f : Array Value → Array Value} {t' : Nat} (I : Inv X pins σ H s) (hH : H l = some (.lst xs))
    (e : s.heap.get? l = some { cls := .type "list", data := .seq its.toArray n }) (hf : f its.toArray = its'.toArray) (hv : Vals ys its') (hz : ys.length ≤ sizeLine) :
    Inv X pins σ (upd H l (.lst ys)) { s with heap := s.heap.update l (Obj.mapSeq f), toks := t' } := by
  have q := PySem.IsL.update e f
  rw [hf] at q
  refine I.write (x := l) (e := l) (by rw [hH]; exact trivial) (.inl rfl) (fun b' u hb hu => (Heap.get?_update_other s.heap (Obj.mapSeq f) (Ne.symm hb)).trans hu) ⟨_, q⟩ ?_
  exact ⟨hz, its', _, hv, q⟩
theorem Inv.lnew {its : List Value} {t' : Nat} (I : Inv X pins σ H s) (hv : Vals ys its) (hz : ys.length ≤ sizeLine) :
    Inv X pins σ (upd H s.heap.objs.size (.lst ys)) { s with heap := s.heap.push { cls := .type "list", data := .seq its.toArray }, toks := t' } :=
  I.laid (fun _ _ q => Heap.get?_push_of_some _ q) (Nat.le_refl _) ⟨hz, its, 0, hv, Heap.get?_push_size _ rfl⟩
theorem Inv.fresh (I : Inv X pins σ H s) : H s.heap.objs.size = none := I.hok.fresh (Nat.le_refl _)
theorem Inv.lstM (I : Inv X pins σ H s) (hH : H l = some (.lst xs)) : xs.length ≤ sizeLine ∧ ∃ (its : List Value) (n : Nat), Vals xs its ∧ xs.length = its.length ∧ s.heap.get? l = some { cls := .type "list", data := .seq its.toArray n } := by
  obtain ⟨z, its, n, r, e⟩ := I.hok l _ hH
  exact ⟨z, its, n, r, r.length, e⟩

theorem notLongL {n : Nat} (h : n ≤ sizeLine) : Builtin.List.listTooLong n = false := by
  unfold Builtin.List.listTooLong
  exact decide_eq_false (by omega)
end

section
variable {X : Cx}

/-! ### methods -/
def rAppend : V → List V → Hp → VK → Prop := fun x vs H Q => ∃ l xs y, x = .ref l ∧ vs = [y] ∧ H l = some (.lst xs) ∧ xs.length < sizeLine ∧ Q .non (upd H l (.lst (xs ++ [y])))
theorem mt_append : MtM X "list.append" rAppend := by
  intro pins s σ H x vs v us Q I rx rv h
  obtain ⟨l, xs, y, rfl, rfl, hH, hz, q⟩ := h
  cases rx
  obtain ⟨u, rfl, ru⟩ := rv.one
  obtain ⟨z, its, n, r, hl, e⟩ := I.lstM hH
  refine call_meets F.slot_list_append ⟨_, e, rfl⟩ F.entry_list_append (F.args_list_append_2 _ _) (PySem.list_append l its.toArray n u (by rw [List.size_toArray]; omega)) ⟨e, ?_⟩
  refine ⟨.non, _, I.lset (its' := its ++ [u]) hH e (by simp) (r.append (.cons ru .nil)) ?_, rfl, q⟩
  rw [List.length_append, List.length_singleton]
  omega

def rExtend : V → List V → Hp → VK → Prop := fun x vs H Q => ∃ l b xs zs, x = .ref l ∧ vs = [.ref b] ∧ H l = some (.lst xs) ∧ H b = some (.lst zs) ∧ xs.length + zs.length ≤ sizeLine ∧ Q .non (upd H l (.lst (xs ++ zs)))
theorem mt_extend : MtM X "list.extend" rExtend := by
  intro pins s σ H x vs v us Q I rx rv h
  obtain ⟨l, b, xs, zs, rfl, rfl, hH, hB, hz, q⟩ := h
  cases rx
  obtain ⟨u, rfl, ru⟩ := rv.one
  cases ru
  obtain ⟨z, its, n, r, hl, e⟩ := I.lstM hH
  obtain ⟨z2, its2, n2, r2, hl2, e2⟩ := I.lstM hB
  have hsz : its.toArray.size + its2.toArray.size ≤ sizeLine := by rw [List.size_toArray, List.size_toArray]; omega
  have hlong : ¬ (!its.toArray.isEmpty && Builtin.List.listTooLong (its.toArray.size + its2.toArray.size)) = true := by
    rw [notLongL hsz, Bool.and_false]
    exact Bool.false_ne_true
  refine call_meets F.slot_list_extend ⟨_, e, rfl⟩ F.entry_list_extend (F.args_list_extend_2 _ _)
    (AutoSeq1.list_extend_list_list_0 l its.toArray n b its2.toArray n2 hlong (by rw [List.size_toArray]; omega) (by omega)) ⟨e, e2, ?_⟩
  refine ⟨.non, _, I.lset (its' := its ++ its2) hH e (by simp) (r.append r2) ?_, rfl, q⟩
  rw [List.length_append]
  omega

def rPop : V → List V → Hp → VK → Prop := fun x vs H Q => ∃ l xs y, x = .ref l ∧ vs = [] ∧ H l = some (.lst xs) ∧ xs[xs.length - 1]? = some y ∧ Q y (upd H l (.lst xs.dropLast))
theorem mt_pop : MtM X "list.pop" rPop := by
  intro pins s σ H x vs v us Q I rx rv h
  obtain ⟨l, xs, y, rfl, rfl, hH, hy, q⟩ := h
  cases rx
  have hus := rv.zero
  subst hus
  obtain ⟨z, its, n, r, hl, e⟩ := I.lstM hH
  obtain ⟨u, hu, ru⟩ := r.get hy
  have hy' : its.toArray[its.toArray.size - 1]? = some u := by
    show its.toArray[its.length - 1]? = some u
    rw [← Array.getElem?_toList, ← hl]
    exact hu
  refine call_meets F.slot_list_pop ⟨_, e, rfl⟩ F.entry_list_pop (F.args_list_pop_1 _) (MeetsSeq.list_pop_last l its.toArray n u hy' (by rw [List.size_toArray]; omega)) ⟨e, ?_⟩
  refine ⟨y, _, I.lset (its' := its.dropLast) hH e ?_ r.dropLast ?_, ru, q⟩
  · show its.toArray.eraseIdxIfInBounds (its.toArray.size - 1) = its.dropLast.toArray
    rw [List.size_toArray, List.eraseIdxIfInBounds_toArray, erase_last]
  · rw [List.length_dropLast]
    omega

def rPopAt : V → List V → Hp → VK → Prop := fun x vs H Q => ∃ l xs i k y, x = .ref l ∧ vs = [.int i] ∧ H l = some (.lst xs) ∧ -(2 ^ 63) ≤ i ∧ i < 2 ^ 63 ∧ seqIndex? i xs.length = some k ∧ xs[k]? = some y ∧ Q y (upd H l (.lst (xs.eraseIdx k)))
theorem mt_popAt : MtM X "list.pop" rPopAt := by
  intro pins s σ H x vs v us Q I rx rv h
  obtain ⟨l, xs, i, k, y, rfl, rfl, hH, h1, h2, hk, hy, q⟩ := h
  cases rx
  obtain ⟨u, rfl, ru⟩ := rv.one
  obtain ⟨t, rfl⟩ := ru
  obtain ⟨z, its, n, r, hl, e⟩ := I.lstM hH
  obtain ⟨w, hw, rw'⟩ := r.get hy
  refine call_meets F.slot_list_pop ⟨_, e, rfl⟩ F.entry_list_pop (F.args_list_pop_2 _ _)
    (MeetsSeq.list_pop_at l its.toArray n i t k w (fitsIndex_both h1 h2) (by rw [List.size_toArray, ← hl]; exact hk) (by rw [← Array.getElem?_toList]; exact hw) (by rw [List.size_toArray]; omega)) ⟨e, ?_⟩
  refine ⟨y, _, I.lset (its' := its.eraseIdx k) hH e ?_ (r.eraseIdx k) ?_, rw', q⟩
  · show its.toArray.eraseIdxIfInBounds k = (its.eraseIdx k).toArray
    rw [List.eraseIdxIfInBounds_toArray]
  · have := len_erase xs k
    omega

def rReverse : V → List V → Hp → VK → Prop := fun x vs H Q => ∃ l xs, x = .ref l ∧ vs = [] ∧ H l = some (.lst xs) ∧ Q .non (upd H l (.lst xs.reverse))
theorem mt_reverse : MtM X "list.reverse" rReverse := by
  intro pins s σ H x vs v us Q I rx rv h
  obtain ⟨l, xs, rfl, rfl, hH, q⟩ := h
  cases rx
  have hus := rv.zero
  subst hus
  obtain ⟨z, its, n, r, hl, e⟩ := I.lstM hH
  refine call_meets F.slot_list_reverse ⟨_, e, rfl⟩ F.entry_list_reverse (F.args_list_reverse_1 _) (AutoSeq1.list_reverse_list_0 l its.toArray n (by rw [List.size_toArray]; omega)) ⟨e, ?_⟩
  refine ⟨.non, _, I.lset (its' := its.reverse) hH e (by simp) r.reverse ?_, rfl, q⟩
  rw [List.length_reverse]
  omega

def rClear : V → List V → Hp → VK → Prop := fun x vs H Q => ∃ l xs, x = .ref l ∧ vs = [] ∧ H l = some (.lst xs) ∧ Q .non (upd H l (.lst []))
theorem mt_clear : MtM X "list.clear" rClear := by
  intro pins s σ H x vs v us Q I rx rv h
  obtain ⟨l, xs, rfl, rfl, hH, q⟩ := h
  cases rx
  have hus := rv.zero
  subst hus
  obtain ⟨z, its, n, r, hl, e⟩ := I.lstM hH
  refine call_meets F.slot_list_clear ⟨_, e, rfl⟩ F.entry_list_clear (F.args_list_clear_1 _) (AutoSeq1.list_clear_list_0 l its.toArray n (by rw [List.size_toArray]; omega)) ⟨e, ?_⟩
  exact ⟨.non, _, I.lset (its' := []) (ys := []) hH e rfl .nil (Nat.zero_le _), rfl, q⟩

/-! ### list + list, list += list, list * int -/
def rCat : R2 := fun x y H Q => ∃ l b xs zs, x = .ref l ∧ y = .ref b ∧ H l = some (.lst xs) ∧ H b = some (.lst zs) ∧ xs.length + zs.length ≤ sizeLine ∧ ∀ p, H p = none → Q (.ref p) (upd H p (.lst (xs ++ zs)))
theorem op_cat : OpR X (binaryOp .Add) rCat := by
  intro pins s σ H x y v u Q I rx ry h
  obtain ⟨l, b, xs, zs, rfl, rfl, hH, hB, hz, q⟩ := h
  cases rx
  cases ry
  obtain ⟨z, its, n, r, hl, e⟩ := I.lstM hH
  obtain ⟨z2, its2, n2, r2, hl2, e2⟩ := I.lstM hB
  refine PySem.P.add_list e e2 ?_ (by rw [List.size_toArray, List.size_toArray]; omega)
  have ea : its.toArray ++ its2.toArray = (its ++ its2).toArray := by simp
  rw [ea]
  exact ⟨.ref _, _, I.lnew (t' := s.toks) (r.append r2) (by rw [List.length_append]; omega), rfl, q _ I.fresh⟩
/-- a list times an int (a negative one is nothing) -/
def rRep : R2 := fun x y H Q => ∃ l k xs, x = .ref l ∧ y = .int k ∧ H l = some (.lst xs) ∧ -(2 ^ 63) ≤ k ∧ k < 2 ^ 63 ∧ xs.length * k.toNat ≤ sizeLine ∧
  ∀ p, H p = none → Q (.ref p) (upd H p (.lst (List.replicate k.toNat xs).flatten))
theorem len_rep {α : Type} (xs : List α) (k : Nat) : (List.replicate k xs).flatten.length = k * xs.length := by
  induction k with
  | zero => simp
  | succ k ih => rw [List.replicate_succ, List.flatten_cons, List.length_append, ih, Nat.succ_mul, Nat.add_comm]
theorem op_rep : OpR X (binaryOp .Mult) rRep := by
  intro pins s σ H x y v u Q I rx ry h
  obtain ⟨l, k, xs, rfl, rfl, hH, h1, h2, hz, q⟩ := h
  cases rx
  obtain ⟨t, rfl⟩ := ry
  obtain ⟨z, its, n, r, hl, e⟩ := I.lstM hH
  have hlen : its.toArray.size * k.toNat ≤ sizeLine := by rw [List.size_toArray, ← hl]; exact hz
  have hcap : ¬ its.toArray.size * k.toNat > (2 ^ 63 - 1) / 8 := by
    have : (sizeLine : Nat) ≤ (2 ^ 63 - 1) / 8 := by decide
    omega
  have hfit : ¬ (!Builtin.List.listFitsIndex k) = true := by
    rw [fitsIndex_both h1 h2]
    exact Bool.false_ne_true
  have hlong : ¬ Builtin.List.listTooLong (its.toArray.size * k.toNat) = true := by
    rw [notLongL hlen]
    exact Bool.false_ne_true
  have hnew : List.foldl (fun x1 x2 => x1 ++ x2) #[] (List.replicate (if its.toArray.isEmpty = true then 0 else k.toNat) its.toArray) = (List.replicate k.toNat its).flatten.toArray := by
    have f0 : ∀ m : Nat, List.foldl (fun x1 x2 => x1 ++ x2) #[] (List.replicate m its.toArray) = (List.replicate m its).flatten.toArray := fun m => by
      have := foldl_rep its m []
      rw [List.nil_append] at this
      exact this
    rw [f0]
    cases its with
    | nil => simp
    | cons a r' => rw [if_neg (by simp)]
  refine wpAny_binaryOp_repeat_ref (T := "list") (U := "int") (by decide) ⟨_, e, rfl⟩ (fun s' => typeIs_int s' k t) noFill_list_mul F.fills_int_mul F.slot_int_rmul repeat_list F.slot_int_index.lookup
    (call_meets F.slot_int_rmul (typeIs_int s k t) F.entry_int_rmul (F.args_int_rmul_2 _ _) (int___rmul___int_list k t l its.toArray n)
      ⟨e, rfl, ⟨_, e, rfl⟩, call_meets F.slot_list_mul ⟨_, e, rfl⟩ F.entry_list_mul (F.args_list_mul_2 _ _) (AutoListH.list___mul___list_int_3 l its.toArray n k t hfit hcap hlong) ⟨e, ?_⟩⟩)
  rw [hnew]
  exact ⟨.ref _, _, I.lnew (t' := s.toks) (r.rep k.toNat) (by rw [len_rep, Nat.mul_comm]; exact hz), rfl, q _ I.fresh⟩

/-! ### del xs[i] -/
theorem del_list {pins : List (Addr × Obj)} {s : Shared} {σ : St} {H : Hp} {l : Addr} {xs : List V} {i : Int} {t : Tok} {k : Nat} {Q : Unit → Shared → Prop} (I : Inv X pins σ H s) (hH : H l = some (.lst xs))
    (h1 : -(2 ^ 63) ≤ i) (h2 : i < 2 ^ 63) (hk : seqIndex? i xs.length = some k) (h : ∀ s', Inv X pins σ (upd H l (.lst (xs.eraseIdx k))) s' → Q () s') :
    wpAny (model X.prog X.w) X.A (delItem (.ref l) (.int i t)) Q X.xe s := by
  obtain ⟨z, its, n, r, hl, e⟩ := I.lstM hH
  refine PySem.P.delItem_list (k := k) e (fitsIndex_both h1 h2) (by rw [List.size_toArray, ← hl]; exact hk) (h _ ?_) (by rw [List.size_toArray]; omega)
  refine I.lset (its' := its.eraseIdx k) (t' := s.toks) hH e ?_ (r.eraseIdx k) ?_
  · show its.toArray.eraseIdxIfInBounds k = (its.eraseIdx k).toArray
    rw [List.eraseIdxIfInBounds_toArray]
  · have := len_erase xs k
    omega
end

/-! ### xs[a:b] = ys -/
section
variable {prog : Program} {w : World} {A : Around} {E : Value → Shared → Prop} {s : Shared}
theorem splice_eq (its its2 : List Value) (a c : Nat) : its.toArray.extract 0 a ++ its2.toArray ++ its.toArray.extract c its.toArray.size = (its.take a ++ its2 ++ its.drop c).toArray := by
  apply Array.toList_inj.mp
  first
    | (simp
       exact List.take_of_length_le (by simp))
    | simp [List.take_of_length_le]
    | simp
theorem bounds_run {a c n : Nat} (hac : a ≤ c) (hc : c ≤ n) : sliceBounds (some (a : Int)) (some (c : Int)) none n = ((a : Int), (c : Int), 1) := by
  simp only [sliceBounds, Option.getD_none]
  have h1 : ¬ ((a : Int) < 0) := by omega
  have h2 : ¬ ((c : Int) < 0) := by omega
  simp only [h1, h2, if_false, show (1 : Int) > 0 by decide, if_true]
  congr 1
  · omega
  · congr 1; omega
set_option maxRecDepth 100000 in
/-- list.__setitem__ with a slice of step one and another list -/
theorem setItem_slice {l b sl : Addr} {items new : Array Value} {n n2 : Nat} {vl vu : Value} {a c : Nat} {Q : Unit → Shared → Prop}
    (e : s.heap.get? l = some { cls := .type "list", data := .seq items n }) (e2 : s.heap.get? b = some { cls := .type "list", data := .seq new n2 }) (hne : l ≠ b)
    (hs : s.heap.IsSliceOf sl vl vu .none) (pl : IsPart vl (some (a : Int))) (pu : IsPart vu (some (c : Int))) (hac : a ≤ c) (hc : c ≤ items.size)
    (hsz : items.size + new.size ≤ sizeLine) (h : Q () { s with heap := s.heap.update l (Obj.mapSeq fun xs => xs.extract 0 a ++ new ++ xs.extract c xs.size) }) :
    wpAny (model prog w) A (setItem (.ref l) (.ref sl) (.ref b)) Q E s := by
  have hl : s.heap.IsList l items := PySem.IsL.isList e
  have hb : s.heap.IsList b new := PySem.IsL.isList e2
  obtain ⟨os, hos, hcs, hds⟩ := id hs
  have hTs : s.TypeIs (.ref sl) "slice" := ⟨os, hos, hcs⟩
  have hstep : ¬ ((rawPart none == rawInt 0) = true) := Bool.false_ne_true
  have hsame : Builtin.List.listSameRef (.ref l) (.ref b) = false := by
    unfold Builtin.List.listSameRef
    exact beq_eq_false_iff_ne.mpr hne
  have hmax : (max (a : Int) (c : Int)).toNat = c := by omega
  have hz' : ((fun xs : Array Value => xs.extract 0 a ++ new ++ xs.extract c xs.size) items).size ≤ sizeLine + 1 := by
    simp only [Array.size_append, Array.size_extract]
    omega
  unfold setItem
  try with_reducible refine wpAny_holding ?_
  first | refine wpAny_bind (wpAny_pure ?_) | skip
  refine wpAny_bind (wpAny_sequenceKey hl.typeIs (by decide) ?_)
  refine wpAny_bind (wpAny_callSpecial?_slot (name := Str.ofString "__setitem__") hl.typeIs slot_list_setitem
    (wpAny_call_entry slot_list_setitem hl.typeIs entry_list_setitem ?_ (args_list_setitem _ _ _)))
  show wpAny _ _ (Builtin.List.listSubscript? (.ref sl) >>= _) _ _ s
  refine wpAny_bind ?_
  unfold Builtin.List.listSubscript?
  refine wpAny_bind (wpAny_specialOf hTs slice_no_index ?_)
  simp only [Option.isNone_none, if_true]
  refine wpAny_pure ?_
  show wpAny _ _ (typeOf (.ref sl) >>= _) _ _ s
  refine wpAny_bind (wpAny_typeOf hTs ?_)
  first
    | rw [if_neg (by decide)]
    | refine PySem.W.KFB.if_not (by decide) ?_
  rw [listSliceParts_eq]
  refine wpAny_bind (wpAny_bind (wpAny_field hos hds (x := .none) rfl (wpAny_bind (wpAny_listPart .none ?_))))
  rw [if_neg hstep]
  refine wpAny_bind (wpAny_field hos hds (x := vl) rfl (wpAny_bind (wpAny_listPart pl ?_)))
  refine wpAny_bind (wpAny_field hos hds (x := vu) rfl (wpAny_bind (wpAny_listPart pu (wpAny_pure ?_))))
  first
    | simp only [hsame, Bool.false_eq_true, if_false]
    | refine PySem.W.KFB.if_not hsame ?_
    | (dsimp only
       rw [if_neg (by rw [hsame]; exact Bool.false_ne_true)])
  refine wpAny_bind (m := Builtin.List.listAllItems (.ref b) "must assign iterable to extended slice") ?_
  unfold Builtin.List.listAllItems
  refine wpAny_bind (wpAny_typeOf hb.typeIs ?_)
  first
    | refine PySem.W.KFB.if_so (by decide) ?_
    | rw [if_pos (by decide)]
    | simp only [beq_self_eq_true, Bool.true_or, if_true]
  unfold Builtin.List.listItems
  refine wpAny_bind (wpAny_seqItems e2 rfl (wpAny_pure ?_))
  refine wpAny_bind (wpAny_bind (wpAny_seqItems e rfl (wpAny_pure ?_)))
  refine wpAny_bind (wpAny_of_eq ((sliceIndices_raw (some (a : Int)) (some (c : Int)) none items.size (by simp)).trans (congrArg (pure : Int × Int × Int → Sem (Int × Int × Int)) (bounds_run hac hc))) ?_)
  show wpAny _ _ (if ((1 : Int) == 1) = true then _ else _) _ _ s
  rw [if_pos (by decide)]
  refine wpAny_bind (wpAny_rule ?_)
  first
    | simp only [notLongL hsz, Bool.false_eq_true, if_false]
    | refine PySem.W.KFB.if_not (notLongL hsz) ?_
  first | refine wpAny_bind (wpAny_pure ?_) | skip
  show wpAny _ _ (updateSeq l (fun xs => xs.extract 0 ((a : Int)).toNat ++ new ++ xs.extract (max (a : Int) (c : Int)).toNat xs.size) >>= _) _ _ s
  rw [hmax, Int.toNat_natCast]
  refine wpAny_bind (wpAny_updateSeq (hz := Nat.le_trans (Nat.le_add_right _ _) hsz) (_hz' := hz') e rfl ?_)
  refine wpAny_bind (wpAny_letGo ?_)
  first
    | exact wpAny_bind (wpAny_pure (wpAny_pure ⟨.none, rfl, wpAny_pure h⟩))
    | exact wpAny_pure ⟨.none, rfl, wpAny_pure h⟩
end

section
variable {X : Cx}
/-- xs[a:c] = ys of another list, at the value level: sl is the slice object that was just made -/
theorem set_slice {pins : List (Addr × Obj)} {s : Shared} {σ : St} {H : Hp} {l b sl : Addr} {xs ys : List V} {a c : Int} {vl vu : Value} {Q : Unit → Shared → Prop} (I : Inv X pins σ H s)
    (hH : H l = some (.lst xs)) (hB : H b = some (.lst ys)) (hne : l ≠ b) (hs : s.heap.IsSliceOf sl vl vu .none) (ra : RelV (.int a) vl) (rc : RelV (.int c) vu) (h0 : 0 ≤ a) (hac : a ≤ c) (hc : c ≤ xs.length)
    (hz : xs.length + ys.length ≤ sizeLine) (h : ∀ s', Inv X pins σ (upd H l (.lst (xs.take a.toNat ++ ys ++ xs.drop c.toNat))) s' → Q () s') :
    wpAny (model X.prog X.w) X.A (setItem (.ref l) (.ref sl) (.ref b)) Q X.xe s := by
  obtain ⟨ta, rfl⟩ := ra
  obtain ⟨tc, rfl⟩ := rc
  obtain ⟨z, its, n, r, hl, e⟩ := I.lstM hH
  obtain ⟨z2, its2, n2, r2, hl2, e2⟩ := I.lstM hB
  obtain ⟨a', rfl⟩ := Int.eq_ofNat_of_zero_le h0
  obtain ⟨c', rfl⟩ := Int.eq_ofNat_of_zero_le (Int.le_trans h0 hac)
  simp only [Int.toNat_natCast] at h
  refine setItem_slice (a := a') (c := c') e e2 hne hs (.int _ _) (.int _ _) (by omega) (by rw [List.size_toArray]; omega) (by rw [List.size_toArray, List.size_toArray]; omega) (h _ ?_)
  refine I.lset (its' := its.take a' ++ its2 ++ its.drop c') (t' := s.toks) hH e ?_ (Vals.append (Vals.append (r.take _) r2) (r.drop _)) ?_
  · exact splice_eq its its2 a' c'
  · rw [List.length_append, List.length_append, List.length_take, List.length_drop]
    omega
end
end L2

namespace Att
open PySem PySem.W PySem.Calls PyProof.Rows

/-! ### the script -/
theorem ints_of_wellAll {P : Params} {h : Heap} : ∀ (ns : List Int) (vs : List Value), WellAll P h vs (ns.map WData.int) → IntsAre vs ns := by
  intro ns
  induction ns with
  | nil =>
    intro vs w
    rw [List.map_nil] at w
    cases w
    exact .nil
  | cons n ns ih =>
    intro vs w
    rw [List.map_cons] at w
    cases w with
    | cons a b =>
      cases a
      exact .cons _ _ (ih _ b)

theorem script_of {l : OpenLaw} {n : Nat} (hn : l.most = some n) {P : Params} {h : Heap} {args : List WData} {vals : List Value}
    (hpre : l.row.toRowW.claim.pre args = true) (hwl : WellAll P h vals args) :
    ∃ a vs ns, vals = [Value.ref a] ∧ args = [WData.list (ns.map WData.int)] ∧ h.get? a = some { cls := .type "list", data := .seq vs.toArray } ∧ IntsAre vs ns ∧ ns.length ≤ n := by
  have hsh : WShape.hasAll [] args [.list .int] = true := (pre_splitW hpre).1
  have hc : l.pre.holds [] { args := args } = true := (pre_splitW hpre).2
  obtain ⟨d, r, rfl, h1, h2⟩ := hasAllW_cons hsh
  obtain rfl := hasAllW_nil h2
  obtain ⟨xs, rfl, h3⟩ := hasW_list h1
  obtain ⟨ns, rfl⟩ := items_int h3
  have hlen : ns.length ≤ n := by
    unfold OpenLaw.pre at hc
    have h4 : (WTm.not (.lt (.lit (.int (n : Int))) (.len (.arg 0)))).holds [] { args := [.list (ns.map .int)] } = true := by
      have h4 := (holds_andW hc).1
      rw [hn] at h4
      exact h4
    have h5 := condW_of h4 (w_not (w_lt w_lit (w_len_list (w_arg rfl))))
    rw [List.length_map] at h5
    refine Nat.le_of_not_lt fun q => ?_
    have q' : (n : Int) < ((ns.length : Nat) : Int) := by omega
    first
      | (rw [decide_eq_true q'] at h5; exact absurd h5 (by decide))
      | (simp at h5; omega)
  cases hwl with
  | cons w1 w2 =>
    cases w2
    cases w1 with
    | list ho hall => exact ⟨_, _, ns, rfl, rfl, ho, ints_of_wellAll ns _ hall, hlen⟩

theorem post_true (l : OpenLaw) (args : List WData) : l.row.toRowW.claim.post args (.bool true) args = true :=
  postW_of (r := l.row.toRowW) (X := (true == true))
    (show WShape.has [] (.bool true) .bool = true by first | rfl | decide | simp [WShape.has, WShape.arms, WShape.armsAll])
    (show (WTm.eq .res (.lit (.bool true))).value [] { args := args, res := some (.bool true), after := args } = some (.bool (true == true)) from w_eq_bool (w_res rfl) w_lit) rfl

/-! ### the attachment: holds_open's last premise (the goal 'hc' behind k_head) from a wpAny of the law's body -/
theorem attach {l : OpenLaw} {n : Nat} {q : Program} {loose : List Str} {XP : (Str → Option Value) → Heap → Prop} {YP : World → Heap → Prop} {d : DefRec} {x : Str}
    (hn : l.most = some n) (hdf : d.params.defaults = [])
    (hbind : ∀ pm cd doc v : Value, bindArgs (docDef d.name d.params d.body d.scope pm cd doc) ⟨[v], []⟩ = pure [(x, v)])
    (hx : d.scope.names.lookup x = some .local ∨ d.scope.names.lookup x = some .cell)
    (hk : d.scope.kind = .function) (hco : d.scope.isCoroutine = false) (hgen : d.scope.isGenerator = false)
    (body : ∀ (w : World) (s₀ s₁ s : Shared) (mg mb : Str → Option Value) (fa : Addr) (o : Obj) (pm cd doc : Value) (a : Addr) (vs : List Value) (ns : List Int),
      Ground q loose [] XP w s₀ mg mb s₁.heap → YP w s₁.heap →
      s₁.heap.get? fa = some o → o.data = .func (docDef d.name d.params d.body d.scope pm cd doc) → s₁.heap.CodeRec cd d.name → mg d.name = some (.ref fa) →
      s₁.heap.get? a = some { cls := .type "list", data := .seq vs.toArray } → IntsAre vs ns → ns.length ≤ n →
      s.gens = #[] → s.os = s₁.os →
      Fr s₁.heap s₁.heap.objs.size s.heap (bindL (envOfC d.name d.scope s₁.heap.objs.size fa cd).kindOf [(x, .ref a)] fun _ => none) →
      Cl s₁.heap.objs.size (cellsFrom (s₁.heap.objs.size + 1) d.scope.names []) s.heap (bindC (envOfC d.name d.scope s₁.heap.objs.size fa cd).kindOf [(x, .ref a)] fun _ => none) →
      wpAny (model l.prog w) (callerA.deeper (envOfC d.name d.scope s₁.heap.objs.size fa cd)) (execs d.body (envOfC d.name d.scope s₁.heap.objs.size fa cd))
        (fun f s' => f = .ret (.bool true) ∧ OldK s₁.heap s'.heap ∧ s'.os = s₁.os ∧ AllBare s'.gens) (fun _ _ => False) s) :
    WalkO q loose XP YP l.row.toRowW d [] (fun f vs => PySem.call f vs) := by
  intro w s₀ s₁ mg mb G Y fa o pm cd doc dV kV ho hd hcd hD hmg hg args vals as hpre hlay hrd hwl hlo
  obtain rfl : dV = .none := Dflts.none hD hdf
  obtain rfl : kV = .none := Dflts.noKw hD
  obtain ⟨a, vs, ns, rfl, rfl, hobj, hints, hlen⟩ := script_of hn hpre hwl
  refine enter_call ?_
  refine call_cells_ret (o := o) (by rw [depth_caller]; decide) ho (fd_plain hd) G.T.nolimit hcd (hbind pm cd doc (.ref a)) (fun y hy => ?_) (fun h₁ tk F X => ?_) hco hgen hk
  · obtain rfl : y = (x, Value.ref a) := List.mem_singleton.mp hy
    rcases hx with e | e
    · exact .inl e
    · exact .inr ⟨e, cellsFrom_some _ _ _ (.inl e)⟩
  · refine wpAny_mono (body w s₀ s₁ { s₁ with heap := h₁, toks := tk } mg mb fa o pm cd doc a vs ns G Y ho (fd_plain hd) hcd hmg hobj hints hlen hg rfl F X) (fun f s' hq => ?_) (fun _ _ hq => hq)
    obtain ⟨rfl, h2, h3, h4⟩ := hq
    exact ⟨.inl ⟨.bool true, .bool true, [], rfl, fun _ => rfl, .bool true, post_true l _, fun _ => ⟨List.Pairwise.nil, fun _ hm => (nomatch hm)⟩⟩, h2, h3, h4⟩

/-- the same from a codeAny of the CALL (for a layer whose function contracts speak of calls) -/
theorem attach_call {l : OpenLaw} {n : Nat} {q : Program} {loose : List Str} {XP : (Str → Option Value) → Heap → Prop} {YP : World → Heap → Prop} {d : DefRec}
    (hn : l.most = some n) (hdf : d.params.defaults = [])
    (call : ∀ (w : World) (s₀ s₁ : Shared) (mg mb : Str → Option Value) (fa : Addr) (o : Obj) (pm cd doc : Value) (a : Addr) (vs : List Value) (ns : List Int),
      Ground q loose [] XP w s₀ mg mb s₁.heap → YP w s₁.heap →
      s₁.heap.get? fa = some o → o.data = .func (docDef d.name d.params d.body d.scope pm cd doc) → s₁.heap.CodeRec cd d.name → mg d.name = some (.ref fa) →
      s₁.heap.get? a = some { cls := .type "list", data := .seq vs.toArray } → IntsAre vs ns → ns.length ≤ n → s₁.gens = #[] →
      codeAny (model l.prog w) callerA (.call (.ref fa) ⟨[.ref a], []⟩) (fun r s' => r = .ok (.ret (.bool true)) ∧ OldK s₁.heap s'.heap ∧ s'.os = s₁.os ∧ AllBare s'.gens) s₁) :
    WalkO q loose XP YP l.row.toRowW d [] (fun f vs => PySem.call f vs) := by
  intro w s₀ s₁ mg mb G Y fa o pm cd doc dV kV ho hd hcd hD hmg hg args vals as hpre hlay hrd hwl hlo
  obtain rfl : dV = .none := Dflts.none hD hdf
  obtain rfl : kV = .none := Dflts.noKw hD
  obtain ⟨a, vs, ns, rfl, rfl, hobj, hints, hlen⟩ := script_of hn hpre hwl
  refine enter_call (codeAny_mono (call w s₀ s₁ mg mb fa o pm cd doc a vs ns G Y ho (fd_plain hd) hcd hmg hobj hints hlen hg) fun r s' hq => ?_)
  obtain ⟨rfl, h2, h3, h4⟩ := hq
  exact ⟨.inl ⟨.bool true, .bool true, [], rfl, fun _ => rfl, .bool true, post_true l _, fun _ => ⟨List.Pairwise.nil, fun _ hm => (nomatch hm)⟩⟩, h2, h3, h4⟩

/-- the same where the top left finished generators (o_head chose holds_openN): nothing may have changed at all and no generator may be left -/
theorem attachN {l : OpenLaw} {n : Nat} {q : Program} {loose : List Str} {XP : (Str → Option Value) → Heap → Prop} {YP : World → Heap → Prop} {d : DefRec} {x : Str}
    (hn : l.most = some n) (hdf : d.params.defaults = [])
    (hbind : ∀ pm cd doc v : Value, bindArgs (docDef d.name d.params d.body d.scope pm cd doc) ⟨[v], []⟩ = pure [(x, v)])
    (hx : d.scope.names.lookup x = some .local ∨ d.scope.names.lookup x = some .cell)
    (hk : d.scope.kind = .function) (hco : d.scope.isCoroutine = false) (hgen : d.scope.isGenerator = false)
    (body : ∀ (w : World) (s₀ s₁ s : Shared) (mg mb : Str → Option Value) (fa : Addr) (o : Obj) (pm cd doc : Value) (a : Addr) (vs : List Value) (ns : List Int),
      Ground q loose [] XP w s₀ mg mb s₁.heap → YP w s₁.heap →
      s₁.heap.get? fa = some o → o.data = .func (docDef d.name d.params d.body d.scope pm cd doc) → s₁.heap.CodeRec cd d.name → mg d.name = some (.ref fa) →
      s₁.heap.get? a = some { cls := .type "list", data := .seq vs.toArray } → IntsAre vs ns → ns.length ≤ n →
      s.gens = #[] → s.os = s₁.os →
      Fr s₁.heap s₁.heap.objs.size s.heap (bindL (envOfC d.name d.scope s₁.heap.objs.size fa cd).kindOf [(x, .ref a)] fun _ => none) →
      Cl s₁.heap.objs.size (cellsFrom (s₁.heap.objs.size + 1) d.scope.names []) s.heap (bindC (envOfC d.name d.scope s₁.heap.objs.size fa cd).kindOf [(x, .ref a)] fun _ => none) →
      wpAny (model l.prog w) (callerA.deeper (envOfC d.name d.scope s₁.heap.objs.size fa cd)) (execs d.body (envOfC d.name d.scope s₁.heap.objs.size fa cd))
        (fun f s' => f = .ret (.bool true) ∧ (∀ b o, s₁.heap.get? b = some o → s'.heap.get? b = some o) ∧ s'.os = s₁.os ∧ s'.gens = #[]) (fun _ _ => False) s) :
    WalkN q loose XP YP l.row.toRowW d [] (fun f vs => PySem.call f vs) := by
  intro w s₀ s₁ mg mb G Y fa o pm cd doc dV kV ho hd hcd hD hmg hg args vals as hpre hlay hrd hwl hlo
  obtain rfl : dV = .none := Dflts.none hD hdf
  obtain rfl : kV = .none := Dflts.noKw hD
  obtain ⟨a, vs, ns, rfl, rfl, hobj, hints, hlen⟩ := script_of hn hpre hwl
  refine enter_callW ?_
  refine call_cells_ret (o := o) (by rw [depth_caller]; decide) ho (fd_plain hd) G.T.nolimit hcd (hbind pm cd doc (.ref a)) (fun y hy => ?_) (fun h₁ tk F X => ?_) hco hgen hk
  · obtain rfl : y = (x, Value.ref a) := List.mem_singleton.mp hy
    rcases hx with e | e
    · exact .inl e
    · exact .inr ⟨e, cellsFrom_some _ _ _ (.inl e)⟩
  · refine wpAny_mono (body w s₀ s₁ { s₁ with heap := h₁, toks := tk } mg mb fa o pm cd doc a vs ns G Y ho (fd_plain hd) hcd hmg hobj hints hlen hg rfl F X) (fun f s' hq => ?_) (fun _ _ hq => hq)
    obtain ⟨rfl, h2, h3, h4⟩ := hq
    exact ⟨.inl ⟨.bool true, .bool true, [], rfl, fun _ => rfl, .bool true, post_true l _, fun _ => ⟨List.Pairwise.nil, fun _ hm => (nomatch hm)⟩⟩, h2, h3, h4⟩

/-! ### rules over ANY heap (no ledger) from facts about the written part K: the library's own take a ledger (News) for what they write -/
section
variable {prog : Program} {w : World} {A : Around} {E : Value → Shared → Prop} {s : Shared} {K : Frag}

/-- a def of the module, or a method (qual 'C.m'), entered: the frame is the next address; cells behind it -/
theorem call_fn {R : Result → Shared → Prop} {name qual : Str} {params : Arguments} {body : List Stmt} {scope : Scope} {dV kV doc pm cdv ct oc : Value} {an od : Option Addr} {osl : Array (Option Value)} {f : Addr} {args : Args} {binds : List (Str × Value)}
    (X : K.In s.heap) (hlim : s.heap.NoLimit) (ho : K.lookup f = some ⟨oc, od, .func (fnOf name qual params body scope dV kV doc pm an cdv ct), osl⟩) (hcd : codeIn K cdv qual = true) (hroom : A.depth < recursionLimit)
    (hbind : BindsTo s (fnOf name qual params body scope dV kV doc pm an cdv ct) args binds)
    (hkind : (binds.all fun y => scope.names.lookup y.1 == some .local || scope.names.lookup y.1 == some .cell) = true)
    (h : ∀ s₁, InCallC s s.heap.objs.size (bindL (envOfC qual scope s.heap.objs.size f cdv).kindOf binds fun _ => none) (cellsFrom (s.heap.objs.size + 1) scope.names [])
        (bindC (envOfC qual scope s.heap.objs.size f cdv).kindOf binds fun _ => none) s₁ →
      wpAny (model prog w) (A.deeper (envOfC qual scope s.heap.objs.size f cdv)) (execs body (envOfC qual scope s.heap.objs.size f cdv))
        (fun fl s' => R (.ok (.ret (match fl with | .ret v => v | _ => .none))) s')
        (fun e s' => wpAny (model prog w) (A.deeper (envOfC qual scope s.heap.objs.size f cdv)) (leaving (envOfC qual scope s.heap.objs.size f cdv) e) (fun _ s'' => R (.error e) s'') (fun e' s'' => R (.error e') s'') s') s₁)
    (hco : scope.isCoroutine = false) (hgen : scope.isGenerator = false) (hk : scope.kind = .function) : codeAny (model prog w) A (.call (.ref f) args) R s := by
  refine codeAny_call_function hroom (X _ _ ho) rfl hco hgen rfl (codeRec_of X hcd) (hbind _ _ _ _ ?_)
  refine wpAny_newFunctionEnv_cells hk (kindsX hkind _) fun env he s₁ x => ?_
  subst he
  exact ⟨hlim.keeps x.toInCall.keep, codeAny_func (h s₁ x)⟩

/-- C(..): dict at size, instance at size + 1, then __init__ -/
theorem make_obj {R : Result → Shared → Prop} {C fI : Addr} {rest : List Value} {kw : List (Str × Value)}
    (X : K.In s.heap) (hm : makesIn K C = true) (hi : findIn K (.ref C) "__init__" = some (some (.ref fI))) (hf : isFn K (.ref fI) = true)
    (h : codeAny (model prog w) (A.under (.builtin "type.__call__" ⟨.ref C :: rest, kw⟩)) (.call (.ref fI) ⟨.ref (s.heap.objs.size + 1) :: rest, kw⟩) (InitBack (s.heap.objs.size + 1) R)
      { s with heap := (s.heap.push emptyDict).push (instObj C s.heap.objs.size) }) : codeAny (model prog w) A (.call (.ref C) ⟨rest, kw⟩) R s := by
  obtain ⟨hh, g, d, t, os⟩ := s
  exact make_core (makes_of X hm) (looks_findIn X hi) (fun self => bind_fn X self (beq_iff_eq.mp hf)) (.inl rfl) h

/-- x.name where the instance's dict holds the name and the class does not -/
theorem get_field {x C : Addr} {ox : Obj} {es : List DictEntry} {n : Nat} {name : Str} {expr : Bool} {v : Value} {Q : Value → Shared → Prop}
    (X : K.In s.heap) (I : PySem.W.InstAt s.heap x ox C (some (dictOf es n))) (hg : plainGet K C name = true) (hh : hasDictIn K C = true) (ha : findIn K (.ref C) name = some none)
    (hl : getL name es = some (some v)) (hv : handedIn v = true) (h : Q v { s with toks := s.toks + 1 }) : wpAny (model prog w) A (getAttr (.ref x) name expr) Q E s :=
  get_value X I (plainGet_of hg).1 (findObj_own hh ha rfl hl) hv h

/-- x.m(..): the method found in the class -/
theorem get_method {x C f : Addr} {ox : Obj} {es : List DictEntry} {n : Nat} {name : Str} {pl : Sem Bool} {Q : Value × List Value → Shared → Prop}
    (X : K.In s.heap) (I : PySem.W.InstAt s.heap x ox C (some (dictOf es n))) (hg : plainGet K C name = true) (hf : findIn K (.ref C) name = some (some (.ref f))) (ht : isFn K (.ref f) = true)
    (hl : getL name es = some none) (h : Q (.ref f, [.ref x]) s) : wpAny (model prog w) A (getMethod (.ref x) name pl) Q E s :=
  method_fn X I (plainGet_of hg).1 (plainGet_of hg).2 hf (beq_iff_eq.mp ht) (by show (lookIn name (dictOf es n)).map _ = _; rw [lookIn_dict, hl]; rfl) h

/-! the whole heap as the ledger: makes every rule that writes through a ledger a rule over any heap -/
def noObjs (h : Heap) : Heap := { h with objs := #[] }
theorem noObjs_get (h : Heap) (b : Addr) : (noObjs h).get? b = none := by
  cases e : (noObjs h).get? b with
  | none => rfl
  | some o => exact absurd (Heap.lt_size e) (Nat.not_lt_zero _)
def ledger (h : Heap) (L d : Addr) : List (Addr × Obj) := (List.range h.objs.size).filterMap fun a => if a = L ∨ a = d then none else (h.get? a).map fun o => (a, o)
theorem mem_ledger {h : Heap} {L d a : Addr} {o : Obj} : (a, o) ∈ ledger h L d ↔ a ≠ L ∧ a ≠ d ∧ h.get? a = some o := by
  unfold ledger
  rw [List.mem_filterMap]
  constructor
  · rintro ⟨b, _, e⟩
    split at e
    · cases e
    · rename_i hb
      obtain ⟨o', ho, e'⟩ := Option.map_eq_some_iff.mp e
      cases e'
      exact ⟨fun q => hb (.inl q), fun q => hb (.inr q), ho⟩
  · rintro ⟨n1, n2, ho⟩
    refine ⟨a, List.mem_range.mpr (Heap.lt_size ho), ?_⟩
    rw [if_neg (show ¬ (a = L ∨ a = d) from fun q => q.elim n1 n2), ho] <;> rfl
theorem news_ledger {h : Heap} {L d : Addr} {od : Obj} (hne : d ≠ L) (ho : h.get? d = some od) : News (noObjs h) L h ([] ++ (d, od) :: ledger h L d) := by
  rintro ⟨a, o⟩ hp
  rcases List.mem_cons.mp hp with e | hp
  · cases e
    exact ⟨ho, hne, noObjs_get _ _⟩
  · obtain ⟨n1, n2, e⟩ := mem_ledger.mp hp
    exact ⟨e, n1, noObjs_get _ _⟩
theorem fr_all {h : Heap} {L : Addr} {m : Str → Option Value} (n : h.Ns L m) : Fr (noObjs h) L h m :=
  ⟨n, fun b o e => (by rw [noObjs_get] at e; cases e), Nat.zero_le _⟩
/-- Upd of the head entry (for append_K, setItem_K ..) -/
theorem upd_ledger {h : Heap} {L d : Addr} {o o' : Obj} : Upd d o o' ((d, o) :: ledger h L d) ((d, o') :: ledger h L d) :=
  .head fun ⟨_, _⟩ hp => (mem_ledger.mp hp).2.1

/-- x.name = v over any heap: L is any namespace of the heap (the frame's, say): its map stays, its object is not told; all else but the dict stays -/
theorem set_field {x C dx L : Addr} {ox : Obj} {m : Str → Option Value} {es es' : List DictEntry} {n n' : Nat} {name : Str} {v : Value} {Q : Unit → Shared → Prop}
    (X : K.In s.heap) (I : PySem.W.InstAt s.heap x ox C (some (dictOf es n))) (hd : ox.dict = some dx) (hL : s.heap.Ns L m) (hne : dx ≠ L)
    (hs : findIn K (.ref C) "__setattr__" = some (some (.builtin "object.__setattr__"))) (hp : plainOver K C = true) (ht : takerIn K C name = some none) (hh : hasDictIn K C = true) (hl : (getL name es).isSome = true)
    (e : (putL name (PyData.keyHash w.params name) (.str name (s.toks + 1)) v es, putN name es n) = (es', n')) (hz : es'.length ≤ 1000)
    (h : ∀ h' : Heap, h'.Ns L m → h'.get? dx = some (dictOf es' n') → (∀ b o, b ≠ dx → b ≠ L → s.heap.get? b = some o → h'.get? b = some o) → Q () { s with heap := h', toks := s.toks + 2 }) :
    wpAny (model prog w) A (setAttr (.ref x) name v) Q E s := by
  obtain ⟨e1, e2⟩ := Prod.mk.inj e
  have hdx : s.heap.get? dx = some (dictOf es n) := by
    have := I.dict
    rw [hd] at this
    exact this
  refine set_plain X I hs (osa_dict (s := { s with toks := s.toks + 1 }) (h₀ := noObjs s.heap) (L := L) (m := m) (od := dictOf es n) (od' := dictOf es' n') (es := es') (n := n') (pre := []) (post := ledger s.heap L dx)
    (fr_all hL) (news_ledger hne hdx) X I hd hp ht hh hl (fun _ q => nomatch q) (fun ⟨_, _⟩ q => (mem_ledger.mp q).2.1) (by rw [putName_dict, e1, e2]) rfl hz fun h' F' N' => ?_)
  exact h h' F'.ns (N'.get (List.Mem.head _)) fun b o n1 n2 ho => N'.get (List.Mem.tail _ (mem_ledger.mpr ⟨n2, n1, ho⟩))
end
end Att

namespace L2
open PySem PySem.Spec PyProof.Rows

theorem vals_ints : ∀ {vs : List Value} {ns : List Int}, IntsAre vs ns → Vals (ns.map V.int) vs
  | _, _, .nil => .nil
  | _, _, .cons n t h => .cons ⟨t, rfl⟩ (vals_ints h)

/-- nothing is tracked but the script, known to the object (or it is an object of the module) -/
def Only (H : Hp) : Prop := ∀ b, H b = none ∨ ∃ o xs, H b = some (.frz o (.lst xs))

/-- THE HEAD: the law's promise, at the heap behind the top. F, the promise of the law's def, may use that base is part of the heap (so K.In base, base.Ns mainGlobals mg stand in Mod) -/
theorem law_call {P : Program} {w : World} {K : PySem.W.Frag} {mg mb : Str → Option Value} {CX : CXT} {k : Nat} {fa a : Addr} {fd : FuncData} {x : Str} {sp : Sp} {s₁ : Shared} {vs : List Value} {ns : List Int}
    (KX : K.In s₁.heap) (hns : s₁.heap.Ns mainGlobals mg) (hb : s₁.heap.Ns builtinsNs mb) (hbb : ∀ x : Str, x ≠ "__name__" → mb x = bootBuiltins x) (hlim : s₁.heap.NoLimit) (hg : s₁.gens = #[])
    (ha : s₁.heap.get? a = some { cls := .type "list", data := .seq vs.toArray }) (hi : IntsAre vs ns) (hl : ns.length ≤ sizeLine) (hr : Room k callerA)
    (F : ∀ base : Heap, K.In base → base.Ns mainGlobals mg → FnOk P w K mg base CX k fa fd [x] sp) (hbind : ∀ (s : Shared) (u : Value), BindsTo s fd ⟨[u], []⟩ [(x, u)])
    (hsp : ∀ H : Hp, Only H → SqL K H a (ns.map V.int) → sp [.ref a] H (fun v _ => v = .bl true) fun _ _ _ => False)
    (hCX : ∀ H e s', CX [] H s₁ (fun _ _ _ => False) e s' → False) :
    codeAny (model P w) callerA (.call (.ref fa) ⟨[.ref a], []⟩) (fun r s' => r = .ok (.ret (.bool true)) ∧ OldK s₁.heap s'.heap ∧ s'.os = s₁.os ∧ AllBare s'.gens) s₁ := by
  have rv := vals_ints hi
  have lenV := hi.length
  -- from an abstract heap in which nothing but the script may be tracked
  have core : ∀ H : Hp, Only H → SqL K H a (ns.map V.int) → HOk P w H s₁.heap → (∀ b, H b ≠ none → b = a) → (H a ≠ none → K.lookup a = none) →
      codeAny (model P w) callerA (.call (.ref fa) ⟨[.ref a], []⟩) (fun r s' => r = .ok (.ret (.bool true)) ∧ OldK s₁.heap s'.heap ∧ s'.os = s₁.os ∧ AllBare s'.gens) s₁ := by
    intro H hO hS hok hA hK
    have base_of : ∀ {b : Addr} {o : Obj}, s₁.heap.get? b = some o → H b = none → (hidT s₁.heap H).get? b = some o := fun e n => hidT_get e n
    have noA : ∀ {b : Addr} {o : Obj} {es : Array DictEntry} {ep : Nat}, s₁.heap.get? b = some o → o.data = .dict es ep → H b = none := fun {b o es ep} e d => by
      cases q : H b with
      | none => rfl
      | some u =>
        have e' : b = a := hA b (by rw [q]; simp)
        subst e'
        rw [ha] at e; cases e
        have d' : Data.seq vs.toArray _ = Data.dict es ep := d
        cases d'
    have nsK : ∀ {b : Addr} {m : Str → Option Value}, s₁.heap.Ns b m → (hidT s₁.heap H).Ns b m := fun {b m} ⟨o, es, ep, e, d, r⟩ => ⟨o, es, ep, base_of e (noA e d), d, r⟩
    have hKb : K.In (hidT s₁.heap H) := fun b o e => base_of (KX b o e) (by
      cases q : H b with
      | none => rfl
      | some u =>
        have e' : b = a := hA b (by rw [q]; simp)
        subst e'
        rw [hK (by rw [q]; simp)] at e; cases e)
    have hM : Mod K mg (hidT s₁.heap H) := ⟨hKb, nsK hns, ⟨mb, nsK hb, hbb⟩, let ⟨mc, h1, h2⟩ := hlim; ⟨mc, nsK h1, h2⟩⟩
    have e0 : Env0 P w K mg (hidT s₁.heap H) callerA [] s₁ H := ⟨rfl, hM, fun b o e => of_hidT e, Nat.le_of_eq (hidT_size _ _), trivial, fun b hb => absurd (show b ∈ ([] : List Addr) from hb) (by simp), hok, .of_eq hg⟩
    refine codeAny_mono ((F _ hKb (nsK hns)).run callerA [] s₁ H ⟨[.ref a], []⟩ [.ref a] [.ref a] _ _ hr e0 (hbind s₁ (.ref a)) (.cons rfl .nil) (hsp H hO hS)) fun r s' h => ?_
    cases r with
    | error e => exact (hCX H e s' h).elim
    | ok fl =>
      cases fl with
      | next => exact False.elim h
      | brk => exact False.elim h
      | cont => exact False.elim h
      | ret u =>
        obtain ⟨v, H', os, bare, un, hok', r', q⟩ := h
        have q' : v = .bl true := q
        subst q'
        obtain rfl : u = Value.bool true := r'
        refine ⟨rfl, OldK.of_keep fun b o e => ?_, os, bare⟩
        cases q : H b with
        | none => exact un.keep b o e q (by intro z; exact absurd (show b ∈ ([] : List Addr) from z) (by simp)) (by simp)
        | some u =>
          rcases hO b with z | ⟨ob, xs, z⟩
          · rw [q] at z; cases z
          · have z2 := un.frzs b ob _ z
            obtain ⟨e1, _⟩ := hok b _ z
            obtain ⟨e2, _⟩ := hok' b _ z2
            rw [e] at e1; cases e1
            exact e2
  cases hk : K.lookup a with
  | some o =>
    -- the script is one of the module's own objects
    have e := KX a o hk
    rw [ha] at e
    cases e
    refine core (fun _ => none) (fun _ => .inl rfl) (.inr ⟨_, vs.toArray, _, hk, rfl, rfl, rfl, by rw [List.size_toArray, lenV]; exact hl, by simpa using rv⟩) (fun b u z => by have z' : (none : Option HO) = some u := z; cases z') (fun b z => absurd rfl z) fun z => absurd rfl z
  | none =>
    refine core (fun b => if b = a then some (.frz { cls := .type "list", data := .seq vs.toArray } (.lst (ns.map V.int))) else none) (fun b => ?_) (.inl (.inr ⟨{ cls := .type "list", data := .seq vs.toArray }, if_pos rfl⟩)) (fun b u z => ?_) (fun b z => ?_) fun _ => hk
    · by_cases hb : b = a
      · exact .inr ⟨_, _, if_pos hb⟩
      · exact .inl (if_neg hb)
    · by_cases hb : b = a
      · have z' := (if_pos hb).symm.trans z
        cases z'
        subst hb
        exact ⟨ha, by rw [List.length_map]; exact hl, vs, _, rv, ha⟩
      · have z' := (if_neg hb).symm.trans z
        cases z'
    · by_cases hb : b = a
      · exact hb
      · exact absurd (if_neg hb) z
end L2

namespace L2
open PySem PySem.Spec PyProof.Rows

abbrev KOf {K : PySem.W.Frag} {h : Heap} (_ : K.In h) : PySem.W.Frag := K

/-- the goal that k_head leaves (case hc), from the law's promise. F gives the function object fd (K's own) once, then the promise over every base -/
theorem walk_of {l : PySem.W.OpenLaw} {n k : Nat} {q : Program} {loose : List Str} {XP : (Str → Option Value) → Heap → Prop} {YP : World → Heap → Prop} {d : DefRec} {K : Params → PySem.W.Frag} {CX : World → CXT} {sp : World → Sp} {x : Str}
    (hn : l.most = some n) (hn2 : n ≤ sizeLine) (hdf : d.params.defaults = []) (hr : Room k callerA)
    (hY : ∀ (w : World) (h : Heap), YP w h → (K w.params).In h)
    (F : ∀ (w : World) (mg : Str → Option Value) (fa : Addr) (h : Heap), (K w.params).In h → h.Ns mainGlobals mg → mg d.name = some (.ref fa) →
      ∃ fd : FuncData, (∀ (s : Shared) (u : Value), BindsTo s fd ⟨[u], []⟩ [(x, u)]) ∧
        ∀ base : Heap, (K w.params).In base → base.Ns mainGlobals mg → FnOk l.prog w (K w.params) mg base (CX w) k fa fd [x] (sp w))
    (hsp : ∀ (w : World) (H : Hp) (a : Addr) (ns : List Int), ns.length ≤ n → Only H → SqL (K w.params) H a (ns.map V.int) → sp w [.ref a] H (fun v _ => v = .bl true) fun _ _ _ => False)
    (hCX : ∀ (w : World) (H : Hp) (s : Shared) (e : Value) (s' : Shared), CX w [] H s (fun _ _ _ => False) e s' → False) :
    PySem.W.WalkO q loose XP YP l.row.toRowW d [] (fun f vs => PySem.call f vs) := by
  refine Att.attach_call hn hdf fun w s₀ s₁ mg mb fa o pm cd doc a vs ns G Y ho hd hcd hmg hobj hints hlen hg => ?_
  have KX := hY w _ Y
  obtain ⟨fd, hb, hF⟩ := F w mg fa _ KX G.T.g hmg
  exact law_call KX G.T.g G.T.b G.T.builtins G.T.nolimit hg hobj hints (Nat.le_trans hlen hn2) hr hF hb (fun H hO hS => hsp w H a ns hlen hO hS) fun H e s' => hCX w H s₁ e s'
/-- the same where the promise hangs on the written part alone: (sp := My.sp_law), no hole under a binder -/
theorem walk_ofK {l : PySem.W.OpenLaw} {n k : Nat} {q : Program} {loose : List Str} {XP : (Str → Option Value) → Heap → Prop} {YP : World → Heap → Prop} {d : DefRec} {K : Params → PySem.W.Frag} {CX : CXT} {sp : PySem.W.Frag → Sp} {x : Str}
    (hn : l.most = some n) (hn2 : n ≤ sizeLine) (hdf : d.params.defaults = []) (hr : Room k callerA)
    (hY : ∀ (w : World) (h : Heap), YP w h → (K w.params).In h)
    (F : ∀ (w : World) (mg : Str → Option Value) (fa : Addr) (h : Heap), (K w.params).In h → h.Ns mainGlobals mg → mg d.name = some (.ref fa) →
      ∃ fd : FuncData, (∀ (s : Shared) (u : Value), BindsTo s fd ⟨[u], []⟩ [(x, u)]) ∧
        ∀ base : Heap, (K w.params).In base → base.Ns mainGlobals mg → FnOk l.prog w (K w.params) mg base CX k fa fd [x] (sp (K w.params)))
    (hsp : ∀ (K : PySem.W.Frag) (H : Hp) (a : Addr) (ns : List Int), ns.length ≤ n → Only H → SqL K H a (ns.map V.int) → sp K [.ref a] H (fun v _ => v = .bl true) fun _ _ _ => False)
    (hCX : ∀ (H : Hp) (s : Shared) (e : Value) (s' : Shared), CX [] H s (fun _ _ _ => False) e s' → False) :
    PySem.W.WalkO q loose XP YP l.row.toRowW d [] (fun f vs => PySem.call f vs) :=
  walk_of (K := K) (CX := fun _ => CX) (sp := fun w => sp (K w.params)) hn hn2 hdf hr hY F (fun w H a ns h1 h2 h3 => hsp (K w.params) H a ns h1 h2 h3) fun _ H s e s' => hCX H s e s'
end L2

/- THE LAST THEOREM (shape; LID, My.* are yours):
   My.Adr: a structure of the addresses that your layer names (classes, functions); My.Txt K t: a structure (Prop) of the equations over K;
   My.txt_mk : {K} {implicit addresses ..} (e1 : nsIn K mainGlobals "law" = some (some (.ref f))) (e2 : K.lookup f = some ⟨oc, od, .func (fnOf "law" "law" params body scope dV kV doc pm an cdv ct), sl⟩) (e3 : codeIn K cdv "law" = true) .. : ∃ t, My.Txt K t

set_option maxRecDepth 100000 in
set_option maxHeartbeats 0 in
theorem PySem.Challenge.cw_LID_holds : PySem.Challenge.rw_LID.Holds := by
  w_on; o_law; k_head; (case hw => w_witness2)
  k_fill
  refine L2.walk_of (l := PySem.Challenge.rw_LID) (n := 63) (k := 40) (x := "script") (CX := fun w => ..) (sp := fun _ => My.sp_law) rfl (by decide) rfl ⟨rfl, by decide, by decide⟩ (fun w h Y => PySem.W.kIn_of Y) ?F ?S ?C
  case F =>
    intro w mg fa h KX G hmg
    have T : ∃ t, My.Txt (L2.KOf KX) t := by
      dsimp only [L2.KOf]                          -- K must stand as «<heap const> w.params» for k_is
      refine' My.txt_mk ?e1 ?e2 ?e3 ..
      (case e1 => PySem.W.k_is)                    -- in the order: a name -> its address -> its object -> its parts
      (case e2 => PySem.W.k_is)
      ..
    obtain ⟨t, T⟩ := T
    have e0 := hmg.symm.trans (PySem.W.mg_of KX G T.law)
    cases e0                                       -- fa is the law's own address
    exact ⟨_, fun s u => .of_eq rfl, fun base kb nb => My.law_fn T kb nb⟩     -- if «.of_eq rfl» comes too early: refine' ⟨_, ?b, fun base kb nb => My.law_fn T kb nb⟩; exact fun s u => .of_eq rfl
  case S => exact fun w H a ns hl hO hS => ..
  case C => exact ..
(the tactic k_is has no namespace: write k_is) -/

/-! SHORT WORDS over the layer: a def of the text, its body, what a loop and a test want. -/
namespace L2
open PySem PySem.Spec PyProof.Rows

/-! ### the text by places -/
/-- the j-th statement of a class's body -/
def inClass (s : Stmt) (j : Nat) : Stmt := match s with
  | .ClassDef _ _ _ body _ _ _ _ _ _ _ => body.getD j (.Pass ⟨0, 0, 0, 0⟩)
  | _ => .Pass ⟨0, 0, 0, 0⟩
def defArgs (s : Stmt) : Arguments := match s with
  | .FunctionDef _ a _ _ _ _ _ _ _ _ => a
  | _ => { posonlyargs := [], args := [], vararg := none, kwonlyargs := [], kw_defaults := [], kwarg := none, defaults := [] }
def defBody (s : Stmt) : List Stmt := match s with
  | .FunctionDef _ _ b _ _ _ _ _ _ _ => b
  | _ => []
def defScope (s : Stmt) : Scope := match s with
  | .FunctionDef _ _ _ _ _ _ sc _ _ _ => sc
  | _ => { kind := .function, names := [], isGenerator := false, isCoroutine := false }

/-! ### no exception leaves a def -/
abbrev CX0 : CXT := fun _ _ _ _ _ _ => False
abbrev E0 : XK := fun _ _ _ => False
theorem pass0 {X : Cx} : Passes CX0 X E0 := fun _ _ _ _ _ _ _ h => h.elim

/-! ### a def (or method) of the text as it stands behind the top -/
structure Fun (K : PySem.W.Frag) (x qual : Str) (st : Stmt) (f : Addr) (fd : FuncData) : Prop where
  ex : ∃ (oc : Value) (od : Option Addr) (kV doc pm : Value) (an : Option Addr) (cdv ct : Value) (osl : Array (Option Value)),
    fd = PySem.W.fnOf x qual (defArgs st) (defBody st) (defScope st) .none kV doc pm an cdv ct ∧ K.lookup f = some ⟨oc, od, .func fd, osl⟩ ∧ PySem.W.codeIn K cdv qual = true
  kp : PySem.W.keepIn K (.ref f) = true
section
variable {P : Program} {w : World} {K : PySem.W.Frag} {mg : Str → Option Value} {base : Heap}
/-- THE RULE for a def: its body as a term of rules, and the reading of that term -/
theorem Fun.ok {x qual : Str} {st : Stmt} {f : Addr} {fd : FuncData} {N ps : List Str} {k : Nat} {sp : Sp} (F : Fun K x qual st f fd) (S : FnScope N ps (defScope st)) (len : ∀ vs H Q E, sp vs H Q E → vs.length = ps.length)
    (hbody : ∀ (cdv : Value) (A : Around) (outer : List Env) (s : Shared) (H : Hp) (vs : List V) (Q : VK) (E : XK), Room k (A.deeper (envOfC qual (defScope st) s.heap.objs.size f cdv)) → sp vs H Q E →
      ∃ t, PSs (cxOf CX0 P w K mg base N qual (defScope st) f cdv A outer s H E).nox (defBody st) t ∧ t { nx := fun _ H' => Q .non H', rt := Q } (start N vs) H) : FnOk P w K mg base CX0 (k + 1) f fd ps sp := by
  obtain ⟨oc, od, kV, doc, pm, an, cdv, ct, osl, rfl, lk, hcd⟩ := F.ex
  refine fn_of lk hcd S len fun A outer s H vs Q E hr hsp => ?_
  obtain ⟨t, h, q⟩ := hbody cdv A outer s H vs Q E hr hsp
  exact ⟨t, h.nox, q⟩
/-- how its arguments bind (no defaults): h is «fun _ _ _ _ _ _ us hl => match us, hl with | [_, _], _ => rfl», one _ a parameter -/
theorem Fun.binds {x qual : Str} {st : Stmt} {f : Addr} {fd : FuncData} {ps : List Str} (F : Fun K x qual st f fd)
    (h : ∀ (kV doc pm : Value) (an : Option Addr) (cdv ct : Value) (us : List Value), us.length = ps.length → bindArgs (PySem.W.fnOf x qual (defArgs st) (defBody st) (defScope st) .none kV doc pm an cdv ct) ⟨us, []⟩ = pure (ps.zip us)) : Binds K fd ps [] := by
  obtain ⟨oc, od, kV, doc, pm, an, cdv, ct, osl, rfl, lk, hcd⟩ := F.ex
  exact .all (h kV doc pm an cdv ct)
theorem fun_mk {x qual : Str} {st : Stmt} {f : Addr} {oc : Value} {od an : Option Addr} {osl : Array (Option Value)} {kV doc pm cdv ct : Value} (l : K.lookup f = some ⟨oc, od, .func (PySem.W.fnOf x qual (defArgs st) (defBody st) (defScope st) .none kV doc pm an cdv ct), osl⟩)
    (c : PySem.W.codeIn K cdv qual = true) (k : PySem.W.keepIn K (.ref f) = true) : Fun K x qual st f (PySem.W.fnOf x qual (defArgs st) (defBody st) (defScope st) .none kV doc pm an cdv ct) := ⟨⟨oc, od, kV, doc, pm, an, cdv, ct, osl, rfl, l, c⟩, k⟩
end
theorem hu_of {A : Around} {k : Nat} (hr : Room k A) : A.units + 1 < cLine := Nat.lt_of_le_of_lt (Nat.add_le_add_left (by decide : 1 ≤ 64) _) hr.units
theorem small1000 {n : Nat} (h : n ≤ 1000) : n < sizeLine := Nat.lt_of_le_of_lt h (by decide)

/-! ### expressions in short: the name that stands in the i-th slot -/
section
variable {X : Cx}
theorem pv (i : Nat) {x : Str} {pos : Pos} (hN : X.N[i]? = some x := by rfl) (hv : Vis X.env.scope x := by first | exact Or.inl rfl | exact Or.inr (Or.inl rfl) | exact Or.inr (Or.inr rfl)) (hd : (x == ("__debug__" : Str)) = false := by decide)
    (hcd : (x == ("__classdict__" : Str)) = false := by decide) : PE X (.Name x pos) (tVar i) := pe_var hN hv hd hcd
end

/-! ### tests -/
theorem iteF {A B : Prop} (h : B) : if false = true then A else B := by
  rw [if_neg Bool.false_ne_true]
  exact h
theorem iteT {A B : Prop} (h : A) : if true = true then A else B := by
  rw [if_pos rfl]
  exact h
theorem ite2 {c A B : Prop} [Decidable c] (h1 : c → A) (h2 : ¬ c → B) : if c then A else B := by
  by_cases h : c
  · rw [if_pos h]
    exact h1 h
  · rw [if_neg h]
    exact h2 h
theorem iteNS {c A B : Prop} [Decidable c] (hc : c) (h : B) : if (!decide c) = true then A else B := by
  rw [decide_eq_true hc]
  exact iteF h

/-! ### heaps -/
/-- all that was tracked is as it was -/
def Same (H H' : Hp) : Prop := ∀ b o, H b = some o → H' b = some o
theorem Same.refl (H : Hp) : Same H H := fun _ _ h => h
theorem Same.trans {H H1 H2 : Hp} (a : Same H H1) (b : Same H1 H2) : Same H H2 := fun c o h => b c o (a c o h)
theorem Same.free {H H' : Hp} (e : Same H H') {l : Addr} (h : H' l = Option.none) : H l = Option.none := by
  cases q : H l with
  | none => rfl
  | some o =>
    rw [e l o q] at h
    cases h
theorem Same.seq {K : PySem.W.Frag} {H H' : Hp} {a : Addr} {xs : List V} (e : Same H H') (h : SqL K H a xs) : SqL K H' a xs := by
  rcases h with (h | ⟨o, h⟩) | h
  · exact .inl (.inl (e _ _ h))
  · exact .inl (.inr ⟨o, e _ _ h⟩)
  · exact .inr h

end L2

section
set_option Elab.async false
set_option linter.all false
set_option maxRecDepth 100000
namespace L2
open PySem PySem.Spec PyProof.Rows

/-! ### comprehensions: the closure of the block -/
theorem forIn_clos {env : Env} {F : Str × NameKind → List (Str × Addr) → Sem (ForInStep (List (Str × Addr)))}
    (h1 : ∀ n c cs, env.cells.lookup n = some c → F (n, NameKind.free) cs = pure (.yield ((n, c) :: cs)))
    (h2 : ∀ n k cs, k ≠ NameKind.free → F (n, k) cs = pure (.yield cs)) :
    ∀ (l : List (Str × NameKind)) (cs : List (Str × Addr)), (∀ p ∈ l, p.2 = NameKind.free → ∃ c, env.cells.lookup p.1 = some c) → (∀ x c, cs.lookup x = some c → env.cells.lookup x = some c) →
      ∃ cl, forIn l cs F = pure cl ∧ (∀ x c, cl.lookup x = some c → env.cells.lookup x = some c) ∧ (∀ x c, cs.lookup x = some c → ∃ c', cl.lookup x = some c') ∧ ∀ p ∈ l, p.2 = NameKind.free → ∃ c, cl.lookup p.1 = some c
  | [], cs, _, hc => ⟨cs, by rw [List.forIn_nil], hc, fun x c h => ⟨c, h⟩, fun p hp => absurd hp (by simp)⟩
  | (n, k) :: l, cs, hl, hc => by
    have hl' : ∀ p ∈ l, p.2 = NameKind.free → ∃ c, env.cells.lookup p.1 = some c := fun p hp => hl p (List.mem_cons_of_mem _ hp)
    by_cases hk : k = NameKind.free
    · subst hk
      obtain ⟨c, e⟩ := hl (n, NameKind.free) List.mem_cons_self rfl
      have hc' : ∀ x d, ((n, c) :: cs).lookup x = some d → env.cells.lookup x = some d := fun x d q => by
        cases hx : x == n with
        | true =>
          simp only [List.lookup_cons, hx] at q
          cases q
          rw [eq_of_beq hx]; exact e
        | false =>
          simp only [List.lookup_cons, hx] at q
          exact hc x d q
      obtain ⟨cl, a1, a2, a3, a4⟩ := forIn_clos h1 h2 l ((n, c) :: cs) hl' hc'
      have up : ∀ x d, cs.lookup x = some d → ∃ d', ((n, c) :: cs).lookup x = some d' := fun x d q => by
        cases hx : x == n with
        | true => exact ⟨c, by simp only [List.lookup_cons, hx]⟩
        | false => exact ⟨d, by simp only [List.lookup_cons, hx]; exact q⟩
      refine ⟨cl, by rw [List.forIn_cons, h1 n c cs e, pure_bind]; exact a1, a2, fun x d q => ?_, fun p hp hf => ?_⟩
      · obtain ⟨d', q'⟩ := up x d q
        exact a3 x d' q'
      · rcases List.mem_cons.mp hp with rfl | hp
        · exact a3 n c (by simp only [List.lookup_cons, beq_self_eq_true])
        · exact a4 p hp hf
    · obtain ⟨cl, a1, a2, a3, a4⟩ := forIn_clos h1 h2 l cs hl' hc
      refine ⟨cl, by rw [List.forIn_cons, h2 n k cs hk, pure_bind]; exact a1, a2, a3, fun p hp hf => ?_⟩
      rcases List.mem_cons.mp hp with rfl | hp
      · exact absurd hf hk
      · exact a4 p hp hf

theorem closure_ex {scope : Scope} {env : Env} (h : ∀ p ∈ scope.names, p.2 = NameKind.free → ∃ c, env.cells.lookup p.1 = some c) :
    ∃ cl, closureFor scope env = pure cl ∧ (∀ x c, cl.lookup x = some c → env.cells.lookup x = some c) ∧ ∀ p ∈ scope.names, p.2 = NameKind.free → ∃ c, cl.lookup p.1 = some c := by
  simp only [closureFor]
  obtain ⟨cl, a1, a2, _, a4⟩ := forIn_clos (env := env) (F := fun x r => match x with | (name, kind) => if (kind == NameKind.free) = true then do let a ← cellOf env name; pure (ForInStep.yield ((name, a) :: r)) else pure (ForInStep.yield r))
    (fun n c cs e => by
      show (if (NameKind.free == NameKind.free) = true then _ else _) = _
      rw [if_pos (show (NameKind.free == NameKind.free) = true from rfl)]
      unfold cellOf
      rw [e]
      rfl)
    (fun n k cs hk => by
      have : (k == NameKind.free) = false := by simpa using hk
      show (if (k == NameKind.free) = true then _ else _) = _
      rw [this, if_neg Bool.false_ne_true]) scope.names [] h (fun x c q => by simp at q)
  refine ⟨cl, ?_, a2, a4⟩
  first
    | exact a1
    | (rw [bind_pure]; exact a1)
    | (simp only [bind_pure] at *; exact a1)
    | (rw [show (forIn scope.names ([] : List (Str × Addr)) _ >>= fun r => pure r) = _ from bind_pure _]; exact a1)

theorem lookup_relabel_free {env : Env} : ∀ {names : List (Str × NameKind)} {x : Str}, names.lookup x = some .free →
    (names.map fun (n, k) => if (k == NameKind.free && env.scope.kind == .function && env.kindOf n == some .cell) then (n, NameKind.cell) else (n, k)).lookup x = some .cell ∨
    (names.map fun (n, k) => if (k == NameKind.free && env.scope.kind == .function && env.kindOf n == some .cell) then (n, NameKind.cell) else (n, k)).lookup x = some .free
  | [], _, h => by simp at h
  | (n, k) :: r, x, h => by
    have ih := @lookup_relabel_free env r x
    show List.lookup x ((if (k == NameKind.free && env.scope.kind == .function && env.kindOf n == some .cell) = true then (n, NameKind.cell) else (n, k)) :: _) = _ ∨ List.lookup x ((if (k == NameKind.free && env.scope.kind == .function && env.kindOf n == some .cell) = true then (n, NameKind.cell) else (n, k)) :: _) = _
    cases hx : x == n with
    | true =>
      simp only [List.lookup_cons, hx] at h
      cases h
      by_cases hc : (NameKind.free == NameKind.free && env.scope.kind == .function && env.kindOf n == some .cell) = true
      · rw [if_pos hc]; left; simp only [List.lookup_cons, hx]
      · rw [if_neg hc]; right; simp only [List.lookup_cons, hx]
    | false =>
      simp only [List.lookup_cons, hx] at h
      by_cases hc : (k == NameKind.free && env.scope.kind == .function && env.kindOf n == some .cell) = true
      · rw [if_pos hc]; simp only [List.lookup_cons, hx]; exact ih h
      · rw [if_neg hc]; simp only [List.lookup_cons, hx]; exact ih h
theorem lookup_relabel_inv {env : Env} : ∀ {names : List (Str × NameKind)} {x : Str}, ((names.map fun (n, k) => if (k == NameKind.free && env.scope.kind == .function && env.kindOf n == some .cell) then (n, NameKind.cell) else (n, k)).lookup x = some .cell ∨
    (names.map fun (n, k) => if (k == NameKind.free && env.scope.kind == .function && env.kindOf n == some .cell) then (n, NameKind.cell) else (n, k)).lookup x = some .free) → names.lookup x = some .free ∨ names.lookup x = some .cell
  | [], _, h => by simp at h
  | (n, k) :: r, x, h => by
    have ih := @lookup_relabel_inv env r x
    have h : List.lookup x ((if (k == NameKind.free && env.scope.kind == .function && env.kindOf n == some .cell) = true then (n, NameKind.cell) else (n, k)) :: _) = _ ∨ List.lookup x ((if (k == NameKind.free && env.scope.kind == .function && env.kindOf n == some .cell) = true then (n, NameKind.cell) else (n, k)) :: _) = _ := h
    cases hx : x == n with
    | true =>
      simp only [List.lookup_cons, hx]
      by_cases hc : (k == NameKind.free && env.scope.kind == .function && env.kindOf n == some .cell) = true
      · have : k = NameKind.free := by
          rw [Bool.and_eq_true, Bool.and_eq_true] at hc
          exact eq_of_beq hc.1.1
        left; rw [this]
      · rw [if_neg hc] at h
        simp only [List.lookup_cons, hx] at h
        exact h.symm
    | false =>
      simp only [List.lookup_cons, hx]
      by_cases hc : (k == NameKind.free && env.scope.kind == .function && env.kindOf n == some .cell) = true
      · rw [if_pos hc] at h; simp only [List.lookup_cons, hx] at h; exact ih h
      · rw [if_neg hc] at h; simp only [List.lookup_cons, hx] at h; exact ih h

/-! ### the context of the block -/
structure CIn where
  cl : List (Str × Addr)
  C : Addr
  s₀ : Shared
  H₀ : Hp
  ex : List Addr
  pn : List (Addr × Obj)
def compCx (X : Cx) (N : List Str) (scope : Scope) (c : CIn) : Cx where
  prog := X.prog
  w := X.w
  K := X.K
  mg := X.mg
  base := X.base
  A := X.A
  N := N
  s₀ := c.s₀
  H₀ := c.H₀
  env := compEnvC scope c.cl c.C X.env
  outer := X.stack
  stack := X.stack
  ex := c.ex
  fn := fun _ => false
  calm := X.calm
  pn := c.pn
  xe := fun _ _ => False
/-- the slots of the block: its own names are empty, those from around have what they have there -/
def inSt (f : List (Option Nat)) (σ : St) : St := f.map fun o => match o with | some i => (σ[i]?).join | none => none
/-- f: for each name of the block where it stands around (none: its own) -/
structure CompOk (NX : List Str) (sc : Scope) (N : List Str) (f : List (Option Nat)) (scope : Scope) : Prop where
  kind : scope.kind = .function
  nocell : ∀ y ∈ scope.names, y.2 ≠ NameKind.cell
  names : ∀ y ∈ scope.names, y.2 = NameKind.local → scope.names.lookup y.1 = some .local
  free : ∀ y ∈ scope.names, y.2 = NameKind.free → sc.names.lookup y.1 = some .cell ∨ sc.names.lookup y.1 = some .free
  len : f.length = N.length
  ix : ∀ (j i : Nat), f[j]? = some (some i) → ∃ x, N[j]? = some x ∧ NX[i]? = some x ∧ scope.names.lookup x = some .free
def compOkB (NX : List Str) (sc : Scope) (N : List Str) (f : List (Option Nat)) (scope : Scope) : Bool :=
  decide (scope.kind = .function) && (scope.names.all fun y => decide (y.2 ≠ NameKind.cell) && (decide (y.2 ≠ NameKind.local) || decide (scope.names.lookup y.1 = some .local)) &&
    (decide (y.2 ≠ NameKind.free) || decide (sc.names.lookup y.1 = some .cell) || decide (sc.names.lookup y.1 = some .free))) && decide (f.length = N.length) &&
  (List.range f.length).all fun j => match f[j]? with
    | some (some i) => (match N[j]? with
      | some x => decide (NX[i]? = some x) && decide (scope.names.lookup x = some .free)
      | none => false)
    | _ => true
theorem compOk_of {NX : List Str} {sc : Scope} {N : List Str} {f : List (Option Nat)} {scope : Scope} (h : compOkB NX sc N f scope = true) : CompOk NX sc N f scope := by
  unfold compOkB at h
  simp only [Bool.and_eq_true, List.all_eq_true, decide_eq_true_eq, Bool.or_eq_true] at h
  obtain ⟨⟨⟨h1, h2⟩, h3⟩, h4⟩ := h
  refine ⟨h1, fun y hy => (h2 y hy).1.1, fun y hy e => ?_, fun y hy e => ?_, h3, fun j i e => ?_⟩
  · rcases (h2 y hy).1.2 with z | z
    · exact absurd e z
    · exact z
  · rcases (h2 y hy).2 with (z | z) | z
    · exact absurd e z
    · exact .inl z
    · exact .inr z
  · have hj : j < f.length := (List.getElem?_eq_some_iff.mp e).1
    have q := h4 j (List.mem_range.mpr hj)
    rw [e] at q
    cases hN : N[j]? with
    | none => rw [hN] at q; simp at q
    | some x =>
      rw [hN] at q
      simp only [Bool.and_eq_true, decide_eq_true_eq] at q
      exact ⟨x, rfl, q.1, q.2⟩

/-! ### the targets of the block -/
def Keep (f : List (Option Nat)) (σ σ' : St) : Prop := σ'.length = σ.length ∧ ∀ (i j : Nat), f[i]? = some (some j) → σ'[i]? = σ[i]?
structure TgOk (f : List (Option Nat)) (g : TG) : Prop where
  keep : ∀ x σ H Q, g x σ H Q → g x σ H fun σ2 H2 => Keep f σ σ2 ∧ Q σ2 H2
  mono : ∀ x σ H Q Q', (∀ σ H, Q σ H → Q' σ H) → g x σ H Q → g x σ H Q'
structure TgsOk (f : List (Option Nat)) (g : TGs) : Prop where
  keep : ∀ xs σ H Q, g xs σ H Q → g xs σ H fun σ2 H2 => Keep f σ σ2 ∧ Q σ2 H2
  mono : ∀ xs σ H Q Q', (∀ σ H, Q σ H → Q' σ H) → g xs σ H Q → g xs σ H Q'
theorem tg_name {f : List (Option Nat)} {j : Nat} (h : f[j]? = some none := by rfl) : TgOk f (gName j) where
  keep := fun x σ H Q q => ⟨⟨List.length_set .., fun i k e => List.getElem?_set_ne (by rintro rfl; rw [h] at e; cases e)⟩, q⟩
  mono := fun x σ H Q Q' m q => m _ _ q
theorem tgs_nil {f : List (Option Nat)} : TgsOk f gNil where
  keep := fun xs σ H Q ⟨e, q⟩ => ⟨e, ⟨rfl, fun _ _ _ => rfl⟩, q⟩
  mono := fun xs σ H Q Q' m ⟨e, q⟩ => ⟨e, m _ _ q⟩
theorem tgs_cons {f : List (Option Nat)} {t : TG} {u : TGs} (h1 : TgOk f t) (h2 : TgsOk f u) : TgsOk f (gCons t u) where
  keep := fun xs σ H Q ⟨v, r, e, q⟩ => ⟨v, r, e, h1.mono _ _ _ _ _ (fun σ1 H1 z => h2.mono _ _ _ _ _ (fun σ2 H2 y => ⟨⟨y.1.1.trans z.1.1, fun i j ef => (y.1.2 i j ef).trans (z.1.2 i j ef)⟩, y.2⟩) (h2.keep _ _ _ _ z.2)) (h1.keep _ _ _ _ q)⟩
  mono := fun xs σ H Q Q' m ⟨v, r, e, q⟩ => ⟨v, r, e, h1.mono _ _ _ _ _ (fun σ1 H1 z => h2.mono _ _ _ _ _ m z) q⟩
theorem tg_tup {f : List (Option Nat)} {K : PySem.W.Frag} {n : Nat} {t : TGs} (h : TgsOk f t) : TgOk f (gTup K n t) where
  keep := fun x σ H Q ⟨a, xs, e, q, l, z⟩ => ⟨a, xs, e, q, l, h.keep _ _ _ _ z⟩
  mono := fun x σ H Q Q' m ⟨a, xs, e, q, l, z⟩ => ⟨a, xs, e, q, l, h.mono _ _ _ _ _ m z⟩

/-! ### the tests -/
def PCs (X : Cx) (ifs : List Expr) (tc : TT) : Prop :=
  ∀ (pins : List (Addr × Obj)) (s : Shared) (σ : St) (H : Hp) (Q : Bool → Hp → Prop), Inv X pins σ H s → tc σ H Q →
    wpAny (model X.prog X.w) X.A (forIn ifs true fun c r => if r = true then do let ok ← isTrue c X.env (eval c X.env); pure (ForInStep.yield ok) else pure (ForInStep.yield r)) (TP X pins σ Q) X.xe s
def tYes : TT := fun _ H Q => Q true H
theorem pcs_nil {X : Cx} : PCs X [] tYes := fun _ _ _ H _ I h => wpAny_tests_nil ⟨H, I, h⟩
theorem pcs_one {X : Cx} {c : Expr} {tc : TT} (h : PT X c tc) : PCs X [c] tc := fun pins s σ H Q I q => wpAny_tests_one (h pins s σ H Q I q)

/-! ### the loop of the block -/
theorem compLoop_any {prog : Program} {w : World} {A : Around} {R : Result → Shared → Prop} {s : Shared} {elt target iter : Expr} {ifs : List Expr} {scope : Scope} {pos : Pos} {it acc : Value} {env : Env} (I : Nat → Shared → Prop)
    (turn : ∀ n s, I n s → wpAny (model prog w) A (pyNext it) (fun r s₁ => match r with
      | none => R (.ok .next) s₁
      | some v => wpAny (model prog w) A (letOwnedTupleGo target it v) (fun _ s₁' => wpAny (model prog w) A (assign target env v) (fun _ s₂ =>
          wpAny (model prog w) A (forIn ifs true fun c r => if r = true then do let ok ← isTrue c env (eval c env); pure (ForInStep.yield ok) else pure (ForInStep.yield r)) (fun ok s₃ =>
            if ok = true then wpAny (model prog w) A (eval elt env) (fun x s₄ =>
              wpAny (model prog w) A (call (.builtin "list.append") [acc, x]) (fun _ s₅ => ∃ m, m < n ∧ I m s₅) (fun _ _ => False) s₄) (fun _ _ => False) s₃
            else ∃ m, m < n ∧ I m s₃) (fun _ _ => False) s₂) (fun _ _ => False) s₁') (fun _ _ => False) s₁) (fun _ _ => False) s)
    (n : Nat) (h : I n s) :
    codeAny (model prog w) A (.compLoop (.ListComp elt [⟨target, iter, ifs, 0⟩] scope pos) 0 it acc env) R s := by
  refine codeAny_loop rfl I (fun n s hI => ?_) n h
  show wpAny _ A ((compTurn (.ListComp elt [⟨target, iter, ifs, 0⟩] scope pos) 0 it acc env).onRaise (fun x => do noteFrame x env; theTreesLotGoes x)) _ _ s
  refine wpAny_noted ?_
  rw [compTurn_list]
  refine wpAny_bind (wpAny_standAt (wpAny_bind (wpAny_mono (turn n s hI) (fun r s₁ h₁ => ?_) fun _ _ h' => h'.elim)))
  cases r with
  | none => exact wpAny_pure h₁
  | some v =>
    refine wpAny_bind (wpAny_mono h₁ (fun _ s₁' h₁' => ?_) fun _ _ h' => h'.elim)
    refine wpAny_bind (wpAny_mono h₁' (fun _ s₂ h₂ => wpAny_bind (wpAny_mono h₂ (fun ok s₃ h₃ => ?_) fun _ _ h' => h'.elim)) fun _ _ h' => h'.elim)
    cases ok with
    | false => exact wpAny_pure ⟨rfl, h₃⟩
    | true =>
      exact wpAny_bind (wpAny_bind (wpAny_mono h₃ (fun x s₄ h₄ => wpAny_bind (wpAny_mono h₄ (fun _ s₅ h₅ => wpAny_pure (wpAny_pure ⟨rfl, h₅⟩)) fun _ _ h' => h'.elim)) fun _ _ h' => h'.elim))

/-! ### an object that stands untracked is tracked from now on -/
theorem Inv.track {X : Cx} {pins : List (Addr × Obj)} {σ : St} {H : Hp} {s : Shared} {a : Addr} {o : HO} (I : Inv X pins σ H s) (hn : H a = none) (h0 : X.s₀.heap.objs.size ≤ a) (hL : a ≠ X.env.locals) (hC : ∀ x c, X.env.cells.lookup x = some c → c ≠ a)
    (hp : ∀ p ∈ X.pn ++ pins, p.1 ≠ a) (new : ObjOk X.prog X.w (upd H a o) s.heap a o) : Inv X pins σ (upd H a o) s where
  ok := I.ok
  os := I.os
  bare := I.bare
  base :=
    { keep := I.base.keep
      slot := I.base.slot
      free := fun b ob q n hx => by rw [upd_ne (Nat.ne_of_lt (Nat.lt_of_lt_of_le (Heap.lt_size q) h0))]; exact I.base.free b ob q n hx
      there := I.base.there
      tups := fun b xs q => by have z := I.base.tups b xs q; rw [upd_ne (ne_of_none z hn)]; exact z
      frzs := fun b u xs q => by have z := I.base.frzs b u xs q; rw [upd_ne (ne_of_none z hn)]; exact z
      tbls := fun b ps q => by obtain ⟨more, z⟩ := I.base.tbls b ps q; exact ⟨more, by rw [upd_ne (ne_of_none z hn)]; exact z⟩ }
  loc := I.loc
  cell := I.cell
  free := by rw [upd_ne hL.symm]; exact I.free
  freeC := fun x c e => by rw [upd_ne (hC x c e)]; exact I.freeC x c e
  pin := fun p hp' => by obtain ⟨e, n, r⟩ := I.pin p hp'; exact ⟨e, by rw [upd_ne (hp p hp')]; exact n, r⟩
  hok := fun b u e => by
    by_cases hb : b = a
    · subst hb; rw [upd_same] at e; cases e; exact new
    · rw [upd_ne hb] at e
      exact (I.hok b u e).stay (fun _ _ _ q => q) (fun c q => by rw [upd_ne (ne_of_none q hn)]; exact q) fun c xs q => by rw [upd_ne (ne_of_none q hn)]; exact q
  len := I.len

/-! ### the reading: W by the turn, a measure, what has been laid so far, the heap -/
def LCw (f : List (Option Nat)) (g : TG) (tc : TT) (te : TE) (σ : St) (J : It) (Q : VK) (H1 : Hp) : Prop :=
  ∃ W : Nat → Nat → List V → Hp → Prop, (∃ m, W 0 m [] H1) ∧ ∀ i m ys H, W i m ys H →
    (J.stop i H ∧ ∀ p, H p = none → Q (.ref p) (upd H p (.lst ys))) ∨
    (J.go i H ∧ ∀ x H', J.yld i H x H' → g x (inSt f σ) H' fun σ2 H2 => tc σ2 H2 fun b H3 =>
      if b = true then te σ2 H3 fun y H4 => ys.length < sizeLine ∧ ∃ m', m' < m ∧ W (i + 1) m' (ys ++ [y]) H4
      else ∃ m', m' < m ∧ W (i + 1) m' ys H3)
def tLC (f : List (Option Nat)) (wi : TI) (g : CIn → TG) (tc : CIn → TT) (te : CIn → TE) : TE := fun σ H Q => wi σ H fun J H1 => ∀ c : CIn, LCw f (g c) (tc c) (te c) σ J Q H1
/-- the list that grows, as an object -/
abbrev lobj (its : List Value) (k : Nat) : Obj := { cls := .type "list", data := .seq its.toArray k }

section
variable {X : Cx} {pins : List (Addr × Obj)} {σ : St} {H2 : Hp} {s₂ : Shared}
theorem lc_run {tg iter elt : Expr} {ifs : List Expr} {scope : Scope} {pos : Pos} {N : List Str} {f : List (Option Nat)} {g : CIn → TG} {tc : CIn → TT} {te : CIn → TE} {cl : List (Str × Addr)}
    (hc : X.calm = true) (ck : CompOk X.N X.env.scope N f scope)
    (hg : ∀ c, PG (compCx X N scope c) tg (g c)) (ht : ∀ c, TgOk f (g c)) (hcs : ∀ c, PCs (compCx X N scope c) ifs (tc c)) (he : ∀ c, PE (compCx X N scope c) elt (te c))
    (I2 : Inv X pins σ H2 s₂) {it : Addr} {fp : List Addr} {tn : Nat → Heap → Prop} {J : It} (T : Turn X.prog X.w X.K tg J fp it tn) (st : tn 0 s₂.heap) (f2 : ∀ b ∈ fp, FpOk X pins H2 b)
    {Q : VK} (hq : ∀ c : CIn, LCw f (g c) (tc c) (te c) σ J Q H2)
    (hcl1 : ∀ x c, cl.lookup x = some c → X.env.cells.lookup x = some c) (hcl2 : ∀ p ∈ scope.names, p.2 = NameKind.free → ∃ c, cl.lookup p.1 = some c)
    {RR : Value → Addr → Result → Shared → Prop} {E : Value → Shared → Prop}
    (hRR : ∀ (acc C : Addr) (H' : Hp) (s' : Shared) (m' : Str → Option Value), s'.heap.Ns C m' → Inv X pins σ H' s' → H' C = none → C ≠ X.env.locals → X.s₀.heap.objs.size ≤ C → (∀ x c, X.env.cells.lookup x = some c → c ≠ C) →
      (∀ p ∈ X.pn ++ pins, p.1 ≠ C) → Q (.ref acc) H' → RR (.ref acc) C (.ok .next) s') :
    wpAny (model X.prog X.w) X.A (newList []) (fun acc s₃ => wpAny (model X.prog X.w) X.A (newFunctionEnv scope X.env.globals cl [] X.env.qual none .none (some X.env)) (fun cenv s₄ =>
      codeAny (model X.prog X.w) X.A (.compStart (.ListComp elt [⟨tg, iter, ifs, 0⟩] scope pos) 0 (.ref it) acc { cenv with scope := relabel scope X.env }) (RR acc cenv.locals) s₄) E s₃) E s₂ := by
  refine wpAny_newObj_type (wpAny_newFunctionEnv ck.nocell (by intro y hy; simp at hy) (fun h₁ hns₁ hsb₁ => ?_) ck.kind)
  dsimp only at hns₁ hsb₁ ⊢
  have I3 : Inv X pins σ H2 { s₂ with heap := s₂.heap.push (lobj [] 0) } := I2.kept (t' := s₂.toks) fun b u e => Heap.get?_push_of_some _ e
  have hD : (s₂.heap.push (lobj [] 0)).get? s₂.heap.objs.size = some (lobj [] 0) := Heap.get?_push_size _ rfl
  generalize hs3 : ({ s₂ with heap := s₂.heap.push (lobj [] 0) } : Shared) = s₃ at I3 hns₁ hsb₁ ⊢
  have hp3 : s₂.heap.push (lobj [] 0) = s₃.heap := by rw [← hs3]
  have hp3' : s₂.heap.push { cls := .type "list", dict := none, data := .seq ([] : List Value).toArray } = s₃.heap := hp3
  rw [hp3] at hD
  simp only [hp3'] at hns₁ hsb₁ ⊢
  have sz3 : s₂.heap.objs.size < s₃.heap.objs.size := by rw [← hp3, Heap.size_push]; exact Nat.lt_succ_self _
  have k3 : ∀ b u, s₂.heap.get? b = some u → s₃.heap.get? b = some u := fun b u e => by rw [← hp3]; exact Heap.get?_push_of_some _ e
  have k1 : ∀ b u, s₃.heap.get? b = some u → h₁.get? b = some u := fun b u e =>
    hsb₁.extBut b u (Nat.ne_of_lt (Heap.lt_size e)) (Heap.get?_push_of_some _ e)
  have fpo : ∀ b ∈ fp, b < s₂.heap.objs.size := fun b hb => by
    obtain ⟨o, e, _⟩ := T.obj 0 _ st b hb
    exact Heap.lt_size e
  have st1 : tn 0 h₁ := T.keep _ _ _ st fun b hb o e => k1 b o (k3 b o e)
  have fneC : ∀ b ∈ fp, b ≠ s₃.heap.objs.size := fun b hb => Nat.ne_of_lt (Nat.lt_trans (fpo b hb) sz3)
  have fneD : ∀ b ∈ fp, b ≠ s₂.heap.objs.size := fun b hb => Nat.ne_of_lt (fpo b hb)
  have cneD : ∀ x d, X.env.cells.lookup x = some d → d ≠ s₂.heap.objs.size := fun x d e => by
    obtain ⟨v, z⟩ := I2.cell x d e
    exact Nat.ne_of_lt z.lt
  have pneD : ∀ p ∈ X.pn ++ pins, p.1 ≠ s₂.heap.objs.size := fun p hp => Nat.ne_of_lt (Heap.lt_size (I2.pin p hp).1)
  have freeD : H2 s₂.heap.objs.size = none := I2.fresh
  have stk : ∀ b, b ≠ X.env.locals → b ∉ X.fs → b ∉ frs X.stack := fun b h1 h2 hb => by
    rcases List.mem_cons.mp (I3.stkSub b hb) with z | z
    · exact h1 z
    · exact h2 z
  have exD : ∀ b, b ∈ s₂.heap.objs.size :: fp → b = s₂.heap.objs.size ∨ b ∈ fp := fun b hb => List.mem_cons.mp hb
  let c : CIn := ⟨cl, s₃.heap.objs.size, s₃, H2, s₂.heap.objs.size :: fp, X.pn ++ pins⟩
  have okX : (compCx X N scope c).Ok :=
    { mod := I3.ok.mod
      kind := ck.kind
      glob := I3.ok.glob
      blt := I3.ok.blt
      above := Nat.le_refl _
      inj := fun x y d h1 h2 => I3.ok.inj x y d (hcl1 x d h1) (hcl1 y d h2)
      has := fun x hx => by
        rcases lookup_relabel_inv hx with z | z
        · exact hcl2 (x, .free) (PySem.mem_of_lookup z) rfl
        · exact absurd rfl (ck.nocell (x, .cell) (PySem.mem_of_lookup z))
      cab := fun x d h => absurd (show false = true from h) Bool.false_ne_true
      hd := I3.ok.hd
      frames := I3.ok.frames
      stk := .inl rfl
      exf := fun b hb => by
        rcases exD b hb with rfl | hb
        · exact ⟨Nat.ne_of_lt sz3, fun x d e => cneD x d (hcl1 x d e)⟩
        · exact ⟨fneC b hb, fun x d e => (f2 b hb).2.2.2.2.1 x d (hcl1 x d e)⟩
      bs := fun b o e => I3.bs b o e
      bsz := Nat.le_trans I3.ok.bsz I3.sz
      noex := fun b o e hb => by
        rcases exD b hb with rfl | hb
        · exact absurd (Heap.lt_size (I2.bk _ _ e)) (Nat.lt_irrefl _)
        · rcases (f2 b hb).2.2.2.1 with z | z
          · exact I3.ok.noex b o e z
          · exact absurd (Nat.lt_of_lt_of_le (Heap.lt_size (I3.ok.bs b o e).1) z) (Nat.lt_irrefl _)
      exfs := fun b hb => by
        rcases exD b hb with rfl | hb
        · exact stk _ (Nat.ne_of_gt I2.lt) (I2.nofs (Nat.le_refl _))
        · exact stk b (f2 b hb).2.1 (f2 b hb).2.2.1
      funs := I3.stack
      frf := I3.stkFree }
  have I4 : Inv (compCx X N scope c) [(s₂.heap.objs.size, lobj [] 0)] (inSt f σ) H2 { s₃ with heap := h₁, toks := s₃.toks + ([] : List (Str × Value)).length } :=
    { ok := okX
      os := rfl
      bare := I3.bare
      base := Un.kept k1
      loc := ⟨_, hns₁, fun i x v e1 e2 e3 => by
        have hfi : ∃ j, f[i]? = some (some j) ∧ σ[j]? = some (some v) := by
          unfold inSt at e2
          rw [List.getElem?_map] at e2
          cases ef : f[i]? with
          | none => rw [ef] at e2; cases e2
          | some o =>
            rw [ef] at e2
            cases o with
            | none => cases e2
            | some j =>
              refine ⟨j, rfl, ?_⟩
              have e2' : (σ[j]?).join = some v := Option.some.inj e2
              cases es : σ[j]? with
              | none => rw [es] at e2'; cases e2'
              | some o2 =>
                rw [es] at e2'
                have : o2 = some v := e2'
                rw [this]
        obtain ⟨j, ef, es⟩ := hfi
        obtain ⟨x', n1, n2, n3⟩ := ck.ix i j ef
        have : x' = x := Option.some.inj (n1.symm.trans e1)
        subst this
        have hfr := ck.free (x', .free) (PySem.mem_of_lookup n3) rfl
        obtain ⟨m0, hm0, hl0⟩ := I3.loc
        obtain ⟨u, ru, lk⟩ := hl0 j x' v n2 es (hfr.elim (fun z => .inr (.inl z)) fun z => .inr (.inr z))
        refine ⟨u, ru, .inr ⟨lookup_relabel_free n3, ?_⟩⟩
        rcases lk with ⟨kl, _⟩ | ⟨_, d, ed, hd⟩
        · have kl' : X.env.scope.names.lookup x' = some .local := kl
          rcases hfr with z | z
          · rw [kl'] at z; cases z
          · rw [kl'] at z; cases z
        · obtain ⟨d', ed'⟩ := hcl2 (x', .free) (PySem.mem_of_lookup n3) rfl
          have : d' = d := Option.some.inj ((hcl1 x' d' ed').symm.trans ed)
          subst this
          exact ⟨d', ed', hd.keeps k1⟩⟩
      cell := fun x d e => by
        obtain ⟨v, z⟩ := I3.cell x d (hcl1 x d e)
        exact ⟨v, z.keeps k1⟩
      free := I3.fresh
      freeC := fun x d e => I3.freeC x d (hcl1 x d e)
      pin := fun p hp => by
        rcases List.mem_append.mp (show p ∈ (X.pn ++ pins) ++ [(s₂.heap.objs.size, lobj [] 0)] from hp) with hp' | hp'
        · obtain ⟨e, n, ne, nf, d⟩ := I3.pin p hp'
          exact ⟨k1 _ _ e, n, Nat.ne_of_lt (Heap.lt_size e), stk p.1 ne nf, d⟩
        · have z : p = (s₂.heap.objs.size, lobj [] 0) := List.mem_singleton.mp hp'
          subst z
          exact ⟨k1 _ _ hD, freeD, Nat.ne_of_lt sz3, stk _ (Nat.ne_of_gt I2.lt) (I2.nofs (Nat.le_refl _)), fun v z => nomatch (show Data.seq _ _ = Data.cell v from z)⟩
      hok := I3.hok.kept k1
      len := by
        show (inSt f σ).length = N.length
        unfold inSt
        rw [List.length_map]
        exact ck.len }
  -- what the block leaves
  have back : ∀ {σ' : St} {H' : Hp} {s' : Shared} {ps : List (Addr × Obj)}, Inv (compCx X N scope c) ps σ' H' s' → Inv X pins σ H' s' := fun {σ' H' s' ps} J' =>
    I3.call' (ch := s₂.heap.objs.size :: fp) J'.os J'.base J'.hok J'.bare fun b hb => by
      rcases exD b hb with rfl | hb
      · exact ⟨.inr I2.sz, Nat.ne_of_gt I2.lt, cneD, pneD⟩
      · exact ⟨(f2 b hb).2.2.2.1, (f2 b hb).2.1, (f2 b hb).2.2.2.2.1, (f2 b hb).2.2.2.2.2⟩
  have fpX : ∀ {H' : Hp} {ob : Obj}, (∀ b ∈ fp, H' b = none) → ∀ b ∈ fp, FpOk (compCx X N scope c) [(s₂.heap.objs.size, ob)] H' b := fun {H' ob} hn b hb =>
    ⟨hn b hb, (okX.exf b (List.mem_cons_of_mem _ hb)).1, okX.exfs b (List.mem_cons_of_mem _ hb), .inl (List.mem_cons_of_mem _ hb), (okX.exf b (List.mem_cons_of_mem _ hb)).2, fun p hp => by
      rcases List.mem_append.mp (show p ∈ (X.pn ++ pins) ++ [(s₂.heap.objs.size, ob)] from hp) with z | z
      · exact (f2 b hb).2.2.2.2.2 p z
      · have z : p = (s₂.heap.objs.size, ob) := List.mem_singleton.mp z
        subst z
        exact (fneD b hb).symm⟩
  obtain ⟨W, ⟨m0, w0⟩, turn⟩ := hq c
  have loop : ∀ s, s = ({ s₃ with heap := h₁, toks := s₃.toks + ([] : List (Str × Value)).length } : Shared) →
      codeAny (model X.prog X.w) X.A (.compLoop (.ListComp elt [⟨tg, iter, ifs, 0⟩] scope pos) 0 (.ref it) (.ref s₂.heap.objs.size) (compEnvC scope cl s₃.heap.objs.size X.env)) (RR (.ref s₂.heap.objs.size) s₃.heap.objs.size) s := by
    rintro s rfl
    refine compLoop_any (fun n s' => ∃ i H' ys its k, Inv (compCx X N scope c) [(s₂.heap.objs.size, lobj its k)] (inSt f σ) H' s' ∧ Vals ys its ∧ ys.length ≤ sizeLine ∧ tn i s'.heap ∧ (∀ b ∈ fp, H' b = none) ∧ W i n ys H') ?_ m0 ⟨0, _, [], [], 0, I4, .nil, Nat.zero_le _, st1, fun b hb => (f2 b hb).1, w0⟩
    rintro n s5 ⟨i, H5, ys, its, k, I5, rv5, hz5, st5, fr5, w5⟩
    rcases turn i n ys H5 w5 with ⟨stop, qn⟩ | ⟨go, step⟩
    · refine thn (T.done (compCx X N scope c) rfl rfl rfl hc i _ s5 (inSt f σ) H5 _ I5 (fpX fr5) st5 stop) fun r s6 ⟨hr, I6⟩ => ?_
      subst hr
      obtain ⟨m6, hn6, _⟩ := id I6.loc
      obtain ⟨eD, nD, _⟩ := I6.pin (s₂.heap.objs.size, lobj its k) (List.mem_append_right _ (List.mem_singleton.mpr rfl))
      have I7 : Inv X pins σ (upd H5 s₂.heap.objs.size (.lst ys)) s6 := (back I6).track nD I2.sz (Nat.ne_of_gt I2.lt) cneD pneD ⟨hz5, its, k, rv5, eD⟩
      refine hRR _ _ _ s6 m6 hn6 I7 (by rw [upd_ne (Nat.ne_of_gt sz3)]; exact I6.free) (Nat.ne_of_gt I3.lt) I3.sz (fun x d e => ?_) (fun p hp => ?_) (qn _ nD)
      · obtain ⟨v, z⟩ := I3.cell x d e
        exact Nat.ne_of_lt z.lt
      · exact Nat.ne_of_lt (Heap.lt_size (I3.pin p hp).1)
    · refine thn (T.item (compCx X N scope c) rfl rfl rfl hc i _ s5 (inSt f σ) H5 _ I5 (fpX fr5) st5 go) fun r s6 ⟨u, hr, h6⟩ => ?_
      subst hr
      refine thn h6 fun _ s7 ⟨x, H7, I7, r7, y7, st7, fr7⟩ => ?_
      have I7' := I7.pinned (fpX fr7) (T.obj _ _ st7)
      refine thn (hg c _ s7 (inSt f σ) H7 x u _ I7' r7 ((ht c).keep _ _ _ _ (step x H7 y7))) fun _ s8 ⟨σ8, H8, I8, kp8, q8⟩ => ?_
      have wk : ∀ (j : Nat) v, (inSt f σ)[j]? = some (some v) → σ8[j]? = some (some v) := fun j v e => by
        have ef : ∃ k, f[j]? = some (some k) := by
          have e' := e
          unfold inSt at e'
          rw [List.getElem?_map] at e'
          cases q : f[j]? with
          | none => rw [q] at e'; cases e'
          | some o =>
            cases o with
            | none => rw [q] at e'; cases e'
            | some k => exact ⟨k, rfl⟩
        obtain ⟨k, ef⟩ := ef
        rw [kp8.2 j k ef]; exact e
      -- the iterator's records at the end of a turn
      have recs : ∀ {H9 : Hp} {s9 : Shared} {ob : Obj}, Inv (compCx X N scope c) ([(s₂.heap.objs.size, ob)] ++ pinsAt fp s7.heap) σ8 H9 s9 → tn (i + 1) s9.heap ∧ ∀ b ∈ fp, H9 b = none := fun {H9 s9 ob} I9 =>
        ⟨T.keep _ _ _ st7 fun b hb o e => (I9.pin (b, o) (List.mem_append_right _ (List.mem_append_right _ (mem_pinsAt hb e)))).1, fun b hb => by
          obtain ⟨o, e, d⟩ := T.obj _ _ st7 b hb
          exact (I9.pin (b, o) (List.mem_append_right _ (List.mem_append_right _ (mem_pinsAt hb e)))).2.1⟩
      refine thn (hcs c _ s8 σ8 H8 _ I8 q8) fun ok s9 ⟨H9, I9, q9⟩ => ?_
      cases ok with
      | false =>
        obtain ⟨m', hm, w9⟩ := (show ∃ m', m' < n ∧ W (i + 1) m' ys H9 from q9)
        obtain ⟨z1, z2⟩ := recs I9
        exact ⟨m', hm, i + 1, H9, ys, its, k, (I9.unpinned).weak kp8.1.symm wk, rv5, hz5, z1, z2, w9⟩
      | true =>
        refine thn (he c _ s9 σ8 H9 _ I9 (show te c σ8 H9 _ from q9)) fun v s10 ⟨y, H10, I10, r10, hlen, m', hm, w10⟩ => ?_
        obtain ⟨eD, nD, neD, nfD, dD⟩ := I10.pin (s₂.heap.objs.size, lobj its k) (List.mem_append_right _ (List.mem_append_left _ (List.mem_singleton.mpr rfl)))
        obtain ⟨z1, z2⟩ := recs I10
        have lv := rv5.length
        refine call_meets F.slot_list_append ⟨_, eD, rfl⟩ F.entry_list_append (F.args_list_append_2 _ _) (PySem.list_append s₂.heap.objs.size its.toArray k v (by rw [List.size_toArray]; omega)) ⟨eD, ?_⟩
        have q := PySem.IsL.update eD (·.push v)
        have hf : its.toArray.push v = (its ++ [v]).toArray := by simp
        rw [hf] at q
        have I11 : Inv (compCx X N scope c) [] σ8 H10 { s10 with heap := s10.heap.update s₂.heap.objs.size (Obj.mapSeq (·.push v)) } :=
          (I10.pins_of (pins' := []) fun p hp => absurd hp (by simp)).turned (t' := s10.toks) (it := s₂.heap.objs.size) (fun b o hb e => (Heap.get?_update_other s10.heap (Obj.mapSeq (·.push v)) (Ne.symm hb)).trans e) nD neD (.inl List.mem_cons_self) (okX.exf _ List.mem_cons_self).2 fun p hp => by
            have z : p ∈ (X.pn ++ pins) ++ [] := hp
            rw [List.append_nil] at z
            exact pneD p z
        have I12 : Inv (compCx X N scope c) [(s₂.heap.objs.size, lobj (its ++ [v]) _)] σ8 H10 { s10 with heap := s10.heap.update s₂.heap.objs.size (Obj.mapSeq (·.push v)) } :=
          I11.pins_of fun p hp => by
            have z : p = (s₂.heap.objs.size, _) := List.mem_singleton.mp hp
            subst z
            exact ⟨q, nD, neD, nfD, fun v z => nomatch (show Data.seq _ _ = Data.cell v from z)⟩
        refine ⟨m', hm, i + 1, H10, ys ++ [y], its ++ [v], _, I12.weak kp8.1.symm wk, rv5.append (.cons r10 .nil), by rw [List.length_append, List.length_singleton]; omega, ?_, z2, w10⟩
        exact T.keep _ _ _ z1 fun b hb o e => (Heap.get?_update_other s10.heap (Obj.mapSeq (·.push v)) (fneD b hb).symm).trans e
  exact codeAny_compStart_list (loop _ (by rw [← hs3])) (T.self _ 0 _ _ _ st1 (loop _ (by rw [← hs3])))

theorem pe_lc {tg iter elt : Expr} {ifs : List Expr} {scope : Scope} {pos : Pos} {NX : List Str} {sc : Scope} {N : List Str} {f : List (Option Nat)} {wi : TI} {g : CIn → TG} {tc : CIn → TT} {te : CIn → TE}
    (hc : X.calm = true) (ck : compOkB NX sc N f scope = true) (hNX : X.N = NX) (hsc : X.env.scope = sc) (hi : PI X tg iter wi)
    (hg : ∀ c, PG (compCx X N scope c) tg (g c)) (ht : ∀ c, TgOk f (g c)) (hcs : ∀ c, PCs (compCx X N scope c) ifs (tc c)) (he : ∀ c, PE (compCx X N scope c) elt (te c))
    (hs : ∀ x, foldedSetIterable iter X.env x = pure x := by intro _; rfl) : PE X (.ListComp elt [⟨tg, iter, ifs, 0⟩] scope pos) (tLC f wi g tc te) := by
  subst hNX hsc
  intro pins s σ H Q I h
  have ck' := compOk_of ck
  obtain ⟨cl, hclos, hcl1, hcl2⟩ := closure_ex (scope := scope) (env := X.env) fun p hp hf => I.ok.has p.1 (ck'.free p hp hf)
  rw [eval_ListComp]
  refine wpAny_comprehension_free (use := none) rfl hs hclos ck'.kind ck'.names (thn (hi pins s σ H _ I h) fun xv s₁ h₁ => thn h₁ fun itv s₂ h₂ => ?_)
  obtain ⟨it, fp, tn, J, H2, e, I2, T, st, f2, hq⟩ := h₂
  subst e
  refine lc_run (RR := fun acc C => compPost (model X.prog X.w) X.A X.xe none (EP X pins σ Q) acc C) hc ck' hg ht hcs he I2 T st f2 hq hcl1 hcl2 ?_
  intro acc C H' s' m' hn I' hC hL h0 h1 h2 q
  exact ⟨m', hn, fun h'' hs'' => ⟨.ref acc, H', I'.turned (t' := s'.toks) (fun b o hb e => (hs''.2 b hb).trans e) hC hL (.inr h0) h1 h2, rfl, q⟩⟩

/-- name = [ .. for .. ], where the store goes ahead of the block's own names -/
theorem ps_setLC {i : Nat} {x : Str} {px spos : Pos} {tg iter elt : Expr} {ifs : List Expr} {scope : Scope} {pos : Pos} {NX : List Str} {sc : Scope} {N : List Str} {f : List (Option Nat)} {wi : TI} {g : CIn → TG} {tc : CIn → TT} {te : CIn → TE}
    (hN : X.N.Nodup) (hix : X.N[i]? = some x) (hx : X.env.scope.names.lookup x = some .local)
    (hc : X.calm = true) (ck : compOkB NX sc N f scope = true) (hNX : X.N = NX) (hsc : X.env.scope = sc) (hi : PI X tg iter wi)
    (hg : ∀ c, PG (compCx X N scope c) tg (g c)) (ht : ∀ c, TgOk f (g c)) (hcs : ∀ c, PCs (compCx X N scope c) ifs (tc c)) (he : ∀ c, PE (compCx X N scope c) elt (te c))
    (hsw : swapsWith (.ListComp elt [⟨tg, iter, ifs, 0⟩] scope pos) (some (.Name x px)) spos.line X.env = pure true)
    (hs : ∀ x, foldedSetIterable iter X.env x = pure x := by intro _; rfl) : PS X (.Assign [.Name x px] (.ListComp elt [⟨tg, iter, ifs, 0⟩] scope pos) spos) (tAsg (tLC f wi g tc te) (gName i)) := by
  subst hNX hsc
  intro pins s σ H D I h
  have ck' := compOk_of ck
  obtain ⟨cl, hclos, hcl1, hcl2⟩ := closure_ex (scope := scope) (env := X.env) fun p hp hf => I.ok.has p.1 (ck'.free p hp hf)
  rw [exec_Assign_Name_used _ _ _ _ hsw]
  refine wpAny_bind (wpAny_standAt (wpAny_bind ?_))
  show wpAny _ X.A (do let _ ← comprehension (.ListComp elt [⟨tg, iter, ifs, 0⟩] scope pos) scope X.env _ (newList []) false (eval iter X.env) (some (assign (.Name x px) X.env))) _ _ s
  refine wpAny_bind (wpAny_mono (wpAny_comprehension_free (use := some (assign (.Name x px) X.env)) (Q := fun _ s' => SP X pins D .next s') rfl hs hclos ck'.kind ck'.names
    (thn (hi pins s σ H _ I h) fun xv s₁ h₁ => thn h₁ fun itv s₂ h₂ => ?_)) (fun _ s' hq => wpAny_pure (wpAny_pure hq)) fun _ _ e => e)
  obtain ⟨it, fp, tn, J, H2, e, I2, T, st, f2, hq⟩ := h₂
  subst e
  refine lc_run (RR := fun acc C => compPost (model X.prog X.w) X.A X.xe (some (assign (.Name x px) X.env)) (fun _ s' => SP X pins D .next s') acc C) hc ck' hg ht hcs he I2 T st f2 hq hcl1 hcl2 ?_
  intro acc C H' s' m' hn I' hC hL h0 h1 h2 q
  show wpAny _ X.A (assign (.Name x px) X.env (.ref acc)) _ _ _
  refine wpAny_assign_Name (store_ok2 I' hN hix (.inl hx) (v := .ref acc) rfl (fun s'' I'' ⟨a, sb, ha⟩ => ?_) (.inr hx))
  have nC : C ≠ a := by
    rcases ha with z | z
    · rw [z]; exact hL
    · exact (h1 _ _ z).symm
  refine ⟨m', hn.sameBut sb nC, fun h'' hs'' => ?_⟩
  exact ⟨_, H', I''.turned (t' := s''.toks) (fun b o hb e => (hs''.2 b hb).trans e) hC hL (.inr h0) h1 h2, q⟩
end

/-! ### the forms one uses -/
def LcW (n : Nat) (Pv : Nat → List V → Hp → Prop) : Nat → Nat → List V → Hp → Prop := fun i m ys H => m = n - i ∧ i ≤ n ∧ Pv i ys H
def LcY (n : Nat) (Pv : Nat → List V → Hp → Prop) (ys : List V) (i : Nat) : VK := fun y H4 => ys.length < sizeLine ∧ ∃ m', m' < n - i ∧ LcW n Pv (i + 1) m' (ys ++ [y]) H4
def LcN (n : Nat) (Pv : Nat → List V → Hp → Prop) (ys : List V) (i : Nat) : Hp → Prop := fun H3 => ∃ m', m' < n - i ∧ LcW n Pv (i + 1) m' ys H3
theorem lcY {n : Nat} {Pv : Nat → List V → Hp → Prop} {i : Nat} {y : V} {H4 : Hp} {ys : List V} (h2 : ys.length ≤ i) (h3 : i < n) (h4 : n ≤ sizeLine) (h5 : Pv (i + 1) (ys ++ [y]) H4) : LcY n Pv ys i y H4 :=
  ⟨Nat.lt_of_le_of_lt h2 (Nat.lt_of_lt_of_le h3 h4), n - (i + 1), by omega, rfl, h3, h5⟩
theorem lcN {n : Nat} {Pv : Nat → List V → Hp → Prop} {i : Nat} {H3 : Hp} {ys : List V} (h3 : i < n) (h5 : Pv (i + 1) ys H3) : LcN n Pv ys i H3 := ⟨n - (i + 1), by omega, rfl, h3, h5⟩
section
variable {f : List (Option Nat)} {g : TG} {tc : TT} {te : TE} {σ : St} {Q : VK} {H1 : Hp} {K : PySem.W.Frag} {a : Addr} {xs : List V}
/-- Pv: the turn, what has been laid so far, the heap -/
theorem lc_list (Pv : Nat → List V → Hp → Prop) (h0 : Pv 0 [] H1) (hl : ∀ i ys H, Pv i ys H → SqL K H a xs)
    (hs : ∀ i x ys H, xs[i]? = some x → Pv i ys H → g x (inSt f σ) H fun σ2 H2 => tc σ2 H2 fun b H3 => if b = true then te σ2 H3 (LcY xs.length Pv ys i) else LcN xs.length Pv ys i H3)
    (hd : ∀ ys H p, Pv xs.length ys H → H p = none → Q (.ref p) (upd H p (.lst ys))) : LCw f g tc te σ (Itl K a) Q H1 := by
  refine ⟨LcW xs.length Pv, ⟨xs.length, by simp, Nat.zero_le _, h0⟩, ?_⟩
  rintro i m ys H ⟨rfl, hi, p⟩
  have q := hl i ys H p
  by_cases hlt : i < xs.length
  · refine .inr ⟨⟨xs, xs[i], q, by simp [hlt]⟩, fun x H' y => ?_⟩
    obtain ⟨e, y⟩ := y
    subst e
    exact hs i x ys _ (y xs q) p
  · have e : i = xs.length := by omega
    subst e
    exact .inl ⟨⟨xs, q, Nat.le_refl _⟩, fun p' hp => hd ys H p' p hp⟩
theorem lc_tup (Pv : Nat → List V → Hp → Prop) (h0 : Pv 0 [] H1) (hl : ∀ i ys H, Pv i ys H → SqT K H a xs)
    (hs : ∀ i x ys H, xs[i]? = some x → Pv i ys H → g x (inSt f σ) H fun σ2 H2 => tc σ2 H2 fun b H3 => if b = true then te σ2 H3 (LcY xs.length Pv ys i) else LcN xs.length Pv ys i H3)
    (hd : ∀ ys H p, Pv xs.length ys H → H p = none → Q (.ref p) (upd H p (.lst ys))) : LCw f g tc te σ (Itt K a) Q H1 := by
  refine ⟨LcW xs.length Pv, ⟨xs.length, by simp, Nat.zero_le _, h0⟩, ?_⟩
  rintro i m ys H ⟨rfl, hi, p⟩
  have q := hl i ys H p
  by_cases hlt : i < xs.length
  · refine .inr ⟨⟨xs, xs[i], q, by simp [hlt]⟩, fun x H' y => ?_⟩
    obtain ⟨e, y⟩ := y
    subst e
    exact hs i x ys _ (y xs q) p
  · have e : i = xs.length := by omega
    subst e
    exact .inl ⟨⟨xs, q, Nat.le_refl _⟩, fun p' hp => hd ys H p' p hp⟩
theorem lc_range {lo : Int} {n : Nat} (Pv : Nat → List V → Hp → Prop) (h0 : Pv 0 [] H1)
    (hs : ∀ i ys H, i < n → Pv i ys H → g (.int (lo + i)) (inSt f σ) H fun σ2 H2 => tc σ2 H2 fun b H3 => if b = true then te σ2 H3 (LcY n Pv ys i) else LcN n Pv ys i H3)
    (hd : ∀ ys H p, Pv n ys H → H p = none → Q (.ref p) (upd H p (.lst ys))) : LCw f g tc te σ (Itr lo n) Q H1 := by
  refine ⟨LcW n Pv, ⟨n, by simp, Nat.zero_le _, h0⟩, ?_⟩
  rintro i m ys H ⟨rfl, hi, p⟩
  by_cases hlt : i < n
  · refine .inr ⟨hlt, fun x H' y => ?_⟩
    obtain ⟨e, y⟩ := y
    subst e y
    exact hs i ys _ hlt p
  · have e : i = n := by omega
    subst e
    exact .inl ⟨Nat.le_refl _, fun p' hp => hd ys H p' p hp⟩
end
end L2
end

section
set_option Elab.async false
set_option linter.all false
set_option maxRecDepth 100000
namespace L2
open PySem PySem.Spec PyProof.Rows

/-! ### data: what a value is, all the way down (lists and tuples that are tracked) -/
mutual
inductive Rep (H : Hp) : V → PyData → Prop
  | non : Rep H .non .none
  | bl (b : Bool) : Rep H (.bl b) (.bool b)
  | int (i : Int) : Rep H (.int i) (.int i)
  | str (x : Str) : Rep H (.str x) (.str x)
  | lst {a : Addr} {xs : List V} {ds : List PyData} : H a = some (.lst xs) → Reps H xs ds → Rep H (.ref a) (.list ds)
  | tup {a : Addr} {xs : List V} {ds : List PyData} : H a = some (.tup xs) → Reps H xs ds → Rep H (.ref a) (.tuple ds)
  | dct {a : Addr} : H a = some (.dK []) → Rep H (.ref a) (.dict [])
inductive Reps (H : Hp) : List V → List PyData → Prop
  | nil : Reps H [] []
  | cons {x : V} {xs : List V} {d : PyData} {ds : List PyData} : Rep H x d → Reps H xs ds → Reps H (x :: xs) (d :: ds)
end
mutual
theorem Rep.mono {H H' : Hp} (s : Same H H') : ∀ {v : V} {d : PyData}, Rep H v d → Rep H' v d
  | _, _, .non => .non
  | _, _, .bl b => .bl b
  | _, _, .int i => .int i
  | _, _, .str x => .str x
  | _, _, .lst h r => .lst (s _ _ h) (Reps.mono s r)
  | _, _, .tup h r => .tup (s _ _ h) (Reps.mono s r)
  | _, _, .dct h => .dct (s _ _ h)
theorem Reps.mono {H H' : Hp} (s : Same H H') : ∀ {vs : List V} {ds : List PyData}, Reps H vs ds → Reps H' vs ds
  | _, _, .nil => .nil
  | _, _, .cons r t => .cons (Rep.mono s r) (Reps.mono s t)
end
theorem Reps.length {H : Hp} : ∀ {vs : List V} {ds : List PyData}, Reps H vs ds → vs.length = ds.length
  | _, _, .nil => rfl
  | _, _, .cons _ t => by simp [Reps.length t]
theorem Reps.get {H : Hp} : ∀ {vs : List V} {ds : List PyData} {i : Nat} {d : PyData}, Reps H vs ds → ds[i]? = some d → ∃ v, vs[i]? = some v ∧ Rep H v d
  | _, _, _, _, .nil, e => by simp at e
  | _, _, 0, _, .cons r _, e => by simp at e; subst e; exact ⟨_, rfl, r⟩
  | _, _, i + 1, d, .cons _ t, e => by
    obtain ⟨u, h1, h2⟩ := Reps.get (i := i) (d := d) t (by simpa using e)
    exact ⟨u, by simpa using h1, h2⟩
theorem Reps.getV {H : Hp} : ∀ {vs : List V} {ds : List PyData} {i : Nat} {v : V}, Reps H vs ds → vs[i]? = some v → ∃ d, ds[i]? = some d ∧ Rep H v d
  | _, _, _, _, .nil, e => by simp at e
  | _, _, 0, _, .cons r _, e => by simp at e; subst e; exact ⟨_, rfl, r⟩
  | _, _, i + 1, v, .cons _ t, e => by
    obtain ⟨u, h1, h2⟩ := Reps.getV (i := i) (v := v) t (by simpa using e)
    exact ⟨u, by simpa using h1, h2⟩
theorem Reps.snoc {H : Hp} {v : V} {d : PyData} : ∀ {vs : List V} {ds : List PyData}, Reps H vs ds → Rep H v d → Reps H (vs ++ [v]) (ds ++ [d])
  | _, _, .nil, h => .cons h .nil
  | _, _, .cons r t, h => .cons r (Reps.snoc t h)
theorem Reps.append {H : Hp} : ∀ {vs ws : List V} {ds es : List PyData}, Reps H vs ds → Reps H ws es → Reps H (vs ++ ws) (ds ++ es)
  | _, _, _, _, .nil, s => s
  | _, _, _, _, .cons r t, s => .cons r (Reps.append t s)
theorem Reps.set {H : Hp} {v : V} {d : PyData} (r : Rep H v d) : ∀ {vs : List V} {ds : List PyData} (i : Nat), Reps H vs ds → Reps H (vs.set i v) (ds.set i d)
  | _, _, _, .nil => .nil
  | _, _, 0, .cons _ t => .cons r t
  | _, _, i + 1, .cons q t => .cons q (Reps.set r i t)
theorem reps_ints {H : Hp} : ∀ {vs : List V} {l : List Int}, Reps H vs (l.map PyData.int) → vs = l.map V.int
  | _, [], .nil => rfl
  | _, i :: l, .cons (.int _) t => by rw [List.map_cons, reps_ints t]
theorem ints_reps {H : Hp} : ∀ (l : List Int), Reps H (l.map V.int) (l.map PyData.int)
  | [] => .nil
  | i :: l => .cons (.int i) (ints_reps l)

/-! ### == and != of data -/
section
variable {X : Cx} {pins : List (Addr × Obj)} {σ : St} {H : Hp} {s : Shared}
mutual
theorem Rep.reads (I : Inv X pins σ H s) : ∀ {v : V} {d : PyData} {u : Value}, Rep H v d → RelV v u → ∃ as, Reads s.heap u d as
  | _, _, _, .non, r => by cases r; exact ⟨_, .none⟩
  | _, _, _, .bl b, r => by cases r; exact ⟨_, .bool b⟩
  | _, _, _, .int i, r => by obtain ⟨t, rfl⟩ := r; exact ⟨_, .int i t⟩
  | _, _, _, .str x, r => by obtain ⟨t, rfl⟩ := r; exact ⟨_, .str x t⟩
  | _, _, _, .lst h q, r => by
    cases r
    obtain ⟨z, its, n, rv, e⟩ := I.hok _ _ h
    obtain ⟨as, ra⟩ := Reps.reads I q rv
    exact ⟨_, .list e rfl rfl (by simpa using ra)⟩
  | _, _, _, .tup h q, r => by
    cases r
    obtain ⟨z, its, rv, o, e, c, n, dd⟩ := I.hok _ _ h
    obtain ⟨as, ra⟩ := Reps.reads I q rv
    exact ⟨_, .tuple e c dd (by simpa using ra)⟩
  | _, _, _, .dct h, r => by
    cases r
    obtain ⟨z, y, vs, kv, ob, es, ep, e, c, dd, _, pr, _⟩ := I.hok _ _ h
    cases kv
    have ee : es.toList = [] := List.eq_nil_of_length_eq_zero pr.length
    exact ⟨_, .dict (kvs := []) e c.1 dd (by rw [ee]; exact .nil) (by rw [ee]; exact .nil)⟩
theorem Reps.reads (I : Inv X pins σ H s) : ∀ {vs : List V} {ds : List PyData} {us : List Value}, Reps H vs ds → Vals vs us → ∃ as, ReadsAll s.heap us ds as
  | _, _, _, .nil, r => by cases r; exact ⟨_, .nil⟩
  | _, _, _, .cons q t, r => by
    cases r with
    | cons r1 r2 =>
      obtain ⟨as, ra⟩ := Rep.reads I q r1
      obtain ⟨bs, rb⟩ := Reps.reads I t r2
      exact ⟨_, .cons ra rb⟩
end
/-- data that == and != speak of -/
def Fine (d : PyData) : Prop := d.canLay0 = true ∧ d.depth ≤ 60
def rEqD : R2 := fun x y H Q => ∃ d e, Rep H x d ∧ Rep H y e ∧ Fine d ∧ Fine e ∧ Q (.bl (PyData.eqv d e)) H
def rNeD : R2 := fun x y H Q => ∃ d e, Rep H x d ∧ Rep H y e ∧ Fine d ∧ Fine e ∧ Q (.bl (!PyData.eqv d e)) H
theorem op_eqD (hu : X.A.units + 64 < cLine) : OpR X (compareOp .Eq) rEqD := by
  intro pins s σ H x y v u Q I rx ry h
  obtain ⟨d, e, hd, he, fd, fe, q⟩ := h
  obtain ⟨as, ra⟩ := hd.reads I rx
  obtain ⟨bs, rb⟩ := he.reads I ry
  refine SeqAt.compareEq_reads ra rb fd.1 fe.1 ?_ ⟨.bl (PyData.eqv d e), H, I, rfl, q⟩
  have h1 := fd.2
  have h2 : min d.depth e.depth ≤ d.depth := Nat.min_le_left _ _
  omega
theorem op_neD (hu : X.A.units + 64 < cLine) : OpR X (compareOp .NotEq) rNeD := by
  intro pins s σ H x y v u Q I rx ry h
  obtain ⟨d, e, hd, he, fd, fe, q⟩ := h
  obtain ⟨as, ra⟩ := hd.reads I rx
  obtain ⟨bs, rb⟩ := he.reads I ry
  refine SeqAt.compareNe_reads ra rb fd.1 fe.1 ?_ ⟨.bl (!PyData.eqv d e), H, I, rfl, q⟩
  have h1 := fd.2
  have h2 : min d.depth e.depth ≤ d.depth := Nat.min_le_left _ _
  omega
end
theorem eqv_same {d : PyData} (f : Fine d) : PyData.eqv d d = true := SeqAt.eqv_refl d f.1

/-! ### items, lengths, unpacking by data -/
theorem atI_of {α : Type} {xs : List α} {i : Int} {v : α} (h : atI xs i = some v) : ∃ j : Nat, xs[j]? = some v ∧ ixN xs.length i = some j := by
  unfold atI at h
  cases e : ixN xs.length i with
  | none => rw [e] at h; cases h
  | some j => rw [e] at h; exact ⟨j, h, rfl⟩
def IsSq (H : Hp) (x : V) (ds : List PyData) : Prop := Rep H x (.list ds) ∨ Rep H x (.tuple ds)
section
variable {X : Cx}
def rIxD : R2 := fun x y H Q => ∃ ds i d, IsSq H x ds ∧ y = .int i ∧ atI ds i = some d ∧ ∀ v, Rep H v d → Q v H
theorem ix_data : IxR X rIxD := by
  intro value slice pins s σ H x y v u Q I rx ry h hs
  obtain ⟨ds, i, d, hq, rfl, hd, q⟩ := h
  obtain ⟨j, e1, e2⟩ := atI_of hd
  have go : ∀ {xs : List V}, Reps H xs ds → ∃ z, atI xs i = some z ∧ Rep H z d := fun {xs} r => by
    obtain ⟨z, z1, z2⟩ := r.get e1
    refine ⟨z, ?_, z2⟩
    unfold atI
    rw [r.length, e2]
    exact z1
  rcases hq with hq | hq
  · cases hq with
    | lst ha r =>
      obtain ⟨z, z1, z2⟩ := go r
      exact ix_list value slice pins s σ H _ _ v u Q I rx ry ⟨_, _, i, z, rfl, rfl, SqL.of ha, z1, q z z2⟩ hs
  · cases hq with
    | tup ha r =>
      obtain ⟨z, z1, z2⟩ := go r
      exact ix_tup value slice pins s σ H _ _ v u Q I rx ry ⟨_, _, i, z, rfl, rfl, SqT.of ha, z1, q z z2⟩ hs
theorem call_lenD' : CallR X (.builtin "len") (fun xs H Q => ∃ x ds, xs = [x] ∧ IsSq H x ds ∧ Q (.int ds.length) H) := by
  intro pins s σ H xs us Q I r h
  obtain ⟨x, ds, rfl, hq, q⟩ := h
  rcases hq with hq | hq
  · cases hq with
    | lst ha rr => exact call_len_seq pins s σ H _ us Q I r ⟨_, _, rfl, .inl (SqL.of ha), by rw [rr.length]; exact q⟩
  · cases hq with
    | tup ha rr => exact call_len_seq pins s σ H _ us Q I r ⟨_, _, rfl, .inr (SqT.of ha), by rw [rr.length]; exact q⟩
end
/-- a, b, .. = a tuple -/
def gTupD (n : Nat) (t : TGs) : TG := fun v σ H Q => ∃ ds, Rep H v (.tuple ds) ∧ ds.length = n ∧ ∀ xs, Reps H xs ds → t xs σ H Q
theorem pg_tupD {X : Cx} {pos : Pos} {es : List Expr} {k : Nat} {t : TGs} {n : Nat} (hc : X.calm = true) (h : PGs X es t)
    (hn : (assignEach es X.env).length = n := by rfl) (hst : (assignEach es X.env).findIdx? (·.1) = none := by rfl) : PG X (.Tuple es k pos) (gTupD n t) := by
  intro pins s σ H v u Q I r hw
  obtain ⟨ds, hq, hl, hw⟩ := hw
  cases hq with
  | tup ha rr => exact pg_tup hc h hn hst pins s σ H _ u Q I r ⟨_, _, rfl, SqT.of ha, by rw [rr.length, hl], hw _ rr⟩

/-! ### isinstance -/
inductive TyN (H : Hp) : V → String → Prop
  | non : TyN H .non "NoneType"
  | bl (b : Bool) : TyN H (.bl b) "bool"
  | int (i : Int) : TyN H (.int i) "int"
  | str (x : Str) : TyN H (.str x) "str"
  | lst {a : Addr} {xs : List V} : H a = some (.lst xs) → TyN H (.ref a) "list"
  | tup {a : Addr} {xs : List V} : H a = some (.tup xs) → TyN H (.ref a) "tuple"
  | dct {a : Addr} : H a = some (.dK []) → TyN H (.ref a) "dict"
def tyD : PyData → String
  | .none => "NoneType"
  | .bool _ => "bool"
  | .int _ => "int"
  | .str _ => "str"
  | .list _ => "list"
  | .tuple _ => "tuple"
  | .dict _ => "dict"
theorem Rep.ty {H : Hp} {v : V} {d : PyData} (r : Rep H v d) : TyN H v (tyD d) := by
  cases r with
  | non => exact .non
  | bl b => exact .bl b
  | int i => exact .int i
  | str x => exact .str x
  | lst h _ => exact .lst h
  | tup h _ => exact .tup h
  | dct h => exact .dct h
def isiB (T c : String) : Option Bool :=
  if c = "int" then some (T == "int" || T == "bool") else if c = "bool" then some (T == "bool") else if c = "list" then some (T == "list") else if c = "tuple" then some (T == "tuple") else if c = "str" then some (T == "str") else if c = "dict" then some (T == "dict") else none
theorem isi_lst {prog : Program} {w : World} {A : Around} {E : Value → Shared → Prop} {s : Shared} {Q : Value → Shared → Prop} {a : Addr} {o : Obj} {c : String} {b : Bool} (hx : s.heap.get? a = some o) (hc : o.cls = .type "list") (e : isiB "list" c = some b) (h : ∀ t, Q (.bool b) { s with toks := t }) :
    wpAny (model prog w) A (call (.builtin "isinstance") [.ref a, .type c]) Q E s := by
  unfold isiB at e
  split at e
  · rename_i z; subst z; cases e; exact IsiPair.list_int hx hc (h _)
  · split at e
    · rename_i z; subst z; cases e; exact IsiPair.list_bool hx hc (h _)
    · split at e
      · rename_i z; subst z; cases e; exact IsiPair.list_list hx hc (h _)
      · split at e
        · rename_i z; subst z; cases e; exact IsiPair.list_tuple hx hc (h _)
        · split at e
          · rename_i z; subst z; cases e; exact IsiPair.list_str hx hc (h _)
          · split at e
            · rename_i z; subst z; cases e; exact IsiPair.list_dict hx hc (h _)
            · cases e
theorem isi_tup {prog : Program} {w : World} {A : Around} {E : Value → Shared → Prop} {s : Shared} {Q : Value → Shared → Prop} {a : Addr} {o : Obj} {c : String} {b : Bool} (hx : s.heap.get? a = some o) (hc : o.cls = .type "tuple") (e : isiB "tuple" c = some b) (h : ∀ t, Q (.bool b) { s with toks := t }) :
    wpAny (model prog w) A (call (.builtin "isinstance") [.ref a, .type c]) Q E s := by
  unfold isiB at e
  split at e
  · rename_i z; subst z; cases e; exact IsiPair.tuple_int hx hc (h _)
  · split at e
    · rename_i z; subst z; cases e; exact IsiPair.tuple_bool hx hc (h _)
    · split at e
      · rename_i z; subst z; cases e; exact IsiPair.tuple_list hx hc (h _)
      · split at e
        · rename_i z; subst z; cases e; exact IsiPair.tuple_tuple hx hc (h _)
        · split at e
          · rename_i z; subst z; cases e; exact IsiPair.tuple_str hx hc (h _)
          · split at e
            · rename_i z; subst z; cases e; exact IsiPair.tuple_dict hx hc (h _)
            · cases e
theorem isi_dct {prog : Program} {w : World} {A : Around} {E : Value → Shared → Prop} {s : Shared} {Q : Value → Shared → Prop} {a : Addr} {o : Obj} {c : String} {b : Bool} (hx : s.heap.get? a = some o) (hc : o.cls = .type "dict") (e : isiB "dict" c = some b) (h : ∀ t, Q (.bool b) { s with toks := t }) :
    wpAny (model prog w) A (call (.builtin "isinstance") [.ref a, .type c]) Q E s := by
  unfold isiB at e
  split at e
  · rename_i z; subst z; cases e; exact IsiPair.dict_int hx hc (h _)
  · split at e
    · rename_i z; subst z; cases e; exact IsiPair.dict_bool hx hc (h _)
    · split at e
      · rename_i z; subst z; cases e; exact IsiPair.dict_list hx hc (h _)
      · split at e
        · rename_i z; subst z; cases e; exact IsiPair.dict_tuple hx hc (h _)
        · split at e
          · rename_i z; subst z; cases e; exact IsiPair.dict_str hx hc (h _)
          · split at e
            · rename_i z; subst z; cases e; exact IsiPair.dict_dict hx hc (h _)
            · cases e
theorem isi_flat {prog : Program} {w : World} {A : Around} {E : Value → Shared → Prop} {s : Shared} {Q : Value → Shared → Prop} {H : Hp} {x : V} {u : Value} {T c : String} {b : Bool} (ty : TyN H x T) (rx : RelV x u) (hf : ∀ a, x ≠ .ref a) (e : isiB T c = some b) (h : ∀ t, Q (.bool b) { s with toks := t }) :
    wpAny (model prog w) A (call (.builtin "isinstance") [u, .type c]) Q E s := by
  unfold isiB at e
  split at e
  · rename_i z; subst z; cases e
    cases ty with
    | non => cases rx; exact IsiPair.NoneType_int (h _)
    | bl b => cases rx; exact IsiPair.bool_int (h _)
    | int i => obtain ⟨t, rfl⟩ := rx; exact IsiPair.int_int (h _)
    | str i => obtain ⟨t, rfl⟩ := rx; exact IsiPair.str_int (h _)
    | lst _ => exact absurd rfl (hf _)
    | tup _ => exact absurd rfl (hf _)
    | dct _ => exact absurd rfl (hf _)
  · split at e
    · rename_i z; subst z; cases e
      cases ty with
      | non => cases rx; exact IsiPair.NoneType_bool (h _)
      | bl b => cases rx; exact IsiPair.bool_bool (h _)
      | int i => obtain ⟨t, rfl⟩ := rx; exact IsiPair.int_bool (h _)
      | str i => obtain ⟨t, rfl⟩ := rx; exact IsiPair.str_bool (h _)
      | lst _ => exact absurd rfl (hf _)
      | tup _ => exact absurd rfl (hf _)
      | dct _ => exact absurd rfl (hf _)
    · split at e
      · rename_i z; subst z; cases e
        cases ty with
        | non => cases rx; exact IsiPair.NoneType_list (h _)
        | bl b => cases rx; exact IsiPair.bool_list (h _)
        | int i => obtain ⟨t, rfl⟩ := rx; exact IsiPair.int_list (h _)
        | str i => obtain ⟨t, rfl⟩ := rx; exact IsiPair.str_list (h _)
        | lst _ => exact absurd rfl (hf _)
        | tup _ => exact absurd rfl (hf _)
        | dct _ => exact absurd rfl (hf _)
      · split at e
        · rename_i z; subst z; cases e
          cases ty with
          | non => cases rx; exact IsiPair.NoneType_tuple (h _)
          | bl b => cases rx; exact IsiPair.bool_tuple (h _)
          | int i => obtain ⟨t, rfl⟩ := rx; exact IsiPair.int_tuple (h _)
          | str i => obtain ⟨t, rfl⟩ := rx; exact IsiPair.str_tuple (h _)
          | lst _ => exact absurd rfl (hf _)
          | tup _ => exact absurd rfl (hf _)
          | dct _ => exact absurd rfl (hf _)
        · split at e
          · rename_i z; subst z; cases e
            cases ty with
            | non => cases rx; exact IsiPair.NoneType_str (h _)
            | bl b => cases rx; exact IsiPair.bool_str (h _)
            | int i => obtain ⟨t, rfl⟩ := rx; exact IsiPair.int_str (h _)
            | str i => obtain ⟨t, rfl⟩ := rx; exact IsiPair.str_str (h _)
            | lst _ => exact absurd rfl (hf _)
            | tup _ => exact absurd rfl (hf _)
            | dct _ => exact absurd rfl (hf _)
          · split at e
            · rename_i z; subst z; cases e
              cases ty with
              | non => cases rx; exact IsiPair.NoneType_dict (h _)
              | bl b => cases rx; exact IsiPair.bool_dict (h _)
              | int i => obtain ⟨t, rfl⟩ := rx; exact IsiPair.int_dict (h _)
              | str i => obtain ⟨t, rfl⟩ := rx; exact IsiPair.str_dict (h _)
              | lst _ => exact absurd rfl (hf _)
              | tup _ => exact absurd rfl (hf _)
              | dct _ => exact absurd rfl (hf _)
            · cases e
section
variable {X : Cx}
theorem call_isi : CallR X (.builtin "isinstance") (fun xs H Q => ∃ x T c b, xs = [x, .ty c] ∧ TyN H x T ∧ isiB T c = some b ∧ Q (.bl b) H) := by
  intro pins s σ H xs us Q I r h
  obtain ⟨x, T, c, b, rfl, ty, e, q⟩ := h
  obtain ⟨u, w', rfl, rx, rc⟩ := vals2 r
  cases (show w' = Value.type c from rc)
  have fin : ∀ t, EP X pins σ Q (.bool b) { s with toks := t } := fun t => ⟨.bl b, H, I.tok t, rfl, q⟩
  by_cases hf : ∀ a, x ≠ .ref a
  · exact isi_flat ty rx hf e fin
  · cases ty with
    | lst ha =>
      cases rx
      obtain ⟨z, its, n, rv, e1⟩ := I.hok _ _ ha
      exact isi_lst e1 rfl e fin
    | tup ha =>
      cases rx
      obtain ⟨z, its, rv, o, e1, c1, n, dd⟩ := I.hok _ _ ha
      exact isi_tup e1 c1 e fin
    | dct ha =>
      cases rx
      obtain ⟨z, y, vs, kv, ob, es, ep, e1, c1, _⟩ := I.hok _ _ ha
      exact isi_dct e1 c1.1 e fin
    | _ => exact absurd (fun a z => nomatch z) hf

/-! ### arithmetic of any size -/
def CDivB (_ j : Int) : Prop := 0 < j ∧ j < 2 ^ 8000
theorem log2_of {j : Int} (h : CDivB 0 j) : j.natAbs.log2 < 9000 := by
  have h0 : j.natAbs ≠ 0 := by have := h.1; omega
  have h1 : j.natAbs < 2 ^ 8000 := by have := h.2; have := h.1; omega
  have := (Nat.log2_lt h0).mpr h1
  omega
theorem op_fdivB : OpR X (binaryOp .FloorDiv) (rI CDivB fun i j => .int (i / j)) := opI fun i j _ _ _ _ _ hc q => by
  have e : i.fdiv j = i / j := Int.fdiv_eq_ediv_of_nonneg _ (Int.le_of_lt hc.1)
  refine floordiv_int (Int.ne_of_gt hc.1) ?_ (.inl (PyProof.noPylong_of_log2 (log2_of hc)))
  rw [e]
  exact q
def CShl (i j : Int) : Prop := 0 ≤ j ∧ (Builtin.Int.intBits i : Int) + j ≤ 2 ^ 27
theorem op_shlB : OpR X (binaryOp .LShift) (rI CShl fun i j => .int (i * 2 ^ j.toNat)) := opI fun _ _ _ _ _ _ _ hc q => lshift_int hc.1 hc.2 q
theorem op_mulB : OpR X (binaryOp .Mult) (rI IntMulOk fun i j => .int (i * j)) := opI fun _ _ _ _ _ _ _ hc q => mul_int q hc
theorem mt_bits : MtR X "int.bit_length" (fun x xs H Q => ∃ i, x = .int i ∧ xs = [] ∧ Q (.int (Builtin.Int.intBits i)) H) := by
  intro pins s σ H x xs v us Q I rx rv h
  obtain ⟨i, rfl, rfl, q⟩ := h
  obtain ⟨t, rfl⟩ := rx
  cases rv
  exact call_givesAt F.slot_int_bit_length (typeIs_int s i t) F.entry_int_bit_length (F.args_int_bit_length_1 _) (Gives.at (P := fun _ => True) (AutoIntG2.int_bit_length_int_0 i t)) trivial (show EP X pins σ Q _ _ from ⟨.int (Builtin.Int.intBits i), H, I.tok _, ⟨_, rfl⟩, q⟩)
end

/-! ### heaps -/
theorem Same.upd {H H' : Hp} {a : Addr} {o : HO} (s : Same H H') (h : H a = none) : Same H (L2.upd H' a o) := fun b u e => by
  rw [upd_ne (ne_of_none e h)]; exact s b u e
theorem Same.new {H : Hp} {a : Addr} {o : HO} (h : H a = none) : Same H (L2.upd H a o) := (Same.refl H).upd h
theorem Same.sqL {K : PySem.W.Frag} {H H' : Hp} {a : Addr} {xs : List V} (e : Same H H') (h : SqL K H a xs) : SqL K H' a xs := e.seq h

/-! ### a comprehension whose elements are data -/
def LcS (H1 : Hp) (D : Nat → List PyData) : Nat → List V → Hp → Prop := fun i ys H => Same H1 H ∧ Reps H ys (D i) ∧ (D i).length ≤ i
theorem lcS0 {H1 : Hp} {D : Nat → List PyData} (h0 : D 0 = []) : LcS H1 D 0 [] H1 := ⟨Same.refl _, by rw [h0]; exact .nil, by rw [h0]; exact Nat.le_refl _⟩
theorem lcSY {H1 H H4 : Hp} {D : Nat → List PyData} {n i : Nat} {ys : List V} {y : V} {d : PyData} (p : LcS H1 D i ys H) (hi : i < n) (hn : n ≤ sizeLine) (s : Same H H4) (r : Rep H4 y d) (e : D (i + 1) = D i ++ [d]) :
    LcY n (LcS H1 D) ys i y H4 := by
  obtain ⟨p1, p3, p4⟩ := p
  have hl := p3.length
  exact lcY (by omega) hi hn ⟨p1.trans s, by rw [e]; exact (p3.mono s).snoc r, by rw [e, List.length_append]; simp; omega⟩
theorem lcSN {H1 H H3 : Hp} {D : Nat → List PyData} {n i : Nat} {ys : List V} (p : LcS H1 D i ys H) (hi : i < n) (s : Same H H3) (e : D (i + 1) = D i) : LcN n (LcS H1 D) ys i H3 := by
  obtain ⟨p1, p3, p4⟩ := p
  exact lcN hi ⟨p1.trans s, by rw [e]; exact p3.mono s, by rw [e]; omega⟩
/-! ### an empty dict -/
theorem inv_big {X : Cx} {pins : List (Addr × Obj)} {σ : St} {H : Hp} {s : Shared} (I : Inv X pins σ H s) : sysModules < s.heap.objs.size :=
  Nat.lt_trans (show sysModules < mainGlobals by decide) ((I.mod.glob.keeps I.bk).lt)
def tDictE : TE := fun _ H Q => ∀ p, H p = none → Q (.ref p) (upd H p (.dK []))
theorem pe_dictE {X : Cx} {pos : Pos} : PE X (.Dict [] [] pos) tDictE := fun pins s σ H Q I h =>
  wpAny_Dict_empty ⟨.ref s.heap.objs.size, _, I.laid (a := s.heap.objs.size) (o := .dK []) (t' := s.toks) (fun _ _ q => Heap.get?_push_of_some _ q) (Nat.le_refl _) ⟨Nat.zero_le _, beq_eq_false_iff_ne.mpr (Ne.symm (Nat.ne_of_lt (inv_big I))), [], .nil, Heap.DictOf.new s.heap⟩, rfl, h _ (I.hok.fresh (Nat.le_refl _))⟩
end L2
end

section
set_option Elab.async false
set_option linter.all false
set_option maxRecDepth 100000
namespace Att
open PySem PySem.W PySem.Calls PyProof.Rows
theorem weight_mem : ∀ (ns : List Int) (i : Int), i ∈ ns → Builtin.Int.intBits i ≤ WData.weightAll (ns.map WData.int)
  | [], i, h => by simp at h
  | n :: ns, i, h => by
    rw [List.map_cons, WData.weightAll]
    rcases List.mem_cons.mp h with rfl | h
    · have : WData.weight (.int i) = Builtin.Int.intBits i := by rw [WData.weight]; rfl
      omega
    · have := weight_mem ns i h
      omega
theorem bits_of {ns : List Int} (h : WData.layableAll [WData.list (ns.map WData.int)] = true) : ∀ i ∈ ns, Builtin.Int.intBits i ≤ 2 ^ 20 := fun i hi => by
  have h1 := layableW_arg h (WData.list (ns.map WData.int)) (List.mem_singleton.mpr rfl)
  obtain ⟨_, _, h2⟩ := layableW_iff.mp h1
  rw [WData.weight] at h2
  exact Nat.le_trans (weight_mem ns i hi) h2
theorem attach_callW {l : OpenLaw} {n : Nat} {q : Program} {loose : List Str} {XP : (Str → Option Value) → Heap → Prop} {YP : World → Heap → Prop} {d : DefRec}
    (hn : l.most = some n) (hdf : d.params.defaults = [])
    (call : ∀ (w : World) (s₀ s₁ : Shared) (mg mb : Str → Option Value) (fa : Addr) (o : Obj) (pm cd doc : Value) (a : Addr) (vs : List Value) (ns : List Int),
      Ground q loose [] XP w s₀ mg mb s₁.heap → YP w s₁.heap →
      s₁.heap.get? fa = some o → o.data = .func (docDef d.name d.params d.body d.scope pm cd doc) → s₁.heap.CodeRec cd d.name → mg d.name = some (.ref fa) →
      s₁.heap.get? a = some { cls := .type "list", data := .seq vs.toArray } → IntsAre vs ns → ns.length ≤ n → (∀ i ∈ ns, Builtin.Int.intBits i ≤ 2 ^ 20) → s₁.gens = #[] →
      codeAny (model l.prog w) callerA (.call (.ref fa) ⟨[.ref a], []⟩) (fun r s' => r = .ok (.ret (.bool true)) ∧ OldK s₁.heap s'.heap ∧ s'.os = s₁.os ∧ AllBare s'.gens) s₁) :
    WalkO q loose XP YP l.row.toRowW d [] (fun f vs => PySem.call f vs) := by
  intro w s₀ s₁ mg mb G Y fa o pm cd doc dV kV ho hd hcd hD hmg hg args vals as hpre hlay hrd hwl hlo
  obtain rfl : dV = .none := Dflts.none hD hdf
  obtain rfl : kV = .none := Dflts.noKw hD
  obtain ⟨a, vs, ns, rfl, rfl, hobj, hints, hlen⟩ := script_of hn hpre hwl
  refine enter_call (codeAny_mono (call w s₀ s₁ mg mb fa o pm cd doc a vs ns G Y ho (fd_plain hd) hcd hmg hobj hints hlen (bits_of hlay) hg) fun r s' hq => ?_)
  obtain ⟨rfl, h2, h3, h4⟩ := hq
  exact ⟨.inl ⟨.bool true, .bool true, [], rfl, fun _ => rfl, .bool true, post_true l _, fun _ => ⟨List.Pairwise.nil, fun _ hm => (nomatch hm)⟩⟩, h2, h3, h4⟩
end Att
namespace L2
open PySem PySem.Spec PyProof.Rows
/-- the script: where it stands, its ints -/
structure Scr (K : PySem.W.Frag) (H : Hp) (a : Addr) (ns : List Int) : Prop where
  sq : SqL K H a (ns.map V.int)
  len : ns.length ≤ 63
  bits : ∀ i ∈ ns, Builtin.Int.intBits i ≤ 2 ^ 20
theorem Scr.mono {K : PySem.W.Frag} {H H' : Hp} {a : Addr} {ns : List Int} (h : Scr K H a ns) (s : Same H H') : Scr K H' a ns := ⟨s.seq h.sq, h.len, h.bits⟩
/-- the law's own promise -/
def spLaw (K : PySem.W.Frag) : Sp := fun vs H Q _ => ∃ (a : Addr) (ns : List Int), vs = [.ref a] ∧ Scr K H a ns ∧ ∀ H', Q (.bl true) H'
theorem walk_law {l : PySem.W.OpenLaw} {k : Nat} {q : Program} {loose : List Str} {XP : (Str → Option Value) → Heap → Prop} {YP : World → Heap → Prop} {d : DefRec} {K : Params → PySem.W.Frag} {x : Str}
    (hn : l.most = some 63) (hdf : d.params.defaults = []) (hr : Room k callerA)
    (hY : ∀ (w : World) (h : Heap), YP w h → (K w.params).In h)
    (F : ∀ (w : World) (mg : Str → Option Value) (fa : Addr) (h : Heap), (K w.params).In h → h.Ns mainGlobals mg → mg d.name = some (.ref fa) →
      ∃ fd : FuncData, (∀ (s : Shared) (u : Value), BindsTo s fd ⟨[u], []⟩ [(x, u)]) ∧
        ∀ base : Heap, (K w.params).In base → base.Ns mainGlobals mg → FnOk l.prog w (K w.params) mg base CX0 k fa fd [x] (spLaw (K w.params))) :
    PySem.W.WalkO q loose XP YP l.row.toRowW d [] (fun f vs => PySem.call f vs) := by
  refine Att.attach_callW hn hdf fun w s₀ s₁ mg mb fa o pm cd doc a vs ns G Y ho hd hcd hmg hobj hints hlen hbits hg => ?_
  have KX := hY w _ Y
  obtain ⟨fd, hb, hF⟩ := F w mg fa _ KX G.T.g hmg
  exact law_call (CX := CX0) KX G.T.g G.T.b G.T.builtins G.T.nolimit hg hobj hints (Nat.le_trans hlen (by decide)) hr hF hb (fun H hO hS => ⟨a, ns, rfl, ⟨hS, hlen, hbits⟩, fun _ => rfl⟩) fun H e s' z => z

/-! ### a def of the text as one calls it -/
structure Df (K : PySem.W.Frag) (mg : Str → Option Value) (x : Str) (st : Stmt) (ps : List Str) : Prop where
  ex : ∃ f fd, Fun K x x st f fd ∧ mg x = some (.ref f) ∧ Binds K fd ps []
def Cal (P : Program) (w : World) (K : PySem.W.Frag) (mg : Str → Option Value) (base : Heap) (x : Str) (ps : List Str) (k : Nat) (sp : Sp) : Prop :=
  ∃ f fd, mg x = some (.ref f) ∧ PySem.W.keepIn K (.ref f) = true ∧ Binds K fd ps [] ∧ FnOk P w K mg base CX0 k f fd ps sp
theorem Df.cal {P : Program} {w : World} {K : PySem.W.Frag} {mg : Str → Option Value} {base : Heap} {x : Str} {st : Stmt} {N ps : List Str} {k : Nat} {sp : Sp} (D : Df K mg x st ps) (S : FnScope N ps (defScope st)) (len : ∀ vs H Q E, sp vs H Q E → vs.length = ps.length)
    (hbody : ∀ (f : Addr) (cdv : Value) (A : Around) (outer : List Env) (s : Shared) (H : Hp) (vs : List V) (Q : VK) (E : XK), Room k (A.deeper (envOfC x (defScope st) s.heap.objs.size f cdv)) → sp vs H Q E →
      ∃ t, PSs (cxOf CX0 P w K mg base N x (defScope st) f cdv A outer s H E).nox (defBody st) t ∧ t { nx := fun _ H' => Q .non H', rt := Q } (start N vs) H) : Cal P w K mg base x ps (k + 1) sp := by
  obtain ⟨f, fd, F, hm, hb⟩ := D.ex
  exact ⟨f, fd, hm, F.kp, hb, F.ok S len fun cdv A outer s H vs Q E hr h => hbody f cdv A outer s H vs Q E hr h⟩
section
variable {X : Cx}
theorem pe_cal {x : Str} {p pos : Pos} {e : Expr} {es : List Expr} {t : TA} {ps : List Str} {j k : Nat} {sp : Sp} (C : Cal X.prog X.w X.K X.mg X.base x ps j sp) (hr : Room k X.A) (ha : PA X (e :: es) t) (hj : j ≤ k := by decide) (hg : Gl X x := by rfl)
    (hdb : (x == ("__debug__" : Str)) = false := by decide +kernel)
    (he : starEach (e :: es) X.env = (false, eval e X.env) :: starEach es X.env := by rfl) (hpl : (backTo pos (starEach es X.env)).any (·.1) = false := by rfl) : PE X (.Call (.Name x p) (e :: es) [] pos) (tCall sp [] E0 t) := by
  obtain ⟨f, fd, hm, hk, hb, F⟩ := C
  exact pe_call F (hr.mono hj) hg hm hk hb .nil pass0 ha hdb he hpl
end
/-! ### built-in names -/
theorem bt_abs : bootBuiltins "abs" = some (.builtin "abs") := by decide +kernel
theorem bt_len : bootBuiltins "len" = some (.builtin "len") := by decide +kernel
theorem bt_max : bootBuiltins "max" = some (.builtin "max") := by decide +kernel
theorem bt_min : bootBuiltins "min" = some (.builtin "min") := by decide +kernel
theorem bt_sum : bootBuiltins "sum" = some (.builtin "sum") := by decide +kernel
theorem bt_any : bootBuiltins "any" = some (.builtin "any") := by decide +kernel
theorem bt_all : bootBuiltins "all" = some (.builtin "all") := by decide +kernel
theorem bt_isi : bootBuiltins "isinstance" = some (.builtin "isinstance") := by decide +kernel
theorem bt_int : bootBuiltins "int" = some (.type "int") := by decide +kernel
theorem bt_bool : bootBuiltins "bool" = some (.type "bool") := by decide +kernel
theorem bt_list : bootBuiltins "list" = some (.type "list") := by decide +kernel
theorem bt_tuple : bootBuiltins "tuple" = some (.type "tuple") := by decide +kernel
end L2
end

section
set_option Elab.async false
set_option linter.all false
set_option maxRecDepth 100000
namespace L2
open PySem PySem.Spec PyProof.Rows
/-! ### a walk over data -/
theorem Turn.map {P : Program} {w : World} {K : PySem.W.Frag} {tg : Expr} {J J' : It} {fp : List Addr} {it : Addr} {tn : Nat → Heap → Prop} (T : Turn P w K tg J fp it tn)
    (hg : ∀ i H, J'.go i H → J.go i H) (hy : ∀ i H x H', J'.go i H → J.yld i H x H' → J'.yld i H x H') (hs : ∀ i H, J'.stop i H → J.stop i H) : Turn P w K tg J' fp it tn where
  mem := T.mem
  obj := T.obj
  keep := T.keep
  item := fun X h1 h2 h3 h4 i pins s σ H E I hf st go => thn (T.item X h1 h2 h3 h4 i pins s σ H E I hf st (hg i H go)) fun r s1 ⟨u, hr, h⟩ =>
    ⟨u, hr, thn h fun _ s2 ⟨x, H', a, b, c, d⟩ => ⟨x, H', a, b, hy i H x H' go c, d⟩⟩
  done := fun X h1 h2 h3 h4 i pins s σ H E I hf st stop => T.done X h1 h2 h3 h4 i pins s σ H E I hf st (hs i H stop)
  self := T.self
mutual
theorem Rep.uniq {H : Hp} : ∀ {v : V} {d e : PyData}, Rep H v d → Rep H v e → d = e
  | _, _, _, .non, .non => rfl
  | _, _, _, .bl b, .bl _ => rfl
  | _, _, _, .int b, .int _ => rfl
  | _, _, _, .str b, .str _ => rfl
  | _, _, _, .lst h r, .lst h' r' => by
    rw [h] at h'; cases h'
    rw [Reps.uniq r r']
  | _, _, _, .tup h r, .tup h' r' => by
    rw [h] at h'; cases h'
    rw [Reps.uniq r r']
  | _, _, _, .lst h r, .tup h' r' => by rw [h] at h'; cases h'
  | _, _, _, .tup h r, .lst h' r' => by rw [h] at h'; cases h'
  | _, _, _, .dct h, .dct h' => rfl
  | _, _, _, .lst h r, .dct h' => by rw [h] at h'; cases h'
  | _, _, _, .tup h r, .dct h' => by rw [h] at h'; cases h'
  | _, _, _, .dct h, .lst h' r' => by rw [h] at h'; cases h'
  | _, _, _, .dct h, .tup h' r' => by rw [h] at h'; cases h'
theorem Reps.uniq {H : Hp} : ∀ {vs : List V} {ds es : List PyData}, Reps H vs ds → Reps H vs es → ds = es
  | _, _, _, .nil, .nil => rfl
  | _, _, _, .cons r t, .cons r' t' => by rw [Rep.uniq r r', Reps.uniq t t']
end
def ItdL (v : V) : It := ⟨fun i H => ∃ ds d, Rep H v (.list ds) ∧ ds[i]? = some d, fun i H x H' => H' = H ∧ ∀ ds d, Rep H v (.list ds) → ds[i]? = some d → Rep H x d, fun i H => ∃ ds, Rep H v (.list ds) ∧ ds.length ≤ i⟩
def ItdT (v : V) : It := ⟨fun i H => ∃ ds d, Rep H v (.tuple ds) ∧ ds[i]? = some d, fun i H x H' => H' = H ∧ ∀ ds d, Rep H v (.tuple ds) → ds[i]? = some d → Rep H x d, fun i H => ∃ ds, Rep H v (.tuple ds) ∧ ds.length ≤ i⟩
def iDL (tl : TE) : TI := fun σ H R => tl σ H fun x H1 => (∃ ds, Rep H1 x (.list ds)) ∧ R (ItdL x) H1
def iDT (tl : TE) : TI := fun σ H R => tl σ H fun x H1 => (∃ ds, Rep H1 x (.tuple ds)) ∧ R (ItdT x) H1
section
variable {X : Cx} {tg : Expr}
theorem pi_dlist {l : Expr} {tl : TE} (hl : PE X l tl) : PI X tg l (iDL tl) := by
  intro pins s σ H R I h
  refine thn (hl pins s σ H _ I h) fun v s1 ⟨x, H1, I1, r1, q1⟩ => ?_
  obtain ⟨⟨ds, hr⟩, q⟩ := q1
  cases hr with
  | @lst a xs _ ha rr =>
    cases r1
    obtain ⟨its, rv, p, hz⟩ := I1.list (SqL.of (K := X.K) ha)
    refine wpAny_pyIter_list p.isList ?_
    refine ⟨s1.heap.objs.size, [s1.heap.objs.size], _, _, H1, rfl, I1.kept (t' := s1.toks) fun b o e => Heap.get?_push_of_some _ e, (turn_list a _).map (J' := ItdL (.ref a)) (fun i H' z => ?_) (fun i H' x' H'' z y => ?_) (fun i H' z => ?_), ⟨_, Heap.get?_push_size _ rfl, rfl, rfl⟩, fun b hb => ?_, q⟩
    · obtain ⟨es, d, hd, hi⟩ := z
      cases hd with
      | lst hb rb =>
        obtain ⟨z, z1, _⟩ := rb.get hi
        exact ⟨_, z, SqL.of hb, z1⟩
    · refine ⟨y.1, fun es d hd hi => ?_⟩
      cases hd with
      | lst hb rb =>
        obtain ⟨d', e1, e2⟩ := rb.getV (y.2 _ (SqL.of hb))
        rw [hi] at e1; cases e1
        exact e2
    · obtain ⟨es, hd, hi⟩ := z
      cases hd with
      | lst hb rb => exact ⟨_, SqL.of hb, by rw [rb.length]; exact hi⟩
    · have e : b = s1.heap.objs.size := by simpa using hb
      subst e
      exact I1.fpOk (Nat.le_refl _) (I1.hok.fresh (Nat.le_refl _))
theorem pi_dtup {l : Expr} {tl : TE} (hl : PE X l tl) : PI X tg l (iDT tl) := by
  intro pins s σ H R I h
  refine thn (hl pins s σ H _ I h) fun v s1 ⟨x, H1, I1, r1, q1⟩ => ?_
  obtain ⟨⟨ds, hr⟩, q⟩ := q1
  cases hr with
  | @tup a xs _ ha rr =>
    cases r1
    obtain ⟨its, rv, p, hz⟩ := I1.tuple (SqT.of (K := X.K) ha)
    refine wpAny_pyIter_tuple (show s1.heap.IsTuple a its.toArray from p) ?_
    refine ⟨s1.heap.objs.size, [s1.heap.objs.size], _, _, H1, rfl, I1.kept (t' := s1.toks) fun b o e => Heap.get?_push_of_some _ e, (turn_tuple a _).map (J' := ItdT (.ref a)) (fun i H' z => ?_) (fun i H' x' H'' z y => ?_) (fun i H' z => ?_), ⟨_, Heap.get?_push_size _ rfl, rfl, rfl⟩, fun b hb => ?_, q⟩
    · obtain ⟨es, d, hd, hi⟩ := z
      cases hd with
      | tup hb rb =>
        obtain ⟨z, z1, _⟩ := rb.get hi
        exact ⟨_, z, SqT.of hb, z1⟩
    · refine ⟨y.1, fun es d hd hi => ?_⟩
      cases hd with
      | tup hb rb =>
        obtain ⟨d', e1, e2⟩ := rb.getV (y.2 _ (SqT.of hb))
        rw [hi] at e1; cases e1
        exact e2
    · obtain ⟨es, hd, hi⟩ := z
      cases hd with
      | tup hb rb => exact ⟨_, SqT.of hb, by rw [rb.length]; exact hi⟩
    · have e : b = s1.heap.objs.size := by simpa using hb
      subst e
      exact I1.fpOk (Nat.le_refl _) (I1.hok.fresh (Nat.le_refl _))
end
section
variable {v : V} {ds : List PyData} {g : TG} {tb : TS} {D : Ends} {σ : St} {H : Hp}
theorem for_dlist (Pv : Nat → St → Hp → Prop) (h0 : Pv 0 σ H) (hl : ∀ i σ H, Pv i σ H → Rep H v (.list ds))
    (hs : ∀ i x d σ H, ds[i]? = some d → Rep H x d → Pv i σ H → g x σ H fun σ2 H2 => tb { D with nx := Pv (i + 1), ct := Pv (i + 1), bk := D.nx } σ2 H2) (hd : ∀ σ H, Pv ds.length σ H → D.nx σ H) :
    ∃ W : Nat → Nat → St → Hp → Prop, (∃ m, W 0 m σ H) ∧ ∀ i m σ H, W i m σ H →
      ((ItdL v).stop i H ∧ D.nx σ H) ∨ ((ItdL v).go i H ∧ ∃ N : St → Hp → Prop, (∀ σ' H', N σ' H' → ∃ m', m' < m ∧ W (i + 1) m' σ' H') ∧ ∀ x H', (ItdL v).yld i H x H' → g x σ H' fun σ2 H2 => tb { D with nx := N, ct := N, bk := D.nx } σ2 H2) := by
  refine ⟨fun i m σ H => m = ds.length - i ∧ i ≤ ds.length ∧ Pv i σ H, ⟨ds.length, by simp, Nat.zero_le _, h0⟩, ?_⟩
  rintro i m σ H ⟨rfl, hi, p⟩
  have q := hl i σ H p
  by_cases hlt : i < ds.length
  · have e : ds[i]? = some ds[i] := by simp [hlt]
    refine .inr ⟨⟨ds, ds[i], q, e⟩, Pv (i + 1), fun σ' H' p' => ⟨ds.length - (i + 1), by omega, rfl, hlt, p'⟩, fun x H' y => ?_⟩
    obtain ⟨e1, y⟩ := y
    subst e1
    exact hs i x _ σ _ e (y ds _ q e) p
  · have e : i = ds.length := by omega
    subst e
    exact .inl ⟨⟨ds, q, Nat.le_refl _⟩, hd σ H p⟩
theorem for_dtup (Pv : Nat → St → Hp → Prop) (h0 : Pv 0 σ H) (hl : ∀ i σ H, Pv i σ H → Rep H v (.tuple ds))
    (hs : ∀ i x d σ H, ds[i]? = some d → Rep H x d → Pv i σ H → g x σ H fun σ2 H2 => tb { D with nx := Pv (i + 1), ct := Pv (i + 1), bk := D.nx } σ2 H2) (hd : ∀ σ H, Pv ds.length σ H → D.nx σ H) :
    ∃ W : Nat → Nat → St → Hp → Prop, (∃ m, W 0 m σ H) ∧ ∀ i m σ H, W i m σ H →
      ((ItdT v).stop i H ∧ D.nx σ H) ∨ ((ItdT v).go i H ∧ ∃ N : St → Hp → Prop, (∀ σ' H', N σ' H' → ∃ m', m' < m ∧ W (i + 1) m' σ' H') ∧ ∀ x H', (ItdT v).yld i H x H' → g x σ H' fun σ2 H2 => tb { D with nx := N, ct := N, bk := D.nx } σ2 H2) := by
  refine ⟨fun i m σ H => m = ds.length - i ∧ i ≤ ds.length ∧ Pv i σ H, ⟨ds.length, by simp, Nat.zero_le _, h0⟩, ?_⟩
  rintro i m σ H ⟨rfl, hi, p⟩
  have q := hl i σ H p
  by_cases hlt : i < ds.length
  · have e : ds[i]? = some ds[i] := by simp [hlt]
    refine .inr ⟨⟨ds, ds[i], q, e⟩, Pv (i + 1), fun σ' H' p' => ⟨ds.length - (i + 1), by omega, rfl, hlt, p'⟩, fun x H' y => ?_⟩
    obtain ⟨e1, y⟩ := y
    subst e1
    exact hs i x _ σ _ e (y ds _ q e) p
  · have e : i = ds.length := by omega
    subst e
    exact .inl ⟨⟨ds, q, Nat.le_refl _⟩, hd σ H p⟩
end
section
variable {f : List (Option Nat)} {g : TG} {tc : TT} {te : TE} {σ : St} {Q : VK} {H1 : Hp} {v : V} {ds : List PyData}
/-- [.. for x in a list], its elements data: D i what has been laid behind i turns -/
theorem lc_dlist (D : Nat → List PyData) (h0 : D 0 = []) (hr : Rep H1 v (.list ds))
    (hs : ∀ i x d ys H, ds[i]? = some d → Rep H x d → LcS H1 D i ys H → g x (inSt f σ) H fun σ2 H2 => tc σ2 H2 fun b H3 => if b = true then te σ2 H3 (LcY ds.length (LcS H1 D) ys i) else LcN ds.length (LcS H1 D) ys i H3)
    (hd : ∀ H p, Same H1 H → H1 p = none → Rep H (.ref p) (.list (D ds.length)) → (∃ ys, H p = some (.lst ys)) → Q (.ref p) H) : LCw f g tc te σ (ItdL v) Q H1 := by
  refine ⟨LcW ds.length (LcS H1 D), ⟨ds.length, by simp, Nat.zero_le _, lcS0 h0⟩, ?_⟩
  rintro i m ys H ⟨rfl, hi, p⟩
  have q := hr.mono p.1
  by_cases hlt : i < ds.length
  · have e : ds[i]? = some ds[i] := by simp [hlt]
    refine .inr ⟨⟨ds, ds[i], q, e⟩, fun x H' y => ?_⟩
    obtain ⟨e1, y⟩ := y
    subst e1
    exact hs i x _ ys _ e (y ds _ q e) p
  · have e : i = ds.length := by omega
    subst e
    exact .inl ⟨⟨ds, q, Nat.le_refl _⟩, fun p' hp => hd _ _ (p.1.trans (Same.new hp)) (p.1.free hp) (.lst upd_same (p.2.1.mono (Same.new hp))) ⟨ys, upd_same⟩⟩
theorem lc_dtup (D : Nat → List PyData) (h0 : D 0 = []) (hr : Rep H1 v (.tuple ds))
    (hs : ∀ i x d ys H, ds[i]? = some d → Rep H x d → LcS H1 D i ys H → g x (inSt f σ) H fun σ2 H2 => tc σ2 H2 fun b H3 => if b = true then te σ2 H3 (LcY ds.length (LcS H1 D) ys i) else LcN ds.length (LcS H1 D) ys i H3)
    (hd : ∀ H p, Same H1 H → H1 p = none → Rep H (.ref p) (.list (D ds.length)) → (∃ ys, H p = some (.lst ys)) → Q (.ref p) H) : LCw f g tc te σ (ItdT v) Q H1 := by
  refine ⟨LcW ds.length (LcS H1 D), ⟨ds.length, by simp, Nat.zero_le _, lcS0 h0⟩, ?_⟩
  rintro i m ys H ⟨rfl, hi, p⟩
  have q := hr.mono p.1
  by_cases hlt : i < ds.length
  · have e : ds[i]? = some ds[i] := by simp [hlt]
    refine .inr ⟨⟨ds, ds[i], q, e⟩, fun x H' y => ?_⟩
    obtain ⟨e1, y⟩ := y
    subst e1
    exact hs i x _ ys _ e (y ds _ q e) p
  · have e : i = ds.length := by omega
    subst e
    exact .inl ⟨⟨ds, q, Nat.le_refl _⟩, fun p' hp => hd _ _ (p.1.trans (Same.new hp)) (p.1.free hp) (.lst upd_same (p.2.1.mono (Same.new hp))) ⟨ys, upd_same⟩⟩
theorem lc_drange {lo : Int} {n : Nat} (D : Nat → List PyData) (h0 : D 0 = [])
    (hs : ∀ i ys H, i < n → LcS H1 D i ys H → g (.int (lo + i)) (inSt f σ) H fun σ2 H2 => tc σ2 H2 fun b H3 => if b = true then te σ2 H3 (LcY n (LcS H1 D) ys i) else LcN n (LcS H1 D) ys i H3)
    (hd : ∀ H p, Same H1 H → H1 p = none → Rep H (.ref p) (.list (D n)) → (∃ ys, H p = some (.lst ys)) → Q (.ref p) H) : LCw f g tc te σ (Itr lo n) Q H1 := by
  refine lc_range (LcS H1 D) (lcS0 h0) hs fun ys H p pv hp => ?_
  exact hd _ _ (pv.1.trans (Same.new hp)) (pv.1.free hp) (.lst upd_same (pv.2.1.mono (Same.new hp))) ⟨ys, upd_same⟩
end
/-! ### a statement, and what holds behind it -/
def tMid (t u : TS) : TS := fun D σ H => ∃ M : St → Hp → Prop, t { D with nx := M } σ H ∧ ∀ σ' H', M σ' H' → u D σ' H'
theorem pss_mid {X : Cx} {st : Stmt} {rest : List Stmt} {t u : TS} (h1 : PS X st t) (h2 : PSs X rest u) : PSs X (st :: rest) (tMid t u) := by
  intro pins s σ H D I h
  obtain ⟨M, h, hM⟩ := h
  refine wpAny_execs_cons (thn (h1 pins s σ H { D with nx := M } I h) fun f s1 q => ?_)
  cases f with
  | next =>
    obtain ⟨σ', H', I', q⟩ := q
    exact h2 pins s1 σ' H' D I' (hM σ' H' q)
  | ret v => exact q
  | brk => exact q
  | cont => exact q
theorem tg_tupD {f : List (Option Nat)} {n : Nat} {t : TGs} (h : TgsOk f t) : TgOk f (gTupD n t) where
  keep := fun x σ H Q ⟨ds, r, l, z⟩ => ⟨ds, r, l, fun xs hx => h.keep _ _ _ _ (z xs hx)⟩
  mono := fun x σ H Q Q' m ⟨ds, r, l, z⟩ => ⟨ds, r, l, fun xs hx => h.mono _ _ _ _ _ m (z xs hx)⟩
/-! ### data without lists does not hang on a list -/
mutual
def noL : PyData → Bool
  | .none => true
  | .bool _ => true
  | .int _ => true
  | .str _ => true
  | .list _ => false
  | .dict _ => false
  | .tuple ds => noLs ds
def noLs : List PyData → Bool
  | [] => true
  | d :: ds => noL d && noLs ds
end
mutual
theorem Rep.updL {H : Hp} {l : Addr} {us zs : List V} (hl : H l = some (.lst us)) : ∀ {v : V} {d : PyData}, noL d = true → Rep H v d → Rep (L2.upd H l (.lst zs)) v d
  | _, _, _, .non => .non
  | _, _, _, .bl b => .bl b
  | _, _, _, .int i => .int i
  | _, _, _, .str x => .str x
  | _, _, h, .lst _ _ => by simp [noL] at h
  | _, _, h, .tup ha r => .tup (by rw [upd_ne (ne_of ha hl (by intro z; cases z))]; exact ha) (Reps.updL hl (by simpa [noL] using h) r)
theorem Reps.updL {H : Hp} {l : Addr} {us zs : List V} (hl : H l = some (.lst us)) : ∀ {vs : List V} {ds : List PyData}, noLs ds = true → Reps H vs ds → Reps (L2.upd H l (.lst zs)) vs ds
  | _, _, _, .nil => .nil
  | _, _, h, .cons r t => .cons (Rep.updL hl (by simp [noLs] at h; exact h.1) r) (Reps.updL hl (by simp [noLs] at h; exact h.2) t)
end
theorem noLs_all {ds : List PyData} (h : ∀ d ∈ ds, noL d = true) : noLs ds = true := by
  induction ds with
  | nil => rfl
  | cons d ds ih => rw [noLs, h d List.mem_cons_self, ih fun e he => h e (List.mem_cons_of_mem _ he)]; rfl
end L2
end

section
set_option Elab.async false
set_option linter.all false
set_option maxRecDepth 100000
namespace L2
open PySem PySem.Spec PyProof.Rows
/-! ### range downwards by ones -/
theorem rsize_down (a b : Int) : Builtin.Range.rangeSize a b (-1) = ((a - b).toNat : Int) := by
  unfold Builtin.Range.rangeSize
  simp only [show ¬ ((-1 : Int) > 0) by decide, if_false, show (-(-1) : Int) = 1 from rfl, Int.ediv_one]
  split <;> omega
theorem rsmall_down {a b : Int} (ha : -(2 ^ 62) ≤ a) (ha' : a < 2 ^ 62) (hb : -(2 ^ 62) ≤ b) (hb' : b < 2 ^ 62) : Builtin.Range.small a b (-1) = true := by
  unfold Builtin.Range.small
  rw [rsize_down]
  simp only [Builtin.Range.rangeFitsLong, Bool.and_eq_true, Bool.or_eq_true, decide_eq_true_eq, beq_iff_eq, show ¬ ((-1 : Int) > 0) by decide, if_false]
  omega
/-- hi, hi - 1, .. (n of them) -/
def Itrd (hi : Int) (n : Nat) : It := ⟨fun i _ => i < n, fun i H x H' => H' = H ∧ x = .int (hi - i), fun i _ => n ≤ i⟩
theorem turn_rangeD {P : Program} {w : World} {K : PySem.W.Frag} {tg : Expr} (it : Addr) (hi : Int) (n : Nat) : Turn P w K tg (Itrd hi n) [it] it (fun i h => IsRangeIter h it (hi + (i : Nat) * (-1)) ((n : Int) - (i : Nat)) (-1)) where
  mem := by simp
  obj := fun i h st b hb => by
    have e : b = it := by simpa using hb
    subst e
    exact ⟨_, st, fun v z => by
      have z' : Data.fields _ = Data.cell v := z
      cases z'⟩
  keep := fun i h h' st k => k it (by simp) _ st
  item := by
    intro X hP hw hK hc i pins s σ H E I hf st hg
    subst hP hw hK
    obtain ⟨f0, f1, f2, f3, f4, f5⟩ := hf it (by simp)
    have W := Walks.range (prog := X.prog) (w := X.w) (I.ok.hd hc) it hi (-1) n
    refine W.item i s _ _ hg st fun v h' tk hv st' kk => ?_
    obtain ⟨t, rfl⟩ := hv
    have I1 : Inv X pins σ H { s with heap := h', toks := tk } := I.turned (fun b o hb e => kk b o (by simpa using hb) e) f0 f1 f3 f4 f5
    refine ⟨_, rfl, go_of (s := { s with heap := h', toks := tk }) (n := "range_iterator") st' rfl rfl (by decide) ⟨.int (hi - i), H, I1, ⟨t, ?_⟩, ⟨rfl, rfl⟩, st', fun b hb => (hf b hb).1⟩⟩
    rw [show hi + (i : Int) * (-1) = hi - i by omega]
  done := by
    intro X hP hw hK hc i pins s σ H E I hf st hg
    subst hP hw hK
    obtain ⟨f0, f1, f2, f3, f4, f5⟩ := hf it (by simp)
    exact wpAny_pyNext_range_end (I.ok.hd hc) st (by have : n ≤ i := hg; omega) fun h' eb => ⟨rfl, I.turned (t' := s.toks) (fun b o hb e => eb b o hb e) f0 f1 f3 f4 f5⟩
  self := fun _ _ _ _ _ st h => wpAny_pyIter_rangeiter st h
section
variable {X : Cx} {tg : Expr}
theorem range_itD {pins : List (Addr × Obj)} {σ : St} {H : Hp} {s : Shared} {R : It → Hp → Prop} {E : Value → Shared → Prop} {lo hi : Int} {t u v : Tok} {tk : Nat} (I : Inv X pins σ H s) (h1 : -(2 ^ 62) ≤ hi) (h2 : hi < 2 ^ 62) (h3 : -(2 ^ 62) ≤ lo) (h4 : lo < 2 ^ 62)
    (q : R (Itrd hi (hi - lo).toNat) H) : wpAny (model X.prog X.w) X.A (pyIter (.ref s.heap.objs.size)) (PIE X pins σ tg R) E { s with heap := s.heap.push { cls := .type "range", data := .fields #[.int hi t, .int lo u, .int (-1) v] }, toks := tk } := by
  refine wpAny_pyIter_range (IsRange.new ..) (rsmall_down h1 h2 h3 h4) ?_
  have I1 : Inv X pins σ H { s with heap := s.heap.push { cls := .type "range", data := .fields #[.int hi t, .int lo u, .int (-1) v] }, toks := tk } := I.kept fun b o e => Heap.get?_push_of_some _ e
  refine ⟨(s.heap.push { cls := .type "range", data := .fields #[.int hi t, .int lo u, .int (-1) v] }).objs.size, [(s.heap.push { cls := .type "range", data := .fields #[.int hi t, .int lo u, .int (-1) v] }).objs.size], _, _, H, rfl,
    I1.kept (t' := tk) fun b o e => Heap.get?_push_of_some _ e, turn_rangeD _ hi (hi - lo).toNat, ?_, fun b hb => ?_, q⟩
  · have e1 : hi + ((0 : Nat) : Int) * (-1) = hi := by simp
    have e2 : (((hi - lo).toNat : Nat) : Int) - ((0 : Nat) : Int) = Builtin.Range.rangeSize hi lo (-1) := by rw [rsize_down]; omega
    show IsRangeIter _ _ (hi + ((0 : Nat) : Int) * (-1)) ((((hi - lo).toNat : Nat) : Int) - ((0 : Nat) : Int)) (-1)
    rw [e1, e2]
    exact Heap.get?_push_size _ rfl
  · have e : b = (s.heap.push { cls := .type "range", data := .fields #[.int hi t, .int lo u, .int (-1) v] }).objs.size := by simpa using hb
    subst e
    exact I1.fpOk (Nat.le_refl _) (I1.hok.fresh (Nat.le_refl _))
def iRng3 (ta : TA) : TI := fun σ H R => ta σ H fun vs H1 => ∃ i j : Int, vs = [.int i, .int j, .int (-1)] ∧ (-(2 ^ 62) ≤ i ∧ i < 2 ^ 62 ∧ -(2 ^ 62) ≤ j ∧ j < 2 ^ 62) ∧ R (Itrd i (i - j).toNat) H1
theorem pi_range3 {a b c : Expr} {ta : TA} {p pos : Pos} (hg : Gl X "range") (hm : X.mg "range" = none) (ha : PA X [a, b, c] ta) (hs : starEach [a, b, c] X.env = [(false, eval a X.env), (false, eval b X.env), (false, eval c X.env)] := by rfl)
    (hs2 : starEach [b, c] X.env = [(false, eval b X.env), (false, eval c X.env)] := by rfl) : PI X tg (.Call (.Name "range" p) [a, b, c] [] pos) (iRng3 ta) := by
  intro pins s σ H R I h
  refine Call_ (ld_blt I hg hm boot_range (PyProof.Rows.callWith_type1 (thn (ha pos pins s σ H _ I h) fun us s1 ⟨vs, H1, I1, r1, q1⟩ => ?_) (by rw [hs, hs2]) (by rw [hs2]; rfl)))
  obtain ⟨i, j, e, ⟨q1, q2, q3, q4⟩, q⟩ := q1
  subst e
  cases r1 with
  | cons r rr =>
    cases rr with
    | cons r' rr =>
      cases rr with
      | cons r2 rr =>
        cases rr
        obtain ⟨t, rfl⟩ := r
        obtain ⟨t', rfl⟩ := r'
        obtain ⟨t2, rfl⟩ := r2
        exact call_range_3 (by decide) (range_itD I1 q1 q2 q3 q4 q) (.inl (PyProof.noPylong_small (by decide)))
end
theorem for_rangeD {hi : Int} {n : Nat} {g : TG} {tb : TS} {D : Ends} {σ : St} {H : Hp} (Pv : Nat → St → Hp → Prop) (h0 : Pv 0 σ H)
    (hs : ∀ i σ H, i < n → Pv i σ H → g (.int (hi - i)) σ H fun σ2 H2 => tb { D with nx := Pv (i + 1), ct := Pv (i + 1), bk := D.nx } σ2 H2) (hd : ∀ σ H, Pv n σ H → D.nx σ H) :
    ∃ W : Nat → Nat → St → Hp → Prop, (∃ m, W 0 m σ H) ∧ ∀ i m σ H, W i m σ H →
      ((Itrd hi n).stop i H ∧ D.nx σ H) ∨ ((Itrd hi n).go i H ∧ ∃ N : St → Hp → Prop, (∀ σ' H', N σ' H' → ∃ m', m' < m ∧ W (i + 1) m' σ' H') ∧ ∀ x H', (Itrd hi n).yld i H x H' → g x σ H' fun σ2 H2 => tb { D with nx := N, ct := N, bk := D.nx } σ2 H2) := by
  refine ⟨fun i m σ H => m = n - i ∧ i ≤ n ∧ Pv i σ H, ⟨n, by simp, Nat.zero_le _, h0⟩, ?_⟩
  rintro i m σ H ⟨rfl, hi, p⟩
  by_cases hlt : i < n
  · refine .inr ⟨hlt, Pv (i + 1), fun σ' H' p' => ⟨n - (i + 1), by omega, rfl, hlt, p'⟩, fun x H' y => ?_⟩
    obtain ⟨e, y⟩ := y
    subst e y
    exact hs i σ _ hlt p
  · have e : i = n := by omega
    subst e
    exact .inl ⟨Nat.le_refl _, hd σ H p⟩
/-! ### xs[i] by values, of a list -/
def rGetL (K : PySem.W.Frag) : V → V → Hp → VK → Prop := fun o i H Q => ∃ p xs k v, o = .ref p ∧ i = .int k ∧ SqL K H p xs ∧ 0 ≤ k ∧ xs[k.toNat]? = some v ∧ Q v H
/-! ### sum of a list of ints, of any size -/
theorem preSum_list (ns : List Int) : preSum (fun i => ns.getD i 0) ns.length = ns.sum := by
  have key : ∀ k, k ≤ ns.length → preSum (fun i => ns.getD i 0) k = (ns.take k).sum := by
    intro k
    induction k with
    | zero => intro _; simp [preSum]
    | succ k ih =>
      intro hk
      have h1 : k < ns.length := by omega
      rw [List.take_succ, List.sum_append, ← ih (by omega)]
      simp [preSum, h1]
  rw [key ns.length (Nat.le_refl _), List.take_length]
theorem ints_at : ∀ {vs : List Value} {ns : List Int} {i : Nat} {v : Value}, IntsAre vs ns → vs[i]? = some v → ∃ t, v = .int (ns.getD i 0) t
  | _, _, _, _, .nil, e => by simp at e
  | _, _, 0, _, .cons n t h, e => by simp at e; exact ⟨t, by simp [← e]⟩
  | _, _, i + 1, v, .cons n t h, e => by
    obtain ⟨t', z⟩ := ints_at (i := i) (v := v) h (by simpa using e)
    exact ⟨t', by simpa using z⟩
theorem sum_list_any {prog : Program} {w : World} {A : Around} {E : Value → Shared → Prop} {s : Shared} {l : Addr} {vs : List Value} {ns : List Int} {Q : Value → Shared → Prop} (hh : A.handled = none) (hl : s.heap.IsList l vs.toArray) (hi : IntsAre vs ns)
    (h : ∀ h' tk t', (∀ b o, s.heap.get? b = some o → h'.get? b = some o) → Q (.int ns.sum t') { s with heap := h', toks := tk }) : wpAny (model prog w) A (call (.builtin "sum") [.ref l]) Q E s := by
  obtain ⟨o, ho, hc, n, hd⟩ := id hl
  have hne : l ≠ s.heap.objs.size := Nat.ne_of_lt (Heap.lt_size ho)
  have W := (Walks.list (prog := prog) (w := w) (A := A.in1) hh s.heap.objs.size l hne vs.toArray).toS
  refine call_sum_walkAnyS (wpAny_pyIter_list hl ?_)
  refine ⟨s.heap.objs.size, _, _, _, _, _, _, fun i => ns.getD i 0, rfl, W, ⟨⟨_, Heap.get?_push_size _ rfl, rfl, rfl⟩, hl.at fun o e => Heap.get?_push_of_some _ e⟩, fun b hb => ?_, fun i v hP => ints_at hi (by simpa using hP), fun s' t' hm => ?_⟩
  · rcases List.mem_cons.mp hb with rfl | hb
    · exact Heap.lt_size (Heap.get?_push_size _ rfl)
    · obtain rfl := List.mem_singleton.mp hb
      exact Heap.lt_size (Heap.get?_push_of_some _ ho)
  · obtain ⟨h', g', d', tk', os'⟩ := s'
    have e1 : g' = s.gens := hm.gens
    have e2 : d' = s.drawn := hm.drawn
    have e3 : os' = s.os := hm.os
    subst e1 e2 e3
    have es : vs.toArray.size = ns.length := by rw [List.size_toArray, hi.length]
    rw [es, preSum_list]
    exact h h' tk' t' fun b o e => hm.heap b o (fun hb => absurd (Heap.lt_size e) ((List.mem_singleton.mp hb) ▸ Nat.lt_irrefl _)) (Heap.get?_push_of_some _ e)
section
variable {X : Cx}
theorem get_list : PGet X (rGetL X.K) := by
  intro pins s σ H o i ov iv Q I ro ri h
  obtain ⟨p, xs, k, v, rfl, rfl, hq, h0, hv, q⟩ := h
  cases ro
  obtain ⟨t, rfl⟩ := ri
  obtain ⟨its, r, pl, hz⟩ := I.list hq
  obtain ⟨w, ew, rw'⟩ := r.get hv
  have hl := r.length
  have hn := line63
  have hlt : k.toNat < xs.length := (List.getElem?_eq_some_iff.mp hv).1
  exact wpAny_getItem_list pl.isList h0 (by omega) (by simpa using ew) ⟨v, H, I, rw', q⟩
theorem call_sumD : CallR X (.builtin "sum") (fun xs H Q => X.calm = true ∧ ∃ (x : V) (ns : List Int), xs = [x] ∧ Rep H x (.list (ns.map PyData.int)) ∧ Q (.int ns.sum) H) := by
  intro pins s σ H xs us Q I r h
  obtain ⟨hc, x, ns, rfl, hx, q⟩ := h
  obtain ⟨u, rfl, rx⟩ := vals1 r
  cases hx with
  | lst ha rr =>
    cases rx
    have er := reps_ints rr
    subst er
    obtain ⟨its, rv, p, hz⟩ := I.list (SqL.of (K := X.K) ha)
    exact sum_list_any (I.ok.hd hc) p.isList (intsAre_of rv) fun h' tk t' k => ⟨.int ns.sum, H, I.kept k, ⟨_, rfl⟩, q⟩
end
end L2
end

section
set_option Elab.async false
set_option linter.all false
set_option maxRecDepth 100000
namespace L2
open PySem PySem.Spec PyProof.Rows
section
variable {X : Cx}
/-! ### a range as a thing, and its list -/
theorem call_range1 : CallR X (.type "range") (fun xs H Q => ∃ j, xs = [.int j] ∧ ∀ p, H p = none → Q (.ref p) (upd H p (.rng 0 j))) := by
  intro pins s σ H xs us Q I r h
  obtain ⟨j, rfl, q⟩ := h
  obtain ⟨u, rfl, t, rfl⟩ := vals1 r
  refine call_range_1 ?_
  refine ⟨.ref s.heap.objs.size, _, I.laid (fun b o e => Heap.get?_push_of_some _ e) (Nat.le_refl _) (o := .rng 0 j) ?_, rfl, q _ I.fresh⟩
  exact ⟨_, _, _, Heap.get?_push_size _ rfl⟩
def natsV (n : Nat) : List V := (List.range n).map fun (j : Nat) => V.int (j : Int)
theorem vals_nats {vs : List Value} {n : Nat} (h1 : vs.length = n) (h2 : ∀ (j : Nat) (v : Value), vs[j]? = some v → ∃ t, v = Value.int (j : Int) t) : Vals (natsV n) vs := by
  have key : ∀ (k : Nat) (ws : List Value), (∀ (j : Nat) (v : Value), ws[j]? = some v → ∃ t, v = Value.int ((k + j : Nat) : Int) t) → Vals ((List.range ws.length).map fun (j : Nat) => V.int ((k + j : Nat) : Int)) ws := by
    intro k ws
    induction ws generalizing k with
    | nil => intro _; exact .nil
    | cons w ws ih =>
      intro hw
      rw [List.length_cons, List.range_succ_eq_map, List.map_cons, List.map_map]
      refine .cons ?_ ?_
      · obtain ⟨t, e⟩ := hw 0 w rfl
        exact ⟨t, e⟩
      · have := ih (k + 1) fun j v e => by
          obtain ⟨t, e'⟩ := hw (j + 1) v (by simpa using e)
          exact ⟨t, by rw [e']; congr 1; omega⟩
        have e2 : ((fun (j : Nat) => V.int ((k + j : Nat) : Int)) ∘ Nat.succ) = fun (j : Nat) => V.int ((k + 1 + j : Nat) : Int) := by
          funext j
          show V.int ((k + (j + 1) : Nat) : Int) = _
          congr 1
          omega
        rw [e2]
        exact this
  have := key 0 vs fun j v e => by
    obtain ⟨t, e'⟩ := h2 j v e
    exact ⟨t, by rw [e']; congr 1; omega⟩
  rw [h1] at this
  unfold natsV
  have e3 : (fun (j : Nat) => V.int ((0 + j : Nat) : Int)) = fun (j : Nat) => V.int (j : Int) := by
    funext j
    rw [Nat.zero_add]
  rw [e3] at this
  exact this
theorem call_list_rng : CallR X (.type "list") (fun xs H Q => X.calm = true ∧ ∃ (p : Addr) (n : Nat), xs = [.ref p] ∧ H p = some (.rng 0 (n : Int)) ∧ n ≤ 1000 ∧ ∀ l, H l = none → Q (.ref l) (upd H l (.lst (natsV n)))) := by
  intro pins s σ H xs us Q I r h
  obtain ⟨hc, p, n, rfl, hp, hn, q⟩ := h
  obtain ⟨u, rfl, rx⟩ := vals1 r
  cases rx
  obtain ⟨t, u, v, e⟩ := I.hok p _ hp
  have hs : Builtin.Range.rangeSize 0 (n : Int) 1 = (n : Int) := by rw [rangeSize_one]; split <;> omega
  refine call_list_range (n := n) (I.ok.hd hc) (a := 0) (b := n) (c := 1) (t := t) (u := u) (v := v) e (small_one (by decide) (by decide) (by omega) (by omega)) hs (by omega) fun h' tk acc' c' hk hS hacc => ?_
  refine ⟨.ref s.heap.objs.size, _, I.laid (o := .lst (natsV n)) hk (Nat.le_refl _) ?_, rfl, q _ I.fresh⟩
  refine ⟨?_, acc'.toList, c', vals_nats ?_ ?_, by simpa using hS⟩
  · unfold natsV
    rw [List.length_map, List.length_range]
    exact Nat.le_of_lt (small1000 hn)
  · simpa using hacc.1
  · intro j v hv
    obtain ⟨t, e'⟩ := hacc.2 j v (by simpa using hv)
    exact ⟨t, by rw [e']; congr 1; omega⟩
end
theorem bt_range : bootBuiltins "range" = some (.type "range") := by decide +kernel
end L2
end

section
set_option Elab.async false
set_option linter.all false
set_option maxRecDepth 100000
namespace L2
open PySem PySem.Spec PyProof.Rows
/-! ### zip and enumerate of lists, walked with a written tuple as the target -/
theorem Inv.turnedL {X : Cx} {pins : List (Addr × Obj)} {σ : St} {H : Hp} {s : Shared} {h' : Heap} {t' : Nat} {ch : List Addr} (I : Inv X pins σ H s) (k : ∀ b o, b ∉ ch → s.heap.get? b = some o → h'.get? b = some o) (hch : ∀ b ∈ ch, FpOk X pins H b) : Inv X pins σ H { s with heap := h', toks := t' } := by
  refine I.step (g' := s.gens) (d' := s.drawn) (ch := ch) (fun b hb => ?_) (fun b o _ _ hc e _ => k b o hc e) (fun b o _ _ hc e _ => ⟨o.slots, k b o hc e⟩) (fun _ _ _ _ n => n)
    (fun b o hc e => ⟨o, k b o hc e⟩) (fun _ _ e => e) (fun _ _ _ e => e) (fun b ps e => ⟨#[], by rw [e]; simp⟩) (fun m hm => ?_) (fun b u e => ?_) I.bare
  · obtain ⟨f0, f1, f2, f3, f4, f5⟩ := hch b hb
    exact ⟨f3, f1, f4, f5⟩
  · obtain ⟨o, es, ep, ho, r⟩ := hm
    exact ⟨o, es, ep, k _ o (fun z => (hch _ z).2.1 rfl) ho, r⟩
  · refine (I.hok b u e).stay (fun c v hc q => k c v (fun z => ?_) q) (fun _ q => q) fun _ _ q => q
    have hn := (hch c z).1
    rcases hc with rfl | hc
    · rw [hn] at e; cases e
    · rw [hn] at hc; cases hc
theorem Inv.trackTup {X : Cx} {pins : List (Addr × Obj)} {σ : St} {H : Hp} {s0 s : Shared} {T : Addr} {x y : V} {u v : Value} (I0 : Inv X pins σ H s0) (I : Inv X pins σ H s) (hT : s0.heap.objs.size ≤ T) (rx : RelV x u) (ry : RelV y v) (tup : s.heap.IsTuple T #[u, v]) : Inv X pins σ (upd H T (.tup [x, y])) s := by
  refine I.track (I0.hok.fresh hT) (Nat.le_trans I0.sz hT) (Nat.ne_of_gt (Nat.lt_of_lt_of_le I0.lt hT)) (fun z c e q => ?_) (fun p hp q => ?_) ⟨by show 2 ≤ sizeLine; decide, [u, v], .cons rx (.cons ry .nil), tup⟩
  · obtain ⟨w, hw⟩ := I0.cell z c e
    exact absurd (Nat.lt_of_lt_of_le hw.lt (by rw [q]; exact hT)) (Nat.lt_irrefl _)
  · exact absurd (Nat.lt_of_lt_of_le (Heap.lt_size (I0.pin p hp).1) (by rw [q]; exact hT)) (Nat.lt_irrefl _)
def Itz (K : PySem.W.Frag) (a b : Addr) : It :=
  ⟨fun i H => ∃ xs ys x y, SqL K H a xs ∧ SqL K H b ys ∧ xs[i]? = some x ∧ ys[i]? = some y,
   fun i H v H' => ∃ p x y, H p = none ∧ v = .ref p ∧ H' = upd H p (.tup [x, y]) ∧ (∀ xs, SqL K H a xs → xs[i]? = some x) ∧ ∀ ys, SqL K H b ys → ys[i]? = some y,
   fun i H => ∃ xs ys, SqL K H a xs ∧ SqL K H b ys ∧ i = min xs.length ys.length⟩
def Ite (K : PySem.W.Frag) (a : Addr) : It :=
  ⟨fun i H => ∃ xs x, SqL K H a xs ∧ xs[i]? = some x,
   fun i H v H' => ∃ p x, H p = none ∧ v = .ref p ∧ H' = upd H p (.tup [.int (i : Int), x]) ∧ ∀ xs, SqL K H a xs → xs[i]? = some x,
   fun i H => ∃ xs, SqL K H a xs ∧ i = xs.length⟩
theorem turn_zip {P : Program} {w : World} {K : PySem.W.Frag} {elts : List Expr} {k : Nat} {pos : Pos} {z TI TO i1 i2 a b : Addr} (D : ZipApart z TI TO i1 i2 a b) :
    Turn P w K (.Tuple elts k pos) (Itz K a b) [z, TI, TO, i1, i2] z (fun i h => IsZip h z TI TO .none ∧ IsPair h TI (.ref i1) (.ref i2) ∧ (∃ p q, IsPair h TO p q) ∧ h.IsListIter i1 a i ∧ h.IsListIter i2 b i) where
  mem := by simp
  obj := fun i h st c hc => by
    obtain ⟨hz, hTI, ⟨p, q, hTO⟩, ⟨o1, e1, c1, d1⟩, o2, e2, c2, d2⟩ := st
    simp only [List.mem_cons, List.not_mem_nil, or_false] at hc
    rcases hc with rfl | rfl | rfl | rfl | rfl
    · exact ⟨_, hz, fun v z => nomatch z⟩
    · exact ⟨_, hTI, fun v z => nomatch z⟩
    · exact ⟨_, hTO, fun v z => nomatch z⟩
    · exact ⟨_, e1, fun v z => by rw [d1] at z; cases z⟩
    · exact ⟨_, e2, fun v z => by rw [d2] at z; cases z⟩
  keep := fun i h h' st kk => by
    obtain ⟨hz, hTI, ⟨p, q, hTO⟩, h1, h2⟩ := st
    exact ⟨kk z (by simp) _ hz, kk TI (by simp) _ hTI, ⟨p, q, kk TO (by simp) _ hTO⟩, h1.at fun o e => kk i1 (by simp) o e, h2.at fun o e => kk i2 (by simp) o e⟩
  item := by
    intro X hP hw hK hc i pins s σ H E I hf st hg
    subst hP hw hK
    obtain ⟨xs, ys, x, y, hq1, hq2, hx, hy⟩ := hg
    obtain ⟨its1, rv1, p1, hz1⟩ := I.list hq1
    obtain ⟨its2, rv2, p2, hz2⟩ := I.list hq2
    obtain ⟨u1, hu1, ru1⟩ := rv1.get hx
    obtain ⟨u2, hu2, ru2⟩ := rv2.get hy
    obtain ⟨hz, hTI, hTO, h1, h2⟩ := st
    have W := WalksT.zip2 (prog := X.prog) (w := X.w) (A := X.A) (I.ok.hd hc) z TI TO i1 i2 a b D its1.toArray its2.toArray
    have l1 : i < its1.length := (List.getElem?_eq_some_iff.mp hu1).1
    have l2 : i < its2.length := (List.getElem?_eq_some_iff.mp hu2).1
    have wr : ∀ c ∈ [z, TO, i1, i2], FpOk X pins H c := fun c hc => hf c (by
      simp only [List.mem_cons, List.not_mem_nil, or_false] at hc ⊢
      rcases hc with rfl | rfl | rfl | rfl <;> simp)
    refine W.item i s _ _ (by simp only [List.size_toArray]; omega) ⟨hz, hTI, hTO, h1, h2, p1.isList, p2.isList⟩ fun T vals h' tk pt hT tup mid kp => ?_
    obtain ⟨v1, v2, e1, e2, rfl⟩ := pt
    have ev1 : v1 = u1 := by
      have : its1[i]? = some v1 := by simpa using e1
      rw [hu1] at this; exact (Option.some.inj this).symm
    have ev2 : v2 = u2 := by
      have : its2[i]? = some v2 := by simpa using e2
      rw [hu2] at this; exact (Option.some.inj this).symm
    subst ev1 ev2
    have I1 : Inv X pins σ H { s with heap := h', toks := tk } := I.turnedL kp wr
    refine ⟨.ref T, rfl, W.go elts k pos i T { s with heap := h', toks := tk } _ _ mid fun h'' st' kp2 => ?_⟩
    have I2 : Inv X pins σ H { s with heap := h'', toks := tk } := I1.turnedL (t' := tk) kp2 wr
    have tup2 : h''.IsTuple T #[v1, v2] := by
      obtain ⟨o, ho, hcl, n, hd⟩ := tup
      exact ⟨o, kp2 T o (W.apart i T h' mid) ho, hcl, n, hd⟩
    have I3 := I.trackTup I2 hT ru1 ru2 tup2
    obtain ⟨sz, sTI, sTO, s1, s2, _, _⟩ := st'
    refine ⟨.ref T, _, I3, rfl, ⟨T, x, y, I.hok.fresh hT, rfl, rfl, fun xs' h => by rw [I.list_inj h hq1]; exact hx, fun ys' h => by rw [I.list_inj h hq2]; exact hy⟩, ⟨sz, sTI, sTO, s1, s2⟩, fun c hc' => ?_⟩
    have hlt : c < s.heap.objs.size := by
      simp only [List.mem_cons, List.not_mem_nil, or_false] at hc'
      obtain ⟨p, q, hTO⟩ := hTO
      rcases hc' with rfl | rfl | rfl | rfl | rfl
      · exact Heap.lt_size hz
      · exact Heap.lt_size hTI
      · exact Heap.lt_size hTO
      · obtain ⟨_, e, _⟩ := h1; exact Heap.lt_size e
      · obtain ⟨_, e, _⟩ := h2; exact Heap.lt_size e
    rw [upd_ne (Nat.ne_of_lt (Nat.lt_of_lt_of_le hlt hT))]
    exact (hf c hc').1
  done := by
    intro X hP hw hK hc i pins s σ H E I hf st hg
    subst hP hw hK
    obtain ⟨xs, ys, hq1, hq2, rfl⟩ := hg
    obtain ⟨its1, rv1, p1, hz1⟩ := I.list hq1
    obtain ⟨its2, rv2, p2, hz2⟩ := I.list hq2
    obtain ⟨hz, hTI, hTO, h1, h2⟩ := st
    have W := WalksT.zip2 (prog := X.prog) (w := X.w) (A := X.A) (I.ok.hd hc) z TI TO i1 i2 a b D its1.toArray its2.toArray
    have wr : ∀ c ∈ [z, TO, i1, i2], FpOk X pins H c := fun c hc => hf c (by
      simp only [List.mem_cons, List.not_mem_nil, or_false] at hc ⊢
      rcases hc with rfl | rfl | rfl | rfl <;> simp)
    have en : min xs.length ys.length = min its1.toArray.size its2.toArray.size := by simp [rv1.length, rv2.length]
    refine W.done s _ _ (by rw [← en]; exact ⟨hz, hTI, hTO, h1, h2, p1.isList, p2.isList⟩) fun h' tk kp => ⟨rfl, I.turnedL kp wr⟩
  self := fun _ _ _ _ _ st h => wpAny_pyIter_zip st.1 h
theorem turn_enum {P : Program} {w : World} {K : PySem.W.Frag} {elts : List Expr} {k : Nat} {pos : Pos} {e it a : Addr} (hei : e ≠ it) (hle : a ≠ e) (hli : a ≠ it) :
    Turn P w K (.Tuple elts k pos) (Ite K a) [e, it] e (fun i h => (∃ old, IsEnum h e it i old) ∧ h.IsListIter it a i) where
  mem := by simp
  obj := fun i h st c hc => by
    obtain ⟨⟨old, he⟩, o1, e1, c1, d1⟩ := st
    simp only [List.mem_cons, List.not_mem_nil, or_false] at hc
    rcases hc with rfl | rfl
    · exact ⟨_, he, fun v z => nomatch z⟩
    · exact ⟨_, e1, fun v z => by rw [d1] at z; cases z⟩
  keep := fun i h h' st kk => by
    obtain ⟨⟨old, he⟩, h1⟩ := st
    exact ⟨⟨old, kk e (by simp) _ he⟩, h1.at fun o x => kk it (by simp) o x⟩
  item := by
    intro X hP hw hK hc i pins s σ H E I hf st hg
    subst hP hw hK
    obtain ⟨xs, x, hq1, hx⟩ := hg
    obtain ⟨its1, rv1, p1, hz1⟩ := I.list hq1
    obtain ⟨u1, hu1, ru1⟩ := rv1.get hx
    obtain ⟨he, h1⟩ := st
    have W := WalksT.enumerate (prog := X.prog) (w := X.w) (A := X.A) (I.ok.hd hc) e it a hei hle hli its1.toArray
    have l1 : i < its1.length := (List.getElem?_eq_some_iff.mp hu1).1
    have wr : ∀ c ∈ [e, it], FpOk X pins H c := hf
    refine W.item i s _ _ (by simp only [List.size_toArray]; omega) ⟨he, h1, p1.isList⟩ fun T vals h' tk pt hT tup mid kp => ?_
    obtain ⟨t, v1, e1, rfl⟩ := pt
    have ev1 : v1 = u1 := by
      have : its1[i]? = some v1 := by simpa using e1
      rw [hu1] at this; exact (Option.some.inj this).symm
    subst ev1
    have I1 : Inv X pins σ H { s with heap := h', toks := tk } := I.turnedL kp wr
    refine ⟨.ref T, rfl, W.go elts k pos i T { s with heap := h', toks := tk } _ _ mid fun h'' st' kp2 => ?_⟩
    have I2 : Inv X pins σ H { s with heap := h'', toks := tk } := I1.turnedL (t' := tk) kp2 wr
    have tup2 : h''.IsTuple T #[.int (i : Int) t, v1] := by
      obtain ⟨o, ho, hcl, n, hd⟩ := tup
      exact ⟨o, kp2 T o (W.apart i T h' mid) ho, hcl, n, hd⟩
    have I3 := I.trackTup I2 hT (x := .int (i : Int)) ⟨t, rfl⟩ ru1 tup2
    obtain ⟨s1, s2, _⟩ := st'
    refine ⟨.ref T, _, I3, rfl, ⟨T, x, I.hok.fresh hT, rfl, rfl, fun xs' h => by rw [I.list_inj h hq1]; exact hx⟩, ⟨s1, s2⟩, fun c hc' => ?_⟩
    have hlt : c < s.heap.objs.size := by
      simp only [List.mem_cons, List.not_mem_nil, or_false] at hc'
      obtain ⟨old, he⟩ := he
      rcases hc' with rfl | rfl
      · exact Heap.lt_size he
      · obtain ⟨_, z, _⟩ := h1; exact Heap.lt_size z
    rw [upd_ne (Nat.ne_of_lt (Nat.lt_of_lt_of_le hlt hT))]
    exact (hf c hc').1
  done := by
    intro X hP hw hK hc i pins s σ H E I hf st hg
    subst hP hw hK
    obtain ⟨xs, hq1, rfl⟩ := hg
    obtain ⟨its1, rv1, p1, hz1⟩ := I.list hq1
    obtain ⟨he, h1⟩ := st
    have W := WalksT.enumerate (prog := X.prog) (w := X.w) (A := X.A) (I.ok.hd hc) e it a hei hle hli its1.toArray
    have en : xs.length = its1.toArray.size := by simp [rv1.length]
    refine W.done s _ _ (by rw [← en]; exact ⟨he, h1, p1.isList⟩) fun h' tk kp => ⟨rfl, I.turnedL kp hf⟩
  self := fun _ _ _ _ _ st h => by
    obtain ⟨⟨old, he⟩, _⟩ := st
    exact wpAny_pyIter_enum he h
theorem zapart {n x y : Nat} (hx : x < n) (hy : y < n) : ZipApart (n + 4) (n + 2) (n + 3) n (n + 1) x y :=
  ⟨Nat.ne_of_lt (by omega), Nat.ne_of_lt (by omega), Nat.ne_of_lt (by omega), Nat.ne_of_lt (by omega), Nat.ne_of_lt (by omega), Nat.ne_of_gt (by omega), Nat.ne_of_gt (by omega), Nat.ne_of_gt (by omega), Nat.ne_of_gt (by omega), Nat.ne_of_lt (by omega),
   Nat.ne_of_lt (by omega), Nat.ne_of_lt (by omega), Nat.ne_of_lt (by omega), Nat.ne_of_lt (by omega), Nat.ne_of_lt (by omega), Nat.ne_of_lt (by omega), Nat.ne_of_lt (by omega), Nat.ne_of_lt (by omega)⟩
section
variable {X : Cx}
def iZip (K : PySem.W.Frag) (ta : TA) : TI := fun σ H R => ta σ H fun vs H1 => ∃ a b, vs = [.ref a, .ref b] ∧ (∃ xs, SqL K H1 a xs) ∧ (∃ ys, SqL K H1 b ys) ∧ R (Itz K a b) H1
def iEnum (K : PySem.W.Frag) (ta : TA) : TI := fun σ H R => ta σ H fun vs H1 => ∃ a, vs = [.ref a] ∧ (∃ xs, SqL K H1 a xs) ∧ R (Ite K a) H1
theorem boot_enum : bootBuiltins "enumerate" = some (.type "enumerate") := by decide +kernel
theorem boot_zip' : bootBuiltins "zip" = some (.type "zip") := by decide +kernel
theorem pi_zip {a b : Expr} {ta : TA} {p pos : Pos} {elts : List Expr} {k : Nat} {tpos : Pos} (hg : Gl X "zip") (hm : X.mg "zip" = none) (ha : PA X [a, b] ta) (hs : starEach [a, b] X.env = [(false, eval a X.env), (false, eval b X.env)] := by rfl) (hs2 : starEach [b] X.env = [(false, eval b X.env)] := by rfl) :
    PI X (.Tuple elts k tpos) (.Call (.Name "zip" p) [a, b] [] pos) (iZip X.K ta) := by
  intro pins s σ H R I h
  refine Call_ (ld_blt I hg hm boot_zip' (PyProof.Rows.callWith_type1 (thn (ha pos pins s σ H _ I h) fun us s1 ⟨vs, H1, I1, r1, q1⟩ => ?_) (by rw [hs, hs2]) (by rw [hs2]; rfl)))
  obtain ⟨x, y, e, ⟨xs, hx⟩, ⟨ys, hy⟩, q⟩ := q1
  subst e
  obtain ⟨u, v, rfl, rx, ry⟩ := vals2 r1
  cases rx
  cases ry
  obtain ⟨its1, rv1, p1, hz1⟩ := I1.list hx
  obtain ⟨its2, rv2, p2, hz2⟩ := I1.list hy
  refine call_zip_2 p1.isList p2.isList fun h' hz hTI hTO h1 h2 hsz kp => wpAny_pyIter_zip hz ?_
  have lx : x < s1.heap.objs.size := by obtain ⟨o, ho, _⟩ := p1.isList; exact Heap.lt_size ho
  have ly : y < s1.heap.objs.size := by obtain ⟨o, ho, _⟩ := p2.isList; exact Heap.lt_size ho
  have I2 : Inv X pins σ H1 { s1 with heap := h' } := I1.kept (t' := s1.toks) kp
  refine ⟨_, [s1.heap.objs.size + 4, s1.heap.objs.size + 2, s1.heap.objs.size + 3, s1.heap.objs.size, s1.heap.objs.size + 1], _, _, H1, rfl, I2, turn_zip (TI := s1.heap.objs.size + 2) (TO := s1.heap.objs.size + 3) (i1 := s1.heap.objs.size) (i2 := s1.heap.objs.size + 1) (a := x) (b := y) ?_, ⟨hz, hTI, ⟨_, _, hTO⟩, h1, h2⟩, fun c hc => ?_, q⟩
  · exact zapart lx ly
  · have hle : s1.heap.objs.size ≤ c := by
      simp only [List.mem_cons, List.not_mem_nil, or_false] at hc
      rcases hc with rfl | rfl | rfl | rfl | rfl
      · exact Nat.le_add_right _ _
      · exact Nat.le_add_right _ _
      · exact Nat.le_add_right _ _
      · exact Nat.le_refl _
      · exact Nat.le_add_right _ _
    exact I1.fpOk hle (I1.hok.fresh hle)
theorem pi_enumerate {a : Expr} {ta : TA} {p pos : Pos} {elts : List Expr} {k : Nat} {tpos : Pos} (hg : Gl X "enumerate") (hm : X.mg "enumerate" = none) (ha : PA X [a] ta) (hs : starEach [a] X.env = [(false, eval a X.env)] := by rfl) :
    PI X (.Tuple elts k tpos) (.Call (.Name "enumerate" p) [a] [] pos) (iEnum X.K ta) := by
  intro pins s σ H R I h
  refine Call_ (ld_blt I hg hm boot_enum (PyProof.Rows.callWith_type1 (thn (ha pos pins s σ H _ I h) fun us s1 ⟨vs, H1, I1, r1, q1⟩ => ?_) hs rfl))
  obtain ⟨x, e, ⟨xs, hx⟩, q⟩ := q1
  subst e
  obtain ⟨u, rfl, rx⟩ := vals1 r1
  cases rx
  obtain ⟨its1, rv1, p1, hz1⟩ := I1.list hx
  refine call_enumerate_list p1.isList fun h' he h1 hsz kp => wpAny_pyIter_enum he ?_
  have lx : x < s1.heap.objs.size := by obtain ⟨o, ho, _⟩ := p1.isList; exact Heap.lt_size ho
  have I2 : Inv X pins σ H1 { s1 with heap := h' } := I1.kept (t' := s1.toks) kp
  refine ⟨_, [s1.heap.objs.size + 1, s1.heap.objs.size], _, _, H1, rfl, I2, turn_enum (e := s1.heap.objs.size + 1) (it := s1.heap.objs.size) (a := x) (Nat.succ_ne_self _) (Nat.ne_of_lt (Nat.lt_succ_of_lt lx)) (Nat.ne_of_lt lx), ⟨⟨_, he⟩, h1⟩, fun c hc => ?_, q⟩
  have hle : s1.heap.objs.size ≤ c := by
    simp only [List.mem_cons, List.not_mem_nil, or_false] at hc
    rcases hc with rfl | rfl
    · exact Nat.le_add_right _ _
    · exact Nat.le_refl _
  exact I1.fpOk hle (I1.hok.fresh hle)
end
end L2
end

section
set_option Elab.async false
set_option linter.all false
set_option maxRecDepth 100000
namespace L2
open PySem PySem.Spec PyProof.Rows
theorem kept_it {s : Shared} {h' : Heap} {o : Obj} (hk : ∀ b x, b ∉ [s.heap.objs.size] → (s.heap.push o).get? b = some x → h'.get? b = some x) : ∀ b x, s.heap.get? b = some x → h'.get? b = some x :=
  fun b x e => hk b x (fun hm => by rw [List.mem_singleton.mp hm] at e; exact Nat.lt_irrefl _ (Heap.lt_size e)) (Heap.get?_push_of_some _ e)
theorem range_allD (bs : List Bool) : ((List.range bs.length).all fun i => bs.getD i true) = bs.all id := by
  rw [Bool.eq_iff_iff, List.all_eq_true, List.all_eq_true]
  constructor
  · intro h b hb
    obtain ⟨i, hi, rfl⟩ := List.mem_iff_getElem.mp hb
    have := h i (List.mem_range.mpr hi)
    simpa [hi] using this
  · intro h i hi
    have hi' := List.mem_range.mp hi
    have := h bs[i] (List.getElem_mem hi')
    simpa [hi'] using this
theorem range_anyD (bs : List Bool) : ((List.range bs.length).any fun i => bs.getD i false) = bs.any id := by
  rw [Bool.eq_iff_iff, List.any_eq_true, List.any_eq_true]
  constructor
  · rintro ⟨i, hi, h⟩
    have hi' := List.mem_range.mp hi
    exact ⟨bs[i], List.getElem_mem hi', by simpa [hi'] using h⟩
  · rintro ⟨b, hb, h⟩
    obtain ⟨i, hi, rfl⟩ := List.mem_iff_getElem.mp hb
    exact ⟨i, List.mem_range.mpr hi, by simpa [hi] using h⟩
theorem vals_bools {bs : List Bool} {us : List Value} (r : Vals (bs.map V.bl) us) {i : Nat} {v : Value} (e : us[i]? = some v) (d : Bool) : v = .bool (bs.getD i d) := by
  have hl := r.length
  have hi : i < us.length := (List.getElem?_eq_some_iff.mp e).1
  rw [List.length_map] at hl
  have hx : (bs.map V.bl)[i]? = some (.bl (bs.getD i d)) := by
    have : i < bs.length := by omega
    simp [this]
  obtain ⟨u, hu, ru⟩ := r.get hx
  rw [e] at hu
  cases hu
  exact ru
/-- the least of a list -/
def minL : List Int → Int
  | [] => 0
  | [a] => a
  | a :: b :: r => min a (minL (b :: r))
theorem minL_spec : ∀ {ns : List Int}, ns ≠ [] → minL ns ∈ ns ∧ ∀ a ∈ ns, minL ns ≤ a
  | [], h => absurd rfl h
  | [a], _ => by simp [minL]
  | a :: b :: r, _ => by
    obtain ⟨h1, h2⟩ := minL_spec (ns := b :: r) (by simp)
    simp only [minL]
    refine ⟨?_, fun c hc => ?_⟩
    · by_cases h : a ≤ minL (b :: r)
      · rw [Int.min_eq_left h]; exact List.mem_cons_self
      · rw [Int.min_eq_right (by omega)]; exact List.mem_cons_of_mem _ h1
    · rcases List.mem_cons.mp hc with rfl | hc
      · omega
      · have := h2 c hc
        omega
theorem minL_of {ns : List Int} {M : Int} (h1 : M ∈ ns) (h2 : ∀ a ∈ ns, M ≤ a) : M = minL ns := by
  obtain ⟨g1, g2⟩ := minL_spec (ns := ns) (fun z => by rw [z] at h1; cases h1)
  have := h2 _ g1
  have := g2 _ h1
  omega
section
variable {X : Cx}
def rAll (X : Cx) : List V → Hp → VK → Prop := fun xs H Q => X.calm = true ∧ ∃ (x : V) (bs : List Bool), xs = [x] ∧ Rep H x (.list (bs.map PyData.bool)) ∧ Q (.bl (bs.all id)) H
def rAny (X : Cx) : List V → Hp → VK → Prop := fun xs H Q => X.calm = true ∧ ∃ (x : V) (bs : List Bool), xs = [x] ∧ Rep H x (.list (bs.map PyData.bool)) ∧ Q (.bl (bs.any id)) H
def rMinL (X : Cx) : List V → Hp → VK → Prop := fun xs H Q => X.calm = true ∧ ∃ (x : V) (ns : List Int), xs = [x] ∧ Rep H x (.list (ns.map PyData.int)) ∧ ns ≠ [] ∧ Q (.int (minL ns)) H
def rMin3 (X : Cx) : List V → Hp → VK → Prop := fun xs H Q => X.calm = true ∧ ∃ a b c, xs = [.int a, .int b, .int c] ∧ Q (.int (min a (min b c))) H
theorem reps_bools {H : Hp} : ∀ {vs : List V} {l : List Bool}, Reps H vs (l.map PyData.bool) → vs = l.map V.bl
  | _, [], .nil => rfl
  | _, i :: l, .cons (.bl _) t => by rw [List.map_cons, reps_bools t]
theorem ca_all : CallR X (.builtin "all") (rAll X) := by
  intro pins s σ H xs us Q I r h
  obtain ⟨hc, x, bs, rfl, hx, q⟩ := h
  obtain ⟨u, rfl, rx⟩ := vals1 r
  cases hx with
  | @lst l ys _ ha rr =>
    cases rx
    have er := reps_bools rr
    subst er
    obtain ⟨its, rv, p, hz⟩ := I.list (SqL.of (K := X.K) ha)
    have hl := p.isList
    have hlt : l < s.heap.objs.size := by obtain ⟨_, e, _⟩ := hl; exact Heap.lt_size e
    refine call_all_walk (wpAny_pyIter_list hl ?_)
    refine ⟨s.heap.objs.size, [s.heap.objs.size, l], [s.heap.objs.size], its.toArray.size, _, _, fun i => bs.getD i true, rfl, Walks.list (A := X.A.in1) (I.ok.hd hc) _ l (Nat.ne_of_lt hlt) its.toArray,
      ⟨⟨_, Heap.get?_push_size _ rfl, rfl, rfl⟩, hl.push _⟩, fun i v s' Q' E' hP hQ => ?_, fun h' tk hk => ?_⟩
    · rw [vals_bools rv (show its[i]? = some v by simpa using hP) true]
      exact wpAny_truthy_bool hQ
    · have e : ((List.range its.toArray.size).all fun i => bs.getD i true) = bs.all id := by
        have := rv.length
        rw [List.length_map] at this
        rw [List.size_toArray, ← this]; exact range_allD bs
      rw [e]
      exact ⟨.bl _, H, I.kept (kept_it hk), rfl, q⟩
theorem ca_any : CallR X (.builtin "any") (rAny X) := by
  intro pins s σ H xs us Q I r h
  obtain ⟨hc, x, bs, rfl, hx, q⟩ := h
  obtain ⟨u, rfl, rx⟩ := vals1 r
  cases hx with
  | @lst l ys _ ha rr =>
    cases rx
    have er := reps_bools rr
    subst er
    obtain ⟨its, rv, p, hz⟩ := I.list (SqL.of (K := X.K) ha)
    have hl := p.isList
    have hlt : l < s.heap.objs.size := by obtain ⟨_, e, _⟩ := hl; exact Heap.lt_size e
    refine call_any_walk (wpAny_pyIter_list hl ?_)
    refine ⟨s.heap.objs.size, [s.heap.objs.size, l], [s.heap.objs.size], its.toArray.size, _, _, fun i => bs.getD i false, rfl, Walks.list (A := X.A.in1) (I.ok.hd hc) _ l (Nat.ne_of_lt hlt) its.toArray,
      ⟨⟨_, Heap.get?_push_size _ rfl, rfl, rfl⟩, hl.push _⟩, fun i v s' Q' E' hP hQ => ?_, fun h' tk hk => ?_⟩
    · rw [vals_bools rv (show its[i]? = some v by simpa using hP) false]
      exact wpAny_truthy_bool hQ
    · have e : ((List.range its.toArray.size).any fun i => bs.getD i false) = bs.any id := by
        have := rv.length
        rw [List.length_map] at this
        rw [List.size_toArray, ← this]; exact range_anyD bs
      rw [e]
      exact ⟨.bl _, H, I.kept (kept_it hk), rfl, q⟩
theorem ca_minL : CallR X (.builtin "min") (rMinL X) := by
  intro pins s σ H xs us Q I r h
  obtain ⟨hc, x, ns, rfl, hx, hne, q⟩ := h
  obtain ⟨u, rfl, rx⟩ := vals1 r
  cases hx with
  | @lst l ys _ ha rr =>
    cases rx
    have er := reps_ints rr
    subst er
    obtain ⟨its, rv, p, hz⟩ := I.list (SqL.of (K := X.K) ha)
    have hl := p.isList
    have hi := intsAre_of rv
    have hlen : its.length = ns.length := hi.length
    have hpos : 0 < ns.length := List.length_pos_iff.mpr hne
    have hlt : l < s.heap.objs.size := by obtain ⟨_, e, _⟩ := hl; exact Heap.lt_size e
    refine call_min_walk (wpAny_pyIter_list hl ?_)
    refine ⟨s.heap.objs.size, [s.heap.objs.size, l], [s.heap.objs.size], its.toArray.size, _, _, _, rfl, Walks.list (A := X.A.in1) (I.ok.hd hc) _ l (Nat.ne_of_lt hlt) its.toArray,
      ⟨⟨_, Heap.get?_push_size _ rfl, rfl, rfl⟩, hl.push _⟩, fun b hb => ?_, by simp only [List.size_toArray]; omega, CmpOf.ints_lt (fun i => ns.getD i 0) (fun i v hP => ints_at hi (by simpa using hP)), fun v h' tk hP hk => ?_⟩
    · show b < (s.heap.push _).objs.size
      rw [Heap.size_push]
      rcases List.mem_cons.mp hb with rfl | hb
      · exact Nat.lt_succ_self _
      · rcases List.mem_cons.mp hb with rfl | hb
        · exact Nat.lt_succ_of_lt hlt
        · cases hb
    · rw [List.getElem?_toArray] at hP
      obtain ⟨t, rfl⟩ := ints_at hi hP
      obtain ⟨g1, g2⟩ := argBest_lt (fun i => ns.getD i 0) (its.toArray.size - 1)
      have hsz : its.toArray.size = its.length := by simp
      generalize argBest (fun i j => decide (ns.getD i 0 < ns.getD j 0)) (its.toArray.size - 1) = k at g1 g2 ⊢
      rw [hsz] at g1 g2
      have hk2 : k < ns.length := by omega
      have em : ns.getD k 0 = minL ns := by
        refine minL_of (by simp [hk2]) fun a ha' => ?_
        obtain ⟨j, hj, rfl⟩ := List.mem_iff_getElem.mp ha'
        have := g2 j (by omega)
        simpa [hj, hk2] using this
      exact ⟨.int (minL ns), H, I.kept (kept_it hk), ⟨t, by rw [em]⟩, q⟩
theorem ca_min3 : CallR X (.builtin "min") (rMin3 X) := by
  intro pins s σ H xs us Q I r h
  obtain ⟨hc, a, b, c, rfl, q⟩ := h
  cases r with
  | cons r1 r =>
    cases r with
    | cons r2 r =>
      cases r with
      | cons r3 r =>
        cases r
        obtain ⟨t, rfl⟩ := r1
        obtain ⟨t2, rfl⟩ := r2
        obtain ⟨t3, rfl⟩ := r3
        refine min_three_ints (I.ok.hd hc) fun h' tk hk => ⟨.int (min a (min b c)), H, I.kept hk, ?_, q⟩
        by_cases h1 : b < a
        · rw [if_pos h1]
          by_cases h2 : c < b
          · rw [if_pos h2]; exact ⟨t3, by rw [show min a (min b c) = c by omega]⟩
          · rw [if_neg h2]; exact ⟨t2, by rw [show min a (min b c) = b by omega]⟩
        · rw [if_neg h1]
          by_cases h2 : c < a
          · rw [if_pos h2]; exact ⟨t3, by rw [show min a (min b c) = c by omega]⟩
          · rw [if_neg h2]; exact ⟨t, by rw [show min a (min b c) = a by omega]⟩
/-- t + u, whatever they hold -/
def rCatG (K : PySem.W.Frag) : R2 := fun x y H Q => ∃ a b xs ys, x = .ref a ∧ y = .ref b ∧ SqT K H a xs ∧ SqT K H b ys ∧ xs.length + ys.length ≤ sizeLine ∧
  (xs = [] → Q (.ref b) H) ∧ (xs ≠ [] → ys = [] → Q (.ref a) H) ∧ (xs ≠ [] → ys ≠ [] → ∀ p, H p = none → Q (.ref p) (upd H p (.tup (xs ++ ys))))
theorem op_catG : OpR X (binaryOp .Add) (rCatG X.K) := by
  intro pins s σ H x y v u Q I rx ry h
  obtain ⟨a, b, xs, ys, rfl, rfl, ha, hb, hz, q0, q1, q2⟩ := h
  by_cases hx : xs = []
  · cases rx
    cases ry
    obtain ⟨its, r1, p1, _⟩ := I.tuple ha
    obtain ⟨its2, r2, p2, _⟩ := I.tuple hb
    obtain ⟨m, F⟩ := I.fr
    have e1 : its = [] := r1.nil_iff.mpr hx
    exact add_tuples (news := []) F (fun p hp => nomatch hp) p1 p2 (fun _ => ⟨.ref b, H, I, rfl, q0 hx⟩) (fun z _ => absurd e1 z) (fun z => absurd e1 z) (by rw [← r1.length, ← r2.length]; exact hz)
  · exact op_catT pins s σ H _ _ v u Q I rx ry ⟨a, b, xs, ys, rfl, rfl, ha, hb, hx, hz, q1 hx, q2 hx⟩
end
end L2
end

namespace Mir
/-! ### the draws -/
def cellZ (ns : List Int) (k : Int) : Int := ns.getD k.toNat 0
def bitsN (x : Int) : Nat := if x == 0 then 0 else x.natAbs.log2 + 1
def absZ (i : Int) : Int := if i < 0 then -i else i
def mix (head k : Int) : Nat → Int × Int × Int
  | 0 => (head % 2147483629 + 7919 * k, 69621 * k + 5, 0)
  | i + 1 =>
    ((((mix head k i).1 * 48271 + 11 + (i : Int) * k) % 2147483647),
     (((mix head k i).2.1 * 16807 + ((mix head k i).1 * 48271 + 11 + (i : Int) * k) % 2147483647) % 2147483629),
     (mix head k i).2.2 * 2147483629 + (((mix head k i).2.1 * 16807 + ((mix head k i).1 * 48271 + 11 + (i : Int) * k) % 2147483647) % 2147483629 * (((mix head k i).2.1 * 16807 + ((mix head k i).1 * 48271 + 11 + (i : Int) * k) % 2147483647) % 2147483629) + ((mix head k i).1 * 48271 + 11 + (i : Int) * k) % 2147483647) % 2147483587)
def number (ns : List Int) (k : Int) : Int :=
  if cellZ ns 0 / 720 % 2 = 1 then (mix (cellZ ns 0) k 30).2.2 else absZ (cellZ ns k) + (mix (cellZ ns 0) k 30).2.2 * 2 ^ bitsN (absZ (cellZ ns k))
theorem absZ_nn (i : Int) : 0 ≤ absZ i := by unfold absZ; split <;> omega
theorem mix_total (head k : Int) : ∀ i, 0 ≤ (mix head k i).2.2 ∧ (mix head k i).2.2 < 2147483629 ^ i
  | 0 => by simp [mix]
  | i + 1 => by
    obtain ⟨h1, h2⟩ := mix_total head k i
    have e : (2147483629 : Int) ^ (i + 1) = 2147483629 ^ i * 2147483629 := Int.pow_succ ..
    simp only [mix]
    generalize (((mix head k i).2.1 * 16807 + ((mix head k i).1 * 48271 + 11 + (i : Int) * k) % 2147483647) % 2147483629 * (((mix head k i).2.1 * 16807 + ((mix head k i).1 * 48271 + 11 + (i : Int) * k) % 2147483647) % 2147483629) + ((mix head k i).1 * 48271 + 11 + (i : Int) * k) % 2147483647) = q
    rw [e]
    generalize (2147483629 : Int) ^ i = M at h2 ⊢
    generalize (mix head k i).2.2 = t at h1 h2 ⊢
    omega
/-- what the loop's names are bounded by -/
theorem mix_small (head k : Int) (i : Nat) : 0 ≤ (mix head k (i + 1)).1 ∧ (mix head k (i + 1)).1 < 2147483647 ∧ 0 ≤ (mix head k (i + 1)).2.1 ∧ (mix head k (i + 1)).2.1 < 2147483629 := by
  simp only [mix]; omega
theorem total_lt (head k : Int) : (mix head k 30).2.2 < 2 ^ 930 := by
  have h := (mix_total head k 30).2
  have : (2147483629 : Int) ^ 30 ≤ 2 ^ 930 := by decide +kernel
  omega
theorem number_nn (ns : List Int) (k : Int) : 0 ≤ number ns k := by
  unfold number
  have h := (mix_total (cellZ ns 0) k 30).1
  split
  · exact h
  · have h2 : (0 : Int) ≤ 2 ^ bitsN (absZ (cellZ ns k)) := Int.pow_nonneg (by decide)
    have := Int.mul_nonneg h h2
    have := absZ_nn (cellZ ns k)
    omega
def amount (n : Int) : Int × Int :=
  if n % 8 = 0 then (0, n / 8) else if n % 8 < 6 then (n / 8 % 10, n / 8 / 10) else if n % 8 = 6 then (n / 8 % 100, n / 8 / 100) else (n / 8 % 10 ^ 30, n / 8 / 10 ^ 30)
theorem amount_ok {n : Int} (h : 0 ≤ n) : 0 ≤ (amount n).1 ∧ (amount n).1 < 10 ^ 30 ∧ 0 ≤ (amount n).2 := by
  unfold amount
  have e : (10 : Int) ^ 30 = 1000000000000000000000000000000 := by decide
  rw [e]
  split
  · simp only; omega
  · split
    · simp only; omega
    · split
      · simp only; omega
      · simp only; omega
/-- the bounds drawn so far, and what is left of the number -/
def bnd (n : Int) : Nat → List Int × Int
  | 0 => ([], n)
  | i + 1 => ((bnd n i).1 ++ [(amount (bnd n i).2).1], (amount (bnd n i).2).2)
theorem bnd_ok {n : Int} (h : 0 ≤ n) : ∀ i, (bnd n i).1.length = i ∧ 0 ≤ (bnd n i).2 ∧ ∀ b ∈ (bnd n i).1, 0 ≤ b ∧ b < 10 ^ 30
  | 0 => ⟨rfl, h, by simp [bnd]⟩
  | i + 1 => by
    obtain ⟨h1, h2, h3⟩ := bnd_ok h i
    obtain ⟨a1, a2, a3⟩ := amount_ok h2
    refine ⟨by simp [bnd, h1], a3, fun b hb => ?_⟩
    simp only [bnd, List.mem_append, List.mem_singleton] at hb
    rcases hb with hb | hb
    · exact h3 b hb
    · subst hb; exact ⟨a1, a2⟩
/-! ### yards -/
structure Ln where
  up : Option Nat
  bs : List Int
structure Yd where
  T : Nat
  ls : List Ln
def lineOf (ns : List Int) (T k : Nat) : Ln :=
  if k = 0 then ⟨none, (bnd (number ns (1 + (k : Int))) T).1⟩ else ⟨some (number ns (1 + (k : Int)) % (k : Int)).toNat, (bnd (number ns (1 + (k : Int)) / (k : Int)) T).1⟩
def turnsOf (ns : List Int) : Nat := (1 + absZ (cellZ ns 0) % 8).toNat
def countOf (ns : List Int) : Nat := (1 + absZ (cellZ ns 0) / 8 % 5).toNat
def yardOf (ns : List Int) : Yd := ⟨turnsOf ns, (List.range (countOf ns)).map (lineOf ns (turnsOf ns))⟩
def upAt (y : Yd) (k : Nat) : Option Nat := (y.ls[k]?).bind (·.up)
structure Yd.Ok (y : Yd) : Prop where
  t1 : 1 ≤ y.T
  t8 : y.T ≤ 8
  l1 : 1 ≤ y.ls.length
  l5 : y.ls.length ≤ 5
  up0 : upAt y 0 = none
  ups : ∀ k, 0 < k → k < y.ls.length → ∃ a, upAt y k = some a ∧ a < k
  bl : ∀ l ∈ y.ls, l.bs.length = y.T
  bb : ∀ l ∈ y.ls, ∀ b ∈ l.bs, 0 ≤ b ∧ b < 10 ^ 300
theorem p30_300 {b : Int} (h : b < 10 ^ 30) : b < 10 ^ 300 := Int.lt_trans h (by decide +kernel)
theorem turnsOf_ok (ns : List Int) : 1 ≤ turnsOf ns ∧ turnsOf ns ≤ 8 := by unfold turnsOf; have := absZ_nn (cellZ ns 0); omega
theorem countOf_ok (ns : List Int) : 1 ≤ countOf ns ∧ countOf ns ≤ 5 := by unfold countOf; have := absZ_nn (cellZ ns 0); omega
theorem yardOf_ok (ns : List Int) : (yardOf ns).Ok := by
  obtain ⟨t1, t2⟩ := turnsOf_ok ns
  obtain ⟨c1, c2⟩ := countOf_ok ns
  have bo : ∀ k, 0 ≤ number ns (1 + (k : Int)) := fun k => number_nn _ _
  refine ⟨t1, t2, by simpa [yardOf] using c1, by simpa [yardOf] using c2, ?_, fun k h0 hk => ?_, fun l hl => ?_, fun l hl => ?_⟩
  · simp only [upAt, yardOf, List.getElem?_map]
    cases e : (List.range (countOf ns))[0]? with
    | none => rfl
    | some z =>
      have : z = 0 := by
        have := List.getElem?_eq_some_iff.mp e
        obtain ⟨h1, h2⟩ := this
        simpa using h2.symm
      subst this
      simp [lineOf]
  · have hk' : k < countOf ns := by simpa [yardOf] using hk
    have e : (List.range (countOf ns))[k]? = some k := by simp [hk']
    refine ⟨(number ns (1 + (k : Int)) % (k : Int)).toNat, ?_, ?_⟩
    · simp only [upAt, yardOf, List.getElem?_map, e]
      simp [lineOf, Nat.ne_of_gt h0]
    · have h1 : (0 : Int) < k := by omega
      have := Int.emod_lt_of_pos (number ns (1 + (k : Int))) h1
      have := Int.emod_nonneg (number ns (1 + (k : Int))) (Int.ne_of_gt h1)
      omega
  · simp only [yardOf, List.mem_map, List.mem_range] at hl
    obtain ⟨k, _, rfl⟩ := hl
    unfold lineOf
    split
    · exact (bnd_ok (bo k) _).1
    · exact (bnd_ok (Int.ediv_nonneg (bo k) (by omega)) _).1
  · simp only [yardOf, List.mem_map, List.mem_range] at hl
    obtain ⟨k, _, rfl⟩ := hl
    unfold lineOf
    split
    · exact fun b hb => ⟨((bnd_ok (bo k) _).2.2 b hb).1, p30_300 ((bnd_ok (bo k) _).2.2 b hb).2⟩
    · exact fun b hb => ⟨((bnd_ok (Int.ediv_nonneg (bo k) (by omega)) _).2.2 b hb).1, p30_300 ((bnd_ok (Int.ediv_nonneg (bo k) (by omega)) _).2.2 b hb).2⟩
theorem yardOf_30 (ns : List Int) : ∀ l ∈ (yardOf ns).ls, ∀ b ∈ l.bs, b < 10 ^ 30 := fun l hl b hb => by
  have bo : ∀ k, 0 ≤ number ns (1 + (k : Int)) := fun k => number_nn _ _
  simp only [yardOf, List.mem_map, List.mem_range] at hl
  obtain ⟨k, _, rfl⟩ := hl
  unfold lineOf at hb
  split at hb
  · exact ((bnd_ok (bo k) _).2.2 b hb).2
  · exact ((bnd_ok (Int.ediv_nonneg (bo k) (by omega)) _).2.2 b hb).2
/-! ### the way up, the lines beneath -/
def upL (y : Yd) (k : Nat) : List Nat :=
  k :: match upAt y k with
    | none => []
    | some a => if a < k then upL y a else []
termination_by k
theorem upL_eq {y : Yd} (ok : y.Ok) {k : Nat} (hk : k < y.ls.length) : upL y k = if k = 0 then [0] else k :: upL y ((upAt y k).getD 0) := by
  rw [upL]
  by_cases h0 : k = 0
  · subst h0; simp [ok.up0]
  · obtain ⟨a, e, l⟩ := ok.ups k (by omega) hk
    simp [e, l, h0]
theorem upL_le (y : Yd) : ∀ k, ∀ j ∈ upL y k, j ≤ k := by
  intro k
  induction k using Nat.strongRecOn with
  | ind k ih =>
    intro j hj
    rw [upL] at hj
    rcases List.mem_cons.mp hj with rfl | hj
    · exact Nat.le_refl _
    · cases e : upAt y k with
      | none => rw [e] at hj; simp at hj
      | some a =>
        rw [e] at hj
        by_cases hl : a < k
        · simp only [hl, if_true] at hj
          have := ih a hl j hj
          omega
        · simp only [hl, if_false] at hj; simp at hj
theorem upL_self (y : Yd) (k : Nat) : k ∈ upL y k := by rw [upL]; exact List.mem_cons_self
theorem upL_up {y : Yd} (ok : y.Ok) {k : Nat} (h0 : 0 < k) (hk : k < y.ls.length) {a : Nat} (e : upAt y k = some a) (l : Nat) (hl : l ≠ k) : l ∈ upL y k ↔ l ∈ upL y a := by
  rw [upL_eq ok hk, if_neg (by omega), e]
  simp only [Option.getD_some, List.mem_cons]
  constructor
  · rintro (h | h)
    · exact absurd h hl
    · exact h
  · exact .inr
/-- the lines from l on (n of them) on whose way up l lies -/
def benF (y : Yd) (l n : Nat) : List Nat := ((List.range n).map (l + ·)).filter (fun j => decide (l ∈ upL y j))
theorem benF_one (y : Yd) (l : Nat) : benF y l 1 = [l] := by
  simp [benF, List.range_succ, upL_self]
theorem benF_succ (y : Yd) (l n : Nat) : benF y l (n + 1) = benF y l n ++ (if l ∈ upL y (l + n) then [l + n] else []) := by
  simp only [benF, List.range_succ, List.map_append, List.filter_append, List.map_cons, List.map_nil]
  by_cases h : l ∈ upL y (l + n)
  · simp [h]
  · simp [h]
theorem mem_benF {y : Yd} {l n j : Nat} : j ∈ benF y l n ↔ l ≤ j ∧ j < l + n ∧ l ∈ upL y j := by
  simp only [benF, List.mem_filter, List.mem_map, List.mem_range, decide_eq_true_eq]
  constructor
  · rintro ⟨⟨i, hi, rfl⟩, h⟩; exact ⟨by omega, by omega, h⟩
  · rintro ⟨h1, h2, h3⟩; exact ⟨⟨j - l, by omega, by omega⟩, h3⟩
/-- the test of lines_beneath -/
theorem ben_test {y : Yd} (ok : y.Ok) {l n a : Nat} (hn : 1 ≤ n) (hl : l + n < y.ls.length) (e : upAt y (l + n) = some a) (ha : a < l + n) : a ∈ benF y l n ↔ l ∈ upL y (l + n) := by
  rw [mem_benF, upL_up ok (by omega) hl e l (by omega)]
  constructor
  · exact fun h => h.2.2
  · intro h
    have := upL_le y a l h
    exact ⟨this, ha, h⟩
/-- what the law reckons: all lines on whose way up l lies -/
theorem due_ben {y : Yd} {l c : Nat} (hl : l ≤ c) : (List.range c).filter (fun j => decide (l ∈ upL y j)) = benF y l (c - l) := by
  unfold benF
  obtain ⟨d, rfl⟩ : ∃ d, c = l + d := ⟨c - l, by omega⟩
  rw [Nat.add_sub_cancel_left, List.range_add, List.filter_append]
  have : (List.range l).filter (fun j => decide (l ∈ upL y j)) = [] := by
    rw [List.filter_eq_nil_iff]
    intro j hj
    have h1 : j < l := List.mem_range.mp hj
    simp only [decide_eq_true_eq]
    intro h
    have := upL_le y j l h
    omega
  rw [this, List.nil_append]
end Mir

namespace Mir
/-! ### guests -/
structure Gs where
  line : Nat
  first : Nat
  last : Nat
  want : Int
  most : Int
structure Gs.Ok (y : Yd) (g : Gs) : Prop where
  ln : g.line < y.ls.length
  fl : g.first ≤ g.last
  lt : g.last < y.T
  w1 : 1 ≤ g.want
  w2 : g.want < 10 ^ 300
  m1 : 1 ≤ g.most
  m2 : g.most < 10 ^ 300
def max1 (i : Int) : Int := if i > 1 then i else 1
theorem max1_ok {i : Int} (h : i < 10 ^ 30) : 1 ≤ max1 i ∧ max1 i < 10 ^ 30 := by
  have e : (10 : Int) ^ 30 = 1000000000000000000000000000000 := by decide
  rw [e] at h ⊢
  unfold max1
  split <;> omega
/-- the numbers that are left, one after another, of guest k -/
def gn0 (ns : List Int) (k : Nat) : Int := number ns (6 + (k : Int))
def gn1 (ns : List Int) (y : Yd) (k : Nat) : Int := gn0 ns k / (y.ls.length : Int)
def gn2 (ns : List Int) (y : Yd) (k : Nat) : Int := gn1 ns y k / (y.T : Int)
def gf (ns : List Int) (y : Yd) (k : Nat) : Int := gn1 ns y k % (y.T : Int)
def gl (ns : List Int) (y : Yd) (k : Nat) : Int := gf ns y k + gn2 ns y k % ((y.T : Int) - gf ns y k)
def gn3 (ns : List Int) (y : Yd) (k : Nat) : Int := gn2 ns y k / ((y.T : Int) - gf ns y k)
def guestOf (ns : List Int) (y : Yd) (k : Nat) : Gs :=
  ⟨(gn0 ns k % (y.ls.length : Int)).toNat, (gf ns y k).toNat, (gl ns y k).toNat, max1 (amount (gn3 ns y k)).1, max1 (amount (amount (gn3 ns y k)).2).1⟩
def guestCount (ns : List Int) : Nat := (absZ (cellZ ns 0) / 40 % 9).toNat
def guestsOf (ns : List Int) (y : Yd) : List Gs := (List.range (guestCount ns)).map (guestOf ns y)
theorem gf_ok {y : Yd} (ok : y.Ok) (ns : List Int) (k : Nat) : 0 ≤ gf ns y k ∧ gf ns y k < y.T := by
  have h : (0 : Int) < (y.T : Int) := by have := ok.t1; omega
  exact ⟨Int.emod_nonneg _ (Int.ne_of_gt h), Int.emod_lt_of_pos _ h⟩
theorem gn_nn {y : Yd} (ok : y.Ok) (ns : List Int) (k : Nat) : 0 ≤ gn0 ns k ∧ 0 ≤ gn1 ns y k ∧ 0 ≤ gn2 ns y k ∧ 0 ≤ gn3 ns y k := by
  have h0 := number_nn ns (6 + (k : Int))
  have h1 : 0 ≤ gn1 ns y k := Int.ediv_nonneg h0 (by omega)
  have h2 : 0 ≤ gn2 ns y k := Int.ediv_nonneg h1 (by omega)
  obtain ⟨f0, f1⟩ := gf_ok ok ns k
  exact ⟨h0, h1, h2, Int.ediv_nonneg h2 (by omega)⟩
theorem gl_ok {y : Yd} (ok : y.Ok) (ns : List Int) (k : Nat) : gf ns y k ≤ gl ns y k ∧ gl ns y k < y.T := by
  obtain ⟨f0, f1⟩ := gf_ok ok ns k
  have h : (0 : Int) < (y.T : Int) - gf ns y k := by omega
  have a := Int.emod_nonneg (gn2 ns y k) (Int.ne_of_gt h)
  have b := Int.emod_lt_of_pos (gn2 ns y k) h
  unfold gl
  omega
theorem guestOf_ok {y : Yd} (ok : y.Ok) (ns : List Int) (k : Nat) : (guestOf ns y k).Ok y := by
  obtain ⟨f0, f1⟩ := gf_ok ok ns k
  obtain ⟨l0, l1⟩ := gl_ok ok ns k
  obtain ⟨n0, n1, n2, n3⟩ := gn_nn ok ns k
  obtain ⟨a1, a2, a3⟩ := amount_ok n3
  obtain ⟨b1, b2, b3⟩ := amount_ok a3
  obtain ⟨m1, m2⟩ := max1_ok a2
  obtain ⟨m3, m4⟩ := max1_ok b2
  have hl : (0 : Int) < (y.ls.length : Int) := by have := ok.l1; omega
  have c1 := Int.emod_nonneg (gn0 ns k) (Int.ne_of_gt hl)
  have c2 := Int.emod_lt_of_pos (gn0 ns k) hl
  refine ⟨?_, ?_, ?_, m1, p30_300 m2, m3, p30_300 m4⟩
  · simp only [guestOf]; omega
  · simp only [guestOf]; omega
  · simp only [guestOf]; omega
theorem guestOf_30 {y : Yd} (ok : y.Ok) (ns : List Int) (k : Nat) : (guestOf ns y k).want < 10 ^ 30 ∧ (guestOf ns y k).most < 10 ^ 30 := by
  obtain ⟨n0, n1, n2, n3⟩ := gn_nn ok ns k
  obtain ⟨a1, a2, a3⟩ := amount_ok n3
  obtain ⟨b1, b2, b3⟩ := amount_ok a3
  obtain ⟨m1, m2⟩ := max1_ok a2
  obtain ⟨m3, m4⟩ := max1_ok b2
  exact ⟨m2, m4⟩
theorem guestsOf_ok {y : Yd} (ok : y.Ok) (ns : List Int) : ∀ g ∈ guestsOf ns y, g.Ok y := fun g hg => by
  simp only [guestsOf, List.mem_map, List.mem_range] at hg
  obtain ⟨k, _, rfl⟩ := hg
  exact guestOf_ok ok ns k
theorem guestsOf_30 {y : Yd} (ok : y.Ok) (ns : List Int) : ∀ g ∈ guestsOf ns y, g.want < 10 ^ 30 ∧ g.most < 10 ^ 30 := fun g hg => by
  simp only [guestsOf, List.mem_map, List.mem_range] at hg
  obtain ⟨k, _, rfl⟩ := hg
  exact guestOf_30 ok ns k
theorem guestsOf_len (ns : List Int) (y : Yd) : (guestsOf ns y).length ≤ 8 := by
  simp only [guestsOf, List.length_map, List.length_range, guestCount]
  have := absZ_nn (cellZ ns 0)
  omega
/-! ### what a set can be given -/
def thereAt (g : Gs) (t : Int) : Bool := decide ((g.first : Int) ≤ t) && decide (t ≤ (g.last : Int))
def bndAt (y : Yd) (l : Nat) (t : Nat) : Int := (((y.ls[l]?).map (·.bs)).getD []).getD t 0
/-- what the guests of some, those of them that stand at line l, take at most at turn t -/
def ownAt (gs : List Gs) (t : Int) (l : Nat) : List Nat → Int
  | [] => 0
  | k :: r => (match gs[k]? with | some g => if g.line = l ∧ thereAt g t = true then g.most else 0 | none => 0) + ownAt gs t l r
theorem ownAt_append (gs : List Gs) (t : Int) (l : Nat) (a b : List Nat) : ownAt gs t l (a ++ b) = ownAt gs t l a + ownAt gs t l b := by
  induction a with
  | nil => simp [ownAt]
  | cons k r ih => simp only [List.cons_append, ownAt, ih]; omega
/-- what reaches the lines behind i steps, from the last line up -/
def stepR (y : Yd) (b : Nat → Int) (st : Nat → Int) (j : Nat) : Nat → Int := fun l => st l + (if upAt y j = some l then min (st j) (b j) else 0)
def reachN (y : Yd) (b own : Nat → Int) : Nat → Nat → Int
  | 0 => own
  | i + 1 => stepR y b (reachN y b own i) (y.ls.length - 1 - i)
/-- what reaches a line -/
def reach (y : Yd) (b own : Nat → Int) (l : Nat) : Int := reachN y b own (y.ls.length - 1) l
def passes (y : Yd) (b own : Nat → Int) (l : Nat) : Int := min (reach y b own l) (b l)
/-- the lines behind l, as the law sums them: those from l + 1 on, n of them -/
def beneathSum (y : Yd) (b own : Nat → Int) (l : Nat) : Nat → Int
  | 0 => 0
  | n + 1 => beneathSum y b own l n + (if upAt y (l + 1 + n) = some l then passes y b own (l + 1 + n) else 0)
theorem reachN_old (y : Yd) (ok : y.Ok) (b own : Nat → Int) (l : Nat) : ∀ i, i ≤ y.ls.length - 1 → y.ls.length - 1 - i ≤ l → ∀ d, i + d ≤ y.ls.length - 1 → reachN y b own (i + d) l = reachN y b own i l
  | i, hi, hl, 0, _ => rfl
  | i, hi, hl, d + 1, hd => by
    have ih := reachN_old y ok b own l i hi hl d (by omega)
    show stepR y b (reachN y b own (i + d)) (y.ls.length - 1 - (i + d)) l = _
    unfold stepR
    rw [ih]
    by_cases h0 : 0 < y.ls.length - 1 - (i + d)
    · obtain ⟨a, ea, la⟩ := ok.ups (y.ls.length - 1 - (i + d)) h0 (by omega)
      rw [ea]
      have : ¬ some a = some l := by
        intro z
        injection z with z
        omega
      rw [if_neg this]
      omega
    · have : y.ls.length - 1 - (i + d) = 0 := by omega
      omega
theorem reach_full {y : Yd} (ok : y.Ok) (b own : Nat → Int) {j : Nat} (hj : j < y.ls.length) : reachN y b own (y.ls.length - 1 - j) j = reach y b own j := by
  unfold reach
  have := reachN_old y ok b own j (y.ls.length - 1 - j) (by omega) (by omega) j (by omega)
  rw [show y.ls.length - 1 - j + j = y.ls.length - 1 by omega] at this
  exact this.symm
/-- behind i steps line l has its own, and what passes the last i lines straight beneath it -/
theorem reachN_eq {y : Yd} (ok : y.Ok) (b own : Nat → Int) (l : Nat) : ∀ i, i ≤ y.ls.length - 1 → reachN y b own i l + beneathSum y b own l (y.ls.length - 1 - i - l) = own l + beneathSum y b own l (y.ls.length - 1 - l)
  | 0, _ => by simp [reachN]
  | i + 1, hi => by
    have ih := reachN_eq ok b own l i (by omega)
    have e : reachN y b own (i + 1) l = reachN y b own i l + (if upAt y (y.ls.length - 1 - i) = some l then passes y b own (y.ls.length - 1 - i) else 0) := by
      show stepR y b (reachN y b own i) (y.ls.length - 1 - i) l = _
      unfold stepR passes
      have hj : y.ls.length - 1 - i < y.ls.length := by have := ok.l1; omega
      have rf := reach_full ok b own hj
      rw [show y.ls.length - 1 - (y.ls.length - 1 - i) = i by omega] at rf
      rw [rf]
    rw [e]
    by_cases hl : l < y.ls.length - 1 - i
    · obtain ⟨d, ed⟩ : ∃ d, y.ls.length - 1 - i - l = d + 1 := ⟨y.ls.length - 1 - i - l - 1, by omega⟩
      rw [ed] at ih
      have e2 : y.ls.length - 1 - (i + 1) - l = d := by omega
      rw [e2]
      have e3 : l + 1 + d = y.ls.length - 1 - i := by omega
      simp only [beneathSum, e3] at ih
      omega
    · have e1 : y.ls.length - 1 - i - l = 0 := by omega
      have e2 : y.ls.length - 1 - (i + 1) - l = 0 := by omega
      rw [e1] at ih
      rw [e2]
      have : ¬ upAt y (y.ls.length - 1 - i) = some l := by
        intro z
        have h0 : 0 < y.ls.length - 1 - i := by omega
        obtain ⟨a, ea, la⟩ := ok.ups (y.ls.length - 1 - i) h0 (by omega)
        rw [ea] at z
        injection z with z
        omega
      rw [if_neg this]
      simp only [beneathSum] at ih ⊢
      omega
/-- the law's own reckoning -/
theorem reach_eq {y : Yd} (ok : y.Ok) (b own : Nat → Int) (l : Nat) : reach y b own l = own l + beneathSum y b own l (y.ls.length - 1 - l) := by
  have h := reachN_eq ok b own l (y.ls.length - 1) (Nat.le_refl _)
  rw [show y.ls.length - 1 - (y.ls.length - 1) - l = 0 by omega] at h
  simp only [beneathSum] at h
  unfold reach
  omega
/-! ### sets drawn -/
def picked (n : Int) : Nat → List Nat × Int
  | 0 => ([], n)
  | i + 1 => ((picked n i).1 ++ (if (picked n i).2 % 2 = 1 then [i] else []), (picked n i).2 / 2)
theorem picked_ok (n : Int) : ∀ i, (∀ k ∈ (picked n i).1, k < i) ∧ (picked n i).1.length ≤ i
  | 0 => by simp [picked]
  | i + 1 => by
    obtain ⟨h1, h2⟩ := picked_ok n i
    refine ⟨fun k hk => ?_, ?_⟩
    · simp only [picked, List.mem_append] at hk
      rcases hk with hk | hk
      · have := h1 k hk; omega
      · by_cases c : (picked n i).2 % 2 = 1
        · rw [if_pos c, List.mem_singleton] at hk; omega
        · rw [if_neg c] at hk; simp at hk
    · simp only [picked, List.length_append]
      by_cases c : (picked n i).2 % 2 = 1
      · rw [if_pos c, List.length_singleton]; omega
      · rw [if_neg c, List.length_nil]; omega
end Mir

namespace Mir
/-! ### sums below n -/
def sumN (f : Nat → Int) : Nat → Int
  | 0 => 0
  | n + 1 => sumN f n + f n
theorem sumN_congr {f g : Nat → Int} : ∀ {n : Nat}, (∀ k, k < n → f k = g k) → sumN f n = sumN g n
  | 0, _ => rfl
  | n + 1, h => by
    simp only [sumN]
    rw [sumN_congr (n := n) fun k hk => h k (by omega), h n (by omega)]
theorem sumN_le {f g : Nat → Int} : ∀ {n : Nat}, (∀ k, k < n → f k ≤ g k) → sumN f n ≤ sumN g n
  | 0, _ => Int.le_refl _
  | n + 1, h => by
    simp only [sumN]
    have := sumN_le (n := n) fun k hk => h k (by omega)
    have := h n (by omega)
    omega
theorem sumN_add (f g : Nat → Int) : ∀ n, sumN (fun k => f k + g k) n = sumN f n + sumN g n
  | 0 => rfl
  | n + 1 => by simp only [sumN]; rw [sumN_add f g n]; omega
theorem sumN_mul (c : Int) (f : Nat → Int) : ∀ n, sumN (fun k => c * f k) n = c * sumN f n
  | 0 => by simp [sumN]
  | n + 1 => by simp only [sumN]; rw [sumN_mul c f n, Int.mul_add]
theorem sumN_zero : ∀ n, sumN (fun _ => 0) n = 0
  | 0 => rfl
  | n + 1 => by simp only [sumN]; rw [sumN_zero n]; rfl
theorem sumN_at {a : Nat} {v : Int} : ∀ {n : Nat}, sumN (fun l => if l = a then v else 0) n = if a < n then v else 0
  | 0 => by simp [sumN]
  | n + 1 => by
    simp only [sumN]
    rw [sumN_at (n := n)]
    by_cases h : n = a
    · subst h; simp
    · by_cases h2 : a < n
      · simp [h, h2]; omega
      · have : ¬ a < n + 1 := by omega
        simp [h, h2, this]
theorem sumN_nn {f : Nat → Int} {n : Nat} (h : ∀ k, k < n → 0 ≤ f k) : 0 ≤ sumN f n := by
  have := sumN_le (f := fun _ => 0) (g := f) (n := n) h
  rw [sumN_zero] at this
  exact this
theorem sum_range (f : Nat → Int) (n : Nat) : ((List.range n).map f).sum = sumN f n := by
  induction n with
  | zero => rfl
  | succ n ih => rw [List.range_succ, List.map_append, List.sum_append, ih]; simp [sumN]
/-! ### what reaches: its growth -/
theorem reachN_mono {y : Yd} {b b' own own' : Nat → Int} (hb : ∀ l, b l ≤ b' l) (h : ∀ l, own l ≤ own' l) : ∀ i l, reachN y b own i l ≤ reachN y b' own' i l
  | 0, l => h l
  | i + 1, l => by
    simp only [reachN, stepR]
    have h1 := reachN_mono (y := y) hb h i l
    have h2 := reachN_mono (y := y) hb h i (y.ls.length - 1 - i)
    have h3 := hb (y.ls.length - 1 - i)
    split <;> omega
theorem sumN_step {y : Yd} (ok : y.Ok) (b st : Nat → Int) {j : Nat} (h0 : 0 < j) (hj : j < y.ls.length) : sumN (stepR y b st j) j = sumN st j + min (st j) (b j) := by
  obtain ⟨a, ea, la⟩ := ok.ups j h0 hj
  have e : stepR y b st j = fun l => st l + (fun l => if l = a then min (st j) (b j) else 0) l := by
    funext l
    simp only [stepR, ea]
    by_cases h : l = a
    · subst h; simp
    · have : ¬ some a = some l := fun z => h (by injection z with z; exact z.symm)
      rw [if_neg this, if_neg h]
  rw [e, sumN_add, sumN_at, if_pos la]
/-- what is more at the lines behind i steps is no more than at first -/
theorem pot {y : Yd} (ok : y.Ok) {b own own' : Nat → Int} (h : ∀ l, own l ≤ own' l) : ∀ i, i ≤ y.ls.length - 1 →
    sumN (reachN y b own' i) (y.ls.length - i) - sumN (reachN y b own i) (y.ls.length - i) ≤ sumN own' y.ls.length - sumN own y.ls.length
  | 0, _ => by simp [reachN]
  | i + 1, hi => by
    have ih := pot ok (b := b) h i (by omega)
    have hj : y.ls.length - i = (y.ls.length - 1 - i) + 1 := by have := ok.l1; omega
    have e : y.ls.length - (i + 1) = y.ls.length - 1 - i := by omega
    rw [hj] at ih
    rw [e]
    simp only [sumN] at ih
    have h1 := sumN_step ok b (reachN y b own i) (j := y.ls.length - 1 - i) (by omega) (by have := ok.l1; omega)
    have h2 := sumN_step ok b (reachN y b own' i) (j := y.ls.length - 1 - i) (by omega) (by have := ok.l1; omega)
    have m := reachN_mono (y := y) (b := b) (b' := b) (fun _ => Int.le_refl _) h i (y.ls.length - 1 - i)
    simp only [reachN]
    rw [h1, h2]
    omega
theorem reach_grow {y : Yd} (ok : y.Ok) {b own own' : Nat → Int} (h : ∀ l, own l ≤ own' l) : reach y b own' 0 - reach y b own 0 ≤ sumN own' y.ls.length - sumN own y.ls.length := by
  have p := pot ok (b := b) h (y.ls.length - 1) (Nat.le_refl _)
  have e : y.ls.length - (y.ls.length - 1) = 1 := by have := ok.l1; omega
  rw [e] at p
  simp only [sumN] at p
  unfold reach
  omega
theorem passes_mono {y : Yd} {b b' own own' : Nat → Int} (hb : ∀ l, b l ≤ b' l) (h : ∀ l, own l ≤ own' l) (l : Nat) : passes y b own l ≤ passes y b' own' l := by
  have h1 := reachN_mono (y := y) hb h (y.ls.length - 1) l
  have h2 := hb l
  unfold passes reach
  omega
theorem passes_grow {y : Yd} (ok : y.Ok) {b own own' : Nat → Int} (h : ∀ l, own l ≤ own' l) : passes y b own' 0 - passes y b own 0 ≤ sumN own' y.ls.length - sumN own y.ls.length := by
  have h1 := reach_grow ok (b := b) h
  have h2 : reach y b own 0 ≤ reach y b own' 0 := reachN_mono (y := y) (b := b) (b' := b) (fun _ => Int.le_refl _) h _ 0
  unfold passes
  omega
/-! ### sets together -/
structure Quad (u n a b : Nat → Int) : Prop where
  q : ∀ l, n l ≤ a l ∧ n l ≤ b l ∧ a l ≤ u l ∧ b l ≤ u l ∧ u l + n l ≤ a l + b l
theorem reachN_quad {y : Yd} {c u n a b : Nat → Int} (h : Quad u n a b) : ∀ i, Quad (reachN y c u i) (reachN y c n i) (reachN y c a i) (reachN y c b i)
  | 0 => h
  | i + 1 => ⟨fun l => by
    have h1 := (reachN_quad (y := y) (c := c) h i).q l
    have h2 := (reachN_quad (y := y) (c := c) h i).q (y.ls.length - 1 - i)
    simp only [reachN, stepR]
    split
    · omega
    · omega⟩
theorem passes_quad {y : Yd} {c u n a b : Nat → Int} (h : Quad u n a b) : passes y c u 0 + passes y c n 0 ≤ passes y c a 0 + passes y c b 0 := by
  have := (reachN_quad (y := y) (c := c) h (y.ls.length - 1)).q 0
  unfold passes reach
  omega
/-- a guest's most, where it stands at the line and is there -/
def wgt (gs : List Gs) (t : Int) (l k : Nat) : Int := match gs[k]? with | some g => if g.line = l ∧ thereAt g t = true then g.most else 0 | none => 0
theorem own_one (gs : List Gs) (t : Int) (l k : Nat) : ownAt gs t l [k] = wgt gs t l k := by
  simp only [ownAt, wgt]
  cases gs[k]? with
  | none => rfl
  | some g => simp
theorem own_filter (gs : List Gs) (t : Int) (l : Nat) (p : Nat → Bool) (m : Nat) : ownAt gs t l ((List.range m).filter p) = sumN (fun k => if p k = true then wgt gs t l k else 0) m := by
  induction m with
  | zero => rfl
  | succ m ih =>
    rw [List.range_succ, List.filter_append, ownAt_append, ih]
    simp only [sumN]
    cases e : p m with
    | true => simp only [List.filter_cons, e, if_true, List.filter_nil, own_one]
    | false => simp only [List.filter_cons, e, List.filter_nil, ownAt, Bool.false_eq_true, if_false]
theorem wgt_nn {gs : List Gs} (h : ∀ g ∈ gs, 1 ≤ g.most) (t : Int) (l k : Nat) : 0 ≤ wgt gs t l k := by
  unfold wgt
  split
  · rename_i g e
    have := h g (List.mem_of_getElem? e)
    split <;> omega
  · omega
theorem own_quad {gs : List Gs} (h : ∀ g ∈ gs, 1 ≤ g.most) (t : Int) (p q : Nat → Bool) (m : Nat) :
    Quad (fun l => ownAt gs t l ((List.range m).filter fun k => p k || q k)) (fun l => ownAt gs t l ((List.range m).filter fun k => p k && q k)) (fun l => ownAt gs t l ((List.range m).filter p)) (fun l => ownAt gs t l ((List.range m).filter q)) := ⟨fun l => by
  simp only [own_filter]
  have w := fun k => wgt_nn h t l k
  refine ⟨sumN_le fun k _ => ?_, sumN_le fun k _ => ?_, sumN_le fun k _ => ?_, sumN_le fun k _ => ?_, ?_⟩
  · have := w k; cases p k <;> cases q k <;> simp <;> omega
  · have := w k; cases p k <;> cases q k <;> simp <;> omega
  · have := w k; cases p k <;> cases q k <;> simp <;> omega
  · have := w k; cases p k <;> cases q k <;> simp <;> omega
  · rw [← sumN_add, ← sumN_add]
    refine sumN_le fun k _ => ?_
    have := w k
    cases p k <;> cases q k <;> simp⟩
/-- all that a guest takes at most, wherever it stands -/
theorem sumN_wgt {gs : List Gs} {k n : Nat} {g : Gs} (e : gs[k]? = some g) (hl : g.line < n) (t : Int) : sumN (fun l => wgt gs t l k) n = if thereAt g t = true then g.most else 0 := by
  have : (fun l => wgt gs t l k) = fun l => if l = g.line then (if thereAt g t = true then g.most else 0) else 0 := by
    funext l
    simp only [wgt, e]
    by_cases h : g.line = l
    · subst h; by_cases h2 : thereAt g t = true <;> simp [h2]
    · have : ¬ l = g.line := fun z => h z.symm
      simp [h, this]
  rw [this, sumN_at, if_pos hl]
theorem sumN_swap (f : Nat → Nat → Int) (n : Nat) : ∀ m, sumN (fun l => sumN (fun k => f l k) m) n = sumN (fun k => sumN (fun l => f l k) n) m
  | 0 => by simp only [sumN]; exact sumN_zero n
  | m + 1 => by
    simp only [sumN]
    rw [sumN_add, sumN_swap f n m]
/-- one guest more -/
theorem own_more {gs : List Gs} (h : ∀ g ∈ gs, 1 ≤ g.most) {k m n : Nat} {g : Gs} (e : gs[k]? = some g) (hl : g.line < n) (t : Int) (p p' : Nat → Bool) (hp : ∀ j, p j = true → p' j = true) (hp' : ∀ j, j ≠ k → p' j = p j) :
    (∀ l, ownAt gs t l ((List.range m).filter p) ≤ ownAt gs t l ((List.range m).filter p')) ∧
    sumN (fun l => ownAt gs t l ((List.range m).filter p')) n - sumN (fun l => ownAt gs t l ((List.range m).filter p)) n ≤ if thereAt g t = true then g.most else 0 := by
  refine ⟨fun l => ?_, ?_⟩
  · simp only [own_filter]
    refine sumN_le fun j _ => ?_
    have := wgt_nn h t l j
    cases e1 : p j with
    | true => rw [hp j e1]; simp
    | false => cases p' j <;> simp; omega
  · have w := wgt_nn h t
    have d : ∀ l, sumN (fun j => if p' j = true then wgt gs t l j else 0) m ≤ sumN (fun j => if p j = true then wgt gs t l j else 0) m + wgt gs t l k := fun l => by
      have z : sumN (fun j => if p' j = true then wgt gs t l j else 0) m ≤ sumN (fun j => (if p j = true then wgt gs t l j else 0) + (if j = k then wgt gs t l k else 0)) m := sumN_le fun j _ => by
        by_cases hj : j = k
        · subst hj; have := w l j; cases p' j <;> cases p j <;> simp <;> omega
        · rw [hp' j hj]; simp [hj]
      rw [sumN_add, sumN_at] at z
      have := w l k
      split at z <;> omega
    have s := sumN_le (n := n) fun l _ => d l
    rw [sumN_add, sumN_wgt e hl] at s
    simp only [own_filter]
    omega
end Mir

namespace Mir
/-! ### the way up is a chain -/
theorem upL_chain {y : Yd} (ok : y.Ok) : ∀ k, k < y.ls.length → ∀ c ∈ upL y k, ∀ c' ∈ upL y k, c' ≤ c → c' ∈ upL y c := by
  intro k
  induction k using Nat.strongRecOn with
  | ind k ih =>
    intro hk c hc c' hc' hle
    rw [upL_eq ok hk] at hc hc'
    by_cases h0 : k = 0
    · rw [if_pos h0] at hc hc'
      simp only [List.mem_cons, List.not_mem_nil, or_false] at hc hc'
      subst hc hc'
      exact upL_self y 0
    · rw [if_neg h0] at hc hc'
      obtain ⟨a, ea, la⟩ := ok.ups k (by omega) hk
      rw [ea] at hc hc'
      simp only [Option.getD_some, List.mem_cons] at hc hc'
      rcases hc with rfl | hc
      · rcases hc' with rfl | hc'
        · exact upL_self y _
        · rw [upL_up ok (by omega) hk ea c' (by have := upL_le y a c' hc'; omega)]
          exact hc'
      · rcases hc' with rfl | hc'
        · have := upL_le y a c hc
          omega
        · exact ih a la (by omega) c hc c' hc' hle
theorem upL_lt {y : Yd} (ok : y.Ok) {k c : Nat} (hk : k < y.ls.length) (hc : c ∈ upL y k) : c < y.ls.length := by
  have := upL_le y k c hc
  omega
/-- one child alone of a line lies on a way up -/
theorem upL_one {y : Yd} (ok : y.Ok) {k c c' l : Nat} (hk : k < y.ls.length) (hc : c ∈ upL y k) (hc' : c' ∈ upL y k) (e : upAt y c = some l) (e' : upAt y c' = some l) (h0 : 0 < c) (h0' : 0 < c') : c = c' := by
  have key : ∀ {c c' : Nat}, c ∈ upL y k → c' ∈ upL y k → upAt y c = some l → upAt y c' = some l → 0 < c → 0 < c' → ¬ c' < c := fun {c c'} hc hc' e e' h0 h0' hlt => by
    have h1 := upL_chain ok k hk c hc c' hc' (by omega)
    rw [upL_up ok h0 (upL_lt ok hk hc) e c' (by omega)] at h1
    have h2 := upL_le y l c' h1
    obtain ⟨a, ea, la⟩ := ok.ups c' h0' (upL_lt ok hk hc')
    rw [e'] at ea
    cases ea
    omega
  have h1 := key hc hc' e e' h0 h0'
  have h2 := key hc' hc e' e h0' h0
  omega
theorem upL_parent {y : Yd} (ok : y.Ok) {k c l : Nat} (hk : k < y.ls.length) (hc : c ∈ upL y k) (e : upAt y c = some l) (h0 : 0 < c) : l ∈ upL y k := by
  induction k using Nat.strongRecOn with
  | ind k ih =>
    rw [upL_eq ok hk] at hc ⊢
    by_cases hz : k = 0
    · rw [if_pos hz] at hc
      simp only [List.mem_cons, List.not_mem_nil, or_false] at hc
      omega
    · rw [if_neg hz] at hc ⊢
      obtain ⟨a, ea, la⟩ := ok.ups k (by omega) hk
      rw [ea] at hc ⊢
      simp only [Option.getD_some, List.mem_cons] at hc ⊢
      rcases hc with rfl | hc
      · rw [e] at ea
        cases ea
        exact .inr (upL_self y l)
      · exact .inr (ih a la (by omega) hc)
/-! ### one bound more -/
theorem beneath_congr {y : Yd} {b b' own : Nat → Int} (l : Nat) : ∀ n, (∀ c, l < c → c ≤ l + n → upAt y c = some l → passes y b' own c = passes y b own c) → beneathSum y b' own l n = beneathSum y b own l n
  | 0, _ => rfl
  | n + 1, h => by
    simp only [beneathSum]
    rw [beneath_congr l n fun c h1 h2 h3 => h c h1 (by omega) h3]
    by_cases e : upAt y (l + 1 + n) = some l
    · rw [if_pos e, if_pos e, h (l + 1 + n) (by omega) (by omega) e]
    · rw [if_neg e, if_neg e]
theorem reach_congr {y : Yd} (ok : y.Ok) {b b' own : Nat → Int} {l : Nat} (h : ∀ c, l < c → c < y.ls.length → upAt y c = some l → passes y b' own c = passes y b own c) : reach y b' own l = reach y b own l := by
  rw [reach_eq ok, reach_eq ok, beneath_congr l _ fun c h1 h2 h3 => ?_]
  by_cases hl : l < y.ls.length
  · exact h c h1 (by omega) h3
  · omega
section
variable {y : Yd} {b b' own : Nat → Int} {l0 : Nat}
/-- lines that aren't above the line are as they were -/
theorem off_way (ok : y.Ok) (hl0 : l0 < y.ls.length) (hb : ∀ l, l ≠ l0 → b' l = b l) : ∀ n l, y.ls.length ≤ l + n → l < y.ls.length → l ∉ upL y l0 → passes y b' own l = passes y b own l
  | 0, l, h, hl, _ => by omega
  | n + 1, l, h, hl, hn => by
    have hne : l ≠ l0 := fun z => hn (by rw [z]; exact upL_self y l0)
    have : reach y b' own l = reach y b own l := reach_congr ok fun c h1 h2 h3 => off_way ok hl0 hb n c (by omega) h2 fun z => hn (upL_parent ok hl0 z h3 (by omega))
    unfold passes
    rw [this, hb l hne]
theorem up_same (ok : y.Ok) (hl0 : l0 < y.ls.length) (hb : ∀ l, l ≠ l0 → b' l = b l) {c l : Nat} (hc : c ∈ upL y l0) (h0 : 0 < c) (e : upAt y c = some l) (s : passes y b' own c = passes y b own c) : passes y b' own l = passes y b own l := by
  obtain ⟨a, ea, la⟩ := ok.ups c h0 (upL_lt ok hl0 hc)
  rw [e] at ea
  cases ea
  have hcl := upL_le y l0 c hc
  have hne : l ≠ l0 := by omega
  have : reach y b' own l = reach y b own l := reach_congr ok fun c' h1 h2 h3 => by
    by_cases hc' : c' ∈ upL y l0
    · rw [upL_one ok hl0 hc' hc h3 e (by omega) h0]
      exact s
    · exact off_way ok hl0 hb y.ls.length c' (by omega) h2 hc'
  unfold passes
  rw [this, hb l hne]
theorem all_same (ok : y.Ok) (hl0 : l0 < y.ls.length) (hb : ∀ l, l ≠ l0 → b' l = b l) : ∀ c, c ∈ upL y l0 → passes y b' own c = passes y b own c → passes y b' own 0 = passes y b own 0 := by
  intro c
  induction c using Nat.strongRecOn with
  | ind c ih =>
    intro hc s
    by_cases h0 : c = 0
    · rw [← h0]; exact s
    · obtain ⟨a, ea, la⟩ := ok.ups c (by omega) (upL_lt ok hl0 hc)
      exact ih a la (upL_parent ok hl0 hc ea (by omega)) (up_same ok hl0 hb hc (by omega) ea s)
/-- more room at a line that is no cut gives nothing -/
theorem no_cut (ok : y.Ok) (hl0 : l0 < y.ls.length) (hb : ∀ l, l ≠ l0 → b' l = b l) (hm : ∀ l, b l ≤ b' l) (h : ¬ b l0 < reach y b own l0 ∨ ∃ u ∈ upL y l0, u ≠ l0 ∧ b u < reach y b own u) : passes y b' own 0 = passes y b own 0 := by
  rcases h with h | ⟨u, hu, hne, hn⟩
  · refine all_same ok hl0 hb l0 (upL_self y l0) ?_
    have : reach y b' own l0 = reach y b own l0 := reach_congr ok fun c h1 h2 h3 => off_way ok hl0 hb y.ls.length c (by omega) h2 fun z => by
      have := upL_le y l0 c z
      omega
    have := hm l0
    unfold passes
    omega
  · refine all_same ok hl0 hb u hu ?_
    have h1 : reach y b own u ≤ reach y b' own u := reachN_mono hm (fun _ => Int.le_refl _) _ u
    have h2 := hb u hne
    unfold passes
    omega
/-- .. and never gives more than itself -/
theorem potB (ok : y.Ok) (hm : ∀ l, b l ≤ b' l) : ∀ i, i ≤ y.ls.length - 1 →
    sumN (reachN y b' own i) (y.ls.length - i) - sumN (reachN y b own i) (y.ls.length - i) ≤ sumN (fun l => b' l - b l) y.ls.length - sumN (fun l => b' l - b l) (y.ls.length - i)
  | 0, _ => by simp [reachN]
  | i + 1, hi => by
    have ih := potB ok hm i (by omega)
    have hj : y.ls.length - i = (y.ls.length - 1 - i) + 1 := by have := ok.l1; omega
    have e : y.ls.length - (i + 1) = y.ls.length - 1 - i := by omega
    rw [hj] at ih
    rw [e]
    simp only [sumN] at ih
    have h1 := sumN_step ok b (reachN y b own i) (j := y.ls.length - 1 - i) (by omega) (by have := ok.l1; omega)
    have h2 := sumN_step ok b' (reachN y b' own i) (j := y.ls.length - 1 - i) (by omega) (by have := ok.l1; omega)
    have m := reachN_mono (y := y) (b := b) (b' := b') (own := own) hm (fun _ => Int.le_refl _) i (y.ls.length - 1 - i)
    have m2 := hm (y.ls.length - 1 - i)
    simp only [reachN]
    rw [h1, h2]
    omega
theorem passes_room (ok : y.Ok) (hm : ∀ l, b l ≤ b' l) : 0 ≤ passes y b' own 0 - passes y b own 0 ∧ passes y b' own 0 - passes y b own 0 ≤ sumN (fun l => b' l - b l) y.ls.length := by
  have p := potB (own := own) ok hm (y.ls.length - 1) (Nat.le_refl _)
  have e : y.ls.length - (y.ls.length - 1) = 1 := by have := ok.l1; omega
  rw [e] at p
  simp only [sumN] at p
  have h1 : reach y b own 0 ≤ reach y b' own 0 := reachN_mono hm (fun _ => Int.le_refl _) _ 0
  have h2 := hm 0
  unfold passes
  unfold reach at h1 ⊢
  omega
end
/-! ### times a number -/
theorem min_mul {k a b : Int} (h : 0 ≤ k) : min (a * k) (b * k) = min a b * k := by
  rcases Int.le_total a b with h1 | h1
  · rw [Int.min_eq_left h1, Int.min_eq_left (Int.mul_le_mul_of_nonneg_right h1 h)]
  · rw [Int.min_eq_right h1, Int.min_eq_right (Int.mul_le_mul_of_nonneg_right h1 h)]
theorem reachN_mul {y y' : Yd} {k : Int} (h : 0 ≤ k) (hu : ∀ j, upAt y' j = upAt y j) (hn : y'.ls.length = y.ls.length) (b own : Nat → Int) : ∀ i l, reachN y' (fun l => b l * k) (fun l => own l * k) i l = reachN y b own i l * k
  | 0, l => rfl
  | i + 1, l => by
    simp only [reachN, stepR, hu, hn]
    rw [reachN_mul h hu hn b own i l, reachN_mul h hu hn b own i (y.ls.length - 1 - i)]
    by_cases e : upAt y (y.ls.length - 1 - i) = some l
    · rw [if_pos e, if_pos e, min_mul h, Int.add_mul]
    · rw [if_neg e, if_neg e, Int.add_zero, Int.add_zero]
theorem passes_mul {y y' : Yd} {k : Int} (h : 0 ≤ k) (hu : ∀ j, upAt y' j = upAt y j) (hn : y'.ls.length = y.ls.length) (b own : Nat → Int) (l : Nat) : passes y' (fun l => b l * k) (fun l => own l * k) l = passes y b own l * k := by
  unfold passes reach
  rw [reachN_mul h hu hn, hn, min_mul h]
end Mir

section
set_option Elab.async false
set_option linter.all false
set_option maxRecDepth 100000
namespace L2
open PySem PySem.Spec PyProof.Rows

/-! ### a heap with a frozen part: how both grow -/
structure Ext (F H F' H' : Hp) : Prop where
  hh : Same H H'
  ff : Same F F'
  fh : Same F' H'
  fr : ∀ a, F' a ≠ none → F a ≠ none ∨ H a = none
theorem Ext.refl {F H : Hp} (s : Same F H) : Ext F H F H := ⟨Same.refl _, Same.refl _, s, fun _ h => .inl h⟩
theorem Ext.trans {F H F1 H1 F2 H2 : Hp} (a : Ext F H F1 H1) (b : Ext F1 H1 F2 H2) : Ext F H F2 H2 :=
  ⟨a.hh.trans b.hh, a.ff.trans b.ff, b.fh, fun p h => by
    rcases b.fr p h with z | z
    · exact a.fr p z
    · exact .inr (a.hh.free z)⟩
theorem some_ne {H : Hp} {a : Addr} {o : HO} (h : H a = some o) : H a ≠ none := by rw [h]; exact fun z => nomatch z
theorem ne_some {H : Hp} {a : Addr} (h : H a ≠ none) : ∃ o, H a = some o := by
  cases e : H a with
  | none => exact absurd e h
  | some o => exact ⟨o, rfl⟩
theorem same_upd {F H : Hp} {p : Addr} {o : HO} (s : Same F H) : Same (upd F p o) (upd H p o) := fun b u e => by
  by_cases h : b = p
  · subst h; rw [upd_same] at e ⊢; exact e
  · rw [upd_ne h] at e ⊢; exact s b u e
/-- a new thing that stays as it is -/
theorem Ext.new {F H : Hp} {p : Addr} {o : HO} (s : Same F H) (hp : H p = none) : Ext F H (upd F p o) (upd H p o) :=
  ⟨Same.new hp, Same.new (s.free hp), same_upd s, fun a h => by
    by_cases e : a = p
    · subst e; exact .inr hp
    · rw [upd_ne e] at h; exact .inl h⟩
/-- a new thing of one's own -/
theorem Ext.own {F H : Hp} {p : Addr} {o : HO} (s : Same F H) (hp : H p = none) : Ext F H F (upd H p o) :=
  ⟨Same.new hp, Same.refl _, s.upd (s.free hp), fun _ h => .inl h⟩
/-- what was one's own is frozen -/
theorem Ext.freeze {F0 H0 F H : Hp} {a : Addr} {o : HO} (x : Ext F0 H0 F H) (hf : F a = none) (ho : H a = some o) (h0 : H0 a = none) : Ext F0 H0 (upd F a o) H :=
  ⟨x.hh, x.ff.trans (Same.new hf), fun b u e => by
    by_cases h : b = a
    · subst h; rw [upd_same] at e; rw [ho]; exact e
    · rw [upd_ne h] at e; exact x.fh b u e, fun b h => by
    by_cases e : b = a
    · subst e; exact .inr h0
    · rw [upd_ne e] at h; exact x.fr b h⟩
theorem Ext.free {F H F' H' : Hp} {a : Addr} (x : Ext F H F' H') (hf : F a = none) (hh : H a ≠ none) : F' a = none := by
  cases e : F' a with
  | none => rfl
  | some o =>
    rcases x.fr a (some_ne e) with z | z
    · exact absurd hf z
    · exact absurd z hh

/-! ### what a slot bears -/
/-- a thing of one's own that lies at some places: what must hold of these, and that it hangs on nothing else -/
structure OwnP where
  ok : PySem.W.Frag → Hp → Hp → V → List Addr → Prop
  there : ∀ {K : PySem.W.Frag} {F H : Hp} {v : V} {p : List Addr}, ok K F H v p → ∀ a ∈ p, F a = none ∧ H a ≠ none
  mono : ∀ {K : PySem.W.Frag} {F F' H H' : Hp} {v : V} {p : List Addr}, Same F F' → (∀ a ∈ p, F' a = none) → (∀ a ∈ p, H' a = H a) → ok K F H v p → ok K F' H' v p
  uniq : ∀ {K : PySem.W.Frag} {F H : Hp} {v : V} {p q : List Addr}, ok K F H v p → ok K F H v q → ∀ a ∈ q, a ∈ p
inductive OT where
  /-- data that stays -/
  | fz (d : PyData)
  /-- a list of one's own, its items stay -/
  | ol (ds : List PyData)
  /-- a list of one's own of lists of one's own -/
  | oll (dss : List (List PyData))
  /-- the script -/
  | scr (ns : List Int)
  /-- a thing of one's own, at a value -/
  | own (v : V) (Φ : OwnP)
abbrev PEnv := List (Option OT)
def OwnL (F H : Hp) (a : Addr) (ds : List PyData) : Prop := F a = none ∧ ∃ xs, H a = some (.lst xs) ∧ Reps F xs ds
def OwnAll (F H : Hp) : List Addr → List (List PyData) → Prop
  | [], [] => True
  | a :: as, ds :: dss => OwnL F H a ds ∧ OwnAll F H as dss
  | _, _ => False
def SlotOk (K : PySem.W.Frag) (F H : Hp) (v : V) : OT → List Addr → Prop
  | .fz d, p => p = [] ∧ Rep F v d
  | .ol ds, p => ∃ a, v = .ref a ∧ p = [a] ∧ OwnL F H a ds
  | .oll dss, p => ∃ a as, v = .ref a ∧ p = a :: as ∧ (a :: as).Nodup ∧ F a = none ∧ H a = some (.lst (as.map V.ref)) ∧ OwnAll F H as dss
  | .scr ns, p => p = [] ∧ ∃ a, v = .ref a ∧ Scr K F a ns
  | .own v0 Φ, p => v = v0 ∧ Φ.ok K F H v p
theorem Same.at_eq {H H' : Hp} (s : Same H H') {a : Addr} (h : H a ≠ none) : H' a = H a := by
  cases e : H a with
  | none => exact absurd e h
  | some o => exact s _ _ e
theorem OwnL.ext {F H F' H' : Hp} {a : Addr} {ds : List PyData} (h : OwnL F H a ds) (x : Ext F H F' H') : OwnL F' H' a ds := by
  obtain ⟨h1, xs, h2, h3⟩ := h
  exact ⟨x.free h1 (some_ne h2), xs, x.hh _ _ h2, h3.mono x.ff⟩
theorem OwnAll.ext {F H F' H' : Hp} (x : Ext F H F' H') : ∀ {as : List Addr} {dss : List (List PyData)}, OwnAll F H as dss → OwnAll F' H' as dss
  | [], [], _ => trivial
  | _ :: _, _ :: _, h => ⟨h.1.ext x, OwnAll.ext x h.2⟩
  | [], _ :: _, h => False.elim h
  | _ :: _, [], h => False.elim h
theorem OwnAll.mem {F H : Hp} : ∀ {as : List Addr} {dss : List (List PyData)}, OwnAll F H as dss → ∀ a ∈ as, F a = none ∧ H a ≠ none
  | [], [], _, a, ha => by cases ha
  | b :: as, _ :: _, h, a, ha => by
    rcases List.mem_cons.mp ha with rfl | ha
    · obtain ⟨h1, xs, h2, _⟩ := h.1
      exact ⟨h1, some_ne h2⟩
    · exact OwnAll.mem h.2 a ha
  | [], _ :: _, h, _, _ => False.elim h
  | _ :: _, [], h, _, _ => False.elim h
theorem SlotOk.ext {K : PySem.W.Frag} {F H F' H' : Hp} {v : V} {t : OT} {p : List Addr} (h : SlotOk K F H v t p) (x : Ext F H F' H') : SlotOk K F' H' v t p := by
  cases t with
  | fz d => exact ⟨h.1, h.2.mono x.ff⟩
  | ol ds => obtain ⟨a, h1, h2, h3⟩ := h; exact ⟨a, h1, h2, h3.ext x⟩
  | oll dss => obtain ⟨a, as, h1, h2, h3, h4, h5, h6⟩ := h; exact ⟨a, as, h1, h2, h3, x.free h4 (some_ne h5), x.hh _ _ h5, h6.ext x⟩
  | scr ns => obtain ⟨h1, a, h2, h3⟩ := h; exact ⟨h1, a, h2, h3.mono x.ff⟩
  | own v0 Φ => exact ⟨h.1, Φ.mono x.ff (fun a ha => x.free (Φ.there h.2 a ha).1 (Φ.there h.2 a ha).2) (fun a ha => x.hh.at_eq (Φ.there h.2 a ha).2) h.2⟩
theorem SlotOk.there {K : PySem.W.Frag} {F H : Hp} {v : V} {t : OT} {p : List Addr} (h : SlotOk K F H v t p) : ∀ a ∈ p, F a = none ∧ H a ≠ none := by
  cases t with
  | fz d => obtain ⟨rfl, _⟩ := h; intro a ha; cases ha
  | ol ds =>
    obtain ⟨a, h1, rfl, h3, xs, h4, _⟩ := h
    intro b hb
    have e : b = a := by simpa using hb
    subst e
    exact ⟨h3, some_ne h4⟩
  | oll dss =>
    obtain ⟨a, as, h1, rfl, h3, h4, h5, h6⟩ := h
    intro b hb
    rcases List.mem_cons.mp hb with rfl | hb
    · exact ⟨h4, some_ne h5⟩
    · exact h6.mem b hb
  | scr ns => obtain ⟨rfl, _⟩ := h; intro a ha; cases ha
  | own v0 Φ => exact Φ.there h.2
/-- a list elsewhere is written -/
theorem OwnL.other {F H : Hp} {a b : Addr} {o : HO} {ds : List PyData} (h : OwnL F H a ds) (n : a ≠ b) : OwnL F (upd H b o) a ds := by
  obtain ⟨h1, xs, h2, h3⟩ := h
  exact ⟨h1, xs, by rw [upd_ne n]; exact h2, h3⟩
theorem OwnAll.other {F H : Hp} {b : Addr} {o : HO} : ∀ {as : List Addr} {dss : List (List PyData)}, OwnAll F H as dss → b ∉ as → OwnAll F (upd H b o) as dss
  | [], [], _, _ => trivial
  | a :: as, _ :: _, h, n => ⟨h.1.other (fun z => n (by rw [z]; exact List.mem_cons_self)), OwnAll.other h.2 fun z => n (List.mem_cons_of_mem _ z)⟩
  | [], _ :: _, h, _ => False.elim h
  | _ :: _, [], h, _ => False.elim h
theorem SlotOk.other {K : PySem.W.Frag} {F H : Hp} {v : V} {t : OT} {p : List Addr} {b : Addr} {o : HO} (h : SlotOk K F H v t p) (n : b ∉ p) : SlotOk K F (upd H b o) v t p := by
  cases t with
  | fz d => exact h
  | ol ds => obtain ⟨a, h1, rfl, h3⟩ := h; exact ⟨a, h1, rfl, h3.other (fun z => n (by simp [z]))⟩
  | oll dss =>
    obtain ⟨a, as, h1, rfl, h3, h4, h5, h6⟩ := h
    exact ⟨a, as, h1, rfl, h3, h4, by rw [upd_ne (fun z => n (by simp [z]))]; exact h5, h6.other fun z => n (List.mem_cons_of_mem _ z)⟩
  | scr ns => exact h
  | own v0 Φ => exact ⟨h.1, Φ.mono (Same.refl _) (fun a ha => (Φ.there h.2 a ha).1) (fun a ha => upd_ne fun z => n (by rw [← z]; exact ha)) h.2⟩

/-! ### the state, by what the slots bear; H0: what must stay -/
structure Sta (K : PySem.W.Frag) (H0 F : Hp) (ρ : PEnv) (σ : St) (H : Hp) : Prop where
  sub : Same F H
  len : σ.length = ρ.length
  fp : ∃ fp : Nat → List Addr, (∀ (i : Nat) (t : OT), ρ[i]? = some (some t) → ∃ v, σ[i]? = some (some v) ∧ SlotOk K F H v t (fp i)) ∧
    (∀ (i j : Nat) (a : Addr), a ∈ fp i → a ∈ fp j → i = j) ∧ ∀ (i : Nat) (a : Addr), a ∈ fp i → H0 a = none ∧ H a ≠ none
theorem Sta.ext {K : PySem.W.Frag} {H0 F F' H H' : Hp} {ρ : PEnv} {σ : St} (s : Sta K H0 F ρ σ H) (x : Ext F H F' H') : Sta K H0 F' ρ σ H' := by
  obtain ⟨h1, h2, fp, h3, h4, h5⟩ := s
  refine ⟨x.fh, h2, fp, fun i t e => ?_, h4, fun i a ha => ?_⟩
  · obtain ⟨v, e1, e2⟩ := h3 i t e
    exact ⟨v, e1, e2.ext x⟩
  · obtain ⟨e1, e2⟩ := h5 i a ha
    obtain ⟨o, e3⟩ := ne_some e2
    exact ⟨e1, some_ne (x.hh _ _ e3)⟩
/-- slots forgotten -/
def Fgt : PEnv → PEnv → Prop
  | [], [] => True
  | _ :: r, none :: r' => Fgt r r'
  | s :: r, some x :: r' => s = some x ∧ Fgt r r'
  | _, _ => False
theorem Fgt.len : ∀ {ρ ρ' : PEnv}, Fgt ρ ρ' → ρ.length = ρ'.length
  | [], [], _ => rfl
  | _ :: r, none :: r', h => by
    have h' : Fgt r r' := h
    simp [Fgt.len h']
  | s :: r, some x :: r', h => by
    have h' : s = some x ∧ Fgt r r' := h
    simp [Fgt.len h'.2]
  | [], none :: _, h => False.elim h
  | [], some _ :: _, h => False.elim h
  | _ :: _, [], h => False.elim h
theorem Fgt.get : ∀ {ρ ρ' : PEnv}, Fgt ρ ρ' → ∀ (i : Nat) (t : OT), ρ'[i]? = some (some t) → ρ[i]? = some (some t)
  | [], [], _, i, t, e => by simp at e
  | _ :: r, none :: r', h, 0, t, e => by simp at e
  | _ :: r, none :: r', h, i + 1, t, e => by
    have h' : Fgt r r' := h
    have := Fgt.get h' i t (by simpa using e)
    simpa using this
  | s :: r, some x :: r', h, 0, t, e => by
    have h' : s = some x ∧ Fgt r r' := h
    simp at e; subst e; simp [h'.1]
  | s :: r, some x :: r', h, i + 1, t, e => by
    have h' : s = some x ∧ Fgt r r' := h
    have := Fgt.get h'.2 i t (by simpa using e)
    simpa using this
  | [], none :: _, h, _, _, _ => False.elim h
  | [], some _ :: _, h, _, _, _ => False.elim h
  | _ :: _, [], h, _, _, _ => False.elim h
theorem Fgt.refl : ∀ (ρ : PEnv), Fgt ρ ρ
  | [] => trivial
  | none :: r => Fgt.refl r
  | some _ :: r => ⟨rfl, Fgt.refl r⟩
theorem Sta.fgt {K : PySem.W.Frag} {H0 F H : Hp} {ρ ρ' : PEnv} {σ : St} (s : Sta K H0 F ρ σ H) (f : Fgt ρ ρ') : Sta K H0 F ρ' σ H := by
  obtain ⟨h1, h2, fp, h3, h4, h5⟩ := s
  exact ⟨h1, h2.trans f.len, fp, fun i t e => h3 i t (f.get i t e), h4, h5⟩
/-- a slot is set -/
theorem Sta.set {K : PySem.W.Frag} {H0 F H : Hp} {ρ : PEnv} {σ : St} {i : Nat} {v : V} {t : OT} {p : List Addr} (s : Sta K H0 F ρ σ H) (ok : SlotOk K F H v t p)
    (hp : ∀ (a : Addr), a ∈ p → H0 a = none)
    (hn : ∀ (a : Addr), a ∈ p → ∀ (j : Nat) (u : V) (t' : OT) (q : List Addr), ρ[j]? = some (some t') → σ[j]? = some (some u) → SlotOk K F H u t' q → a ∉ q) :
    Sta K H0 F (ρ.set i (some t)) (σ.set i (some v)) H := by
  obtain ⟨h1, h2, fp, h3, h4, h5⟩ := s
  refine ⟨h1, by simp [h2], fun j => if j = i then p else if (ρ[j]?).join.isSome then fp j else [], fun j t' e => ?_, fun j k a ha hb => ?_, fun j a ha => ?_⟩
  · by_cases hj : j = i
    · subst hj
      have hlt : j < ρ.length := by
        have := (List.getElem?_eq_some_iff.mp e).1
        simpa using this
      rw [List.getElem?_set_self hlt] at e
      cases e
      refine ⟨v, List.getElem?_set_self (by omega), ?_⟩
      dsimp only
      rw [if_pos rfl]
      exact ok
    · rw [List.getElem?_set_ne (Ne.symm hj)] at e
      obtain ⟨u, e1, e2⟩ := h3 j t' e
      refine ⟨u, by rw [List.getElem?_set_ne (Ne.symm hj)]; exact e1, ?_⟩
      dsimp only
      rw [if_neg hj, e, if_pos (by rfl)]
      exact e2
  · have key : ∀ (j : Nat), j ≠ i → a ∈ (if j = i then p else if (ρ[j]?).join.isSome then fp j else []) → ∃ t' u, ρ[j]? = some (some t') ∧ σ[j]? = some (some u) ∧ SlotOk K F H u t' (fp j) ∧ a ∈ fp j := fun j hj hm => by
      rw [if_neg hj] at hm
      cases e : (ρ[j]?).join with
      | none => rw [e] at hm; simp at hm
      | some t' =>
        rw [e] at hm
        have e' : ρ[j]? = some (some t') := by
          cases z : ρ[j]? with
          | none => rw [z] at e; simp at e
          | some w => rw [z] at e; simp at e; rw [e]
        obtain ⟨u, e1, e2⟩ := h3 j t' e'
        exact ⟨t', u, e', e1, e2, by simpa using hm⟩
    by_cases hj : j = i
    · by_cases hk : k = i
      · omega
      · obtain ⟨t', u, e1, e2, e3, e4⟩ := key k hk hb
        have ha' : a ∈ p := by simpa [hj] using ha
        exact absurd e4 (hn a ha' k u t' _ e1 e2 e3)
    · obtain ⟨t', u, e1, e2, e3, e4⟩ := key j hj ha
      by_cases hk : k = i
      · have hb' : a ∈ p := by simpa [hk] using hb
        exact absurd e4 (hn a hb' j u t' _ e1 e2 e3)
      · obtain ⟨t2, u2, f1, f2, f3, f4⟩ := key k hk hb
        exact h4 j k a e4 f4
  · by_cases hj : j = i
    · have ha' : a ∈ p := by simpa [hj] using ha
      exact ⟨hp a ha', (ok.there a ha').2⟩
    · simp only [if_neg hj] at ha
      split at ha
      · exact h5 j a ha
      · cases ha
theorem Sta.setF {K : PySem.W.Frag} {H0 F H : Hp} {ρ : PEnv} {σ : St} {i : Nat} {v : V} {d : PyData} (s : Sta K H0 F ρ σ H) (r : Rep F v d) : Sta K H0 F (ρ.set i (some (.fz d))) (σ.set i (some v)) H :=
  s.set (p := []) ⟨rfl, r⟩ (fun a ha => nomatch ha) (hn := fun a ha => nomatch ha)
/-- a list of one's own is written -/
theorem Sta.write {K : PySem.W.Frag} {H0 F H : Hp} {ρ : PEnv} {σ : St} {i : Nat} {ds : List PyData} (s : Sta K H0 F ρ σ H) (e : ρ[i]? = some (some (.ol ds))) :
    ∃ a xs, σ[i]? = some (some (.ref a)) ∧ H a = some (.lst xs) ∧ Reps F xs ds ∧ H0 a = none ∧ F a = none ∧ ∀ xs' ds', Reps F xs' ds' → Sta K H0 F (ρ.set i (some (.ol ds'))) σ (upd H a (.lst xs')) := by
  obtain ⟨h1, h2, fp, h3, h4, h5⟩ := s
  obtain ⟨v, e1, a, rfl, e2, e3, xs, e4, e5⟩ := h3 i _ e
  have ha : a ∈ fp i := by rw [e2]; exact List.mem_cons_self
  refine ⟨a, xs, e1, e4, e5, (h5 i a ha).1, e3, fun xs' ds' r => ?_⟩
  have hlt := (List.getElem?_eq_some_iff.mp e).1
  refine ⟨h1.upd e3, by simp [h2], fp, fun j t' e' => ?_, h4, fun j b hb => ?_⟩
  · by_cases hj : j = i
    · subst hj
      rw [List.getElem?_set_self hlt] at e'
      cases e'
      exact ⟨_, e1, a, rfl, e2, e3, xs', upd_same, r⟩
    · rw [List.getElem?_set_ne (Ne.symm hj)] at e'
      obtain ⟨u, f1, f2⟩ := h3 j t' e'
      exact ⟨u, f1, f2.other fun z => hj (h4 j i a z ha)⟩
  · obtain ⟨f1, f2⟩ := h5 j b hb
    refine ⟨f1, ?_⟩
    by_cases z : b = a
    · subst z; rw [upd_same]; exact fun q => nomatch q
    · rw [upd_ne z]; exact f2
/-- a list of one's own is frozen -/
theorem Sta.freeze {K : PySem.W.Frag} {H0 F H : Hp} {ρ : PEnv} {σ : St} {i : Nat} {ds : List PyData} (s : Sta K H0 F ρ σ H) (e : ρ[i]? = some (some (.ol ds))) :
    ∃ a xs, F a = none ∧ H a = some (.lst xs) ∧ H0 a = none ∧ σ[i]? = some (some (.ref a)) ∧ Reps F xs ds ∧ Sta K H0 (upd F a (.lst xs)) (ρ.set i (some (.fz (.list ds)))) σ H := by
  obtain ⟨h1, h2, fp, h3, h4, h5⟩ := s
  obtain ⟨v, e1, a, rfl, e2, e3, xs, e4, e5⟩ := h3 i _ e
  have ha : a ∈ fp i := by rw [e2]; exact List.mem_cons_self
  have hlt := (List.getElem?_eq_some_iff.mp e).1
  have sm : Same F (upd F a (.lst xs)) := Same.new e3
  refine ⟨a, xs, e3, e4, (h5 i a ha).1, e1, e5, ?_, by simp [h2], fun j => if j = i then [] else fp j, fun j t' e' => ?_, fun j k b hb hc => ?_, fun j b hb => ?_⟩
  · intro b u hb
    by_cases z : b = a
    · subst z; rw [upd_same] at hb; rw [e4]; exact hb
    · rw [upd_ne z] at hb; exact h1 b u hb
  · by_cases hj : j = i
    · subst hj
      rw [List.getElem?_set_self hlt] at e'
      cases e'
      refine ⟨_, e1, ?_, .lst upd_same (e5.mono sm)⟩
      dsimp only
      rw [if_pos rfl]
    · rw [List.getElem?_set_ne (Ne.symm hj)] at e'
      obtain ⟨u, f1, f2⟩ := h3 j t' e'
      refine ⟨u, f1, ?_⟩
      dsimp only
      rw [if_neg hj]
      have na : a ∉ fp j := fun z => hj (h4 j i a z ha)
      have nb : ∀ b, F b = none → b ≠ a → upd F a (.lst xs) b = none := fun b hb hn => by rw [upd_ne hn]; exact hb
      have go : ∀ {b : Addr} {es : List PyData}, b ≠ a → OwnL F H b es → OwnL (upd F a (.lst xs)) H b es := fun {b es} hn ⟨z1, zs, z2, z3⟩ => ⟨nb _ z1 hn, zs, z2, z3.mono sm⟩
      cases t' with
      | fz d => exact ⟨f2.1, f2.2.mono sm⟩
      | ol es =>
        obtain ⟨b, g1, g2, g3⟩ := f2
        exact ⟨b, g1, g2, go (fun z => na (by rw [g2, z]; exact List.mem_cons_self)) g3⟩
      | oll dss =>
        obtain ⟨b, bs, g1, g2, g3, g4, g5, g6⟩ := f2
        refine ⟨b, bs, g1, g2, g3, nb _ g4 (fun z => na (by rw [g2, z]; exact List.mem_cons_self)), g5, ?_⟩
        have nbs : a ∉ bs := fun z => na (by rw [g2]; exact List.mem_cons_of_mem _ z)
        clear g1 g2 g3 g5
        have all : ∀ (bs : List Addr) (dss : List (List PyData)), a ∉ bs → OwnAll F H bs dss → OwnAll (upd F a (.lst xs)) H bs dss := by
          intro bs
          induction bs with
          | nil =>
            intro dss _ h
            cases dss with
            | nil => exact trivial
            | cons _ _ => exact False.elim h
          | cons c cs ih =>
            intro dss hn h
            cases dss with
            | nil => exact False.elim h
            | cons es ess => exact ⟨go (fun z => hn (by rw [z]; exact List.mem_cons_self)) h.1, ih ess (fun z => hn (List.mem_cons_of_mem _ z)) h.2⟩
        exact all bs dss nbs g6
      | scr ns =>
        obtain ⟨g1, b, g2, g3⟩ := f2
        exact ⟨g1, b, g2, g3.mono sm⟩
      | own v0 Φ => exact ⟨f2.1, Φ.mono sm (fun b hb => nb b (Φ.there f2.2 b hb).1 fun z => na (by rw [← z]; exact hb)) (fun _ _ => rfl) f2.2⟩
  · by_cases hj : j = i
    · simp [hj] at hb
    · by_cases hk : k = i
      · simp [hk] at hc
      · simp only [if_neg hj] at hb
        simp only [if_neg hk] at hc
        exact h4 j k b hb hc
  · by_cases hj : j = i
    · simp [hj] at hb
    · simp only [if_neg hj] at hb
      exact h5 j b hb

/-! ### judgements -/
inductive Args (K : PySem.W.Frag) (F : Hp) : List V → List OT → Prop
  | nil : Args K F [] []
  | fz {v : V} {d : PyData} {vs : List V} {ts : List OT} : Rep F v d → Args K F vs ts → Args K F (v :: vs) (.fz d :: ts)
  | scr {a : Addr} {ns : List Int} {vs : List V} {ts : List OT} : Scr K F a ns → Args K F vs ts → Args K F (.ref a :: vs) (.scr ns :: ts)
theorem Args.mono {K : PySem.W.Frag} {F F' : Hp} (s : Same F F') : ∀ {vs : List V} {ts : List OT}, Args K F vs ts → Args K F' vs ts
  | _, _, .nil => .nil
  | _, _, .fz r t => .fz (r.mono s) (Args.mono s t)
  | _, _, .scr r t => .scr (r.mono s) (Args.mono s t)
theorem Args.length {K : PySem.W.Frag} {F : Hp} : ∀ {vs : List V} {ts : List OT}, Args K F vs ts → vs.length = ts.length
  | _, _, .nil => rfl
  | _, _, .fz _ t => by simp [Args.length t]
  | _, _, .scr _ t => by simp [Args.length t]
theorem Args.get {K : PySem.W.Frag} {F H : Hp} : ∀ {vs : List V} {ts : List OT}, Args K F vs ts → ∀ (i : Nat) (t : OT), ts[i]? = some t → ∃ v, vs[i]? = some v ∧ SlotOk K F H v t []
  | _, _, .nil, i, t, e => by simp at e
  | _, _, .fz r _, 0, t, e => by simp at e; subst e; exact ⟨_, rfl, rfl, r⟩
  | _, _, .scr r _, 0, t, e => by simp at e; subst e; exact ⟨_, rfl, rfl, _, rfl, r⟩
  | _, _, .fz _ q, i + 1, t, e => by
    obtain ⟨v, h1, h2⟩ := Args.get (H := H) q i t (by simpa using e)
    exact ⟨v, by simpa using h1, h2⟩
  | _, _, .scr _ q, i + 1, t, e => by
    obtain ⟨v, h1, h2⟩ := Args.get (H := H) q i t (by simpa using e)
    exact ⟨v, by simpa using h1, h2⟩
section
variable (K : PySem.W.Frag)
def EvE (t : TE) (ρ : PEnv) (d : PyData) : Prop := ∀ (H0 F : Hp) (σ : St) (H : Hp) (Q : VK), Sta K H0 F ρ σ H → (∀ F' H' v, Ext F H F' H' → Rep F' v d → Q v H') → t σ H Q
def EvO (t : TE) (ρ : PEnv) (r : OT) : Prop := ∀ (H0 F : Hp) (σ : St) (H : Hp) (Q : VK), Sta K H0 F ρ σ H → (∀ F' H' v p, Ext F H F' H' → (∀ a ∈ p, H a = none) → SlotOk K F' H' v r p → Q v H') → t σ H Q
def EvT (t : TT) (ρ : PEnv) (b : Bool) : Prop := ∀ (H0 F : Hp) (σ : St) (H : Hp) (Q : Bool → Hp → Prop), Sta K H0 F ρ σ H → (∀ F' H', Ext F H F' H' → Q b H') → t σ H Q
def EvA (t : TA) (ρ : PEnv) (ts : List OT) : Prop := ∀ (H0 F : Hp) (σ : St) (H : Hp) (Q : List V → Hp → Prop), Sta K H0 F ρ σ H → (∀ F' H' vs, Ext F H F' H' → Args K F' vs ts → Q vs H') → t σ H Q
/-- what an iterator yields, one after another -/
def WalksD (F' : Hp) (J : It) (ds : List PyData) : Prop := ∀ (F'' H'' : Hp), Same F' F'' → Same F'' H'' → J.stop ds.length H'' ∧
  ∀ (i : Nat) (d : PyData), ds[i]? = some d → J.go i H'' ∧ ∀ x H3, J.yld i H'' x H3 → ∃ F3, Ext F'' H'' F3 H3 ∧ Rep F3 x d
def EvI (wi : TI) (ρ : PEnv) (ds : List PyData) : Prop := ∀ (H0 F : Hp) (σ : St) (H : Hp) (R : It → Hp → Prop), Sta K H0 F ρ σ H → (∀ F' H' J, Ext F H F' H' → WalksD F' J ds → R J H') → wi σ H R
def GTo (g : TG) (d : PyData) (ρ ρ' : PEnv) : Prop := ∀ (H0 F : Hp) (σ : St) (H : Hp) (x : V) (Q : St → Hp → Prop), Sta K H0 F ρ σ H → Rep F x d → (∀ σ', Sta K H0 F ρ' σ' H → Q σ' H) → g x σ H Q
def GsTo (g : TGs) (ds : List PyData) (ρ ρ' : PEnv) : Prop := ∀ (H0 F : Hp) (σ : St) (H : Hp) (xs : List V) (Q : St → Hp → Prop), Sta K H0 F ρ σ H → Reps F xs ds → (∀ σ', Sta K H0 F ρ' σ' H → Q σ' H) → g xs σ H Q
structure PEnds where
  nx : PEnv → Prop
  rt : OT → Prop
  bk : PEnv → Prop := fun _ => False
  ct : PEnv → Prop := fun _ => False
structure Cnv (F0 H0 : Hp) (D : PEnds) (E : Ends) : Prop where
  nx : ∀ F σ H ρ, Ext F0 H0 F H → Sta K H0 F ρ σ H → D.nx ρ → E.nx σ H
  rt : ∀ F H v r p, Ext F0 H0 F H → (∀ a ∈ p, H0 a = none) → SlotOk K F H v r p → D.rt r → E.rt v H
  bk : ∀ F σ H ρ, Ext F0 H0 F H → Sta K H0 F ρ σ H → D.bk ρ → E.bk σ H
  ct : ∀ F σ H ρ, Ext F0 H0 F H → Sta K H0 F ρ σ H → D.ct ρ → E.ct σ H
def EvS (t : TS) (ρ : PEnv) (D : PEnds) : Prop := ∀ (F0 H0 F : Hp) (σ : St) (H : Hp) (E : Ends), Ext F0 H0 F H → Sta K H0 F ρ σ H → Cnv K F0 H0 D E → t E σ H
end
section
variable {K : PySem.W.Frag} {ρ : PEnv} {ta tb tc : TE} {tA tB' : TT}
theorem EvE.o {t : TE} {d : PyData} (h : EvE K t ρ d) : EvO K t ρ (.fz d) := fun H0 F σ H Q S q => h H0 F σ H Q S fun F' H' v x r => q F' H' v [] x (fun _ z => nomatch z) ⟨rfl, r⟩
theorem EvO.e {t : TE} {d : PyData} (h : EvO K t ρ (.fz d)) : EvE K t ρ d := fun H0 F σ H Q S q => h H0 F σ H Q S fun F' H' v p x _ r => q F' H' v x r.2
/-- a list of one's own, just told, frozen at once -/
theorem EvO.fz {t : TE} {ds : List PyData} (h : EvO K t ρ (.ol ds)) : EvE K t ρ (.list ds) := fun H0 F σ H Q S q => h H0 F σ H Q S fun F' H' v p x hp r => by
  obtain ⟨a, rfl, rfl, r1, xs, r2, r3⟩ := r
  refine q (upd F' a (.lst xs)) H' _ (x.freeze r1 r2 (hp a List.mem_cons_self)) (.lst upd_same (r3.mono (Same.new r1)))

/-! ### expressions -/
theorem ev_var {i : Nat} {d : PyData} (e : ρ[i]? = some (some (.fz d))) : EvE K (tVar i) ρ d := fun H0 F σ H Q S q => by
  obtain ⟨fp, h, _⟩ := S.fp
  obtain ⟨v, e1, e2⟩ := h i _ e
  exact ⟨v, e1, q F H v (Ext.refl S.sub) e2.2⟩
theorem ev_int {i : Int} : EvE K (tC (.int i)) ρ (.int i) := fun H0 F σ H Q S q => q F H _ (Ext.refl S.sub) (.int i)
theorem ev_bl {b : Bool} : EvE K (tC (.bl b)) ρ (.bool b) := fun H0 F σ H Q S q => q F H _ (Ext.refl S.sub) (.bl b)
theorem ev_non : EvE K (tC .non) ρ .none := fun H0 F σ H Q S q => q F H _ (Ext.refl S.sub) .non
theorem ev_str {x : Str} : EvE K (tC (.str x)) ρ (.str x) := fun H0 F σ H Q S q => q F H _ (Ext.refl S.sub) (.str x)
/-- two in a row -/
theorem ev_two {a b : PyData} {Q : VK} {r : R2} {H0 F H : Hp} {σ : St} (ha : EvE K ta ρ a) (hb : EvE K tb ρ b) (S : Sta K H0 F ρ σ H)
    (h : ∀ F' H' x y, Ext F H F' H' → Rep F' x a → Rep F' y b → r x y H' Q) : tOp r ta tb σ H Q :=
  ha H0 F σ H _ S fun F1 H1 x x1 r1 => hb H0 F1 σ H1 _ (S.ext x1) fun F2 H2 y x2 r2 => h F2 H2 x y (x1.trans x2) (r1.mono x2.ff) r2
theorem ev_opI {g : Int → Int → Int} {x y : Int} (ha : EvE K ta ρ (.int x)) (hb : EvE K tb ρ (.int y)) : EvE K (tOp (rI0 fun i j => .int (g i j)) ta tb) ρ (.int (g x y)) := fun H0 F σ H Q S q =>
  ev_two ha hb S fun F' H' u v e r1 r2 => by cases r1; cases r2; exact ⟨x, y, rfl, rfl, q F' H' _ e (.int _)⟩
theorem ev_opB {g : Int → Int → Bool} {x y : Int} (ha : EvE K ta ρ (.int x)) (hb : EvE K tb ρ (.int y)) : EvE K (tOp (rI0 fun i j => .bl (g i j)) ta tb) ρ (.bool (g x y)) := fun H0 F σ H Q S q =>
  ev_two ha hb S fun F' H' u v e r1 r2 => by cases r1; cases r2; exact ⟨x, y, rfl, rfl, q F' H' _ e (.bl _)⟩
theorem ev_opC {C : Int → Int → Prop} {g : Int → Int → Int} {x y : Int} (ha : EvE K ta ρ (.int x)) (hb : EvE K tb ρ (.int y)) (hc : C x y) : EvE K (tOp (rI C fun i j => .int (g i j)) ta tb) ρ (.int (g x y)) := fun H0 F σ H Q S q =>
  ev_two ha hb S fun F' H' u v e r1 r2 => by cases r1; cases r2; exact ⟨x, y, rfl, rfl, hc, q F' H' _ e (.int _)⟩
theorem ev_un {g : Int → Int} {x : Int} (ha : EvE K ta ρ (.int x)) : EvE K (tUn (rU fun i => .int (g i)) ta) ρ (.int (g x)) := fun H0 F σ H Q S q =>
  ha H0 F σ H _ S fun F1 H1 v x1 r1 => by cases r1; exact ⟨x, rfl, q F1 H1 _ x1 (.int _)⟩
/-! flat values -/
def flatD : PyData → Option V
  | .none => some .non
  | .bool b => some (.bl b)
  | .int i => some (.int i)
  | .str x => some (.str x)
  | _ => Option.none
theorem Rep.flat {H : Hp} {x v : V} {d : PyData} (r : Rep H x d) (e : flatD d = some v) : x = v := by
  cases r <;> simp [flatD] at e <;> exact e
theorem ev_eqF {a b : PyData} {v w : V} (ha : EvE K ta ρ a) (hb : EvE K tb ρ b) (e1 : flatD a = some v) (e2 : flatD b = some w) (hs : ∀ (H : Hp) (Q : VK), Q (.bl (decide (v = w))) H → rEq v w H Q) :
    EvE K (tOp rEq ta tb) ρ (.bool (decide (v = w))) := fun H0 F σ H Q S q =>
  ev_two ha hb S fun F' H' x y e r1 r2 => by rw [r1.flat e1, r2.flat e2]; exact hs _ _ (q F' H' _ e (.bl _))
theorem ev_neF {a b : PyData} {v w : V} (ha : EvE K ta ρ a) (hb : EvE K tb ρ b) (e1 : flatD a = some v) (e2 : flatD b = some w) (hs : ∀ (H : Hp) (Q : VK), Q (.bl (!decide (v = w))) H → rNe v w H Q) :
    EvE K (tOp rNe ta tb) ρ (.bool (!decide (v = w))) := fun H0 F σ H Q S q =>
  ev_two ha hb S fun F' H' x y e r1 r2 => by rw [r1.flat e1, r2.flat e2]; exact hs _ _ (q F' H' _ e (.bl _))
theorem dec_vint {x y : Int} : decide (V.int x = V.int y) = decide (x = y) := by
  by_cases h : x = y
  · subst h; simp
  · rw [decide_eq_false h, decide_eq_false (fun z => h (by injection z))]
theorem ev_eqI {x y : Int} (ha : EvE K ta ρ (.int x)) (hb : EvE K tb ρ (.int y)) : EvE K (tOp rEq ta tb) ρ (.bool (decide (x = y))) := by
  rw [← dec_vint]
  exact ev_eqF ha hb rfl rfl fun H Q q => ⟨rfl, q⟩
theorem ev_neI {x y : Int} (ha : EvE K ta ρ (.int x)) (hb : EvE K tb ρ (.int y)) : EvE K (tOp rNe ta tb) ρ (.bool (!decide (x = y))) := by
  rw [← dec_vint]
  exact ev_neF ha hb rfl rfl fun H Q q => ⟨rfl, q⟩
theorem ev_eqD {a b : PyData} (ha : EvE K ta ρ a) (hb : EvE K tb ρ b) (fa : Fine a) (fb : Fine b) : EvE K (tOp rEqD ta tb) ρ (.bool (PyData.eqv a b)) := fun H0 F σ H Q S q =>
  ev_two ha hb S fun F' H' x y e r1 r2 => ⟨a, b, r1.mono e.fh, r2.mono e.fh, fa, fb, q F' H' _ e (.bl _)⟩
theorem ev_neD {a b : PyData} (ha : EvE K ta ρ a) (hb : EvE K tb ρ b) (fa : Fine a) (fb : Fine b) : EvE K (tOp rNeD ta tb) ρ (.bool (!PyData.eqv a b)) := fun H0 F σ H Q S q =>
  ev_two ha hb S fun F' H' x y e r1 r2 => ⟨a, b, r1.mono e.fh, r2.mono e.fh, fa, fb, q F' H' _ e (.bl _)⟩
def isNonD : PyData → Bool
  | .none => true
  | _ => false
theorem Rep.isNon {H : Hp} {x : V} {d : PyData} (r : Rep H x d) : decide (x = .non) = isNonD d := by cases r <;> rfl
theorem ev_isN {a : PyData} (ha : EvE K ta ρ a) : EvE K (tIsN ta) ρ (.bool (isNonD a)) := fun H0 F σ H Q S q =>
  ha H0 F σ H _ S fun F1 H1 v x1 r1 => by rw [r1.isNon]; exact q F1 H1 _ x1 (.bl _)
theorem ev_notN {a : PyData} (ha : EvE K ta ρ a) : EvE K (tNotN ta) ρ (.bool (!isNonD a)) := fun H0 F σ H Q S q =>
  ha H0 F σ H _ S fun F1 H1 v x1 r1 => by rw [r1.isNon]; exact q F1 H1 _ x1 (.bl _)
theorem et_test {b : Bool} (h : EvE K ta ρ (.bool b)) : EvT K (tTest ta) ρ b := fun H0 F σ H Q S q => h H0 F σ H _ S fun F1 H1 v x1 r1 => by cases r1; exact ⟨b, rfl, q F1 H1 x1⟩
theorem et_B {b : Bool} (h : EvE K ta ρ (.bool b)) : EvT K (tB ta) ρ b := fun H0 F σ H Q S q => h H0 F σ H _ S fun F1 H1 v x1 r1 => by cases r1; exact ⟨b, rfl, q F1 H1 x1⟩
theorem et_yes : EvT K tYes ρ true := fun H0 F σ H Q S q => q F H (Ext.refl S.sub)
theorem et_and {b c : Bool} (h1 : EvT K tA ρ b) (h2 : b = true → EvT K tB' ρ c) : EvT K (tAnd tA tB') ρ (b && c) := fun H0 F σ H Q S q => h1 H0 F σ H _ S fun F1 H1 x1 => by
  cases b with
  | true => rw [if_pos rfl]; exact h2 rfl H0 F1 σ H1 Q (S.ext x1) fun F2 H2 x2 => by simpa using q F2 H2 (x1.trans x2)
  | false => rw [if_neg Bool.false_ne_true]; simpa using q F1 H1 x1
theorem et_or {b c : Bool} (h1 : EvT K tA ρ b) (h2 : b = false → EvT K tB' ρ c) : EvT K (tOr tA tB') ρ (b || c) := fun H0 F σ H Q S q => h1 H0 F σ H _ S fun F1 H1 x1 => by
  cases b with
  | false => rw [if_neg Bool.false_ne_true]; exact h2 rfl H0 F1 σ H1 Q (S.ext x1) fun F2 H2 x2 => by simpa using q F2 H2 (x1.trans x2)
  | true => rw [if_pos rfl]; simpa using q F1 H1 x1
theorem et_not {b : Bool} (h1 : EvT K tA ρ b) : EvT K (tNot tA) ρ (!b) := fun H0 F σ H Q S q => h1 H0 F σ H _ S fun F1 H1 x1 => q F1 H1 x1
theorem ev_and {b c : Bool} (h1 : EvE K ta ρ (.bool b)) (h2 : b = true → EvE K tb ρ (.bool c)) : EvE K (tAndV ta tb) ρ (.bool (b && c)) := fun H0 F σ H Q S q => h1 H0 F σ H _ S fun F1 H1 v x1 r1 => by
  cases r1
  refine ⟨b, rfl, ?_⟩
  cases b with
  | true => rw [if_pos rfl]; exact h2 rfl H0 F1 σ H1 Q (S.ext x1) fun F2 H2 v x2 r2 => by simpa using q F2 H2 v (x1.trans x2) (by simpa using r2)
  | false => rw [if_neg Bool.false_ne_true]; exact q F1 H1 _ x1 (.bl _)
theorem ev_or {b c : Bool} (h1 : EvE K ta ρ (.bool b)) (h2 : b = false → EvE K tb ρ (.bool c)) : EvE K (tOrV ta tb) ρ (.bool (b || c)) := fun H0 F σ H Q S q => h1 H0 F σ H _ S fun F1 H1 v x1 r1 => by
  cases r1
  refine ⟨b, rfl, ?_⟩
  cases b with
  | false => rw [if_neg Bool.false_ne_true]; exact h2 rfl H0 F1 σ H1 Q (S.ext x1) fun F2 H2 v x2 r2 => by simpa using q F2 H2 v (x1.trans x2) (by simpa using r2)
  | true => rw [if_pos rfl]; exact q F1 H1 _ x1 (.bl _)
theorem ev_not {b : Bool} (h1 : EvE K ta ρ (.bool b)) : EvE K (tNotV ta) ρ (.bool (!b)) := fun H0 F σ H Q S q => h1 H0 F σ H _ S fun F1 H1 v x1 r1 => by cases r1; exact ⟨b, rfl, q F1 H1 _ x1 (.bl _)⟩
theorem ev_chain {g g' : Int → Int → Bool} {x y z : Int} (ha : EvE K ta ρ (.int x)) (hb : EvE K tb ρ (.int y)) (hc : EvE K tc ρ (.int z)) :
    EvE K (tChain (rI0 fun i j => .bl (g i j)) (rI0 fun i j => .bl (g' i j)) ta tb tc) ρ (.bool (g x y && g' y z)) := fun H0 F σ H Q S q =>
  ha H0 F σ H _ S fun F1 H1 v x1 r1 => hb H0 F1 σ H1 _ (S.ext x1) fun F2 H2 w x2 r2 => by
    cases r1; cases r2
    refine ⟨x, y, rfl, rfl, g x y, rfl, ?_⟩
    cases e : g x y with
    | true => rw [if_pos rfl]; exact hc H0 F2 σ H2 _ (S.ext (x1.trans x2)) fun F3 H3 u x3 r3 => by cases r3; exact ⟨y, z, rfl, rfl, by simpa [e] using q F3 H3 _ ((x1.trans x2).trans x3) (by rw [e]; exact .bl _)⟩
    | false => rw [if_neg Bool.false_ne_true]; simpa [e] using q F2 H2 _ (x1.trans x2) (by rw [e]; exact .bl _)
theorem ev_if {b : Bool} {d : PyData} (h1 : EvT K tA ρ b) (h2 : b = true → EvE K ta ρ d) (h3 : b = false → EvE K tb ρ d) : EvE K (tIf tA ta tb) ρ d := fun H0 F σ H Q S q => h1 H0 F σ H _ S fun F1 H1 x1 => by
  cases b with
  | true => rw [if_pos rfl]; exact h2 rfl H0 F1 σ H1 Q (S.ext x1) fun F2 H2 v x2 r2 => q F2 H2 v (x1.trans x2) r2
  | false => rw [if_neg Bool.false_ne_true]; exact h3 rfl H0 F1 σ H1 Q (S.ext x1) fun F2 H2 v x2 r2 => q F2 H2 v (x1.trans x2) r2
/-! ### arguments, displays, items -/
theorem ea_nil : EvA K tNil ρ [] := fun H0 F σ H Q S q => q F H [] (Ext.refl S.sub) .nil
theorem ea_cons {t : TA} {d : PyData} {ts : List OT} (h1 : EvE K ta ρ d) (h2 : EvA K t ρ ts) : EvA K (tCons ta t) ρ (.fz d :: ts) := fun H0 F σ H Q S q =>
  h1 H0 F σ H _ S fun F1 H1 v x1 r1 => h2 H0 F1 σ H1 _ (S.ext x1) fun F2 H2 vs x2 r2 => q F2 H2 _ (x1.trans x2) (.fz (r1.mono x2.ff) r2)
theorem ea_scr {t : TA} {i : Nat} {ns : List Int} {ts : List OT} (e : ρ[i]? = some (some (.scr ns))) (h2 : EvA K t ρ ts) : EvA K (tCons (tVar i) t) ρ (.scr ns :: ts) := fun H0 F σ H Q S q => by
  obtain ⟨fp, h, _⟩ := S.fp
  obtain ⟨v, e1, _, a, rfl, e3⟩ := h i _ e
  exact ⟨_, e1, h2 H0 F σ H _ S fun F2 H2 vs x2 r2 => q F2 H2 _ x2 (.scr (e3.mono x2.ff) r2)⟩
def fzs (ds : List PyData) : List OT := ds.map OT.fz
theorem Args.reps {F : Hp} : ∀ {vs : List V} {ds : List PyData}, Args K F vs (fzs ds) → Reps F vs ds
  | _, [], .nil => .nil
  | _, _ :: _, .fz r t => .cons r (Args.reps t)
theorem ev_tup {t : TA} {ds : List PyData} (h : EvA K t ρ (fzs ds)) (hl : ds.length ≤ 1000) : EvE K (tTup t) ρ (.tuple ds) := fun H0 F σ H Q S q =>
  h H0 F σ H _ S fun F1 H1 vs x1 r1 => ⟨by rw [r1.reps.length]; exact Nat.le_of_lt (small1000 hl), fun p hp => by
    have s1 := x1.fh
    exact q _ _ _ (x1.trans (Ext.new s1 hp)) (.tup upd_same (r1.reps.mono (Same.new (s1.free hp))))⟩
/-- a list just laid is one's own -/
theorem own_new {F0 H0 F H : Hp} {p : Addr} {xs : List V} {ds : List PyData} (x : Ext F0 H0 F H) (hp : H p = none) (r : Reps F xs ds) : Ext F0 H0 F (upd H p (.lst xs)) ∧ (∀ a ∈ [p], H0 a = none) ∧ SlotOk K F (upd H p (.lst xs)) (.ref p) (.ol ds) [p] :=
  ⟨x.trans (Ext.own x.fh hp), fun a ha => by
    have e : a = p := by simpa using ha
    subst e; exact x.hh.free hp, p, rfl, rfl, x.fh.free hp, xs, upd_same, r⟩
theorem eo_lst {t : TA} {ds : List PyData} (h : EvA K t ρ (fzs ds)) (hl : ds.length ≤ 1000) : EvO K (tLst t) ρ (.ol ds) := fun H0 F σ H Q S q =>
  h H0 F σ H _ S fun F1 H1 vs x1 r1 => ⟨by rw [r1.reps.length]; exact Nat.le_of_lt (small1000 hl), fun p hp => by
    obtain ⟨a, b, c⟩ := own_new (K := K) x1 hp r1.reps
    exact q _ _ _ _ a b c⟩
theorem rep_listI {F H : Hp} {x : V} {ds : List PyData} (r : Rep F x (.list ds)) (s : Same F H) : ∃ a xs, x = .ref a ∧ SqL K H a xs ∧ Reps F xs ds ∧ H a = some (.lst xs) := by
  cases r with
  | lst ha rr => exact ⟨_, _, rfl, SqL.of (s _ _ ha), rr, s _ _ ha⟩
theorem rep_tupI {F H : Hp} {x : V} {ds : List PyData} (r : Rep F x (.tuple ds)) (s : Same F H) : ∃ a xs, x = .ref a ∧ SqT K H a xs ∧ Reps F xs ds ∧ H a = some (.tup xs) := by
  cases r with
  | tup ha rr => exact ⟨_, _, rfl, SqT.of (s _ _ ha), rr, s _ _ ha⟩
theorem reps_atI {F : Hp} {xs : List V} {ds : List PyData} {i : Int} {d : PyData} (r : Reps F xs ds) (e : atI ds i = some d) : ∃ z, atI xs i = some z ∧ Rep F z d := by
  obtain ⟨j, e1, e2⟩ := atI_of e
  obtain ⟨z, z1, z2⟩ := r.get e1
  refine ⟨z, ?_, z2⟩
  unfold atI
  rw [r.length, e2]
  exact z1
theorem ev_ixL {ds : List PyData} {i : Int} {d : PyData} (ha : EvE K ta ρ (.list ds)) (hb : EvE K tb ρ (.int i)) (e : atI ds i = some d) : EvE K (tOp (rIx K) ta tb) ρ d := fun H0 F σ H Q S q =>
  ev_two ha hb S fun F' H' x y x1 r1 r2 => by
    obtain ⟨a, xs, rfl, h1, h2, _⟩ := rep_listI (K := K) r1 x1.fh
    obtain ⟨z, z1, z2⟩ := reps_atI h2 e
    cases r2
    exact .inl ⟨a, xs, i, z, rfl, rfl, h1, z1, q F' H' z x1 z2⟩
theorem ev_ixT {ds : List PyData} {i : Int} {d : PyData} (ha : EvE K ta ρ (.tuple ds)) (hb : EvE K tb ρ (.int i)) (e : atI ds i = some d) : EvE K (tOp (rIx K) ta tb) ρ d := fun H0 F σ H Q S q =>
  ev_two ha hb S fun F' H' x y x1 r1 r2 => by
    obtain ⟨a, xs, rfl, h1, h2, _⟩ := rep_tupI (K := K) r1 x1.fh
    obtain ⟨z, z1, z2⟩ := reps_atI h2 e
    cases r2
    exact .inr (.inl ⟨a, xs, i, z, rfl, rfl, h1, z1, q F' H' z x1 z2⟩)
/-- an item of a list of one's own -/
theorem ev_ixO {i : Nat} {ds : List PyData} {k : Int} {d : PyData} (e0 : ρ[i]? = some (some (.ol ds))) (hb : EvE K tb ρ (.int k)) (e : atI ds k = some d) : EvE K (tOp (rIx K) (tVar i) tb) ρ d := fun H0 F σ H Q S q => by
  obtain ⟨fp, h, _⟩ := S.fp
  obtain ⟨v, e1, a, rfl, _, o1⟩ := h i _ e0
  refine ⟨_, e1, hb H0 F σ H _ S fun F1 H1 y x1 r1 => ?_⟩
  obtain ⟨f1, xs, f2, f3⟩ := o1.ext x1
  obtain ⟨z, z1, z2⟩ := reps_atI f3 e
  cases r1
  exact .inl ⟨a, xs, k, z, rfl, rfl, SqL.of f2, z1, q F1 H1 z x1 z2⟩
/-- an item of the script -/
theorem ev_ixS {i : Nat} {ns : List Int} {k n : Int} (e0 : ρ[i]? = some (some (.scr ns))) (hb : EvE K tb ρ (.int k)) (e : atI ns k = some n) : EvE K (tOp (rIx K) (tVar i) tb) ρ (.int n) := fun H0 F σ H Q S q => by
  obtain ⟨fp, h, _⟩ := S.fp
  obtain ⟨v, e1, _, a, rfl, sc⟩ := h i _ e0
  refine ⟨_, e1, hb H0 F σ H _ S fun F1 H1 y x1 r1 => ?_⟩
  cases r1
  obtain ⟨j, j1, j2⟩ := atI_of e
  have z1 : atI (ns.map V.int) k = some (.int n) := by
    unfold atI
    rw [List.length_map, j2]
    show (ns.map V.int)[j]? = _
    rw [List.getElem?_map, j1]
    rfl
  exact .inl ⟨a, _, k, _, rfl, rfl, (x1.ff.trans x1.fh).seq sc.sq, z1, q F1 H1 _ x1 (.int n)⟩
/-! ### calls of defs -/
def spO (R : List OT → OT → Prop) : Sp := fun vs H Q _ => ∃ F ts r, Same F H ∧ Args K F vs ts ∧ R ts r ∧ ∀ F' H' v p, Ext F H F' H' → (∀ a ∈ p, H a = none) → SlotOk K F' H' v r p → Q v H'
theorem eo_call {R : List OT → OT → Prop} {t : TA} {E : XK} {ts : List OT} {r : OT} (h : EvA K t ρ ts) (hR : R ts r) : EvO K (tCall (spO (K := K) R) [] E t) ρ r := fun H0 F σ H Q S q =>
  h H0 F σ H _ S fun F1 H1 vs x1 r1 => by
    refine ⟨F1, ts, r, x1.fh, by rw [List.append_nil]; exact r1, hR, fun F2 H2 v p x2 hp ok => q F2 H2 v p (x1.trans x2) (fun a ha => x1.hh.free (hp a ha)) ok⟩
theorem ev_call {R : List OT → OT → Prop} {t : TA} {E : XK} {ts : List OT} {d : PyData} (h : EvA K t ρ ts) (hR : R ts (.fz d)) : EvE K (tCall (spO (K := K) R) [] E t) ρ d := (eo_call h hR).e
theorem ev_callL {R : List OT → OT → Prop} {t : TA} {E : XK} {ts : List OT} {ds : List PyData} (h : EvA K t ρ ts) (hR : R ts (.ol ds)) : EvE K (tCall (spO (K := K) R) [] E t) ρ (.list ds) := (eo_call h hR).fz
end
/-- a def whose body is read by data -/
theorem Df.ev {P : Program} {w : World} {K : PySem.W.Frag} {mg : Str → Option Value} {base : Heap} {x : Str} {st : Stmt} {N ps : List Str} {k : Nat} {R : List OT → OT → Prop} (D : Df K mg x st ps) (S : FnScope N ps (defScope st)) (len : ∀ ts r, R ts r → ts.length = ps.length)
    (hbody : ∀ (f : Addr) (cdv : Value) (A : Around) (outer : List Env) (s : Shared) (H : Hp) (E : XK) (ts : List OT) (r : OT), Room k (A.deeper (envOfC x (defScope st) s.heap.objs.size f cdv)) → R ts r →
      ∃ t, PSs (cxOf CX0 P w K mg base N x (defScope st) f cdv A outer s H E).nox (defBody st) t ∧ EvS K t (ts.map some ++ List.replicate (N.length - ts.length) none) { nx := fun _ => r = .fz .none, rt := fun r' => r' = r }) : Cal P w K mg base x ps (k + 1) (spO (K := K) R) := by
  refine D.cal S (fun vs H Q E ⟨F, ts, r, _, ha, hR, _⟩ => ha.length.trans (len ts r hR)) fun f cdv A outer s H vs Q E hr ⟨F, ts, r, sm, ha, hR, q⟩ => ?_
  obtain ⟨t, h1, h2⟩ := hbody f cdv A outer s H E ts r hr hR
  refine ⟨t, h1, h2 F H F (start N vs) H _ (Ext.refl sm) ⟨sm, ?_, fun _ => [], fun i t' e => ?_, fun i j a h => (nomatch h), fun i a h => (nomatch h)⟩ ⟨fun F' σ' H' ρ' x' _ e => ?_, fun F' H' v r' p x' hp ok e => ?_, fun _ _ _ _ _ _ z => False.elim z, fun _ _ _ _ _ _ z => False.elim z⟩⟩
  · unfold start
    simp [ha.length]
  · have hlt : i < ts.length := by
      by_cases z : i < ts.length
      · exact z
      · rw [List.getElem?_append_right (by simpa using z)] at e
        have := List.mem_of_getElem? e
        simp at this
    rw [List.getElem?_append_left (by simpa using hlt), List.getElem?_map] at e
    have e' : ts[i]? = some t' := by
      cases z : ts[i]? with
      | none => rw [z] at e; simp at e
      | some w => rw [z] at e; simp at e; rw [e]
    obtain ⟨v, e1, e2⟩ := ha.get (H := H) i t' e'
    refine ⟨v, ?_, e2⟩
    unfold start
    have hl2 : i < vs.length := by rw [ha.length]; exact hlt
    rw [List.getElem?_append_left (by simpa using hl2), List.getElem?_map, e1]
    rfl
  · subst e
    exact q F' H' _ [] x' (fun _ z => nomatch z) ⟨rfl, .non⟩
  · subst e
    exact q F' H' v p x' hp ok
end L2
end

section
set_option Elab.async false
set_option linter.all false
set_option maxRecDepth 100000
namespace L2
open PySem PySem.Spec PyProof.Rows
theorem map_ref_inj : ∀ {as bs : List Addr}, as.map V.ref = bs.map V.ref → as = bs
  | [], [], _ => rfl
  | [], _ :: _, h => by simp at h
  | _ :: _, [], h => by simp at h
  | a :: as, b :: bs, h => by
    simp only [List.map_cons, List.cons.injEq] at h
    obtain ⟨h1, h2⟩ := h
    injection h1 with h1
    rw [h1, map_ref_inj h2]
theorem inV_ints (x : Int) (ns : List Int) : inV (.int x) (ns.map V.int) = decide (x ∈ ns) := by
  induction ns with
  | nil => rfl
  | cons b l ih =>
    show (eqV (.int b) (.int x) || inV (.int x) (l.map V.int)) = _
    rw [ih]
    show ((b == x) || decide (x ∈ l)) = _
    by_cases hx : x = b
    · subst hx; simp
    · have : (b == x) = false := by rw [beq_eq_false_iff_ne]; exact fun z => hx z.symm
      rw [this]
      simp [hx]
section
variable {K : PySem.W.Frag} {ρ : PEnv} {ta tb tc te : TE} {tA : TT} {t u : TS} {D : PEnds}
/-! ### statements -/
theorem es_next (h : D.nx ρ) : EvS K tNext ρ D := fun F0 H0 F σ H E x S C => C.nx F σ H ρ x S h
theorem es_seq (h : EvS K t ρ { D with nx := fun ρ' => EvS K u ρ' D }) : EvS K (tSeq t u) ρ D := fun F0 H0 F σ H E x S C =>
  h F0 H0 F σ H { E with nx := u E } x S ⟨fun F' σ' H' ρ' x' S' q => q F0 H0 F' σ' H' E x' S' C, C.rt, C.bk, C.ct⟩
theorem es_mid (M : PEnv → Prop) (h : EvS K t ρ { D with nx := M }) (h2 : ∀ ρ', M ρ' → EvS K u ρ' D) : EvS K (tSeq t u) ρ D := fun F0 H0 F σ H E x S C =>
  h F0 H0 F σ H { E with nx := u E } x S ⟨fun F' σ' H' ρ' x' S' q => h2 ρ' q F0 H0 F' σ' H' E x' S' C, C.rt, C.bk, C.ct⟩
theorem es_fgt {ρ' : PEnv} (f : Fgt ρ ρ') (h : EvS K t ρ' D) : EvS K t ρ D := fun F0 H0 F σ H E x S C => h F0 H0 F σ H E x (S.fgt f) C
/-- a list of one's own is frozen from here on -/
theorem es_fz (i : Nat) {ds : List PyData} (e : ρ[i]? = some (some (.ol ds))) (h : EvS K t (ρ.set i (some (.fz (.list ds)))) D) : EvS K t ρ D := fun F0 H0 F σ H E x S C => by
  obtain ⟨a, xs, e1, e2, e3, _, _, S'⟩ := S.freeze e
  exact h F0 H0 _ σ H E (x.freeze e1 e2 e3) S' C
theorem es_ret {r : OT} (h : EvO K te ρ r) (hr : D.rt r) : EvS K (tRet te) ρ D := fun F0 H0 F σ H E x S C =>
  h H0 F σ H _ S fun F' H' v p x' hp ok => C.rt F' H' v r p (x.trans x') (fun a ha => x.hh.free (hp a ha)) ok hr
theorem es_retE {d : PyData} (h : EvE K te ρ d) (hr : D.rt (.fz d)) : EvS K (tRet te) ρ D := es_ret h.o hr
theorem es_retF {ds : List PyData} (h : EvO K te ρ (.ol ds)) (hr : D.rt (.fz (.list ds))) : EvS K (tRet te) ρ D := es_ret h.fz.o hr
theorem es_retN (hr : D.rt (.fz .none)) : EvS K tRetN ρ D := fun F0 H0 F σ H E x S C => C.rt F H .non (.fz .none) [] x (fun _ z => nomatch z) ⟨rfl, .non⟩ hr
/-- a list of one's own is handed back -/
theorem es_retO {i : Nat} {ds : List PyData} (e : ρ[i]? = some (some (.ol ds))) (hr : D.rt (.ol ds)) : EvS K (tRet (tVar i)) ρ D := fun F0 H0 F σ H E x S C => by
  obtain ⟨fp, h, _, h5⟩ := S.fp
  obtain ⟨v, e1, ok⟩ := h i _ e
  exact ⟨v, e1, C.rt F H v _ _ x (fun a ha => (h5 i a ha).1) ok hr⟩
theorem es_retOO {i : Nat} {ds : List (List PyData)} (e : ρ[i]? = some (some (.oll ds))) (hr : D.rt (.oll ds)) : EvS K (tRet (tVar i)) ρ D := fun F0 H0 F σ H E x S C => by
  obtain ⟨fp, h, _, h5⟩ := S.fp
  obtain ⟨v, e1, ok⟩ := h i _ e
  exact ⟨v, e1, C.rt F H v _ _ x (fun a ha => (h5 i a ha).1) ok hr⟩
theorem es_drop {d : PyData} (h : EvE K te ρ d) (hn : D.nx ρ) : EvS K (tDrop te) ρ D := fun F0 H0 F σ H E x S C =>
  h H0 F σ H _ S fun F' H' v x' _ => C.nx F' σ H' ρ (x.trans x') (S.ext x') hn
theorem es_if {b : Bool} (h : EvT K tA ρ b) (h1 : b = true → EvS K t ρ D) (h2 : b = false → EvS K u ρ D) : EvS K (tIfS tA t u) ρ D := fun F0 H0 F σ H E x S C =>
  h H0 F σ H _ S fun F' H' x' => by
    cases b with
    | true => rw [if_pos rfl]; exact h1 rfl F0 H0 F' σ H' E (x.trans x') (S.ext x') C
    | false => rw [if_neg Bool.false_ne_true]; exact h2 rfl F0 H0 F' σ H' E (x.trans x') (S.ext x') C
/-- name = e -/
theorem es_set {i : Nat} {r : OT} (h : EvO K te ρ r) (hn : D.nx (ρ.set i (some r))) : EvS K (tAsg te (gName i)) ρ D := fun F0 H0 F σ H E x S C =>
  h H0 F σ H _ S fun F' H' v p x' hp ok => by
    refine C.nx F' _ H' _ (x.trans x') ((S.ext x').set ok (fun a ha => x.hh.free (hp a ha)) (hn := fun a ha j w t' q e1 e2 ok' => ?_)) hn
    obtain ⟨fp, g1, g2, g3⟩ := S.fp
    obtain ⟨w', f1, f2⟩ := g1 j t' e1
    intro hq
    have f3 := f2.ext x'
    rw [e2] at f1
    cases f1
    have same : ∀ b ∈ q, b ∈ fp j := by
      cases t' with
      | fz d => rw [ok'.1]; intro b hb; cases hb
      | ol ds =>
        obtain ⟨b1, z1, z2, z3⟩ := ok'
        obtain ⟨b2, y1, y2, y3⟩ := f3
        rw [z1] at y1
        cases y1
        rw [z2, y2]
        exact fun _ z => z
      | oll dss =>
        obtain ⟨b1, bs1, z1, z2, z3, z4, z5, z6⟩ := ok'
        obtain ⟨b2, bs2, y1, y2, y3, y4, y5, y6⟩ := f3
        rw [z1] at y1
        cases y1
        rw [z5] at y5
        have e5 : bs1.map V.ref = bs2.map V.ref := by injection y5 with z; injection z
        have e6 : bs1 = bs2 := map_ref_inj e5
        rw [z2, y2, e6]
        exact fun _ z => z
      | scr ns => rw [ok'.1]; intro b hb; cases hb
      | own v0 Φ => exact fun b hb => Φ.uniq f3.2 ok'.2 b hb
    exact (g3 j a (same a hq)).2 (hp a ha)
theorem es_setE {i : Nat} {d : PyData} (h : EvE K te ρ d) (hn : D.nx (ρ.set i (some (.fz d)))) : EvS K (tAsg te (gName i)) ρ D := es_set h.o hn
/-! ### targets -/
theorem g_name {i : Nat} {d : PyData} : GTo K (gName i) d ρ (ρ.set i (some (.fz d))) := fun H0 F σ H x Q S r q => q _ (S.setF r)
theorem gs_nil : GsTo K gNil [] ρ ρ := fun H0 F σ H xs Q S r q => by cases r; exact ⟨rfl, q _ S⟩
theorem gs_cons {g : TG} {gs : TGs} {d : PyData} {ds : List PyData} {ρ1 ρ2 : PEnv} (h1 : GTo K g d ρ ρ1) (h2 : GsTo K gs ds ρ1 ρ2) : GsTo K (gCons g gs) (d :: ds) ρ ρ2 := fun H0 F σ H xs Q S r q => by
  cases r with
  | cons r1 r2 => exact ⟨_, _, rfl, h1 H0 F σ H _ _ S r1 fun σ1 S1 => h2 H0 F σ1 H _ _ S1 r2 q⟩
theorem g_tup {n : Nat} {gs : TGs} {ds : List PyData} {ρ1 : PEnv} (h : GsTo K gs ds ρ ρ1) (hn : ds.length = n) : GTo K (gTup K n gs) (.tuple ds) ρ ρ1 := fun H0 F σ H x Q S r q => by
  obtain ⟨a, xs, rfl, h1, h2, _⟩ := rep_tupI (K := K) r S.sub
  exact ⟨a, xs, rfl, h1, by rw [h2.length, hn], h H0 F σ H xs Q S h2 q⟩
theorem es_asg {g : TG} {d : PyData} {ρ' : PEnv} (h : EvE K te ρ d) (hg : GTo K g d ρ ρ') (hn : D.nx ρ') : EvS K (tAsg te g) ρ D := fun F0 H0 F σ H E x S C =>
  h H0 F σ H _ S fun F' H' v x' r => hg H0 F' σ H' v _ (S.ext x') r fun σ' S' => C.nx F' σ' H' ρ' (x.trans x') S' hn
/-! ### lists of one's own change -/
theorem Ext.wr {F0 H0 F H : Hp} {a : Addr} {o : HO} (x : Ext F0 H0 F H) (h0 : H0 a = none) (hf : F a = none) : Ext F0 H0 F (upd H a o) :=
  ⟨x.hh.upd h0, x.ff, x.fh.upd hf, x.fr⟩
theorem es_append {i : Nat} {ds : List PyData} {d : PyData} (e : ρ[i]? = some (some (.ol ds))) (h : EvE K te ρ d) (hl : ds.length < 1000) (hn : D.nx (ρ.set i (some (.ol (ds ++ [d]))))) :
    EvS K (tDrop (tBM K "list" rAppend (tVar i) (tCons te tNil))) ρ D := fun F0 H0 F σ H E x S C => by
  obtain ⟨a, xs, e1, e2, e3, _⟩ := S.write e
  refine ⟨_, e1, .inl ⟨rfl, _, SqL.of e2⟩, h H0 F σ H _ S fun F1 H1 v x1 r1 => ?_⟩
  obtain ⟨a', xs', f1, f2, f3, f4, f5, f6⟩ := (S.ext x1).write e
  rw [e1] at f1
  cases f1
  refine ⟨a, xs', v, rfl, rfl, f2, by rw [f3.length]; exact small1000 (by omega), ?_⟩
  exact C.nx F1 σ _ _ ((x.trans x1).wr f4 f5) (f6 _ _ (f3.snoc r1)) hn
theorem es_store {i : Nat} {ds : List PyData} {d : PyData} {k : Int} {j : Nat} (e : ρ[i]? = some (some (.ol ds))) (h : EvE K te ρ d) (hi : EvE K tb ρ (.int k)) (hj : ixN ds.length k = some j) (hn : D.nx (ρ.set i (some (.ol (ds.set j d))))) :
    EvS K (tAsg te (gSub (tVar i) tb rSetL)) ρ D := fun F0 H0 F σ H E x S C =>
  h H0 F σ H _ S fun F1 H1 v x1 r1 => by
    obtain ⟨a, xs, e1, e2, e3, _⟩ := (S.ext x1).write e
    refine ⟨_, e1, hi H0 F1 σ H1 _ (S.ext x1) fun F2 H2 y x2 r2 => ?_⟩
    obtain ⟨a', xs', f1, f2, f3, f4, f5, f6⟩ := (S.ext (x1.trans x2)).write e
    rw [e1] at f1
    cases f1
    cases r2
    refine ⟨a, xs', k, j, rfl, rfl, f2, by rw [f3.length]; exact hj, ?_⟩
    exact C.nx F2 σ _ _ ((x.trans (x1.trans x2)).wr f4 f5) (f6 _ _ (f3.set (r1.mono x2.ff) j)) hn
theorem es_augS {f : Int → Int → Int} {i : Nat} {ds : List PyData} {k m n : Int} (e : ρ[i]? = some (some (.ol ds))) (hi : EvE K tb ρ (.int k)) (h0 : 0 ≤ k) (hm : ds[k.toNat]? = some (.int m)) (h : EvE K te ρ (.int n))
    (hn : D.nx (ρ.set i (some (.ol (ds.set k.toNat (.int (f m n))))))) : EvS K (tAugS (tVar i) tb te (rGetL K) (ipI f) rSetL) ρ D := fun F0 H0 F σ H E x S C => by
  obtain ⟨a, xs, e1, e2, e3, _⟩ := S.write e
  refine ⟨_, e1, hi H0 F σ H _ S fun F1 H1 y x1 r1 => ?_⟩
  cases r1
  obtain ⟨a1, xs1, f1, f2, f3, _⟩ := (S.ext x1).write e
  rw [e1] at f1
  cases f1
  obtain ⟨z, z1, z2⟩ := f3.get hm
  refine ⟨a, xs1, k, z, rfl, rfl, SqL.of f2, h0, z1, h H0 F1 σ H1 _ (S.ext x1) fun F2 H2 w x2 r2 => ?_⟩
  cases r2
  cases z2
  refine ⟨m, n, rfl, rfl, ?_⟩
  obtain ⟨a2, xs2, g1, g2, g3, g4, g5, g6⟩ := (S.ext (x1.trans x2)).write e
  rw [e1] at g1
  cases g1
  have hlt : k.toNat < ds.length := (List.getElem?_eq_some_iff.mp hm).1
  refine ⟨a, xs2, k, k.toNat, rfl, rfl, g2, ?_, ?_⟩
  · rw [g3.length]
    unfold ixN; rw [if_pos h0, if_pos (by omega)]
  · exact C.nx F2 σ _ _ ((x.trans (x1.trans x2)).wr g4 g5) (g6 _ _ (g3.set (.int _) _)) hn
/-! ### for -/
theorem Ext.base {F0 H0 F H : Hp} (x : Ext F0 H0 F H) : Ext F H0 F H := ⟨x.hh, Same.refl _, x.fh, fun _ h => .inl h⟩
theorem Ext.rebase {F0 H0 F H F' H' : Hp} (x : Ext F0 H0 F H) (y : Ext F H0 F' H') : Ext F0 H0 F' H' :=
  ⟨y.hh, x.ff.trans y.ff, y.fh, fun a h => (y.fr a h).elim (fun z => x.fr a z) .inr⟩
theorem es_for {wi : TI} {g : TG} {tbd : TS} {ds : List PyData} (P : Nat → PEnv → Prop) (hi : EvI K wi ρ ds) (h0 : P 0 ρ)
    (hs : ∀ (i : Nat) (d : PyData) (ρ' : PEnv), ds[i]? = some d → P i ρ' → ∃ ρ2, GTo K g d ρ' ρ2 ∧ EvS K tbd ρ2 { nx := P (i + 1), ct := P (i + 1), bk := D.nx, rt := D.rt }) (hd : ∀ ρ', P ds.length ρ' → D.nx ρ') : EvS K (tFor wi g tbd) ρ D := fun F0 H0 F σ H E x S C =>
  hi H0 F σ H _ S fun F1 H1 J x1 W => by
    refine ⟨fun i m σ H => m = ds.length - i ∧ i ≤ ds.length ∧ ∃ F ρ', Ext F0 H0 F H ∧ Same F1 F ∧ Sta K H0 F ρ' σ H ∧ P i ρ', ⟨ds.length, by simp, Nat.zero_le _, F1, ρ, x.trans x1, Same.refl _, S.ext x1, h0⟩, ?_⟩
    rintro i m σ' H' ⟨rfl, hle, F', ρ', x', s', S', p⟩
    obtain ⟨w1, w2⟩ := W F' H' s' S'.sub
    by_cases hlt : i < ds.length
    · have e : ds[i]? = some ds[i] := by simp [hlt]
      obtain ⟨go, yl⟩ := w2 i _ e
      refine .inr ⟨go, fun σ2 H2 => ∃ F2 ρ2, Ext F0 H0 F2 H2 ∧ Same F1 F2 ∧ Sta K H0 F2 ρ2 σ2 H2 ∧ P (i + 1) ρ2, fun σ2 H2 q => ⟨ds.length - (i + 1), by omega, rfl, hlt, q⟩, fun v H3 y => ?_⟩
      obtain ⟨F3, x3, r3⟩ := yl v H3 y
      obtain ⟨ρ2, hg, hb⟩ := hs i _ ρ' e p
      refine hg H0 F3 σ' H3 v _ (S'.ext x3) r3 fun σ2 S2 => ?_
      have big : Ext F0 H0 F3 H3 := x'.trans x3
      have s13 := s'.trans x3.ff
      exact hb F3 H0 F3 σ2 H3 _ big.base S2 ⟨fun F4 σ4 H4 ρ4 x4 S4 q4 => ⟨F4, ρ4, big.rebase x4, s13.trans x4.ff, S4, q4⟩, fun F4 H4 v4 r4 p4 x4 => C.rt F4 H4 v4 r4 p4 (big.rebase x4),
        fun F4 σ4 H4 ρ4 x4 => C.nx F4 σ4 H4 ρ4 (big.rebase x4), fun F4 σ4 H4 ρ4 x4 S4 q4 => ⟨F4, ρ4, big.rebase x4, s13.trans x4.ff, S4, q4⟩⟩
    · have e : i = ds.length := by omega
      subst e
      exact .inl ⟨w1, C.nx F' σ' H' ρ' x' S' (hd ρ' p)⟩
/-- .. the slots between the turns told by R -/
theorem es_forR {wi : TI} {g : TG} {tbd : TS} {ds : List PyData} (R : Nat → PEnv) (hi : EvI K wi ρ ds) (h0 : Fgt ρ (R 0))
    (hs : ∀ (i : Nat) (d : PyData), ds[i]? = some d → ∃ ρ2, GTo K g d (R i) ρ2 ∧ EvS K tbd ρ2 { nx := fun ρ' => Fgt ρ' (R (i + 1)), ct := fun ρ' => Fgt ρ' (R (i + 1)), bk := D.nx, rt := D.rt }) (hd : ∀ ρ', Fgt ρ' (R ds.length) → D.nx ρ') : EvS K (tFor wi g tbd) ρ D := by
  refine es_for (fun i ρ' => Fgt ρ' (R i)) hi h0 (fun i d ρ' e f => ?_) hd
  obtain ⟨ρ2, h1, h2⟩ := hs i d e
  exact ⟨ρ2, fun H0 F σ H x Q S r q => h1 H0 F σ H x Q (S.fgt f) r q, h2⟩
/-! ### while -/
theorem es_while {c : TT} {tbd : TS} (P : Nat → PEnv → Prop) (m0 : Nat) (h0 : P m0 ρ)
    (hs : ∀ (m : Nat) (ρ' : PEnv), P m ρ' → ∃ b, EvT K c ρ' b ∧ (b = true → EvS K tbd ρ' { nx := fun ρ2 => ∃ m', m' < m ∧ P m' ρ2, ct := fun ρ2 => ∃ m', m' < m ∧ P m' ρ2, bk := D.nx, rt := D.rt }) ∧ (b = false → D.nx ρ')) : EvS K (tWhile c tbd) ρ D := fun F0 H0 F σ H E x S C => by
  refine ⟨fun m σ H => ∃ F ρ', Ext F0 H0 F H ∧ Sta K H0 F ρ' σ H ∧ P m ρ', ⟨m0, F, ρ, x, S, h0⟩, ?_⟩
  rintro m σ' H' ⟨F', ρ', x', S', p⟩
  obtain ⟨b, h1, h2, h3⟩ := hs m ρ' p
  refine h1 H0 F' σ' H' _ S' fun F1 H1 x1 => ?_
  have X1 := x'.trans x1
  have S1 := S'.ext x1
  cases b with
  | false => rw [if_neg Bool.false_ne_true]; exact C.nx F1 σ' H1 ρ' X1 S1 (h3 rfl)
  | true =>
    rw [if_pos rfl]
    refine ⟨fun σ2 H2 => ∃ m', m' < m ∧ ∃ F2 ρ2, Ext F0 H0 F2 H2 ∧ Sta K H0 F2 ρ2 σ2 H2 ∧ P m' ρ2, fun σ2 H2 h => h, ?_⟩
    have go : ∀ F4 σ4 H4 ρ4, Ext F0 H0 F4 H4 → Sta K H0 F4 ρ4 σ4 H4 → (∃ m', m' < m ∧ P m' ρ4) → ∃ m', m' < m ∧ ∃ F2 ρ2, Ext F0 H0 F2 H4 ∧ Sta K H0 F2 ρ2 σ4 H4 ∧ P m' ρ2 := fun F4 σ4 H4 ρ4 x4 S4 ⟨m', q1, q2⟩ => ⟨m', q1, F4, ρ4, x4, S4, q2⟩
    exact h2 rfl F0 H0 F1 σ' H1 _ X1 S1 ⟨go, C.rt, C.nx, go⟩
/-! ### what is walked -/
theorem ei_list {ds : List PyData} (h : EvE K ta ρ (.list ds)) : EvI K (iList K ta) ρ ds := fun H0 F σ H R S q =>
  h H0 F σ H _ S fun F1 H1 v x1 r1 => by
    obtain ⟨a, xs, rfl, h1, h2, h3⟩ := rep_listI (K := K) r1 x1.fh
    have hF : F1 a = some (.lst xs) := by
      cases r1 with
      | lst ha rr =>
        have := x1.fh _ _ ha
        rw [h3] at this
        cases this
        exact ha
    refine ⟨a, rfl, ⟨xs, h1⟩, q F1 H1 _ x1 fun F2 H2 s2 s3 => ?_⟩
    have hq : SqL K H2 a xs := SqL.of (s3 _ _ (s2 _ _ hF))
    refine ⟨⟨xs, hq, by rw [h2.length]; exact Nat.le_refl _⟩, fun i d e => ?_⟩
    obtain ⟨z, z1, z2⟩ := h2.get e
    refine ⟨⟨xs, z, hq, z1⟩, fun y H3 hy => ?_⟩
    obtain ⟨rfl, hy⟩ := hy
    have e2 := hy xs hq
    rw [z1] at e2
    cases e2
    exact ⟨F2, Ext.refl s3, z2.mono s2⟩
theorem ei_tup {ds : List PyData} (h : EvE K ta ρ (.tuple ds)) : EvI K (iTup K ta) ρ ds := fun H0 F σ H R S q =>
  h H0 F σ H _ S fun F1 H1 v x1 r1 => by
    obtain ⟨a, xs, rfl, h1, h2, h3⟩ := rep_tupI (K := K) r1 x1.fh
    have hF : F1 a = some (.tup xs) := by
      cases r1 with
      | tup ha rr =>
        have := x1.fh _ _ ha
        rw [h3] at this
        cases this
        exact ha
    refine ⟨a, rfl, ⟨xs, h1⟩, q F1 H1 _ x1 fun F2 H2 s2 s3 => ?_⟩
    have hq : SqT K H2 a xs := SqT.of (s3 _ _ (s2 _ _ hF))
    refine ⟨⟨xs, hq, by rw [h2.length]; exact Nat.le_refl _⟩, fun i d e => ?_⟩
    obtain ⟨z, z1, z2⟩ := h2.get e
    refine ⟨⟨xs, z, hq, z1⟩, fun y H3 hy => ?_⟩
    obtain ⟨rfl, hy⟩ := hy
    have e2 := hy xs hq
    rw [z1] at e2
    cases e2
    exact ⟨F2, Ext.refl s3, z2.mono s2⟩
/-- lo, lo + 1, .. -/
def rngD (lo : Int) (n : Nat) : List PyData := (List.range n).map fun (i : Nat) => PyData.int (lo + (i : Int))
theorem rngD_get {lo : Int} {n i : Nat} {d : PyData} (e : (rngD lo n)[i]? = some d) : i < n ∧ d = .int (lo + (i : Int)) := by
  unfold rngD at e
  rw [List.getElem?_map] at e
  by_cases h : i < n
  · simp [h] at e; exact ⟨h, e.symm⟩
  · simp [h] at e
theorem rngD_len {lo : Int} {n : Nat} : (rngD lo n).length = n := by simp [rngD]
theorem walks_rng {F : Hp} {lo : Int} {n : Nat} : WalksD F (Itr lo n) (rngD lo n) := fun F2 H2 s2 s3 => by
  refine ⟨by show n ≤ _; rw [rngD_len]; exact Nat.le_refl _, fun i d e => ?_⟩
  obtain ⟨h1, rfl⟩ := rngD_get e
  refine ⟨h1, fun x H3 hy => ?_⟩
  obtain ⟨rfl, rfl⟩ := hy
  exact ⟨F2, Ext.refl s3, .int _⟩
theorem ei_range1 {t : TA} {n : Int} (h : EvA K t ρ [.fz (.int n)]) (h1 : -(2 ^ 62) ≤ n) (h2 : n < 2 ^ 62) : EvI K (iRng1 t) ρ (rngD 0 n.toNat) := fun H0 F σ H R S q =>
  h H0 F σ H _ S fun F1 H1 vs x1 r1 => by
    cases r1 with
    | fz r r1 => cases r1; cases r; exact ⟨n, rfl, h1, h2, q F1 H1 _ x1 walks_rng⟩
theorem ei_range2 {t : TA} {m n : Int} (h : EvA K t ρ [.fz (.int m), .fz (.int n)]) (h1 : -(2 ^ 62) ≤ m ∧ m < 2 ^ 62 ∧ -(2 ^ 62) ≤ n ∧ n < 2 ^ 62) : EvI K (iRng2 t) ρ (rngD m (n - m).toNat) := fun H0 F σ H R S q =>
  h H0 F σ H _ S fun F1 H1 vs x1 r1 => by
    cases r1 with
    | fz r r1 =>
      cases r1 with
      | fz r' r1 => cases r1; cases r; cases r'; exact ⟨m, n, rfl, h1, q F1 H1 _ x1 walks_rng⟩
/-- hi, hi - 1, .. -/
def rngU (hi : Int) (n : Nat) : List PyData := (List.range n).map fun (i : Nat) => PyData.int (hi - (i : Int))
theorem rngU_get {hi : Int} {n i : Nat} {d : PyData} (e : (rngU hi n)[i]? = some d) : i < n ∧ d = .int (hi - (i : Int)) := by
  unfold rngU at e
  rw [List.getElem?_map] at e
  by_cases h : i < n
  · simp [h] at e; exact ⟨h, e.symm⟩
  · simp [h] at e
theorem rngU_len {hi : Int} {n : Nat} : (rngU hi n).length = n := by simp [rngU]
theorem ei_range3 {t : TA} {m n : Int} (h : EvA K t ρ [.fz (.int m), .fz (.int n), .fz (.int (-1))]) (h1 : -(2 ^ 62) ≤ m ∧ m < 2 ^ 62 ∧ -(2 ^ 62) ≤ n ∧ n < 2 ^ 62) : EvI K (iRng3 t) ρ (rngU m (m - n).toNat) := fun H0 F σ H R S q =>
  h H0 F σ H _ S fun F1 H1 vs x1 r1 => by
    cases r1 with
    | fz r r1 =>
      cases r1 with
      | fz r' r1 =>
        cases r1 with
        | fz r2 r1 =>
          cases r1; cases r; cases r'; cases r2
          refine ⟨m, n, rfl, h1, q F1 H1 _ x1 fun F2 H2 s2 s3 => ⟨by show _ ≤ _; rw [rngU_len]; exact Nat.le_refl _, fun i d e => ?_⟩⟩
          obtain ⟨h1, rfl⟩ := rngU_get e
          refine ⟨h1, fun x H3 hy => ?_⟩
          obtain ⟨rfl, rfl⟩ := hy
          exact ⟨F2, Ext.refl s3, .int _⟩
/-! ### comprehensions -/
def fzOnly : Option OT → Option OT
  | some (.fz d) => some (.fz d)
  | some (.scr ns) => some (.scr ns)
  | _ => none
def inEnv (f : List (Option Nat)) (ρ : PEnv) : PEnv := f.map fun o => match o with | some i => fzOnly (ρ[i]?).join | none => none
theorem Sta.inner {H0 F H : Hp} {σ : St} (f : List (Option Nat)) (S : Sta K H0 F ρ σ H) : Sta K H0 F (inEnv f ρ) (inSt f σ) H := by
  obtain ⟨h1, h2, fp, h3, h4, h5⟩ := S
  refine ⟨h1, by simp [inEnv, inSt], fun _ => [], fun i t e => ?_, fun i j a h => (nomatch h), fun i a h => (nomatch h)⟩
  unfold inEnv at e
  rw [List.getElem?_map] at e
  cases z : f[i]? with
  | none => rw [z] at e; simp at e
  | some o =>
    rw [z] at e
    simp only [Option.map_some, Option.some.injEq] at e
    cases o with
    | none => cases e
    | some k =>
      simp only at e
      have e' : ρ[k]? = some (some t) ∧ ((∃ d, t = .fz d) ∨ ∃ ns, t = .scr ns) := by
        cases y : ρ[k]? with
        | none => rw [y] at e; simp [fzOnly] at e
        | some w =>
          rw [y] at e
          simp only [Option.join_some] at e
          cases w with
          | none => simp [fzOnly] at e
          | some w =>
            cases w with
            | fz d => simp [fzOnly] at e; subst e; exact ⟨rfl, .inl ⟨_, rfl⟩⟩
            | scr ns => simp [fzOnly] at e; subst e; exact ⟨rfl, .inr ⟨_, rfl⟩⟩
            | ol ds => simp [fzOnly] at e
            | oll ds => simp [fzOnly] at e
            | own v0 Φ => simp [fzOnly] at e
      obtain ⟨v, e1, e2⟩ := h3 k t e'.1
      refine ⟨v, ?_, ?_⟩
      · unfold inSt
        rw [List.getElem?_map, z]
        simp [e1]
      · rcases e'.2 with ⟨d, rfl⟩ | ⟨ns, rfl⟩
        · exact ⟨rfl, e2.2⟩
        · exact ⟨rfl, e2.2⟩
/-- [h x for x in xs if p x] -/
theorem eo_lcP {α : Type} {f : List (Option Nat)} {wi : TI} {g : CIn → TG} {tcc : CIn → TT} {tee : CIn → TE} {xs : List α} {enc h : α → PyData} {p : α → Bool} (hi : EvI K wi ρ (xs.map enc)) (hl : xs.length ≤ 1000)
    (hs : ∀ x ∈ xs, ∀ c, ∃ ρ2, GTo K (g c) (enc x) (inEnv f ρ) ρ2 ∧ EvT K (tcc c) ρ2 (p x) ∧ (p x = true → EvE K (tee c) ρ2 (h x))) : EvO K (tLC f wi g tcc tee) ρ (.ol ((xs.filter p).map h)) := fun H0 F σ H Q S q =>
  hi H0 F σ H _ S fun F1 H1 J x1 W c => by
    have hn : xs.length ≤ sizeLine := Nat.le_of_lt (small1000 hl)
    refine ⟨fun i m ys H => m = xs.length - i ∧ i ≤ xs.length ∧ ∃ F', Ext F1 H1 F' H ∧ Reps F' ys (((xs.take i).filter p).map h), ⟨xs.length, by simp, Nat.zero_le _, F1, Ext.refl x1.fh, .nil⟩, ?_⟩
    rintro i m ys H' ⟨rfl, hle, F', x', r'⟩
    obtain ⟨w1, w2⟩ := W F' H' x'.ff x'.fh
    by_cases hlt : i < xs.length
    · have e : (xs.map enc)[i]? = some (enc xs[i]) := by simp [hlt]
      obtain ⟨go, yl⟩ := w2 i _ e
      refine .inr ⟨go, fun v H3 y => ?_⟩
      obtain ⟨F3, x3, r3⟩ := yl v H3 y
      obtain ⟨ρ2, k1, k2, k3⟩ := hs xs[i] (List.getElem_mem hlt) c
      have S3 := (S.ext (x1.trans (x'.trans x3))).inner f
      have tk : xs.take (i + 1) = xs.take i ++ [xs[i]] := by rw [List.take_succ]; simp [hlt]
      have ly := r'.length
      have ly2 : ys.length ≤ i := by
        rw [ly, List.length_map]
        refine Nat.le_trans (List.length_filter_le _ _) ?_
        rw [List.length_take]; omega
      refine k1 H0 F3 _ H3 v _ S3 r3 fun σ2 S4 => k2 H0 F3 σ2 H3 _ S4 fun F4 H4 x4 => ?_
      cases ep : p xs[i] with
      | true =>
        rw [if_pos rfl]
        refine k3 ep H0 F4 σ2 H4 _ (S4.ext x4) fun F5 H5 z x5 r5 => ⟨by omega, xs.length - (i + 1), by omega, rfl, hlt, F5, x'.trans (x3.trans (x4.trans x5)), ?_⟩
        rw [tk, List.filter_append, List.map_append]
        simp only [List.filter_cons, ep, if_true, List.filter_nil, List.map_cons, List.map_nil]
        exact (r'.mono (x3.trans (x4.trans x5)).ff).snoc r5
      | false =>
        rw [if_neg Bool.false_ne_true]
        refine ⟨xs.length - (i + 1), by omega, rfl, hlt, F4, x'.trans (x3.trans x4), ?_⟩
        rw [tk, List.filter_append, List.map_append]
        simp only [List.filter_cons, ep, List.filter_nil, List.map_nil, List.append_nil, Bool.false_eq_true, if_false]
        exact r'.mono (x3.trans x4).ff
    · have e : i = xs.length := by omega
      subst e
      refine .inl ⟨by simpa using w1, fun a ha => ?_⟩
      rw [List.take_length] at r'
      obtain ⟨z1, z2, z3⟩ := own_new (K := K) (x1.trans x') ha r'
      exact q _ _ _ _ z1 z2 z3
/-- [h x for x in xs] -/
theorem eo_lc {α : Type} {f : List (Option Nat)} {wi : TI} {g : CIn → TG} {tee : CIn → TE} {xs : List α} {enc h : α → PyData} (hi : EvI K wi ρ (xs.map enc)) (hl : xs.length ≤ 1000)
    (hs : ∀ x ∈ xs, ∀ c, ∃ ρ2, GTo K (g c) (enc x) (inEnv f ρ) ρ2 ∧ EvE K (tee c) ρ2 (h x)) : EvO K (tLC f wi g (fun _ => tYes) tee) ρ (.ol (xs.map h)) := by
  have := eo_lcP (K := K) (ρ := ρ) (f := f) (wi := wi) (g := g) (tcc := fun _ => tYes) (tee := tee) (xs := xs) (enc := enc) (h := h) (p := fun _ => true) hi hl fun x hx c => by
    obtain ⟨ρ2, h1, h2⟩ := hs x hx c
    exact ⟨ρ2, h1, et_yes, fun _ => h2⟩
  have e : xs.filter (fun _ => true) = xs := List.filter_eq_self.mpr fun _ _ => rfl
  rw [e] at this
  exact this
/-! ### built-in functions -/
def rAbs : List V → Hp → VK → Prop := fun xs H Q => ∃ i, xs = [.int i] ∧ Q (.int (if i < 0 then -i else i)) H
def rMax2 : List V → Hp → VK → Prop := fun xs H Q => ∃ i j, xs = [.int i, .int j] ∧ Q (.int (if j > i then j else i)) H
def rMin2 : List V → Hp → VK → Prop := fun xs H Q => ∃ i j, xs = [.int i, .int j] ∧ Q (.int (if j < i then j else i)) H
def rInt1 : List V → Hp → VK → Prop := fun xs H Q => (∃ i, xs = [.int i] ∧ Q (.int i) H) ∨ ∃ k, xs = [.bl k] ∧ Q (.int (if k then 1 else 0)) H
def rIsi : List V → Hp → VK → Prop := fun xs H Q => ∃ x T c b, xs = [x, .ty c] ∧ TyN H x T ∧ isiB T c = some b ∧ Q (.bl b) H
def rLen (K : PySem.W.Frag) : List V → Hp → VK → Prop := fun xs H Q => ∃ p ys, xs = [.ref p] ∧ (SqL K H p ys ∨ SqT K H p ys) ∧ Q (.int ys.length) H
def rListOf (K : PySem.W.Frag) : List V → Hp → VK → Prop := fun xs H Q => ∃ p ys, xs = [.ref p] ∧ (SqL K H p ys ∨ SqT K H p ys) ∧ ∀ l, H l = none → Q (.ref l) (upd H l (.lst ys))
def rTupOf (K : PySem.W.Frag) : List V → Hp → VK → Prop := fun xs H Q => ∃ p ys, xs = [.ref p] ∧ ((SqL K H p ys ∧ ∀ l, H l = none → Q (.ref l) (upd H l (.tup ys))) ∨ (SqT K H p ys ∧ Q (.ref p) H))
def rSum (X : Cx) : List V → Hp → VK → Prop := fun xs H Q => X.calm = true ∧ ∃ (x : V) (ns : List Int), xs = [x] ∧ Rep H x (.list (ns.map PyData.int)) ∧ Q (.int ns.sum) H
def rBits : V → List V → Hp → VK → Prop := fun x xs H Q => ∃ i, x = .int i ∧ xs = [] ∧ Q (.int (Builtin.Int.intBits i)) H
theorem ca_abs {X : Cx} : CallR X (.builtin "abs") rAbs := call_abs
theorem ca_max {X : Cx} (h : X.calm = true) : CallR X (.builtin "max") rMax2 := call_max2 h
theorem ca_min {X : Cx} (h : X.calm = true) : CallR X (.builtin "min") rMin2 := call_min2 h
theorem ca_int {X : Cx} : CallR X (.type "int") rInt1 := call_int1
theorem ca_isi {X : Cx} : CallR X (.builtin "isinstance") rIsi := call_isi
theorem ca_len {X : Cx} : CallR X (.builtin "len") (rLen X.K) := call_len_seq
theorem ca_list {X : Cx} : CallR X (.type "list") (rListOf X.K) := call_list_of
theorem ca_tuple {X : Cx} : CallR X (.type "tuple") (rTupOf X.K) := call_tuple_of
theorem ca_sum {X : Cx} : CallR X (.builtin "sum") (rSum X) := call_sumD
theorem ma_bits {X : Cx} : MtR X "int.bit_length" rBits := mt_bits
theorem ev_abs {x : Int} (h : EvE K ta ρ (.int x)) : EvE K (tCB rAbs (tCons ta tNil)) ρ (.int (if x < 0 then -x else x)) := fun H0 F σ H Q S q =>
  h H0 F σ H _ S fun F1 H1 v x1 r1 => by cases r1; exact ⟨x, rfl, q F1 H1 _ x1 (.int _)⟩
theorem ev_cb2 {x y : Int} {r : List V → Hp → VK → Prop} {H0 F H : Hp} {σ : St} {Q : VK} (ha : EvE K ta ρ (.int x)) (hb : EvE K tb ρ (.int y)) (S : Sta K H0 F ρ σ H) (h : ∀ F' H', Ext F H F' H' → r [.int x, .int y] H' Q) : tCB r (tCons ta (tCons tb tNil)) σ H Q :=
  ha H0 F σ H _ S fun F1 H1 v x1 r1 => hb H0 F1 σ H1 _ (S.ext x1) fun F2 H2 w x2 r2 => by cases r1; cases r2; exact h F2 H2 (x1.trans x2)
theorem ev_max {x y : Int} (ha : EvE K ta ρ (.int x)) (hb : EvE K tb ρ (.int y)) : EvE K (tCB rMax2 (tCons ta (tCons tb tNil))) ρ (.int (if y > x then y else x)) := fun H0 F σ H Q S q =>
  ev_cb2 ha hb S fun F' H' e => ⟨x, y, rfl, q F' H' _ e (.int _)⟩
theorem ev_min {x y : Int} (ha : EvE K ta ρ (.int x)) (hb : EvE K tb ρ (.int y)) : EvE K (tCB rMin2 (tCons ta (tCons tb tNil))) ρ (.int (if y < x then y else x)) := fun H0 F σ H Q S q =>
  ev_cb2 ha hb S fun F' H' e => ⟨x, y, rfl, q F' H' _ e (.int _)⟩
theorem ev_intB {b : Bool} (h : EvE K ta ρ (.bool b)) : EvE K (tCB rInt1 (tCons ta tNil)) ρ (.int (if b then 1 else 0)) := fun H0 F σ H Q S q =>
  h H0 F σ H _ S fun F1 H1 v x1 r1 => by cases r1; exact .inr ⟨b, rfl, q F1 H1 _ x1 (.int _)⟩
theorem ev_intI {x : Int} (h : EvE K ta ρ (.int x)) : EvE K (tCB rInt1 (tCons ta tNil)) ρ (.int x) := fun H0 F σ H Q S q =>
  h H0 F σ H _ S fun F1 H1 v x1 r1 => by cases r1; exact .inl ⟨x, rfl, q F1 H1 _ x1 (.int _)⟩
theorem ev_isi {a : PyData} {c : String} {b : Bool} (h : EvE K ta ρ a) (hb : isiB (tyD a) c = some b) : EvE K (tCB rIsi (tCons ta (tCons (tC (.ty c)) tNil))) ρ (.bool b) := fun H0 F σ H Q S q =>
  h H0 F σ H _ S fun F1 H1 v x1 r1 => ⟨v, _, c, b, rfl, (r1.mono x1.fh).ty, hb, q F1 H1 _ x1 (.bl _)⟩
theorem ev_lenL {ds : List PyData} (h : EvE K ta ρ (.list ds)) : EvE K (tCB (rLen K) (tCons ta tNil)) ρ (.int (ds.length : Int)) := fun H0 F σ H Q S q =>
  h H0 F σ H _ S fun F1 H1 v x1 r1 => by
    obtain ⟨a, xs, rfl, h1, h2, _⟩ := rep_listI (K := K) r1 x1.fh
    exact ⟨a, xs, rfl, .inl h1, by rw [h2.length]; exact q F1 H1 _ x1 (.int _)⟩
theorem ev_lenT {ds : List PyData} (h : EvE K ta ρ (.tuple ds)) : EvE K (tCB (rLen K) (tCons ta tNil)) ρ (.int (ds.length : Int)) := fun H0 F σ H Q S q =>
  h H0 F σ H _ S fun F1 H1 v x1 r1 => by
    obtain ⟨a, xs, rfl, h1, h2, _⟩ := rep_tupI (K := K) r1 x1.fh
    exact ⟨a, xs, rfl, .inr h1, by rw [h2.length]; exact q F1 H1 _ x1 (.int _)⟩
theorem ev_lenS {i : Nat} {ns : List Int} (e0 : ρ[i]? = some (some (.scr ns))) : EvE K (tCB (rLen K) (tCons (tVar i) tNil)) ρ (.int (ns.length : Int)) := fun H0 F σ H Q S q => by
  obtain ⟨fp, h, _⟩ := S.fp
  obtain ⟨v, e1, _, a, rfl, sc⟩ := h i _ e0
  exact ⟨_, e1, a, ns.map V.int, rfl, .inl (S.sub.seq sc.sq), by rw [List.length_map]; exact q F H _ (Ext.refl S.sub) (.int _)⟩
theorem ev_lenO {i : Nat} {ds : List PyData} (e0 : ρ[i]? = some (some (.ol ds))) : EvE K (tCB (rLen K) (tCons (tVar i) tNil)) ρ (.int (ds.length : Int)) := fun H0 F σ H Q S q => by
  obtain ⟨fp, h, _⟩ := S.fp
  obtain ⟨v, e1, a, rfl, _, _, xs, o2, o3⟩ := h i _ e0
  exact ⟨_, e1, a, xs, rfl, .inl (SqL.of o2), by rw [o3.length]; exact q F H _ (Ext.refl S.sub) (.int _)⟩
theorem eo_listL {ds : List PyData} (h : EvE K ta ρ (.list ds)) : EvO K (tCB (rListOf K) (tCons ta tNil)) ρ (.ol ds) := fun H0 F σ H Q S q =>
  h H0 F σ H _ S fun F1 H1 v x1 r1 => by
    obtain ⟨a, xs, rfl, h1, h2, _⟩ := rep_listI (K := K) r1 x1.fh
    refine ⟨a, xs, rfl, .inl h1, fun p hp => ?_⟩
    obtain ⟨z1, z2, z3⟩ := own_new (K := K) x1 hp h2
    exact q _ _ _ _ z1 z2 z3
theorem eo_listT {ds : List PyData} (h : EvE K ta ρ (.tuple ds)) : EvO K (tCB (rListOf K) (tCons ta tNil)) ρ (.ol ds) := fun H0 F σ H Q S q =>
  h H0 F σ H _ S fun F1 H1 v x1 r1 => by
    obtain ⟨a, xs, rfl, h1, h2, _⟩ := rep_tupI (K := K) r1 x1.fh
    refine ⟨a, xs, rfl, .inr h1, fun p hp => ?_⟩
    obtain ⟨z1, z2, z3⟩ := own_new (K := K) x1 hp h2
    exact q _ _ _ _ z1 z2 z3
theorem ev_tupL {ds : List PyData} (h : EvE K ta ρ (.list ds)) : EvE K (tCB (rTupOf K) (tCons ta tNil)) ρ (.tuple ds) := fun H0 F σ H Q S q =>
  h H0 F σ H _ S fun F1 H1 v x1 r1 => by
    obtain ⟨a, xs, rfl, h1, h2, _⟩ := rep_listI (K := K) r1 x1.fh
    refine ⟨a, xs, rfl, .inl ⟨h1, fun p hp => ?_⟩⟩
    have s1 := x1.fh
    exact q _ _ _ (x1.trans (Ext.new s1 hp)) (.tup upd_same (h2.mono (Same.new (s1.free hp))))
/-- tuple(x), x a list of one's own -/
theorem ev_tupO {i : Nat} {ds : List PyData} (e0 : ρ[i]? = some (some (.ol ds))) : EvE K (tCB (rTupOf K) (tCons (tVar i) tNil)) ρ (.tuple ds) := fun H0 F σ H Q S q => by
  obtain ⟨fp, h, _⟩ := S.fp
  obtain ⟨v, e1, a, rfl, _, _, xs, o2, o3⟩ := h i _ e0
  refine ⟨_, e1, a, xs, rfl, .inl ⟨SqL.of o2, fun p hp => ?_⟩⟩
  exact q _ _ _ (Ext.new S.sub hp) (.tup upd_same (o3.mono (Same.new (S.sub.free hp))))
theorem ev_sum {X : Cx} {ns : List Int} (h : EvE K ta ρ (.list (ns.map PyData.int))) (hc : X.calm = true) : EvE K (tCB (rSum X) (tCons ta tNil)) ρ (.int ns.sum) := fun H0 F σ H Q S q =>
  h H0 F σ H _ S fun F1 H1 v x1 r1 => ⟨hc, v, ns, rfl, r1.mono x1.fh, q F1 H1 _ x1 (.int _)⟩
theorem ev_bits {x : Int} (h : EvE K ta ρ (.int x)) : EvE K (tBM0 K "int" rBits ta) ρ (.int (Builtin.Int.intBits x : Int)) := fun H0 F σ H Q S q =>
  h H0 F σ H _ S fun F1 H1 v x1 r1 => by cases r1; exact ⟨rfl, x, rfl, rfl, q F1 H1 _ x1 (.int _)⟩
/-- list(range(n)) -/
def rRng1 : List V → Hp → VK → Prop := fun xs H Q => ∃ j, xs = [.int j] ∧ ∀ p, H p = none → Q (.ref p) (upd H p (.rng 0 j))
def rListRng (X : Cx) : List V → Hp → VK → Prop := fun xs H Q => X.calm = true ∧ ∃ (p : Addr) (n : Nat), xs = [.ref p] ∧ H p = some (.rng 0 (n : Int)) ∧ n ≤ 1000 ∧ ∀ l, H l = none → Q (.ref l) (upd H l (.lst (natsV n)))
theorem ca_range1 {X : Cx} : CallR X (.type "range") rRng1 := call_range1
theorem ca_listRng {X : Cx} : CallR X (.type "list") (rListRng X) := call_list_rng
theorem reps_natsV {F : Hp} (n : Nat) : Reps F (natsV n) ((List.range n).map fun (j : Nat) => PyData.int (j : Int)) := by
  unfold natsV
  generalize List.range n = l
  induction l with
  | nil => exact .nil
  | cons a l ih => exact .cons (.int _) ih
theorem eo_listRng {X : Cx} {n : Nat} (h : EvE K ta ρ (.int (n : Int))) (hc : X.calm = true) (hn : n ≤ 1000) : EvO K (tCB (rListRng X) (tCons (tCB rRng1 (tCons ta tNil)) tNil)) ρ (.ol ((List.range n).map fun (j : Nat) => PyData.int (j : Int))) := fun H0 F σ H Q S q =>
  h H0 F σ H _ S fun F1 H1 v x1 r1 => by
    cases r1
    refine ⟨_, rfl, fun p hp => ⟨hc, p, n, rfl, upd_same, hn, fun l hl => ?_⟩⟩
    obtain ⟨z1, z2, z3⟩ := own_new (K := K) (x1.trans (Ext.own (o := .rng 0 (n : Int)) x1.fh hp)) hl (reps_natsV n)
    exact q _ _ _ _ z1 z2 z3
/-- xs + ys -/
theorem eo_cat {as bs : List PyData} (ha : EvE K ta ρ (.list as)) (hb : EvE K tb ρ (.list bs)) (hl : as.length + bs.length ≤ 1000) : EvO K (tOp rCat ta tb) ρ (.ol (as ++ bs)) := fun H0 F σ H Q S q =>
  ev_two ha hb S fun F' H' x y e r1 r2 => by
    obtain ⟨a, xs, rfl, h1, h2, h3⟩ := rep_listI (K := K) r1 e.fh
    obtain ⟨b, ys, rfl, g1, g2, g3⟩ := rep_listI (K := K) r2 e.fh
    refine ⟨a, b, xs, ys, rfl, rfl, h3, g3, by rw [h2.length, g2.length]; exact Nat.le_of_lt (small1000 hl), fun p hp => ?_⟩
    obtain ⟨z1, z2, z3⟩ := own_new (K := K) e hp (h2.append g2)
    exact q _ _ _ _ z1 z2 z3
/-- what asks a list of one's own and gives a flat thing -/
theorem ev_thaw {t : TE} (i : Nat) {ds : List PyData} {d : PyData} {w : V} (e : ρ[i]? = some (some (.ol ds))) (hf : flatD d = some w) (h : EvE K t (ρ.set i (some (.fz (.list ds)))) d) : EvE K t ρ d := fun H0 F σ H Q S q => by
  obtain ⟨a, xs, e1, e2, e3, e4, e5, S'⟩ := S.freeze e
  refine h H0 _ σ H Q S' fun F' H' v x r => ?_
  have hv := r.flat hf
  refine q (fun b => if b = a then none else F' b) H' v ⟨x.hh, fun b u hb => ?_, fun b u hb => ?_, fun b hb => ?_⟩ ?_
  · have nb : b ≠ a := ne_of_none hb e1
    simp only [if_neg nb]
    exact x.ff b u (by rw [upd_ne nb]; exact hb)
  · by_cases z : b = a
    · simp [z] at hb
    · simp only [if_neg z] at hb; exact x.fh b u hb
  · by_cases z : b = a
    · simp [z] at hb
    · simp only [if_neg z] at hb
      rcases x.fr b hb with y | y
      · rw [upd_ne z] at y; exact .inl y
      · exact .inr y
  · subst hv
    cases r <;> simp [flatD] at hf
    · exact .non
    · exact .bl _
    · exact .int _
    · exact .str _
/-- in, of ints -/
theorem ev_inN {x : Int} {ns : List Int} (ha : EvE K ta ρ (.int x)) (hb : EvE K tb ρ (.list (ns.map PyData.int))) : EvE K (tOp (rIn K false) ta tb) ρ (.bool (decide (x ∈ ns))) := fun H0 F σ H Q S q =>
  ev_two ha hb S fun F' H' u y e r1 r2 => by
    obtain ⟨a, xs, rfl, h1, h2, h3⟩ := rep_listI (K := K) r2 e.fh
    cases r1
    have ex := reps_ints h2
    subst ex
    refine ⟨a, _, rfl, .inl h1, rfl, ?_, ?_⟩
    · rw [List.all_eq_true]
      intro v hv
      obtain ⟨j, _, rfl⟩ := List.mem_map.mp hv
      rfl
    · have : (if false = true then !inV (.int x) (ns.map V.int) else inV (.int x) (ns.map V.int)) = decide (x ∈ ns) := by
        rw [if_neg Bool.false_ne_true]; exact inV_ints x ns
      rw [this]
      exact q F' H' _ e (.bl _)
end
end L2
end

section
set_option linter.all false
namespace L2
open PySem PySem.Spec PyProof.Rows
theorem ea_fzs {K : PySem.W.Frag} {ρ : PEnv} {ta : TE} {t : TA} {d : PyData} {ds : List PyData} (h1 : EvE K ta ρ d) (h2 : EvA K t ρ (fzs ds)) : EvA K (tCons ta t) ρ (fzs (d :: ds)) := ea_cons h1 h2
theorem EvI.cast {K : PySem.W.Frag} {wi : TI} {ρ : PEnv} {ds ds' : List PyData} (h : EvI K wi ρ ds) (e : ds = ds') : EvI K wi ρ ds' := e ▸ h
theorem rngD_cong {a b : Int} {m n : Nat} (h : a = b) (h2 : m = n) : rngD a m = rngD b n := by rw [h, h2]
theorem rngU_cong {a b : Int} {m n : Nat} (h : a = b) (h2 : m = n) : rngU a m = rngU b n := by rw [h, h2]
theorem ev_absZ {K : PySem.W.Frag} {ρ : PEnv} {ta : TE} {x : Int} (h : EvE K ta ρ (.int x)) : EvE K (tCB rAbs (tCons ta tNil)) ρ (.int (Mir.absZ x)) := ev_abs h
theorem ev_maxI {K : PySem.W.Frag} {ρ : PEnv} {ta tb : TE} {x y : Int} (ha : EvE K ta ρ (.int x)) (hb : EvE K tb ρ (.int y)) : EvE K (tCB rMax2 (tCons ta (tCons tb tNil))) ρ (.int (max x y)) := by
  have e : max x y = if y > x then y else x := by split <;> omega
  rw [e]
  exact ev_max ha hb
theorem ev_minI {K : PySem.W.Frag} {ρ : PEnv} {ta tb : TE} {x y : Int} (ha : EvE K ta ρ (.int x)) (hb : EvE K tb ρ (.int y)) : EvE K (tCB rMin2 (tCons ta (tCons tb tNil))) ρ (.int (min x y)) := by
  have e : min x y = if y < x then y else x := by split <;> omega
  rw [e]
  exact ev_min ha hb
theorem eo_lcR {K : PySem.W.Frag} {ρ : PEnv} {f : List (Option Nat)} {wi : TI} {g : CIn → TG} {tee : CIn → TE} {lo : Int} {n : Nat} {h : Nat → PyData} (hi : EvI K wi ρ (rngD lo n)) (hl : n ≤ 1000)
    (hs : ∀ (x : Nat), x < n → ∀ c, ∃ ρ2, GTo K (g c) (.int (lo + (x : Int))) (inEnv f ρ) ρ2 ∧ EvE K (tee c) ρ2 (h x)) : EvO K (tLC f wi g (fun _ => tYes) tee) ρ (.ol ((List.range n).map h)) :=
  eo_lc (xs := List.range n) (enc := fun (i : Nat) => PyData.int (lo + (i : Int))) hi (by simpa using hl) fun x hx c => hs x (List.mem_range.mp hx) c
theorem EvE.cast {K : PySem.W.Frag} {t : TE} {ρ : PEnv} {d d' : PyData} (h : EvE K t ρ d) (e : d = d') : EvE K t ρ d' := e ▸ h
theorem EvO.cast {K : PySem.W.Frag} {t : TE} {ρ : PEnv} {d d' : OT} (h : EvO K t ρ d) (e : d = d') : EvO K t ρ d' := e ▸ h
theorem EvT.cast {K : PySem.W.Frag} {t : TT} {ρ : PEnv} {d d' : Bool} (h : EvT K t ρ d) (e : d = d') : EvT K t ρ d' := e ▸ h
/-- the law itself -/
theorem Fun.evLaw {P : Program} {w : World} {K : PySem.W.Frag} {mg : Str → Option Value} {base : Heap} {x qual p : Str} {st : Stmt} {f : Addr} {fd : FuncData} {N : List Str} {k : Nat} (F : Fun K x qual st f fd) (S : FnScope N [p] (defScope st))
    (hbody : ∀ (cdv : Value) (A : Around) (outer : List Env) (s : Shared) (H : Hp) (E : XK) (ns : List Int), Room k (A.deeper (envOfC qual (defScope st) s.heap.objs.size f cdv)) → ns.length ≤ 63 → (∀ i ∈ ns, Builtin.Int.intBits i ≤ 2 ^ 20) →
      ∃ t, PSs (cxOf CX0 P w K mg base N qual (defScope st) f cdv A outer s H E).nox (defBody st) t ∧ EvS K t (some (.scr ns) :: List.replicate (N.length - 1) none) { nx := fun _ => False, rt := fun r => r = .fz (.bool true) }) : FnOk P w K mg base CX0 (k + 1) f fd [p] (spLaw K) := by
  refine F.ok S (fun vs H Q E ⟨a, ns, e, _⟩ => by rw [e]; rfl) fun cdv A outer s H vs Q E hr ⟨a, ns, e, sc, q⟩ => ?_
  subst e
  obtain ⟨t, h1, h2⟩ := hbody cdv A outer s H E ns hr sc.len sc.bits
  refine ⟨t, h1, h2 H H H (start N [.ref a]) H _ (Ext.refl (Same.refl _)) ⟨Same.refl _, ?_, fun _ => [], fun i t' e => ?_, fun i j a h => (nomatch h), fun i a h => (nomatch h)⟩ ⟨fun F' σ' H' ρ' x' _ e => False.elim e, fun F' H' v r' p x' hp ok e => ?_, fun _ _ _ _ _ _ z => False.elim z, fun _ _ _ _ _ _ z => False.elim z⟩⟩
  · unfold start
    simp
  · cases i with
    | zero =>
      simp at e
      subst e
      exact ⟨_, rfl, rfl, a, rfl, sc⟩
    | succ i =>
      rw [List.getElem?_cons_succ] at e
      have := List.mem_of_getElem? e
      simp at this
  · subst e
    obtain ⟨_, r⟩ := ok
    cases r
    exact q H'
theorem Fgt.trans : ∀ {a b c : PEnv}, Fgt a b → Fgt b c → Fgt a c
  | [], [], [], _, _ => trivial
  | _ :: r, none :: r', none :: r2, h, h2 => by
    have h' : Fgt r r' := h
    have h2' : Fgt r' r2 := h2
    exact (show Fgt r r2 from Fgt.trans h' h2')
  | s :: r, some x :: r', none :: r2, h, h2 => by
    have h' : s = some x ∧ Fgt r r' := h
    have h2' : Fgt r' r2 := h2
    exact (show Fgt r r2 from Fgt.trans h'.2 h2')
  | _ :: r, none :: r', some z :: r2, h, h2 => by
    have h2' : none = some z ∧ Fgt r' r2 := h2
    exact absurd h2'.1 (by simp)
  | s :: r, some x :: r', some z :: r2, h, h2 => by
    have h' : s = some x ∧ Fgt r r' := h
    have h2' : some x = some z ∧ Fgt r' r2 := h2
    exact ⟨h'.1.trans h2'.1, Fgt.trans h'.2 h2'.2⟩
  | [], none :: _, _, h, _ => False.elim h
  | [], some _ :: _, _, h, _ => False.elim h
  | _ :: _, [], _, h, _ => False.elim h
  | [], [], none :: _, _, h => False.elim h
  | [], [], some _ :: _, _, h => False.elim h
  | _ :: _, none :: _, [], _, h => False.elim h
  | _ :: _, some _ :: _, [], _, h => False.elim h
theorem ea_nil0 {K : PySem.W.Frag} {ρ : PEnv} : EvA K tNil ρ (fzs []) := ea_nil
theorem cmul_l {i j : Int} (h1 : -18446744073709551616 < i) (h2 : i < 18446744073709551616) : CMul i j := .inl ⟨h1, h2⟩
theorem cmul_r {i j : Int} (h1 : -18446744073709551616 < j) (h2 : j < 18446744073709551616) : CMul i j := .inr ⟨h1, h2⟩
theorem z62 : (2 : Int) ^ 62 = 4611686018427387904 := by decide
theorem cpow30 : CPow 10 30 := ⟨by decide, by decide, by decide⟩
theorem cxOf_K {CX : CXT} {P : Program} {w : World} {K : PySem.W.Frag} {mg : Str → Option Value} {base : Heap} {N : List Str} {q : Str} {sc : Scope} {f : Addr} {cd : Value} {A : Around} {o : List Env} {s : Shared} {H : Hp} {E : XK} : (cxOf CX P w K mg base N q sc f cd A o s H E).nox.K = K := rfl
theorem compCx_K {X : Cx} {N : List Str} {sc : Scope} {c : CIn} : (compCx X N sc c).K = X.K := rfl
end L2
end

section
set_option Elab.async false
set_option linter.all false
set_option maxRecDepth 100000
namespace L2
open PySem PySem.Spec PyProof.Rows
section
variable {K : PySem.W.Frag} {ρ : PEnv} {ta tb te : TE}
/-! ### slices -/
def EvP (K : PySem.W.Frag) (t : TO) (ρ : PEnv) (o : Option Int) : Prop := ∀ (H0 F : Hp) (σ : St) (H : Hp) (Q : Option Int → Hp → Prop), Sta K H0 F ρ σ H → (∀ F' H', Ext F H F' H' → Q o H') → t σ H Q
theorem ep_none : EvP K tNoPart ρ none := fun H0 F σ H Q S q => q F H (Ext.refl S.sub)
theorem ep_some {i : Int} (h : EvE K te ρ (.int i)) : EvP K (tPart te) ρ (some i) := fun H0 F σ H Q S q => h H0 F σ H _ S fun F1 H1 v x1 r1 => by cases r1; exact ⟨i, rfl, q F1 H1 x1⟩
def cut {α : Type} (xs : List α) (lo hi : Option Int) : List α := (xs.drop (HT.sIx xs.length 0 lo)).take (HT.sIx xs.length xs.length hi - HT.sIx xs.length 0 lo)
theorem Reps.drop {F : Hp} : ∀ {xs : List V} {ds : List PyData} (n : Nat), Reps F xs ds → Reps F (xs.drop n) (ds.drop n)
  | _, _, 0, r => r
  | _, _, _ + 1, .nil => .nil
  | _, _, n + 1, .cons _ t => Reps.drop n t
theorem Reps.take {F : Hp} : ∀ {xs : List V} {ds : List PyData} (n : Nat), Reps F xs ds → Reps F (xs.take n) (ds.take n)
  | _, _, 0, _ => .nil
  | _, _, _ + 1, .nil => .nil
  | _, _, n + 1, .cons r t => .cons r (Reps.take n t)
theorem reps_cut {F : Hp} {xs : List V} {ds : List PyData} (r : Reps F xs ds) (lo hi : Option Int) : Reps F (cutV xs lo hi) (cut ds lo hi) := by
  unfold cutV cut
  rw [r.length]
  exact (r.drop _).take _
theorem eo_slL {tl th : TO} {ds : List PyData} {lo hi : Option Int} (h : EvE K te ρ (.list ds)) (h1 : EvP K tl ρ lo) (h2 : EvP K th ρ hi) : EvO K (tSl (rSlL K) te tl th) ρ (.ol (cut ds lo hi)) := fun H0 F σ H Q S q =>
  h H0 F σ H _ S fun F1 H1 v x1 r1 => h1 H0 F1 σ H1 _ (S.ext x1) fun F2 H2 x2 => h2 H0 F2 σ H2 _ (S.ext (x1.trans x2)) fun F3 H3 x3 => by
    have x := x1.trans (x2.trans x3)
    obtain ⟨a, xs, rfl, g1, g2, g3⟩ := rep_listI (K := K) (r1.mono (x2.trans x3).ff) x.fh
    refine ⟨a, xs, rfl, g1, fun p hp => ?_⟩
    obtain ⟨z1, z2, z3⟩ := own_new (K := K) x hp (reps_cut g2 lo hi)
    exact q _ _ _ _ z1 z2 z3
theorem ev_slT {tl th : TO} {ds : List PyData} {lo hi : Option Int} (h : EvE K te ρ (.tuple ds)) (h1 : EvP K tl ρ lo) (h2 : EvP K th ρ hi) (hw : ¬ (HT.sIx ds.length 0 lo = 0 ∧ HT.sIx ds.length ds.length hi = ds.length)) : EvE K (tSl (rSlT K) te tl th) ρ (.tuple (cut ds lo hi)) := fun H0 F σ H Q S q =>
  h H0 F σ H _ S fun F1 H1 v x1 r1 => h1 H0 F1 σ H1 _ (S.ext x1) fun F2 H2 x2 => h2 H0 F2 σ H2 _ (S.ext (x1.trans x2)) fun F3 H3 x3 => by
    have x := x1.trans (x2.trans x3)
    obtain ⟨a, xs, rfl, g1, g2, g3⟩ := rep_tupI (K := K) (r1.mono (x2.trans x3).ff) x.fh
    refine ⟨a, xs, rfl, g1, by rw [g2.length]; exact hw, fun p hp => ?_⟩
    exact q _ _ _ (x.trans (Ext.new x.fh hp)) (.tup upd_same ((reps_cut g2 lo hi).mono (Same.new (x.fh.free hp))))
theorem ev_catT {as bs : List PyData} (ha : EvE K ta ρ (.tuple as)) (hb : EvE K tb ρ (.tuple bs)) (hn : as ≠ []) (hl : as.length + bs.length ≤ 1000) : EvE K (tOp (rCatT K) ta tb) ρ (.tuple (as ++ bs)) := fun H0 F σ H Q S q =>
  ev_two ha hb S fun F' H' x y e r1 r2 => by
    obtain ⟨a, xs, rfl, h1, h2, h3⟩ := rep_tupI (K := K) r1 e.fh
    obtain ⟨b, ys, rfl, g1, g2, g3⟩ := rep_tupI (K := K) r2 e.fh
    refine ⟨a, b, xs, ys, rfl, rfl, h1, g1, fun z => hn ?_, by rw [h2.length, g2.length]; exact Nat.le_of_lt (small1000 hl), fun z => ?_, fun _ p hp => ?_⟩
    · have := h2.length
      rw [z] at this
      exact List.eq_nil_of_length_eq_zero this.symm
    · have := g2.length
      rw [z] at this
      have eb : bs = [] := List.eq_nil_of_length_eq_zero this.symm
      rw [eb, List.append_nil] at q
      exact q F' H' _ e r1
    · exact q _ _ _ (e.trans (Ext.new e.fh hp)) (.tup upd_same ((h2.append g2).mono (Same.new (e.fh.free hp))))
/-! ### a list of one's own, asked for a while -/
theorem et_thaw {t : TT} (i : Nat) {ds : List PyData} {b : Bool} (e : ρ[i]? = some (some (.ol ds))) (h : EvT K t (ρ.set i (some (.fz (.list ds)))) b) : EvT K t ρ b := fun H0 F σ H Q S q => by
  obtain ⟨a, xs, e1, e2, e3, e4, e5, S'⟩ := S.freeze e
  refine h H0 _ σ H Q S' fun F' H' x => ?_
  refine q (fun b => if b = a then none else F' b) H' ⟨x.hh, fun b u hb => ?_, fun b u hb => ?_, fun b hb => ?_⟩
  · have nb : b ≠ a := ne_of_none hb e1
    simp only [if_neg nb]
    exact x.ff b u (by rw [upd_ne nb]; exact hb)
  · by_cases z : b = a
    · simp [z] at hb
    · simp only [if_neg z] at hb; exact x.fh b u hb
  · by_cases z : b = a
    · simp [z] at hb
    · simp only [if_neg z] at hb
      rcases x.fr b hb with y | y
      · rw [upd_ne z] at y; exact .inl y
      · exact .inr y
theorem mulok {a b : Int} {m n : Nat} (h0 : 0 ≤ a) (h1 : a < 2 ^ m) (h2 : 0 ≤ b) (h3 : b < 2 ^ n) (h4 : m + n ≤ 100000) : IntMulOk a b := by
  have bl : ∀ {x : Int} {m : Nat}, 0 ≤ x → x < 2 ^ m → Builtin.Int.intBits x ≤ m := fun {x m} h0 h => by
    unfold Builtin.Int.intBits
    by_cases e : x = 0
    · subst e; simp
    · have e1 : (x == 0) = false := by simpa using e
      rw [e1]
      have h1 : x.natAbs ≠ 0 := by omega
      have h2 : x.natAbs < 2 ^ m := by
        have : ((x.natAbs : Nat) : Int) < ((2 ^ m : Nat) : Int) := by
          have e2 : ((2 ^ m : Nat) : Int) = (2 : Int) ^ m := by rw [Int.natCast_pow]; rfl
          rw [e2]
          omega
        exact Int.ofNat_lt.mp this
      have := (Nat.log2_lt h1).mpr h2
      simp only [Bool.false_eq_true, if_false]
      omega
  have ba := bl h0 h1
  have bb := bl h2 h3
  unfold IntMulOk
  have : Builtin.Int.intTooBig (Builtin.Int.intBits a + Builtin.Int.intBits b) = false := by
    unfold Builtin.Int.intTooBig
    have hb : (100000 : Nat) ≤ bitsLine := by decide
    exact decide_eq_false (by omega)
  rw [this]
  simp
end
end L2
end

section
set_option Elab.async false
set_option linter.all false
set_option maxRecDepth 100000
namespace L2
open PySem PySem.Spec PyProof.Rows
section
variable {K : PySem.W.Frag} {ρ : PEnv} {ta tb te : TE}
/-! ### zip, enumerate -/
def zipD (as bs : List PyData) : List PyData := (as.zip bs).map fun p => PyData.tuple [p.1, p.2]
theorem zipD_len (as bs : List PyData) : (zipD as bs).length = min as.length bs.length := by simp [zipD]
theorem zipD_get {as bs : List PyData} {i : Nat} {d : PyData} (e : (zipD as bs)[i]? = some d) : ∃ a b, as[i]? = some a ∧ bs[i]? = some b ∧ d = .tuple [a, b] := by
  unfold zipD at e
  rw [List.getElem?_map] at e
  cases z : (as.zip bs)[i]? with
  | none => rw [z] at e; cases e
  | some p =>
    rw [z] at e
    have e' := Option.some.inj e
    obtain ⟨h1, h2⟩ := List.getElem?_zip_eq_some.mp z
    exact ⟨p.1, p.2, h1, h2, e'.symm⟩
def enumD (as : List PyData) : List PyData := as.zipIdx.map fun p => PyData.tuple [.int (p.2 : Int), p.1]
theorem enumD_len (as : List PyData) : (enumD as).length = as.length := by simp [enumD]
theorem enumD_get {as : List PyData} {i : Nat} {d : PyData} (e : (enumD as)[i]? = some d) : ∃ a, as[i]? = some a ∧ d = .tuple [.int (i : Int), a] := by
  unfold enumD at e
  rw [List.getElem?_map, List.getElem?_zipIdx] at e
  cases z : as[i]? with
  | none => rw [z] at e; cases e
  | some a => rw [z] at e; simp at e; exact ⟨a, rfl, e.symm⟩
theorem rep_listF {F H : Hp} {x : V} {ds : List PyData} (r : Rep F x (.list ds)) : ∃ a xs, x = .ref a ∧ F a = some (.lst xs) ∧ Reps F xs ds := by
  cases r with
  | lst ha rr => exact ⟨_, _, rfl, ha, rr⟩
theorem ei_zip {t : TA} {as bs : List PyData} (h : EvA K t ρ [.fz (.list as), .fz (.list bs)]) : EvI K (iZip K t) ρ (zipD as bs) := fun H0 F σ H R S q =>
  h H0 F σ H _ S fun F1 H1 vs x1 r1 => by
    cases r1 with
    | fz r r1 =>
      cases r1 with
      | fz r' r1 =>
        cases r1
        obtain ⟨a, xs, rfl, ha, ra⟩ := rep_listF (H := H1) r
        obtain ⟨b, ys, rfl, hb, rb⟩ := rep_listF (H := H1) r'
        refine ⟨a, b, rfl, ⟨xs, SqL.of (x1.fh _ _ ha)⟩, ⟨ys, SqL.of (x1.fh _ _ hb)⟩, q F1 H1 _ x1 fun F2 H2 s2 s3 => ?_⟩
        have qa : SqL K H2 a xs := SqL.of (s3 _ _ (s2 _ _ ha))
        have qb : SqL K H2 b ys := SqL.of (s3 _ _ (s2 _ _ hb))
        refine ⟨⟨xs, ys, qa, qb, by rw [zipD_len, ra.length, rb.length]⟩, fun i d e => ?_⟩
        obtain ⟨d1, d2, e1, e2, rfl⟩ := zipD_get e
        obtain ⟨z1, f1, g1⟩ := ra.get e1
        obtain ⟨z2, f2, g2⟩ := rb.get e2
        refine ⟨⟨xs, ys, z1, z2, qa, qb, f1, f2⟩, fun v H3 hy => ?_⟩
        obtain ⟨p, x, y, hp, rfl, rfl, k1, k2⟩ := hy
        have ex := k1 xs qa
        rw [f1] at ex; cases ex
        have ey := k2 ys qb
        rw [f2] at ey; cases ey
        have sn : Same F2 (upd F2 p (.tup [z1, z2])) := Same.new (s3.free hp)
        exact ⟨_, Ext.new s3 hp, .tup upd_same (.cons ((g1.mono s2).mono sn) (.cons ((g2.mono s2).mono sn) .nil))⟩
theorem ei_enum {t : TA} {as : List PyData} (h : EvA K t ρ [.fz (.list as)]) : EvI K (iEnum K t) ρ (enumD as) := fun H0 F σ H R S q =>
  h H0 F σ H _ S fun F1 H1 vs x1 r1 => by
    cases r1 with
    | fz r r1 =>
      cases r1
      obtain ⟨a, xs, rfl, ha, ra⟩ := rep_listF (H := H1) r
      refine ⟨a, rfl, ⟨xs, SqL.of (x1.fh _ _ ha)⟩, q F1 H1 _ x1 fun F2 H2 s2 s3 => ?_⟩
      have qa : SqL K H2 a xs := SqL.of (s3 _ _ (s2 _ _ ha))
      refine ⟨⟨xs, qa, by rw [enumD_len, ra.length]⟩, fun i d e => ?_⟩
      obtain ⟨d1, e1, rfl⟩ := enumD_get e
      obtain ⟨z1, f1, g1⟩ := ra.get e1
      refine ⟨⟨xs, z1, qa, f1⟩, fun v H3 hy => ?_⟩
      obtain ⟨p, x, hp, rfl, rfl, k1⟩ := hy
      have ex := k1 xs qa
      rw [f1] at ex; cases ex
      have sn : Same F2 (upd F2 p (.tup [.int (i : Int), z1])) := Same.new (s3.free hp)
      exact ⟨_, Ext.new s3 hp, .tup upd_same (.cons (.int _) (.cons ((g1.mono s2).mono sn) .nil))⟩
/-! ### all, any, min of a list -/
theorem ev_all {X : Cx} {bs : List Bool} (h : EvE K ta ρ (.list (bs.map PyData.bool))) (hc : X.calm = true) : EvE K (tCB (rAll X) (tCons ta tNil)) ρ (.bool (bs.all id)) := fun H0 F σ H Q S q =>
  h H0 F σ H _ S fun F1 H1 v x1 r1 => ⟨hc, v, bs, rfl, r1.mono x1.fh, q F1 H1 _ x1 (.bl _)⟩
theorem ev_any {X : Cx} {bs : List Bool} (h : EvE K ta ρ (.list (bs.map PyData.bool))) (hc : X.calm = true) : EvE K (tCB (rAny X) (tCons ta tNil)) ρ (.bool (bs.any id)) := fun H0 F σ H Q S q =>
  h H0 F σ H _ S fun F1 H1 v x1 r1 => ⟨hc, v, bs, rfl, r1.mono x1.fh, q F1 H1 _ x1 (.bl _)⟩
theorem ev_minL {X : Cx} {ns : List Int} (h : EvE K ta ρ (.list (ns.map PyData.int))) (hc : X.calm = true) (hn : ns ≠ []) : EvE K (tCB (rMinL X) (tCons ta tNil)) ρ (.int (minL ns)) := fun H0 F σ H Q S q =>
  h H0 F σ H _ S fun F1 H1 v x1 r1 => ⟨hc, v, ns, rfl, r1.mono x1.fh, hn, q F1 H1 _ x1 (.int _)⟩
theorem ev_min3 {X : Cx} {tc : TE} {a b c : Int} (ha : EvE K ta ρ (.int a)) (hb : EvE K tb ρ (.int b)) (hc' : EvE K tc ρ (.int c)) (hc : X.calm = true) : EvE K (tCB (rMin3 X) (tCons ta (tCons tb (tCons tc tNil)))) ρ (.int (min a (min b c))) := fun H0 F σ H Q S q =>
  ha H0 F σ H _ S fun F1 H1 v x1 r1 => hb H0 F1 σ H1 _ (S.ext x1) fun F2 H2 u x2 r2 => hc' H0 F2 σ H2 _ (S.ext (x1.trans x2)) fun F3 H3 w x3 r3 => by
    cases r1; cases r2; cases r3
    exact ⟨hc, a, b, c, rfl, q F3 H3 _ (x1.trans (x2.trans x3)) (.int _)⟩
theorem ev_catG {as bs : List PyData} (ha : EvE K ta ρ (.tuple as)) (hb : EvE K tb ρ (.tuple bs)) (hl : as.length + bs.length ≤ 1000) : EvE K (tOp (rCatG K) ta tb) ρ (.tuple (as ++ bs)) := fun H0 F σ H Q S q =>
  ev_two ha hb S fun F' H' x y e r1 r2 => by
    obtain ⟨a, xs, rfl, h1, h2, h3⟩ := rep_tupI (K := K) r1 e.fh
    obtain ⟨b, ys, rfl, g1, g2, g3⟩ := rep_tupI (K := K) r2 e.fh
    refine ⟨a, b, xs, ys, rfl, rfl, h1, g1, by rw [h2.length, g2.length]; exact Nat.le_of_lt (small1000 hl), fun z => ?_, fun _ z => ?_, fun _ _ p hp => ?_⟩
    · have := h2.length
      rw [z] at this
      have ea : as = [] := List.eq_nil_of_length_eq_zero this.symm
      rw [ea, List.nil_append] at q
      exact q F' H' _ e r2
    · have := g2.length
      rw [z] at this
      have eb : bs = [] := List.eq_nil_of_length_eq_zero this.symm
      rw [eb, List.append_nil] at q
      exact q F' H' _ e r1
    · exact q _ _ _ (e.trans (Ext.new e.fh hp)) (.tup upd_same ((h2.append g2).mono (Same.new (e.fh.free hp))))
theorem ev_inNn {x : Int} {ns : List Int} (ha : EvE K ta ρ (.int x)) (hb : EvE K tb ρ (.list (ns.map PyData.int))) : EvE K (tOp (rIn K true) ta tb) ρ (.bool (!decide (x ∈ ns))) := fun H0 F σ H Q S q =>
  ev_two ha hb S fun F' H' u y e r1 r2 => by
    obtain ⟨a, xs, rfl, h1, h2, h3⟩ := rep_listI (K := K) r2 e.fh
    cases r1
    have ex := reps_ints h2
    subst ex
    refine ⟨a, _, rfl, .inl h1, rfl, ?_, ?_⟩
    · rw [List.all_eq_true]
      intro v hv
      obtain ⟨j, _, rfl⟩ := List.mem_map.mp hv
      rfl
    · rw [if_pos rfl, inV_ints]
      exact q F' H' _ e (.bl _)
/-! ### any list of one's own, frozen -/
def frzD : OT → Option PyData
  | .fz d => some d
  | .ol ds => some (.list ds)
  | .oll dss => some (.list (dss.map PyData.list))
  | .scr _ => none
  | .own _ _ => none
def frF (F H : Hp) (p : List Addr) : Hp := fun b => if b ∈ p then H b else F b
theorem frF_in {F H : Hp} {p : List Addr} {b : Addr} (h : b ∈ p) : frF F H p b = H b := by unfold frF; rw [if_pos h]
theorem frF_out {F H : Hp} {p : List Addr} {b : Addr} (h : b ∉ p) : frF F H p b = F b := by unfold frF; rw [if_neg h]
theorem frF_same {F H : Hp} {p : List Addr} (h : ∀ a ∈ p, F a = none) : Same F (frF F H p) := fun b u e => by
  rw [frF_out fun z => by rw [h b z] at e; cases e]; exact e
theorem frF_sub {F H : Hp} {p : List Addr} (s : Same F H) : Same (frF F H p) H := fun b u e => by
  by_cases z : b ∈ p
  · rw [frF_in z] at e; exact e
  · rw [frF_out z] at e; exact s b u e
theorem own_reps {F F' H : Hp} (sm : Same F F') : ∀ {as : List Addr} {dss : List (List PyData)}, OwnAll F H as dss → (∀ a ∈ as, F' a = H a) → Reps F' (as.map V.ref) (dss.map PyData.list)
  | [], [], _, _ => .nil
  | a :: as, ds :: dss, h, he => by
    obtain ⟨⟨h1, xs, h2, h3⟩, h4⟩ := h
    exact .cons (.lst (by rw [he a List.mem_cons_self]; exact h2) (h3.mono sm)) (own_reps sm h4 fun b hb => he b (List.mem_cons_of_mem _ hb))
  | [], _ :: _, h, _ => False.elim h
  | _ :: _, [], h, _ => False.elim h
theorem SlotOk.frz {F H : Hp} {v : V} {t : OT} {p : List Addr} {d : PyData} (ok : SlotOk K F H v t p) (e : frzD t = some d) : Rep (frF F H p) v d := by
  have sm : Same F (frF F H p) := frF_same fun a ha => (ok.there a ha).1
  cases t with
  | fz d' => cases e; exact ok.2.mono sm
  | ol ds =>
    cases e
    obtain ⟨a, rfl, rfl, h1, xs, h2, h3⟩ := ok
    exact .lst (by rw [frF_in List.mem_cons_self]; exact h2) (h3.mono sm)
  | oll dss =>
    cases e
    obtain ⟨a, as, rfl, rfl, hn, h1, h2, h3⟩ := ok
    exact .lst (by rw [frF_in List.mem_cons_self]; exact h2) (own_reps sm h3 fun b hb => frF_in (List.mem_cons_of_mem _ hb))
  | scr ns => cases e
  | own v0 Φ => cases e
theorem OwnAll.frOther {F H : Hp} {p : List Addr} (sm : Same F (frF F H p)) : ∀ {as : List Addr} {dss : List (List PyData)}, (∀ a ∈ as, a ∉ p) → OwnAll F H as dss → OwnAll (frF F H p) H as dss
  | [], [], _, _ => trivial
  | a :: as, ds :: dss, hn, h => by
    obtain ⟨⟨h1, xs, h2, h3⟩, h4⟩ := h
    exact ⟨⟨by rw [frF_out (hn a List.mem_cons_self)]; exact h1, xs, h2, h3.mono sm⟩, OwnAll.frOther sm (fun b hb => hn b (List.mem_cons_of_mem _ hb)) h4⟩
  | [], _ :: _, _, h => False.elim h
  | _ :: _, [], _, h => False.elim h
theorem SlotOk.frOther {F H : Hp} {v : V} {t : OT} {p q : List Addr} (sm : Same F (frF F H p)) (ok : SlotOk K F H v t q) (hn : ∀ a ∈ q, a ∉ p) : SlotOk K (frF F H p) H v t q := by
  cases t with
  | fz d => exact ⟨ok.1, ok.2.mono sm⟩
  | ol ds =>
    obtain ⟨a, rfl, rfl, h1, xs, h2, h3⟩ := ok
    exact ⟨a, rfl, rfl, by rw [frF_out (hn a List.mem_cons_self)]; exact h1, xs, h2, h3.mono sm⟩
  | oll dss =>
    obtain ⟨a, as, rfl, rfl, hd, h1, h2, h3⟩ := ok
    exact ⟨a, as, rfl, rfl, hd, by rw [frF_out (hn a List.mem_cons_self)]; exact h1, h2, h3.frOther sm fun b hb => hn b (List.mem_cons_of_mem _ hb)⟩
  | scr ns => obtain ⟨h1, a, h2, h3⟩ := ok; exact ⟨h1, a, h2, h3.mono sm⟩
  | own v0 Φ => exact ⟨ok.1, Φ.mono sm (fun a ha => by rw [frF_out (hn a ha)]; exact (Φ.there ok.2 a ha).1) (fun _ _ => rfl) ok.2⟩
theorem Sta.freezeG {H0 F H : Hp} {σ : St} {i : Nat} {t : OT} {d : PyData} (s : Sta K H0 F ρ σ H) (e : ρ[i]? = some (some t)) (ed : frzD t = some d) :
    ∃ p, (∀ a ∈ p, F a = none ∧ H a ≠ none ∧ H0 a = none) ∧ Sta K H0 (frF F H p) (ρ.set i (some (.fz d))) σ H := by
  obtain ⟨h1, h2, fp, h3, h4, h5⟩ := s
  obtain ⟨v, e1, ok⟩ := h3 i _ e
  have hlt := (List.getElem?_eq_some_iff.mp e).1
  have sm : Same F (frF F H (fp i)) := frF_same fun a ha => (ok.there a ha).1
  refine ⟨fp i, fun a ha => ⟨(ok.there a ha).1, (ok.there a ha).2, (h5 i a ha).1⟩, frF_sub h1, by simp [h2], fun j => if j = i then [] else fp j, fun j t' e' => ?_, fun j k b hb hc => ?_, fun j b hb => ?_⟩
  · by_cases hj : j = i
    · subst hj
      rw [List.getElem?_set_self hlt] at e'
      cases e'
      refine ⟨_, e1, ?_, ok.frz ed⟩
      dsimp only
      rw [if_pos rfl]
    · rw [List.getElem?_set_ne (Ne.symm hj)] at e'
      obtain ⟨u, f1, f2⟩ := h3 j t' e'
      refine ⟨u, f1, ?_⟩
      dsimp only
      rw [if_neg hj]
      exact f2.frOther sm fun a ha z => hj (h4 j i a ha z)
  · by_cases hj : j = i
    · simp [hj] at hb
    · by_cases hk : k = i
      · simp [hk] at hc
      · simp only [if_neg hj] at hb
        simp only [if_neg hk] at hc
        exact h4 j k b hb hc
  · by_cases hj : j = i
    · simp [hj] at hb
    · simp only [if_neg hj] at hb
      exact h5 j b hb
theorem es_fzG {t : TS} {D : PEnds} (i : Nat) {r : OT} {d : PyData} (e : ρ[i]? = some (some r)) (ed : frzD r = some d) (h : EvS K t (ρ.set i (some (.fz d))) D) : EvS K t ρ D := fun F0 H0 F σ H E x S C => by
  obtain ⟨p, hp, S'⟩ := S.freezeG e ed
  refine h F0 H0 _ σ H E ⟨x.hh, x.ff.trans (frF_same fun a ha => (hp a ha).1), S'.sub, fun a ha => ?_⟩ S' C
  by_cases z : a ∈ p
  · exact .inr (hp a z).2.2
  · rw [frF_out z] at ha; exact x.fr a ha
theorem thaw_ext {F H F' H' : Hp} {p : List Addr} (hp : ∀ a ∈ p, F a = none ∧ H a ≠ none) (x : Ext (frF F H p) H F' H') : Ext F H (fun b => if b ∈ p then none else F' b) H' :=
  ⟨x.hh, fun b u hb => by
    have nb : b ∉ p := fun z => by rw [(hp b z).1] at hb; cases hb
    simp only [if_neg nb]
    exact x.ff b u (by rw [frF_out nb]; exact hb), fun b u hb => by
    by_cases z : b ∈ p
    · simp [z] at hb
    · simp only [if_neg z] at hb; exact x.fh b u hb, fun b hb => by
    by_cases z : b ∈ p
    · simp [z] at hb
    · simp only [if_neg z] at hb
      rcases x.fr b hb with y | y
      · rw [frF_out z] at y; exact .inl y
      · exact .inr y⟩
theorem ev_thawG {t : TE} (i : Nat) {r : OT} {d0 d : PyData} {w : V} (e : ρ[i]? = some (some r)) (ed : frzD r = some d0) (hf : flatD d = some w) (h : EvE K t (ρ.set i (some (.fz d0))) d) : EvE K t ρ d := fun H0 F σ H Q S q => by
  obtain ⟨p, hp, S'⟩ := S.freezeG e ed
  refine h H0 _ σ H Q S' fun F' H' v x rr => ?_
  have hv := rr.flat hf
  refine q _ H' v (thaw_ext (fun a ha => ⟨(hp a ha).1, (hp a ha).2.1⟩) x) ?_
  subst hv
  cases rr <;> simp [flatD] at hf
  · exact .non
  · exact .bl _
  · exact .int _
  · exact .str _
theorem et_thawG {t : TT} (i : Nat) {r : OT} {d0 : PyData} {b : Bool} (e : ρ[i]? = some (some r)) (ed : frzD r = some d0) (h : EvT K t (ρ.set i (some (.fz d0))) b) : EvT K t ρ b := fun H0 F σ H Q S q => by
  obtain ⟨p, hp, S'⟩ := S.freezeG e ed
  exact h H0 _ σ H Q S' fun F' H' x => q _ H' (thaw_ext (fun a ha => ⟨(hp a ha).1, (hp a ha).2.1⟩) x)
/-- a list told at once out of a list of one's own: ints, bools -/
def flatsD (ds : List PyData) : Prop := ∀ d ∈ ds, ∃ w, flatD d = some w
theorem Reps.flats {F F' : Hp} : ∀ {xs : List V} {ds : List PyData}, flatsD ds → Reps F xs ds → Reps F' xs ds
  | _, _, _, .nil => .nil
  | _ :: _, d :: _, h, .cons r t => by
    obtain ⟨w, e⟩ := h d List.mem_cons_self
    refine .cons ?_ (Reps.flats (fun c hc => h c (List.mem_cons_of_mem _ hc)) t)
    cases r <;> simp [flatD] at e
    · exact .non
    · exact .bl _
    · exact .int _
    · exact .str _
theorem eo_thawG {t : TE} (i : Nat) {r : OT} {d0 : PyData} {ds : List PyData} (e : ρ[i]? = some (some r)) (ed : frzD r = some d0) (hf : flatsD ds) (h : EvO K t (ρ.set i (some (.fz d0))) (.ol ds)) : EvO K t ρ (.ol ds) := fun H0 F σ H Q S q => by
  obtain ⟨p, hp, S'⟩ := S.freezeG e ed
  refine h H0 _ σ H Q S' fun F' H' v pp x hpp ok => ?_
  obtain ⟨a, rfl, rfl, h1, xs, h2, h3⟩ := ok
  refine q _ H' _ [a] (thaw_ext (fun a ha => ⟨(hp a ha).1, (hp a ha).2.1⟩) x) hpp ⟨a, rfl, rfl, ?_, xs, h2, h3.flats hf⟩
  dsimp only
  by_cases z : a ∈ p
  · rw [if_pos z]
  · rw [if_neg z]; exact h1
end
end L2
end

section
set_option Elab.async false
set_option linter.all false
set_option maxRecDepth 100000
namespace L2
open PySem PySem.Spec PyProof.Rows
section
variable {K : PySem.W.Frag} {ρ : PEnv} {ta tb tc te ti tj : TE} {D : PEnds}
/-! ### lists of lists of one's own -/
theorem Sta.toOO {H0 F H : Hp} {σ : St} {i : Nat} (s : Sta K H0 F ρ σ H) (e : ρ[i]? = some (some (.ol []))) : Sta K H0 F (ρ.set i (some (.oll []))) σ H := by
  obtain ⟨h1, h2, fp, h3, h4, h5⟩ := s
  have hlt := (List.getElem?_eq_some_iff.mp e).1
  refine ⟨h1, by simp [h2], fp, fun j t' e' => ?_, h4, h5⟩
  by_cases hj : j = i
  · subst hj
    rw [List.getElem?_set_self hlt] at e'
    cases e'
    obtain ⟨v, e1, a, rfl, e2, e3, xs, e4, e5⟩ := h3 j _ e
    cases e5
    exact ⟨_, e1, a, [], rfl, e2, by simp, e3, e4, trivial⟩
  · rw [List.getElem?_set_ne (Ne.symm hj)] at e'
    exact h3 j t' e'
theorem es_toOO {t : TS} (i : Nat) (e : ρ[i]? = some (some (.ol []))) (h : EvS K t (ρ.set i (some (.oll []))) D) : EvS K t ρ D := fun F0 H0 F σ H E x S C => h F0 H0 F σ H E x (S.toOO e) C
theorem OwnAll.snoc {F H : Hp} {b : Addr} {ds : List PyData} : ∀ {as : List Addr} {dss : List (List PyData)}, OwnAll F H as dss → OwnL F H b ds → OwnAll F H (as ++ [b]) (dss ++ [ds])
  | [], [], _, h => ⟨h, trivial⟩
  | _ :: _, _ :: _, h, h2 => ⟨h.1, OwnAll.snoc h.2 h2⟩
  | [], _ :: _, h, _ => False.elim h
  | _ :: _, [], h, _ => False.elim h
theorem OwnAll.length {F H : Hp} : ∀ {as : List Addr} {dss : List (List PyData)}, OwnAll F H as dss → as.length = dss.length
  | [], [], _ => rfl
  | _ :: _, _ :: _, h => by simp [OwnAll.length h.2]
  | [], _ :: _, h => False.elim h
  | _ :: _, [], h => False.elim h
theorem OwnAll.get {F H : Hp} : ∀ {as : List Addr} {dss : List (List PyData)} {k : Nat} {ds : List PyData}, OwnAll F H as dss → dss[k]? = some ds → ∃ c, as[k]? = some c ∧ OwnL F H c ds
  | [], [], _, _, _, e => by simp at e
  | a :: _, _ :: _, 0, ds, h, e => by simp at e; subst e; exact ⟨a, rfl, h.1⟩
  | _ :: as, _ :: dss, k + 1, ds, h, e => by
    obtain ⟨c, h1, h2⟩ := OwnAll.get (k := k) (ds := ds) h.2 (by simpa using e)
    exact ⟨c, by simpa using h1, h2⟩
  | [], _ :: _, _, _, h, _ => False.elim h
  | _ :: _, [], _, _, h, _ => False.elim h
theorem OwnAll.set {F H : Hp} {c : Addr} {xs : List V} {ds : List PyData} (r : Reps F xs ds) (hf : F c = none) : ∀ {as : List Addr} {dss : List (List PyData)} {k : Nat}, OwnAll F H as dss → as.Nodup → as[k]? = some c → OwnAll F (upd H c (.lst xs)) as (dss.set k ds)
  | [], [], _, _, _, e => by simp at e
  | a :: as, d :: dss, 0, h, hn, e => by
    simp at e
    subst e
    exact ⟨⟨hf, xs, upd_same, r⟩, h.2.other (List.nodup_cons.mp hn).1⟩
  | a :: as, d :: dss, k + 1, h, hn, e => by
    have e' : as[k]? = some c := by simpa using e
    have hm := List.mem_of_getElem? e'
    exact ⟨h.1.other (fun z => (List.nodup_cons.mp hn).1 (by rw [z]; exact hm)), OwnAll.set r hf h.2 (List.nodup_cons.mp hn).2 e'⟩
  | [], _ :: _, _, h, _, _ => False.elim h
  | _ :: _, [], _, h, _, _ => False.elim h
/-- acc.append(row), row a list of one's own: it goes over to acc -/
theorem es_move {i j : Nat} {dss : List (List PyData)} {ds : List PyData} (hij : i ≠ j) (e : ρ[i]? = some (some (.oll dss))) (e' : ρ[j]? = some (some (.ol ds))) (hl : dss.length < 1000) (hn : D.nx ((ρ.set i (some (.oll (dss ++ [ds])))).set j none)) :
    EvS K (tDrop (tBM K "list" rAppend (tVar i) (tCons (tVar j) tNil))) ρ D := fun F0 H0 F σ H E x S C => by
  obtain ⟨h1, h2, fp, h3, h4, h5⟩ := S
  obtain ⟨v, e1, a, as, rfl, p1, nd, fa, ha, oa⟩ := h3 i _ e
  obtain ⟨v', e2, b, rfl, p2, ob⟩ := h3 j _ e'
  have hb : b ∈ fp j := by rw [p2]; exact List.mem_cons_self
  have ham : a ∈ fp i := by rw [p1]; exact List.mem_cons_self
  have nba : b ∉ a :: as := fun z => hij (h4 i j b (by rw [p1]; exact z) hb)
  have nab : b ≠ a := fun z => nba (by rw [z]; exact List.mem_cons_self)
  refine ⟨_, e1, .inl ⟨rfl, _, SqL.of ha⟩, _, e2, a, as.map V.ref, .ref b, rfl, rfl, ha, by rw [List.length_map, oa.length]; exact small1000 (by omega), ?_⟩
  have hlt := (List.getElem?_eq_some_iff.mp e).1
  have hlt' := (List.getElem?_eq_some_iff.mp e').1
  refine C.nx F σ _ _ (x.wr (h5 i a ham).1 fa) ⟨h1.upd fa, by simp [h2], fun k => if k = i then a :: (as ++ [b]) else if k = j then [] else fp k, fun k t ek => ?_, fun k l c hk hl' => ?_, fun k c hk => ?_⟩ hn
  · by_cases hkj : k = j
    · subst hkj
      rw [List.getElem?_set_self (by simpa using hlt')] at ek
      cases ek
    · rw [List.getElem?_set_ne (Ne.symm hkj)] at ek
      by_cases hki : k = i
      · subst hki
        rw [List.getElem?_set_self hlt] at ek
        cases ek
        dsimp only
        rw [if_pos rfl]
        refine ⟨_, e1, a, as ++ [b], rfl, rfl, ?_, fa, ?_, (oa.other (List.nodup_cons.mp nd).1).snoc (ob.other nab)⟩
        · have hnd : (as ++ [b]).Nodup := by
            rw [List.nodup_append]
            refine ⟨(List.nodup_cons.mp nd).2, by simp, fun c hc d hd => ?_⟩
            have : d = b := by simpa using hd
            subst this
            exact fun z => nba (by rw [← z]; exact List.mem_cons_of_mem _ hc)
          refine List.nodup_cons.mpr ⟨fun z => ?_, hnd⟩
          rcases List.mem_append.mp z with z | z
          · exact (List.nodup_cons.mp nd).1 z
          · have : a = b := by simpa using z
            exact nab this.symm
        · rw [upd_same]; simp
      · rw [List.getElem?_set_ne (Ne.symm hki)] at ek
        obtain ⟨u, f1, f2⟩ := h3 k t ek
        refine ⟨u, f1, ?_⟩
        dsimp only
        rw [if_neg hki, if_neg hkj]
        exact f2.other fun z => hki (h4 k i a z ham)
  · have key : ∀ k, c ∈ (if k = i then a :: (as ++ [b]) else if k = j then [] else fp k) → (k = i ∧ (c ∈ fp i ∨ c ∈ fp j)) ∨ (k ≠ i ∧ k ≠ j ∧ c ∈ fp k) := fun k hk => by
      by_cases hki : k = i
      · rw [if_pos hki] at hk
        refine .inl ⟨hki, ?_⟩
        rcases List.mem_cons.mp hk with rfl | hk
        · exact .inl ham
        · rcases List.mem_append.mp hk with hk | hk
          · exact .inl (by rw [p1]; exact List.mem_cons_of_mem _ hk)
          · have : c = b := by simpa using hk
            subst this
            exact .inr hb
      · rw [if_neg hki] at hk
        by_cases hkj : k = j
        · rw [if_pos hkj] at hk; cases hk
        · rw [if_neg hkj] at hk; exact .inr ⟨hki, hkj, hk⟩
    rcases key k hk with ⟨r1, r2⟩ | ⟨r1, r2, r3⟩
    · rcases key l hl' with ⟨s1, s2⟩ | ⟨s1, s2, s3⟩
      · rw [r1, s1]
      · rcases r2 with r2 | r2
        · exact absurd (h4 l i c s3 r2) s1
        · exact absurd (h4 l j c s3 r2) s2
    · rcases key l hl' with ⟨s1, s2⟩ | ⟨s1, s2, s3⟩
      · rcases s2 with s2 | s2
        · exact absurd (h4 k i c r3 s2) r1
        · exact absurd (h4 k j c r3 s2) r2
      · exact h4 k l c r3 s3
  · have hc : ∃ q, c ∈ fp q := by
      by_cases hki : k = i
      · simp only [if_pos hki] at hk
        rcases List.mem_cons.mp hk with rfl | hk
        · exact ⟨i, ham⟩
        · rcases List.mem_append.mp hk with hk | hk
          · exact ⟨i, by rw [p1]; exact List.mem_cons_of_mem _ hk⟩
          · have : c = b := by simpa using hk
            subst this
            exact ⟨j, hb⟩
      · simp only [if_neg hki] at hk
        by_cases hkj : k = j
        · simp [hkj] at hk
        · simp only [if_neg hkj] at hk
          exact ⟨k, hk⟩
    obtain ⟨q, hq⟩ := hc
    obtain ⟨f1, f2⟩ := h5 q c hq
    refine ⟨f1, ?_⟩
    by_cases z : c = a
    · subst z; rw [upd_same]; exact fun q => nomatch q
    · rw [upd_ne z]; exact f2
/-- x[k][j] = e, x a list of lists of one's own -/
theorem es_storeOO {i : Nat} {dss : List (List PyData)} {ds : List PyData} {d : PyData} {k m : Int} {k' m' : Nat} (e : ρ[i]? = some (some (.oll dss))) (h : EvE K te ρ d) (hk : EvE K ti ρ (.int k)) (hm : EvE K tj ρ (.int m)) (e1 : ixN dss.length k = some k') (e2 : dss[k']? = some ds) (e3 : ixN ds.length m = some m')
    (hn : D.nx (ρ.set i (some (.oll (dss.set k' (ds.set m' d)))))) : EvS K (tAsg te (gSub (tOp (rIx K) (tVar i) ti) tj rSetL)) ρ D := fun F0 H0 F σ H E x S C =>
  h H0 F σ H _ S fun F1 H1 v x1 r1 => by
    have S1 := S.ext x1
    obtain ⟨fp1, g1, g2, g3⟩ := S1.fp
    obtain ⟨v1, q1, a, as, rfl, p1, nd1, fa1, ha1, oa1⟩ := g1 i _ e
    refine ⟨_, q1, hk H0 F1 σ H1 _ S1 fun F2 H2 y x2 r2 => ?_⟩
    cases r2
    obtain ⟨c, hc, oc⟩ := (oa1.ext x2).get e2
    have ea : atI (as.map V.ref) k = some (.ref c) := by
      unfold atI
      rw [List.length_map, oa1.length, e1]
      show (as.map V.ref)[k']? = _
      rw [List.getElem?_map, hc]
      rfl
    refine .inl ⟨a, as.map V.ref, k, .ref c, rfl, rfl, SqL.of (x2.hh _ _ ha1), ea, hm H0 F2 σ H2 _ (S1.ext x2) fun F3 H3 z x3 r3 => ?_⟩
    cases r3
    have x23 := x2.trans x3
    obtain ⟨oc1, xs, oc2, oc3⟩ := oc.ext x3
    refine ⟨c, xs, m, m', rfl, rfl, oc2, by rw [oc3.length]; exact e3, ?_⟩
    have S3 := S1.ext x23
    have X3 := x.trans (x1.trans x23)
    have hcm : c ∈ fp1 i := by rw [p1]; exact List.mem_cons_of_mem _ (List.mem_of_getElem? hc)
    have nca : c ≠ a := fun z => (List.nodup_cons.mp nd1).1 (by rw [← z]; exact List.mem_of_getElem? hc)
    have hlt := (List.getElem?_eq_some_iff.mp e).1
    have rr := (oc3.set (r1.mono x23.ff) m')
    refine C.nx F3 σ _ _ (X3.wr (g3 i c hcm).1 oc1) ⟨S3.sub.upd oc1, by simp [S3.len], fp1, fun j t ej => ?_, g2, fun j b hb => ?_⟩ hn
    · by_cases hj : j = i
      · subst hj
        rw [List.getElem?_set_self hlt] at ej
        cases ej
        have ok3 := (g1 j _ e)
        refine ⟨_, q1, a, as, rfl, p1, nd1, x23.free fa1 (some_ne ha1), by rw [upd_ne nca.symm]; exact x23.hh _ _ ha1, (oa1.ext x23).set rr oc1 (List.nodup_cons.mp nd1).2 hc⟩
      · rw [List.getElem?_set_ne (Ne.symm hj)] at ej
        obtain ⟨u, f1, f2⟩ := g1 j t ej
        exact ⟨u, f1, (f2.ext x23).other fun z => hj (g2 j i c z hcm)⟩
    · obtain ⟨f1, f2⟩ := g3 j b hb
      refine ⟨f1, ?_⟩
      by_cases z : b = c
      · subst z; rw [upd_same]; exact fun q => nomatch q
      · rw [upd_ne z]
        obtain ⟨o, ho⟩ := ne_some f2
        exact some_ne (x23.hh _ _ ho)
/-- [a list of one's own for x in xs] -/
theorem eo_lcO {α : Type} {f : List (Option Nat)} {wi : TI} {g : CIn → TG} {tee : CIn → TE} {xs : List α} {enc : α → PyData} {h : α → List PyData} (hi : EvI K wi ρ (xs.map enc)) (hl : xs.length ≤ 1000)
    (hs : ∀ x ∈ xs, ∀ c, ∃ ρ2, GTo K (g c) (enc x) (inEnv f ρ) ρ2 ∧ EvO K (tee c) ρ2 (.ol (h x))) : EvO K (tLC f wi g (fun _ => tYes) tee) ρ (.oll (xs.map h)) := fun H0 F σ H Q S q =>
  hi H0 F σ H _ S fun F1 H1 J x1 W c => by
    have hn : xs.length ≤ sizeLine := Nat.le_of_lt (small1000 hl)
    refine ⟨fun i m ys H => m = xs.length - i ∧ i ≤ xs.length ∧ ∃ F' as, Ext F1 H1 F' H ∧ ys = as.map V.ref ∧ as.Nodup ∧ (∀ a ∈ as, H1 a = none) ∧ OwnAll F' H as ((xs.take i).map h), ⟨xs.length, by simp, Nat.zero_le _, F1, [], Ext.refl x1.fh, rfl, by simp, fun a ha => (nomatch ha), trivial⟩, ?_⟩
    rintro i m ys H' ⟨rfl, hle, F', as, x', rfl, nd, hfr, oa⟩
    obtain ⟨w1, w2⟩ := W F' H' x'.ff x'.fh
    by_cases hlt : i < xs.length
    · have e : (xs.map enc)[i]? = some (enc xs[i]) := by simp [hlt]
      obtain ⟨go, yl⟩ := w2 i _ e
      refine .inr ⟨go, fun v H3 y => ?_⟩
      obtain ⟨F3, x3, r3⟩ := yl v H3 y
      obtain ⟨ρ2, k1, k2⟩ := hs xs[i] (List.getElem_mem hlt) c
      have S3 := (S.ext (x1.trans (x'.trans x3))).inner f
      have tk : xs.take (i + 1) = xs.take i ++ [xs[i]] := by rw [List.take_succ]; simp [hlt]
      have ol := oa.length
      refine k1 H0 F3 _ H3 v _ S3 r3 fun σ2 S4 => ?_
      dsimp only [tYes]
      rw [if_pos rfl]
      refine k2 H0 F3 σ2 H3 _ S4 fun F5 H5 z p x5 hp ok => ⟨?_, xs.length - (i + 1), by omega, rfl, hlt, F5, as ++ [?_], x'.trans (x3.trans x5), ?_, ?_, ?_, ?_⟩
      · rw [List.length_map, ol, List.length_map, List.length_take]; omega
      · exact (match z with | .ref b => b | _ => 0)
      all_goals obtain ⟨b, rfl, rfl, o1⟩ := ok
      · simp
      · rw [List.nodup_append]
        refine ⟨nd, by simp, fun c' hc' d hd => ?_⟩
        have hd' : d = b := by simpa using hd
        subst hd'
        intro z
        subst z
        have hb : H3 c' = none := hp c' List.mem_cons_self
        have := (oa.mem c' hc').2
        obtain ⟨o, ho⟩ := ne_some this
        rw [x3.hh _ _ ho] at hb
        cases hb
      · intro c' hc'
        rcases List.mem_append.mp hc' with hc' | hc'
        · exact hfr c' hc'
        · have : c' = b := by simpa using hc'
          subst this
          exact (x'.trans x3).hh.free (hp c' List.mem_cons_self)
      · rw [tk, List.map_append]
        exact (oa.ext (x3.trans x5)).snoc o1
    · have e : i = xs.length := by omega
      subst e
      refine .inl ⟨by simpa using w1, fun a ha => ?_⟩
      rw [List.take_length] at oa
      have na : a ∉ as := fun z => (oa.mem a z).2 ha
      refine q F' _ _ (a :: as) ((x1.trans x').trans (Ext.own x'.fh ha)) (fun b hb => ?_) ⟨a, as, rfl, rfl, List.nodup_cons.mpr ⟨na, nd⟩, x'.fh.free ha, upd_same, oa.other na⟩
      rcases List.mem_cons.mp hb with rfl | hb
      · exact (x1.trans x').hh.free ha
      · exact x1.hh.free (hfr b hb)
/-- xs * n -/
theorem eo_rep {ds : List PyData} {k : Int} (ha : EvE K ta ρ (.list ds)) (hb : EvE K tb ρ (.int k)) (h0 : 0 ≤ k) (hl : ds.length * k.toNat ≤ 1000) (hk : k ≤ 1000000) : EvO K (tOp rRep ta tb) ρ (.ol (List.replicate k.toNat ds).flatten) := fun H0 F σ H Q S q =>
  ev_two ha hb S fun F' H' x y e r1 r2 => by
    obtain ⟨a, xs, rfl, h1, h2, h3⟩ := rep_listI (K := K) r1 e.fh
    cases r2
    have h63 : (2 : Int) ^ 63 = 9223372036854775808 := by decide
    refine ⟨a, k, xs, rfl, rfl, h3, by rw [h63]; omega, by rw [h63]; omega, by rw [h2.length]; exact Nat.le_of_lt (small1000 hl), fun p hp => ?_⟩
    have rr : ∀ n : Nat, Reps F' (List.replicate n xs).flatten (List.replicate n ds).flatten := fun n => by
      induction n with
      | zero => exact .nil
      | succ n ih => rw [List.replicate_succ, List.replicate_succ, List.flatten_cons, List.flatten_cons]; exact h2.append ih
    obtain ⟨z1, z2, z3⟩ := own_new (K := K) e hp (rr k.toNat)
    exact q _ _ _ _ z1 z2 z3
theorem rep_one {α : Type} (d : α) : ∀ n : Nat, (List.replicate n [d]).flatten = List.replicate n d
  | 0 => rfl
  | n + 1 => by rw [List.replicate_succ, List.flatten_cons, rep_one d n]; rfl
end
end L2
end

section
set_option Elab.async false
set_option linter.all false
set_option maxRecDepth 100000
namespace L2
open PySem PySem.Spec PyProof.Rows
/-! ### texts -/
theorem bt_str : bootBuiltins "str" = some (.type "str") := by decide +kernel
def rStrOf : List V → Hp → VK → Prop := fun xs H Q => (∃ i : Int, xs = [.int i] ∧ i.natAbs.log2 < 1920 ∧ Q (.str (toString i)) H) ∨ (∃ x, xs = [.str x] ∧ Q (.str x) H) ∨ (xs = [.non] ∧ Q (.str "None") H)
theorem ca_str {X : Cx} : CallR X (.type "str") rStrOf := by
  intro pins s σ H xs us Q I r h
  rcases h with ⟨i, rfl, hz, q⟩ | ⟨x, rfl, q⟩ | ⟨rfl, q⟩
  · obtain ⟨u, rfl, t, rfl⟩ := vals1 r
    exact PySem.P.str_of_int hz ⟨.str _, H, I.tok _, ⟨_, rfl⟩, q⟩
  · obtain ⟨u, rfl, t, rfl⟩ := vals1 r
    exact PySem.P.str_of_str ⟨.str _, H, I, ⟨_, rfl⟩, q⟩
  · obtain ⟨u, rfl, r1⟩ := vals1 r
    cases r1
    exact PySem.P.str_of_none ⟨.str _, H, I.tok _, ⟨_, rfl⟩, q⟩
def rAddS : R2 := fun x y H Q => ∃ i j, x = .str i ∧ y = .str j ∧ i.length + j.length ≤ sizeLine ∧ Q (.str (i ++ j)) H
theorem op_addS {X : Cx} : OpR X (binaryOp .Add) rAddS := op_add_str
def rJoin : V → List V → Hp → VK → Prop := fun x vs H Q => ∃ (z : Str) (b : Addr) (ys : List Str), x = .str z ∧ vs = [.ref b] ∧ H b = some (.lst (ys.map V.str)) ∧ (ys.map (·.length)).sum + ys.length * z.length ≤ 16777216 ∧ Q (.str (Str.join z ys)) H
theorem vals_strs : ∀ {ys : List Str} {us : List Value}, Vals (ys.map V.str) us → StrsAre us ys
  | [], _, .nil => .nil
  | _ :: _, _, .cons ⟨_, e⟩ r => by subst e; exact .cons _ _ (vals_strs r)
theorem mt_join {X : Cx} : MtR X "str.join" rJoin := by
  intro pins s σ H x xs v us Q I rx rv h
  obtain ⟨z, b, ys, rfl, rfl, hb, hs, q⟩ := h
  obtain ⟨t, rfl⟩ := rx
  obtain ⟨u, rfl, ru⟩ := rv.one
  cases ru
  obtain ⟨its, rv2, p, hz⟩ := I.list (SqL.of hb)
  refine join_list p.isList (vals_strs rv2) hs fun t' k => ?_
  rw [show Txt.join z ys = Str.join z ys from StrLaws.glued_eq_join z ys]
  exact ⟨.str _, H, I.tok _, ⟨_, rfl⟩, q⟩
/-- a list or a tuple, walked -/
def iSeq (K : PySem.W.Frag) (tl : TE) : TI := fun σ H R => tl σ H fun x H1 => (∃ a, x = .ref a ∧ (∃ xs, SqL K H1 a xs) ∧ R (Itl K a) H1) ∨ ∃ a, x = .ref a ∧ (∃ xs, SqT K H1 a xs) ∧ R (Itt K a) H1
theorem pi_seq {X : Cx} {tg : Expr} {l : Expr} {tl : TE} (hl : PE X l tl) : PI X tg l (iSeq X.K tl) := by
  intro pins s σ H R I h
  refine thn (hl pins s σ H _ I h) fun v s1 ⟨x, H1, I1, r1, q1⟩ => ?_
  rcases q1 with ⟨a, e, ⟨xs, hq⟩, q⟩ | ⟨a, e, ⟨xs, hq⟩, q⟩
  · subst e
    cases r1
    obtain ⟨its, rv, p, hz⟩ := I1.list hq
    refine wpAny_pyIter_list p.isList ?_
    refine ⟨s1.heap.objs.size, [s1.heap.objs.size], _, _, H1, rfl, I1.kept (t' := s1.toks) fun b o e => Heap.get?_push_of_some _ e, turn_list a _, ⟨_, Heap.get?_push_size _ rfl, rfl, rfl⟩, fun b hb => ?_, q⟩
    have e : b = s1.heap.objs.size := by simpa using hb
    subst e
    exact I1.fpOk (Nat.le_refl _) (I1.hok.fresh (Nat.le_refl _))
  · subst e
    cases r1
    obtain ⟨its, rv, p, hz⟩ := I1.tuple hq
    refine wpAny_pyIter_tuple (show s1.heap.IsTuple a its.toArray from p) ?_
    refine ⟨s1.heap.objs.size, [s1.heap.objs.size], _, _, H1, rfl, I1.kept (t' := s1.toks) fun b o e => Heap.get?_push_of_some _ e, turn_tuple a _, ⟨_, Heap.get?_push_size _ rfl, rfl, rfl⟩, fun b hb => ?_, q⟩
    have e : b = s1.heap.objs.size := by simpa using hb
    subst e
    exact I1.fpOk (Nat.le_refl _) (I1.hok.fresh (Nat.le_refl _))
section
variable {K : PySem.W.Frag} {ρ : PEnv} {ta tb tc te : TE} {D : PEnds}
theorem ev_strI {i : Int} (h : EvE K ta ρ (.int i)) (hi : i.natAbs.log2 < 1920) : EvE K (tCB rStrOf (tCons ta tNil)) ρ (.str (toString i)) := fun H0 F σ H Q S q =>
  h H0 F σ H _ S fun F1 H1 v x1 r1 => by cases r1; exact .inl ⟨i, rfl, hi, q F1 H1 _ x1 (.str _)⟩
theorem ev_strS {x : Str} (h : EvE K ta ρ (.str x)) : EvE K (tCB rStrOf (tCons ta tNil)) ρ (.str x) := fun H0 F σ H Q S q =>
  h H0 F σ H _ S fun F1 H1 v x1 r1 => by cases r1; exact .inr (.inl ⟨x, rfl, q F1 H1 _ x1 (.str _)⟩)
theorem ev_strN (h : EvE K ta ρ .none) : EvE K (tCB rStrOf (tCons ta tNil)) ρ (.str "None") := fun H0 F σ H Q S q =>
  h H0 F σ H _ S fun F1 H1 v x1 r1 => by cases r1; exact .inr (.inr ⟨rfl, q F1 H1 _ x1 (.str _)⟩)
theorem ev_addS {x y : Str} (ha : EvE K ta ρ (.str x)) (hb : EvE K tb ρ (.str y)) (hl : x.length + y.length ≤ sizeLine) : EvE K (tOp rAddS ta tb) ρ (.str (x ++ y)) := fun H0 F σ H Q S q =>
  ev_two ha hb S fun F' H' u v e r1 r2 => by
    cases r1
    cases r2
    exact ⟨x, y, rfl, rfl, hl, q F' H' _ e (.str _)⟩
theorem reps_strs {H : Hp} : ∀ {vs : List V} {l : List Str}, Reps H vs (l.map PyData.str) → vs = l.map V.str
  | _, [], .nil => rfl
  | _, i :: l, .cons (.str _) t => by rw [List.map_cons, reps_strs t]
theorem ev_join {z : Str} {ys : List Str} (ha : EvE K ta ρ (.str z)) (hb : EvE K tb ρ (.list (ys.map PyData.str))) (hl : (ys.map (·.length)).sum + ys.length * z.length ≤ 16777216) : EvE K (tBM K "str" rJoin ta (tCons tb tNil)) ρ (.str (Str.join z ys)) := fun H0 F σ H Q S q =>
  ha H0 F σ H _ S fun F1 H1 v x1 r1 => by
    cases r1
    refine ⟨rfl, hb H0 F1 σ H1 _ (S.ext x1) fun F2 H2 w x2 r2 => ?_⟩
    obtain ⟨a, xs, rfl, h1, h2, h3⟩ := rep_listI (K := K) r2 x2.fh
    have e := reps_strs h2
    subst e
    exact ⟨z, a, ys, rfl, rfl, h3, hl, q F2 H2 _ (x1.trans x2) (.str _)⟩
theorem ev_ite {t : TT} {b : Bool} {d : PyData} (hc : EvT K t ρ b) (h1 : b = true → EvE K ta ρ d) (h2 : b = false → EvE K tb ρ d) : EvE K (tIf t ta tb) ρ d := fun H0 F σ H Q S q =>
  hc H0 F σ H _ S fun F1 H1 x1 => by
    cases b with
    | true => exact h1 rfl H0 F1 σ H1 Q (S.ext x1) fun F2 H2 v x2 r => q F2 H2 v (x1.trans x2) r
    | false => exact h2 rfl H0 F1 σ H1 Q (S.ext x1) fun F2 H2 v x2 r => q F2 H2 v (x1.trans x2) r
theorem ei_seqL {ds : List PyData} (h : EvE K ta ρ (.list ds)) : EvI K (iSeq K ta) ρ ds := fun H0 F σ H R S q =>
  h H0 F σ H _ S fun F1 H1 v x1 r1 => by
    obtain ⟨a, xs, rfl, h1, h2, h3⟩ := rep_listI (K := K) r1 x1.fh
    have hF : F1 a = some (.lst xs) := by
      cases r1 with
      | lst ha rr =>
        have := x1.fh _ _ ha
        rw [h3] at this
        cases this
        exact ha
    refine .inl ⟨a, rfl, ⟨xs, h1⟩, q F1 H1 _ x1 fun F2 H2 s2 s3 => ?_⟩
    have hq : SqL K H2 a xs := SqL.of (s3 _ _ (s2 _ _ hF))
    refine ⟨⟨xs, hq, by rw [h2.length]; exact Nat.le_refl _⟩, fun i d e => ?_⟩
    obtain ⟨z, z1, z2⟩ := h2.get e
    refine ⟨⟨xs, z, hq, z1⟩, fun y H3 hy => ?_⟩
    obtain ⟨rfl, hy⟩ := hy
    have e2 := hy xs hq
    rw [z1] at e2
    cases e2
    exact ⟨F2, Ext.refl s3, z2.mono s2⟩
theorem ei_seqT {ds : List PyData} (h : EvE K ta ρ (.tuple ds)) : EvI K (iSeq K ta) ρ ds := fun H0 F σ H R S q =>
  h H0 F σ H _ S fun F1 H1 v x1 r1 => by
    obtain ⟨a, xs, rfl, h1, h2, h3⟩ := rep_tupI (K := K) r1 x1.fh
    have hF : F1 a = some (.tup xs) := by
      cases r1 with
      | tup ha rr =>
        have := x1.fh _ _ ha
        rw [h3] at this
        cases this
        exact ha
    refine .inr ⟨a, rfl, ⟨xs, h1⟩, q F1 H1 _ x1 fun F2 H2 s2 s3 => ?_⟩
    have hq : SqT K H2 a xs := SqT.of (s3 _ _ (s2 _ _ hF))
    refine ⟨⟨xs, hq, by rw [h2.length]; exact Nat.le_refl _⟩, fun i d e => ?_⟩
    obtain ⟨z, z1, z2⟩ := h2.get e
    refine ⟨⟨xs, z, hq, z1⟩, fun y H3 hy => ?_⟩
    obtain ⟨rfl, hy⟩ := hy
    have e2 := hy xs hq
    rw [z1] at e2
    cases e2
    exact ⟨F2, Ext.refl s3, z2.mono s2⟩
/-- xs.extend(ys), xs a list of one's own -/
theorem es_extend {i : Nat} {ds es : List PyData} (e : ρ[i]? = some (some (.ol ds))) (h : EvE K te ρ (.list es)) (hl : ds.length + es.length ≤ 1000) (hn : D.nx (ρ.set i (some (.ol (ds ++ es))))) :
    EvS K (tDrop (tBM K "list" rExtend (tVar i) (tCons te tNil))) ρ D := fun F0 H0 F σ H E x S C => by
  obtain ⟨a, xs, e1, e2, e3, _⟩ := S.write e
  refine ⟨_, e1, .inl ⟨rfl, _, SqL.of e2⟩, h H0 F σ H _ S fun F1 H1 v x1 r1 => ?_⟩
  obtain ⟨a', xs', f1, f2, f3, f4, f5, f6⟩ := (S.ext x1).write e
  rw [e1] at f1
  cases f1
  obtain ⟨b, zs, rfl, h1, h2, h3⟩ := rep_listI (K := K) r1 x1.fh
  refine ⟨a, b, xs', zs, rfl, rfl, f2, h3, by rw [f3.length, h2.length]; exact Nat.le_of_lt (small1000 hl), ?_⟩
  exact C.nx F1 σ _ _ ((x.trans x1).wr f4 f5) (f6 _ _ (f3.append h2)) hn
/-- xs.reverse(), xs a list of one's own -/
theorem reps_reverse {H : Hp} : ∀ {vs : List V} {ds : List PyData}, Reps H vs ds → Reps H vs.reverse ds.reverse
  | _, _, .nil => .nil
  | _, _, .cons r t => by rw [List.reverse_cons, List.reverse_cons]; exact (reps_reverse t).snoc r
theorem es_reverse {i : Nat} {ds : List PyData} (e : ρ[i]? = some (some (.ol ds))) (hn : D.nx (ρ.set i (some (.ol ds.reverse)))) :
    EvS K (tDrop (tBM0 K "list" rReverse (tVar i))) ρ D := fun F0 H0 F σ H E x S C => by
  obtain ⟨a, xs, f1, f2, f3, f4, f5, f6⟩ := S.write e
  refine ⟨_, f1, .inl ⟨rfl, _, SqL.of f2⟩, a, xs, rfl, rfl, f2, ?_⟩
  exact C.nx F σ _ _ (x.wr f4 f5) (f6 _ _ (reps_reverse f3)) hn
end
end L2
end

section
set_option Elab.async false
set_option linter.all false
set_option maxRecDepth 100000
set_option maxHeartbeats 4000000
namespace My
open PySem L2 Mir
def top (i : Nat) : Stmt := PySem.Challenge.pw_chargeyard_k70_yards_written.main.body.getD i (.Pass ⟨0, 0, 0, 0⟩)
abbrev s_row_of : Stmt := top 1
abbrev s_line_row : Stmt := top 2
abbrev s_written : Stmt := top 3
abbrev s__law_cell_at : Stmt := top 5
abbrev s__law_whole : Stmt := top 6
abbrev s__law_number : Stmt := top 7
abbrev s__law_amount : Stmt := top 8
abbrev s__law_yard : Stmt := top 9
abbrev s__law_guests : Stmt := top 10
abbrev s__law_text : Stmt := top 11
abbrev s_law : Stmt := top 12
structure Bl (mg : Str → Option Value) : Prop where
  abs : mg "abs" = none
  len : mg "len" = none
  max : mg "max" = none
  min : mg "min" = none
  sum : mg "sum" = none
  any : mg "any" = none
  all : mg "all" = none
  isi : mg "isinstance" = none
  int : mg "int" = none
  bool : mg "bool" = none
  list : mg "list" = none
  tuple : mg "tuple" = none
  range : mg "range" = none
  zip : mg "zip" = none
  enumerate : mg "enumerate" = none
  str : mg "str" = none
/-! ### data -/
def upD : Option Nat → PyData
  | none => .none
  | some a => .int (a : Int)
def eLn (l : Ln) : PyData := .tuple [upD l.up, .tuple (l.bs.map PyData.int)]
def eYd (y : Yd) : PyData := .tuple [.int (y.T : Int), .tuple (y.ls.map eLn)]
def natD (l : List Nat) : List PyData := l.map fun (j : Nat) => PyData.int (j : Int)
theorem mdl {j : Int} (h : 0 < j) : 0 < j := h
theorem cdl {i j : Int} (h1 : 0 < j) (h2 : j ≤ 10 ^ 60) : CDivB i j := ⟨h1, Int.lt_of_le_of_lt h2 (by decide +kernel)⟩
theorem cdl30 {i : Int} : CDivB i (10 ^ (30 : Int).toNat) := ⟨by decide +kernel, by decide +kernel⟩
theorem mdl30 : (0 : Int) < 10 ^ (30 : Int).toNat := by decide +kernel
theorem cpowN {j : Int} (h0 : 0 ≤ j) (h1 : j ≤ 1000000) : CPow 10 j := ⟨h0, h1, by decide⟩
theorem mul300 {a b : Int} (h0 : 0 ≤ a) (h1 : a < 10 ^ 300) (h2 : 0 ≤ b) (h3 : b < 10 ^ 300) : IntMulOk a b := mulok (m := 1000) (n := 1000) h0 (Int.lt_trans h1 (by decide +kernel)) h2 (Int.lt_trans h3 (by decide +kernel)) (by decide)
theorem z60 : (10 : Int) ^ 60 = 1000000000000000000000000000000000000000000000000000000000000 := by decide +kernel
theorem z30 : (10 : Int) ^ 30 = 1000000000000000000000000000000 := by decide +kernel
theorem cdl2 {i j : Int} (h1 : 0 < j) (h2 : j ≤ 1000000000000000000000000000000000000000000000000000000000000) : CDivB i j := cdl h1 (by rw [z60]; exact h2)
theorem atI_map {α : Type} [Inhabited α] {f : α → PyData} {xs : List α} {k : Int} (h0 : 0 ≤ k) (h1 : k < (xs.length : Int)) : atI (xs.map f) k = some (f (xs.getD k.toNat default)) := by
  have h : k.toNat < xs.length := by omega
  have e : (xs.map f)[k.toNat]? = some (f (xs.getD k.toNat default)) := by simp [h]
  have e2 := atI_nat e
  rwa [Int.toNat_of_nonneg h0] at e2
theorem atI_ints {xs : List Int} {k : Int} (h0 : 0 ≤ k) (h1 : k < (xs.length : Int)) : atI (xs.map PyData.int) k = some (.int (xs.getD k.toNat 0)) := by
  have h : k.toNat < xs.length := by omega
  have e : (xs.map PyData.int)[k.toNat]? = some (.int (xs.getD k.toNat 0)) := by simp [h]
  have e2 := atI_nat e
  rwa [Int.toNat_of_nonneg h0] at e2
theorem atI_int {xs : List Int} {k : Int} (h0 : 0 ≤ k) (h1 : k < (xs.length : Int)) : atI xs k = some (xs.getD k.toNat 0) := by
  have h : k.toNat < xs.length := by omega
  have e : xs[k.toNat]? = some (xs.getD k.toNat 0) := by simp [h]
  have e2 := atI_nat e
  rwa [Int.toNat_of_nonneg h0] at e2
theorem atI_tab {f : Nat → PyData} {n : Nat} {k : Int} (h0 : 0 ≤ k) (h1 : k < (n : Int)) : atI ((List.range n).map f) k = some (f k.toNat) := by
  have h : k.toNat < n := by omega
  have e : ((List.range n).map f)[k.toNat]? = some (f k.toNat) := by simp [h]
  have e2 := atI_nat e
  rwa [Int.toNat_of_nonneg h0] at e2
theorem ixN_in {n : Nat} {k : Int} (h0 : 0 ≤ k) (h1 : k < (n : Int)) : ixN n k = some k.toNat := by
  unfold ixN; rw [if_pos h0, if_pos h1]
theorem filt_none {α : Type} (xs : List α) : xs.filter (fun _ => false) = [] := by
  induction xs with
  | nil => rfl
  | cons a l ih => simp [List.filter_cons, ih]
theorem map_const {α β : Type} (xs : List α) (c : β) : xs.map (fun _ => c) = (List.range xs.length).map fun _ => c := by
  apply List.ext_getElem?
  intro i
  by_cases h : i < xs.length
  · simp [h]
  · simp [h]
instance : Inhabited Ln := ⟨⟨none, []⟩⟩
structure ScrOk (ns : List Int) : Prop where
  len : ns.length ≤ 63
  bits : ∀ i ∈ ns, Builtin.Int.intBits i ≤ 2 ^ 20
def eGs (g : Gs) : PyData := .tuple [.int (g.line : Int), .int (g.first : Int), .int (g.last : Int), .int g.want, .int g.most]
instance : Inhabited Gs := ⟨⟨0, 0, 0, 1, 1⟩⟩
/-! ### data that == speaks of -/
theorem canLayAll_of {ds : List PyData} {m : Nat} (h : ∀ d ∈ ds, d.canLay0 = true ∧ d.depth ≤ m) : PyData.canLayAll0 ds = true ∧ PyData.depthAll ds ≤ m := by
  induction ds with
  | nil => exact ⟨rfl, Nat.zero_le _⟩
  | cons d ds ih =>
    obtain ⟨a, b⟩ := h d List.mem_cons_self
    obtain ⟨c, e⟩ := ih fun x hx => h x (List.mem_cons_of_mem _ hx)
    refine ⟨by rw [PyData.canLayAll0, a, c]; rfl, ?_⟩
    rw [PyData.depthAll]
    omega
/-- laid so deep at most -/
def FineN (m : Nat) (d : PyData) : Prop := d.canLay0 = true ∧ d.depth ≤ m
theorem FineN.fine {m : Nat} {d : PyData} (h : FineN m d) (hm : m ≤ 60) : Fine d := ⟨h.1, Nat.le_trans h.2 hm⟩
theorem FineN.mono {m n : Nat} {d : PyData} (h : FineN m d) (hm : m ≤ n) : FineN n d := ⟨h.1, Nat.le_trans h.2 hm⟩
theorem fN_tuple {ds : List PyData} {m : Nat} (h : ∀ d ∈ ds, FineN m d) : FineN (m + 1) (.tuple ds) := by
  obtain ⟨a, b⟩ := canLayAll_of h
  refine ⟨by rw [PyData.canLay0]; exact a, ?_⟩
  rw [PyData.depth]
  omega
theorem fN_list {ds : List PyData} {m : Nat} (h : ∀ d ∈ ds, FineN m d) : FineN (m + 1) (.list ds) := by
  obtain ⟨a, b⟩ := canLayAll_of h
  refine ⟨by rw [PyData.canLay0]; exact a, ?_⟩
  rw [PyData.depth]
  omega
theorem fN_int (i : Int) (m : Nat) : FineN m (.int i) := ⟨rfl, Nat.zero_le _⟩
theorem fN_none (m : Nat) : FineN m .none := ⟨rfl, Nat.zero_le _⟩
theorem fN_bool (b : Bool) (m : Nat) : FineN m (.bool b) := ⟨rfl, Nat.zero_le _⟩
theorem fN_map {α : Type} {f : α → PyData} {xs : List α} {m : Nat} (h : ∀ x, FineN m (f x)) : ∀ d ∈ xs.map f, FineN m d := fun d hd => by
  obtain ⟨x, _, rfl⟩ := List.mem_map.mp hd
  exact h x
theorem fN_nil {m : Nat} : ∀ d ∈ ([] : List PyData), FineN m d := fun d hd => (nomatch hd)
theorem fN_cons {m : Nat} {d : PyData} {ds : List PyData} (h : FineN m d) (h2 : ∀ d ∈ ds, FineN m d) : ∀ x ∈ d :: ds, FineN m x := fun x hx => by
  rcases List.mem_cons.mp hx with rfl | hx
  · exact h
  · exact h2 x hx
theorem fN_up (o : Option Nat) (m : Nat) : FineN m (upD o) := by cases o <;> exact ⟨rfl, Nat.zero_le _⟩
theorem fN_ln (l : Ln) : FineN 2 (eLn l) := fN_tuple (fN_cons (fN_up _ _) (fN_cons (fN_tuple (m := 0) (fN_map fun i => fN_int i 0)) fN_nil))
theorem fN_yd (y : Yd) : FineN 4 (eYd y) := fN_tuple (fN_cons (fN_int _ _) (fN_cons (fN_tuple (fN_map fN_ln)) fN_nil))
theorem fN_gs (g : Gs) : FineN 1 (eGs g) := fN_tuple (fN_cons (fN_int _ _) (fN_cons (fN_int _ _) (fN_cons (fN_int _ _) (fN_cons (fN_int _ _) (fN_cons (fN_int _ _) fN_nil)))))
theorem fN_gss (gs : List Gs) : FineN 2 (.list (gs.map eGs)) := fN_list (fN_map fN_gs)
theorem fN_nats (l : List Nat) : FineN 1 (.list (natD l)) := fN_list (fN_map fun j => fN_int _ 0)
theorem fN_ints (l : List Int) : FineN 1 (.list (l.map PyData.int)) := fN_list (fN_map fun j => fN_int _ 0)
theorem fine_yd (y : Yd) : Fine (eYd y) := (fN_yd y).fine (by decide)
theorem fine_gss (gs : List Gs) : Fine (.list (gs.map eGs)) := (fN_gss gs).fine (by decide)
theorem fine_nats (l : List Nat) : Fine (.list (natD l)) := (fN_nats l).fine (by decide)
theorem fine_ints (l : List Int) : Fine (.list (l.map PyData.int)) := (fN_ints l).fine (by decide)
theorem fine_nil : Fine (.list []) := (fN_list (m := 0) fN_nil).fine (by decide)
theorem natD_map (l : List Nat) : natD l = (l.map fun (j : Nat) => (j : Int)).map PyData.int := by
  unfold natD
  rw [List.map_map]
  rfl
theorem mem_cast {a : Nat} {l : List Nat} : ((a : Int) ∈ l.map fun (j : Nat) => (j : Int)) ↔ a ∈ l := by
  constructor
  · intro h
    obtain ⟨j, hj, e⟩ := List.mem_map.mp h
    have : j = a := by omega
    subst this
    exact hj
  · intro h
    exact List.mem_map.mpr ⟨a, h, rfl⟩
theorem ev_inD {K : PySem.W.Frag} {ρ : PEnv} {ta tb : TE} {a : Nat} {l : List Nat} (ha : EvE K ta ρ (.int (a : Int))) (hb : EvE K tb ρ (.list (natD l))) : EvE K (tOp (rIn K false) ta tb) ρ (.bool (decide (a ∈ l))) := by
  rw [natD_map] at hb
  have := ev_inN ha hb
  rwa [decide_eq_decide.mpr mem_cast] at this
theorem ev_notInD {K : PySem.W.Frag} {ρ : PEnv} {ta tb : TE} {a : Nat} {l : List Nat} (ha : EvE K ta ρ (.int (a : Int))) (hb : EvE K tb ρ (.list (natD l))) : EvE K (tOp (rIn K true) ta tb) ρ (.bool (!decide (a ∈ l))) := by
  rw [natD_map] at hb
  have := ev_inNn ha hb
  rwa [decide_eq_decide.mpr mem_cast] at this
theorem enumD_tab (n : Nat) (f : Nat → PyData) : enumD ((List.range n).map f) = (List.range n).map fun (i : Nat) => PyData.tuple [.int (i : Int), f i] := by
  apply List.ext_getElem?
  intro i
  unfold enumD
  rw [List.getElem?_map, List.getElem?_zipIdx]
  by_cases h : i < n
  · simp [h]
  · simp [h]
theorem cut_lo {α : Type} (xs : List α) (k : Nat) (hk : k ≤ xs.length) : cut xs (some (k : Int)) none = xs.drop k := by
  unfold cut
  rw [HT.sIx_nat, Nat.min_eq_left hk]
  show (xs.drop k).take (xs.length - k) = _
  rw [← List.length_drop, List.take_length]
theorem cut_hi {α : Type} (xs : List α) (k : Nat) (hk : k ≤ xs.length) : cut xs none (some (k : Int)) = xs.take k := by
  unfold cut
  rw [HT.sIx_nat, Nat.min_eq_left hk]
  rfl
theorem nw_hi {n k : Nat} (h : k < n) : ¬ (HT.sIx n 0 none = 0 ∧ HT.sIx n n (some (k : Int)) = n) := fun z => by
  have z2 := z.2
  rw [HT.sIx_nat] at z2
  omega
theorem nw_lo {n k : Nat} (h : 0 < k) (hn : 0 < n) : ¬ (HT.sIx n 0 (some (k : Int)) = 0 ∧ HT.sIx n n none = n) := fun z => by
  have z1 := z.1
  rw [HT.sIx_nat] at z1
  omega
theorem p10 (n : Nat) : (10 : Int) ^ n = ((10 ^ n : Nat) : Int) := by rw [Int.natCast_pow]; rfl
theorem p10_pos (n : Nat) : (0 : Int) < 10 ^ n := by
  rw [p10]
  have : 0 < 10 ^ n := Nat.pow_pos (by decide)
  omega
theorem cdlP {i j : Int} (h0 : 0 ≤ j) (h1 : j ≤ 1000) : CDivB i (10 ^ j.toNat) := ⟨p10_pos _, by
  have h : (10 : Nat) ^ j.toNat ≤ 10 ^ 1000 := Nat.pow_le_pow_right (by decide) (by omega)
  have h2 : (10 : Int) ^ j.toNat ≤ 10 ^ 1000 := by
    rw [p10, p10]
    exact Int.ofNat_le.mpr h
  exact Int.lt_of_le_of_lt h2 (by decide +kernel)⟩
theorem mdlP {j : Int} : 0 < (10 : Int) ^ j.toNat := p10_pos _
/-! ### the steps -/
local macro_rules | `(tactic| walk_at "side") => `(tactic| first | omega | with_reducible assumption | with_reducible rfl | decide | exact Nat.le_of_ble_eq_true rfl | (focus (simp; done)) | (focus (simp; omega)))
local macro_rules | `(tactic| walk_at "ev") => `(tactic| first
  | ((with_reducible apply ev_var); rfl)
  | with_reducible exact ev_int
  | with_reducible exact ev_bl
  | with_reducible exact ev_non
  | with_reducible exact ev_str
  | ((with_reducible apply ev_opI); walk_at "ev"; walk_at "ev")
  | ((with_reducible apply ev_opB); walk_at "ev"; walk_at "ev")
  | ((with_reducible apply ev_opC); walk_at "ev"; walk_at "ev"; walk_at "cond")
  | ((with_reducible apply ev_un); walk_at "ev")
  | ((with_reducible apply ev_eqI); walk_at "ev"; walk_at "ev")
  | ((with_reducible apply ev_neI); walk_at "ev"; walk_at "ev")
  | ((with_reducible apply ev_isN); walk_at "ev")
  | ((with_reducible apply ev_notN); walk_at "ev")
  | ((with_reducible apply ev_chain); walk_at "ev"; walk_at "ev"; walk_at "ev")
  | ((with_reducible apply ev_and); walk_at "ev"; intro hc; walk_at "ev")
  | ((with_reducible apply ev_or); walk_at "ev"; intro hc; walk_at "ev")
  | ((with_reducible apply ev_not); walk_at "ev")
  | ((with_reducible apply ev_ixO); rfl; walk_at "ev"; walk_at "item")
  | ((with_reducible apply ev_ixS); rfl; walk_at "ev"; walk_at "item")
  | ((with_reducible apply ev_ixT); walk_at "evd"; walk_at "ev"; walk_at "item")
  | ((with_reducible apply ev_ixL); walk_at "evd"; walk_at "ev"; walk_at "item")
  | ((with_reducible apply ev_tup); walk_at "eas"; walk_at "side")
  | ((with_reducible apply ev_call); walk_at "ea"; walk_at "call")
  | ((with_reducible apply ev_callL); walk_at "ea"; walk_at "call")
  | ((with_reducible apply ev_absZ); walk_at "ev")
  | ((with_reducible apply ev_maxI); walk_at "ev"; walk_at "ev")
  | ((with_reducible apply ev_minI); walk_at "ev"; walk_at "ev")
  | ((with_reducible apply ev_intB); walk_at "ev")
  | ((with_reducible apply ev_isi); walk_at "ev"; rfl)
  | ((with_reducible apply ev_lenS); rfl)
  | ((with_reducible apply ev_lenO); rfl)
  | ((with_reducible apply ev_lenT); walk_at "evd")
  | ((with_reducible apply ev_lenL); walk_at "evd")
  | ((with_reducible apply ev_tupO); rfl)
  | ((with_reducible apply ev_tupL); walk_at "evd")
  | ((with_reducible apply ev_bits); walk_at "ev")
  | ((with_reducible apply ev_catT); walk_at "evd"; walk_at "evd"; (first | exact List.cons_ne_nil _ _ | (focus (simp [cut]; done))); walk_at "side")
  | ((with_reducible apply ev_catG); walk_at "evd"; walk_at "evd"; walk_at "side")
  | ((with_reducible apply ev_inD); walk_at "ev"; walk_at "evd")
  | ((with_reducible apply ev_notInD); walk_at "ev"; walk_at "evd")
  | ((with_reducible apply ev_min3); walk_at "ev"; walk_at "ev"; walk_at "ev"; rfl)
  | ((with_reducible apply ev_slT); walk_at "evd"; walk_at "ep"; walk_at "ep"; walk_at "nw")
  | ((with_reducible apply ev_eqD); walk_at "ev"; walk_at "ev"; walk_at "fine"; walk_at "fine")
  | ((with_reducible apply ev_neD); walk_at "ev"; walk_at "ev"; walk_at "fine"; walk_at "fine")
  | ((with_reducible apply ev_sum); walk_at "ev"; rfl)
  | ((with_reducible apply EvO.fz); walk_at "eo"))
/-! an expression whose data must have a shape -/
local macro_rules | `(tactic| walk_at "evd") => `(tactic| first
  | (apply ev_var; rfl)
  | walk_at "ev"
  | ((with_reducible apply EvO.fz); walk_at "eo"))
local macro_rules | `(tactic| walk_at "call") => `(tactic| (constructor <;> walk_at "side"))
local macro_rules | `(tactic| walk_at "ea") => `(tactic| first
  | with_reducible exact ea_nil
  | ((with_reducible apply ea_scr); rfl; walk_at "ea")
  | ((with_reducible apply ea_cons); walk_at "ev"; walk_at "ea"))
local macro_rules | `(tactic| walk_at "ep") => `(tactic| first
  | with_reducible exact ep_none
  | ((with_reducible apply ep_some); walk_at "ev"))
local macro_rules | `(tactic| walk_at "nw") => `(tactic| first | decide | (focus (simp [HT.sIx]; done)) | (focus (simp [HT.sIx]; omega)))
local macro_rules | `(tactic| walk_at "eas") => `(tactic| first
  | exact ea_nil0
  | (apply ea_fzs; walk_at "ev"; walk_at "eas"))
local macro_rules | `(tactic| walk_at "eo") => `(tactic| first
  | ((with_reducible apply eo_lst); walk_at "eas"; walk_at "side")
  | ((with_reducible apply eo_call); walk_at "ea"; walk_at "call")
  | ((with_reducible apply eo_listRng); walk_at "ev"; rfl; walk_at "side")
  | ((with_reducible apply eo_slL); walk_at "evd"; walk_at "ep"; walk_at "ep")
  | ((with_reducible apply eo_listL); walk_at "evd")
  | ((with_reducible apply eo_listT); walk_at "evd")
  | ((with_reducible apply eo_cat); walk_at "evd"; walk_at "evd"; walk_at "side"))
local macro_rules | `(tactic| walk_at "et") => `(tactic| first
  | with_reducible exact et_yes
  | ((with_reducible apply et_test); walk_at "ev")
  | ((with_reducible apply et_B); walk_at "ev")
  | ((with_reducible apply et_and); walk_at "et"; intro hc; walk_at "et")
  | ((with_reducible apply et_or); walk_at "et"; intro hc; walk_at "et")
  | ((with_reducible apply et_not); walk_at "et"))
local macro_rules | `(tactic| walk_at "g") => `(tactic| first
  | with_reducible exact g_name
  | with_reducible exact gs_nil
  | ((with_reducible apply gs_cons); walk_at "g"; walk_at "g")
  | ((with_reducible apply g_tup); walk_at "g"; rfl)
  | (apply g_tup; walk_at "g"; rfl))
/-! what is walked -/
local macro_rules | `(tactic| walk_at "ei") => `(tactic| first
  | ((with_reducible apply ei_range1); walk_at "ea"; walk_at "r62"; walk_at "r62")
  | ((with_reducible apply ei_range2); walk_at "ea"; exact ⟨by walk_at "r62", by walk_at "r62", by walk_at "r62", by walk_at "r62"⟩)
  | ((with_reducible apply ei_range3); walk_at "ea"; exact ⟨by walk_at "r62", by walk_at "r62", by walk_at "r62", by walk_at "r62"⟩)
  | ((with_reducible apply ei_zip); walk_at "ea")
  | ((with_reducible apply ei_enum); walk_at "ea")
  | ((with_reducible apply ei_list); walk_at "evd")
  | ((with_reducible apply ei_tup); walk_at "evd"))
local macro_rules | `(tactic| walk_at "r62") => `(tactic| (rw [z62]; walk_at "side"))
/-! one statement -/
local macro_rules | `(tactic| walk_at "s1") => `(tactic| first
  | ((with_reducible apply es_seq); walk_at "s1")
  | ((with_reducible apply es_set); walk_at "eo"; (dsimp only [List.set]))
  | ((with_reducible apply es_setE); walk_at "ev"; (dsimp only [List.set]))
  | ((with_reducible apply es_asg); walk_at "ev"; walk_at "g"; (dsimp only [List.set]))
  | ((with_reducible apply es_append); rfl; walk_at "ev"; walk_at "side"; (dsimp only [List.set]))
  | ((with_reducible apply es_store); rfl; walk_at "ev"; walk_at "ev"; walk_at "item"; (dsimp only [List.set])))
local macro_rules | `(tactic| walk_at "ss") => `(tactic| repeat walk_at "s1")
local macro_rules | `(tactic| walk_at "ret") => `(tactic| first
  | ((with_reducible apply es_retO); rfl)
  | ((with_reducible apply es_retE); walk_at "evd")
  | ((with_reducible apply es_ret); walk_at "eo"))
local macro_rules | `(tactic| walk_at "if") => `(tactic| first
  | ((with_reducible apply es_seq); walk_at "if")
  | ((with_reducible apply es_if); walk_at "et"))
local macro_rules | `(tactic| walk_at "eir") => `(tactic| (apply EvI.cast; walk_at "ei"; first | with_reducible rfl | exact rngD_cong (by omega) (by omega) | exact rngU_cong (by omega) (by omega) | exact rngD_cong (by simp; done) (by simp; omega)))
local macro_rules | `(tactic| walk_at "if") => `(tactic| first
  | ((with_reducible apply es_seq); walk_at "if")
  | ((with_reducible apply es_if); walk_at "et"))
local macro_rules | `(tactic| walk_at "item") => `(tactic| first | rfl | with_reducible assumption | ((with_reducible apply atI_ints) <;> walk_at "arith") | ((with_reducible apply atI_int) <;> walk_at "arith") | ((with_reducible apply atI_tab) <;> walk_at "arith") | ((with_reducible apply ixN_in) <;> walk_at "arith") | (apply atI_map <;> walk_at "arith"))
local macro_rules | `(tactic| walk_at "arith") => `(tactic| first | omega | with_reducible assumption | decide | (focus (simp; done)) | (focus (simp; omega)))
local macro_rules | `(tactic| walk_at "cond") => `(tactic| first | with_reducible assumption | ((with_reducible apply cmul_r) <;> omega) | ((with_reducible apply cmul_l) <;> omega) | ((with_reducible apply cdl2) <;> omega) | with_reducible exact cpow30 | ((with_reducible apply cpowN) <;> omega) | ((with_reducible apply cdlP) <;> omega) | with_reducible exact mdlP | exact cdl30 | exact mdl30 | ((with_reducible apply mdl) <;> omega) | omega | (focus (dsimp only; omega)))
local macro_rules | `(tactic| walk_at "fine") => `(tactic| first | exact fine_yd _ | exact fine_gss _ | exact fine_nats _ | exact fine_ints _ | exact fine_nil)
section
variable {P : Program} {w : World} {K : PySem.W.Frag} {mg : Str → Option Value} {base : Heap}
/-! ### the draws -/
inductive R_cell : List OT → OT → Prop
  | mk {ns : List Int} {k : Int} (h : 0 ≤ k) : R_cell [.scr ns, .fz (.int k)] (.fz (.int (cellZ ns k)))
theorem sc__law_cell_at : FnScope ["_law_script", "_law_k"] ["_law_script", "_law_k"] (defScope s__law_cell_at) := ⟨rfl, rfl, rfl, by decide +kernel, rfl, by decide +kernel, by decide +kernel⟩
theorem ok_cell (T : Bl mg) (D : Df K mg "_law_cell_at" s__law_cell_at ["_law_script", "_law_k"]) : Cal P w K mg base "_law_cell_at" ["_law_script", "_law_k"] 1 (spO (K := K) R_cell) := by
  refine D.ev sc__law_cell_at (fun ts r h => by cases h; rfl) (fun f cdv A outer s H E ts r hr h => ?_)
  cases h with
  | @mk ns k h0 =>
    refine ⟨_, (pss_cons (ps_if (pt_cmpR op_lt (pv 1) (pe_callB ca_len (by rfl) T.len bt_len (pa_cons (pv 0) pa_nil)) (nomark _)) (pss_one (ps_ret (pe_ix ix_seq (pv 0) (pv 1) (fun _ _ => rfl)))) pss_nil)
 (pss_one (ps_ret pe_int))), ?_⟩
    show EvS K _ [some _, some _] _
    try dsimp only [cxOf_K, compCx_K]
    walk_at "if"
    ·
      intro c
      have c := of_decide_eq_true c
      walk_at "ret"
      rfl
    ·
      intro c
      have c := of_decide_eq_false c
      refine es_next ?_
      walk_at "ret"
      have e : cellZ ns k = 0 := by
        have : ns.length ≤ k.toNat := by omega
        simp [cellZ, List.getD, this]
      rw [e]
end
section
variable {P : Program} {w : World} {K : PySem.W.Frag} {mg : Str → Option Value} {base : Heap}
inductive R_amount : List OT → OT → Prop
  | mk {n : Int} (h : 0 ≤ n) : R_amount [.fz (.int n)] (.fz (.tuple [.int (amount n).1, .int (amount n).2]))
theorem sc__law_amount : FnScope ["_law_number_here", "_law_way"] ["_law_number_here"] (defScope s__law_amount) := ⟨rfl, rfl, rfl, by decide +kernel, rfl, by decide +kernel, by decide +kernel⟩
theorem ok_amount (T : Bl mg) (D : Df K mg "_law_amount" s__law_amount ["_law_number_here"]) : Cal P w K mg base "_law_amount" ["_law_number_here"] 1 (spO (K := K) R_amount) := by
  refine D.ev sc__law_amount (fun ts r h => by cases h; rfl) (fun f cdv A outer s H E ts r hr h => ?_)
  cases h with
  | @mk n h0 =>
    refine ⟨_, (pss_cons (ps_set (i := 1) sc__law_amount.nd rfl (Or.inl rfl) (pe_op op_mod (pv 0) pe_int))
 (pss_cons (ps_set (i := 0) sc__law_amount.nd rfl (Or.inl rfl) (pe_op op_fdivB (pv 0) pe_int))
 (pss_cons (ps_if (pt_cmpR op_eq (pv 1) pe_int (nomark _)) (pss_one (ps_ret (pe_tup (pa_cons pe_int (pa_cons (pv 0) pa_nil))))) pss_nil)
 (pss_cons (ps_if (pt_cmpR op_lt (pv 1) pe_int (nomark _)) (pss_one (ps_ret (pe_tup (pa_cons (pe_op op_mod (pv 0) pe_int) (pa_cons (pe_op op_fdivB (pv 0) pe_int) pa_nil))))) pss_nil)
 (pss_cons (ps_if (pt_cmpR op_eq (pv 1) pe_int (nomark _)) (pss_one (ps_ret (pe_tup (pa_cons (pe_op op_mod (pv 0) pe_int) (pa_cons (pe_op op_fdivB (pv 0) pe_int) pa_nil))))) pss_nil)
 (pss_one (ps_ret (pe_tup (pa_cons (pe_op op_mod (pv 0) (pe_op op_pow pe_int pe_int)) (pa_cons (pe_op op_fdivB (pv 0) (pe_op op_pow pe_int pe_int)) pa_nil)))))))))), ?_⟩
    show EvS K _ [some _, none] _
    walk_at "ss"
    walk_at "if"
    ·
      intro c
      have c := of_decide_eq_true c
      walk_at "ret"
      show _ = _
      unfold amount
      rw [if_pos c]
    ·
      intro c
      have c := of_decide_eq_false c
      refine es_next ?_
      walk_at "if"
      ·
        intro c2
        have c2 := of_decide_eq_true c2
        walk_at "ret"
        show _ = _
        unfold amount
        rw [if_neg c, if_pos c2]
      ·
        intro c2
        have c2 := of_decide_eq_false c2
        refine es_next ?_
        walk_at "if"
        ·
          intro c3
          have c3 := of_decide_eq_true c3
          walk_at "ret"
          show _ = _
          unfold amount
          rw [if_neg c, if_neg c2, if_pos c3]
        ·
          intro c3
          have c3 := of_decide_eq_false c3
          refine es_next ?_
          walk_at "ret"
          show _ = _
          unfold amount
          rw [if_neg c, if_neg c2, if_neg c3]
          rfl
end
section
variable {P : Program} {w : World} {K : PySem.W.Frag} {mg : Str → Option Value} {base : Heap}
inductive R_number : List OT → OT → Prop
  | mk {ns : List Int} {k : Int} (hs : ScrOk ns) (h0 : 0 ≤ k) (h1 : k < 1000) : R_number [.scr ns, .fz (.int k)] (.fz (.int (number ns k)))
theorem bits_le {x : Int} {m : Nat} (h0 : 0 ≤ x) (h : x < 2 ^ m) : Builtin.Int.intBits x ≤ m := by
  unfold Builtin.Int.intBits
  by_cases e : x = 0
  · subst e; simp
  · have e1 : (x == 0) = false := by simpa using e
    rw [e1]
    have h1 : x.natAbs ≠ 0 := by omega
    have h2 : x.natAbs < 2 ^ m := by
      have : ((x.natAbs : Nat) : Int) < ((2 ^ m : Nat) : Int) := by
        have e2 : ((2 ^ m : Nat) : Int) = (2 : Int) ^ m := by rw [Int.natCast_pow]; rfl
        rw [e2]
        omega
      exact Int.ofNat_lt.mp this
    have := (Nat.log2_lt h1).mpr h2
    simp only [Bool.false_eq_true, if_false]
    omega
theorem cell_bits {ns : List Int} (hs : ScrOk ns) (k : Int) : Builtin.Int.intBits (absZ (cellZ ns k)) ≤ 2 ^ 20 := by
  have e : Builtin.Int.intBits (absZ (cellZ ns k)) = Builtin.Int.intBits (cellZ ns k) := by
    unfold absZ
    split
    · unfold Builtin.Int.intBits
      simp
    · rfl
  rw [e]
  by_cases h : k.toNat < ns.length
  · refine hs.bits _ ?_
    simp [cellZ, h]
  · have : cellZ ns k = 0 := by
      have : ns.length ≤ k.toNat := by omega
      simp [cellZ, List.getD, this]
    rw [this]
    decide
theorem sc__law_number : FnScope ["_law_script", "_law_k", "_law_head", "_law_one", "_law_other", "_law_total", "_law_turn", "_law_cell"] ["_law_script", "_law_k"] (defScope s__law_number) := ⟨rfl, rfl, rfl, by decide +kernel, rfl, by decide +kernel, by decide +kernel⟩
theorem ok_number (T : Bl mg) (D : Df K mg "_law_number" s__law_number ["_law_script", "_law_k"]) (c__law_cell_at : Cal P w K mg base "_law_cell_at" ["_law_script", "_law_k"] 1 (spO (K := K) R_cell)) : Cal P w K mg base "_law_number" ["_law_script", "_law_k"] 2 (spO (K := K) R_number) := by
  refine D.ev sc__law_number (fun ts r h => by cases h; rfl) (fun f cdv A outer s H E ts r hr h => ?_)
  cases h with
  | @mk ns k hs h0 h1 =>
    refine ⟨_, (pss_cons (ps_set (i := 2) sc__law_number.nd rfl (Or.inl rfl) (pe_cal c__law_cell_at hr (pa_cons (pv 0) (pa_cons pe_int pa_nil)) (hj := by first | decide | omega)))
 (pss_cons (ps_set (i := 3) sc__law_number.nd rfl (Or.inl rfl) (pe_op op_add (pe_op op_mod (pv 2) pe_int) (pe_op op_mul pe_int (pv 1))))
 (pss_cons (ps_set (i := 4) sc__law_number.nd rfl (Or.inl rfl) (pe_op op_add (pe_op op_mul pe_int (pv 1)) pe_int))
 (pss_cons (ps_set (i := 5) sc__law_number.nd rfl (Or.inl rfl) pe_int)
 (pss_cons (ps_for PassesOwn.never rfl (pi_range1 rfl T.range (pa_cons pe_int pa_nil)) (pg_name (i := 6) sc__law_number.nd rfl (Or.inl rfl)) (pss_cons (ps_set (i := 3) sc__law_number.nd rfl (Or.inl rfl) (pe_op op_mod (pe_op op_add (pe_op op_add (pe_op op_mul (pv 3) pe_int) pe_int) (pe_op op_mul (pv 6) (pv 1))) pe_int))
 (pss_cons (ps_set (i := 4) sc__law_number.nd rfl (Or.inl rfl) (pe_op op_mod (pe_op op_add (pe_op op_mul (pv 4) pe_int) (pv 3)) pe_int))
 (pss_one (ps_set (i := 5) sc__law_number.nd rfl (Or.inl rfl) (pe_op op_add (pe_op op_mul (pv 5) pe_int) (pe_op op_mod (pe_op op_add (pe_op op_mul (pv 4) (pv 4)) (pv 3)) pe_int)))))))
 (pss_cons (ps_if (pt_cmpR op_eq (pe_op op_mod (pe_op op_fdivB (pv 2) pe_int) pe_int) pe_int (nomark _)) (pss_one (ps_ret (pv 5))) pss_nil)
 (pss_cons (ps_set (i := 7) sc__law_number.nd rfl (Or.inl rfl) (pe_callB ca_abs (by rfl) T.abs bt_abs (pa_cons (pe_cal c__law_cell_at hr (pa_cons (pv 0) (pa_cons (pv 1) pa_nil)) (hj := by first | decide | omega)) pa_nil)))
 (pss_one (ps_ret (pe_op op_add (pv 7) (pe_op op_shlB (pv 5) (pe_bm0 PySem.F.plainAttrs_int PySem.F.slot_int_bit_length PySem.F.type_int_bit_length ma_bits (pv 7))))))))))))), ?_⟩
    show EvS K _ [some _, some _, none, none, none, none, none, none] _
    try dsimp only [cxOf_K, compCx_K]
    walk_at "ss"
    refine es_seq (es_forR (fun i => [some (.scr ns), some (.fz (.int k)), some (.fz (.int (cellZ ns 0))), some (.fz (.int (mix (cellZ ns 0) k i).1)), some (.fz (.int (mix (cellZ ns 0) k i).2.1)), some (.fz (.int (mix (cellZ ns 0) k i).2.2)), none, none]) (by walk_at "ei") ⟨rfl, rfl, rfl, rfl, rfl, rfl, trivial⟩ ?_ ?_)
    · intro i d hd
      obtain ⟨hi, rfl⟩ := rngD_get hd
      refine ⟨_, by walk_at "g", ?_⟩
      dsimp only [List.set]
      have hi2 : i < 30 := hi
      have o1 : 0 ≤ ((mix (cellZ ns 0) k i).1 * 48271 + 11 + (0 + (i : Int)) * k) % 2147483647 ∧ ((mix (cellZ ns 0) k i).1 * 48271 + 11 + (0 + (i : Int)) * k) % 2147483647 < 2147483647 := by omega
      have o2 : 0 ≤ ((mix (cellZ ns 0) k i).2.1 * 16807 + ((mix (cellZ ns 0) k i).1 * 48271 + 11 + (0 + (i : Int)) * k) % 2147483647) % 2147483629 ∧ ((mix (cellZ ns 0) k i).2.1 * 16807 + ((mix (cellZ ns 0) k i).1 * 48271 + 11 + (0 + (i : Int)) * k) % 2147483647) % 2147483629 < 2147483629 := by omega
      walk_at "ss"
      refine ⟨rfl, rfl, rfl, ?_, ?_, ?_, trivial⟩ <;> simp only [mix, Int.zero_add]
    · intro ρ' hf
      refine es_fgt hf ?_
      have hn := mix_total (cellZ ns 0) k 30
      have e30 : (rngD 0 (30 : Int).toNat).length = 30 := rngD_len
      rw [e30]
      walk_at "if"
      ·
        intro c
        have c := of_decide_eq_true c
        walk_at "ret"
        show _ = _
        unfold number
        rw [if_pos c]
      ·
        intro c
        have c := of_decide_eq_false c
        refine es_next ?_
        have cb := cell_bits hs k
        have tb : Builtin.Int.intBits (mix (cellZ ns 0) k 30).2.2 ≤ 930 := bits_le hn.1 (total_lt _ _)
        have sh : CShl (mix (cellZ ns 0) k 30).2.2 (Builtin.Int.intBits (absZ (cellZ ns k)) : Int) := ⟨by omega, by
          have : (2 : Int) ^ 27 = 134217728 := by decide
          have : (2 : Nat) ^ 20 = 1048576 := by decide
          omega⟩
        walk_at "s1"
        refine es_retE (ev_opI (ev_var rfl) (ev_opC (ev_var rfl) (ev_bits (ev_var rfl)) sh)) ?_
        show _ = _
        unfold number
        rw [if_neg c]
        rfl
end
section
variable {P : Program} {w : World} {K : PySem.W.Frag} {mg : Str → Option Value} {base : Heap}
inductive R_yard : List OT → OT → Prop
  | mk {ns : List Int} (hs : ScrOk ns) : R_yard [.scr ns] (.fz (eYd (yardOf ns)))
theorem sc__law_yard : FnScope ["_law_script", "_law_head", "_law_turns", "_law_lines", "_law_k", "_law_number_here", "_law_above", "_law_bounds", "_law_turn", "_law_bound"] ["_law_script"] (defScope s__law_yard) := ⟨rfl, rfl, rfl, by decide +kernel, rfl, by decide +kernel, by decide +kernel⟩
theorem ok_yard (T : Bl mg) (D : Df K mg "_law_yard" s__law_yard ["_law_script"]) (c__law_cell_at : Cal P w K mg base "_law_cell_at" ["_law_script", "_law_k"] 1 (spO (K := K) R_cell)) (c__law_number : Cal P w K mg base "_law_number" ["_law_script", "_law_k"] 2 (spO (K := K) R_number))
    (c__law_amount : Cal P w K mg base "_law_amount" ["_law_number_here"] 1 (spO (K := K) R_amount)) : Cal P w K mg base "_law_yard" ["_law_script"] 3 (spO (K := K) R_yard) := by
  refine D.ev sc__law_yard (fun ts r h => by cases h; rfl) (fun f cdv A outer s H E ts r hr h => ?_)
  cases h with
  | @mk ns hs =>
    refine ⟨_, (pss_cons (ps_set (i := 1) sc__law_yard.nd rfl (Or.inl rfl) (pe_callB ca_abs (by rfl) T.abs bt_abs (pa_cons (pe_cal c__law_cell_at hr (pa_cons (pv 0) (pa_cons pe_int pa_nil)) (hj := by first | decide | omega)) pa_nil)))
 (pss_cons (ps_set (i := 2) sc__law_yard.nd rfl (Or.inl rfl) (pe_op op_add pe_int (pe_op op_mod (pv 1) pe_int)))
 (pss_cons (ps_set (i := 3) sc__law_yard.nd rfl (Or.inl rfl) (pe_lst pa_nil))
 (pss_cons (ps_for PassesOwn.never rfl (pi_range1 rfl T.range (pa_cons (pe_op op_add pe_int (pe_op op_mod (pe_op op_fdivB (pv 1) pe_int) pe_int)) pa_nil)) (pg_name (i := 4) sc__law_yard.nd rfl (Or.inl rfl)) (pss_cons (ps_set (i := 5) sc__law_yard.nd rfl (Or.inl rfl) (pe_cal c__law_number hr (pa_cons (pv 0) (pa_cons (pe_op op_add pe_int (pv 4)) pa_nil)) (hj := by first | decide | omega)))
 (pss_cons (ps_set (i := 6) sc__law_yard.nd rfl (Or.inl rfl) pe_non)
 (pss_cons (ps_if (pt_cmpR op_gt (pv 4) pe_int (nomark _)) (pss_cons (ps_set (i := 6) sc__law_yard.nd rfl (Or.inl rfl) (pe_op op_mod (pv 5) (pv 4)))
 (pss_one (ps_set (i := 5) sc__law_yard.nd rfl (Or.inl rfl) (pe_op op_fdivB (pv 5) (pv 4))))) pss_nil)
 (pss_cons (ps_set (i := 7) sc__law_yard.nd rfl (Or.inl rfl) (pe_lst pa_nil))
 (pss_cons (ps_for PassesOwn.never rfl (pi_range1 rfl T.range (pa_cons (pv 2) pa_nil)) (pg_name (i := 8) sc__law_yard.nd rfl (Or.inl rfl)) (pss_cons (ps_asg (pe_cal c__law_amount hr (pa_cons (pv 5) pa_nil) (hj := by first | decide | omega)) (pg_tup (n := 2) rfl (pgs_cons (pg_name (i := 9) sc__law_yard.nd rfl (Or.inl rfl)) (pgs_cons (pg_name (i := 5) sc__law_yard.nd rfl (Or.inl rfl)) pgs_nil))))
 (pss_one (ps_expr (pe_bm PySem.F.plainAttrs_list PySem.F.slot_list_append PySem.F.type_list_append mt_append (pv 7) (pa_cons (pv 9) pa_nil))))))
 (pss_one (ps_expr (pe_bm PySem.F.plainAttrs_list PySem.F.slot_list_append PySem.F.type_list_append mt_append (pv 3) (pa_cons (pe_tup (pa_cons (pv 6) (pa_cons (pe_callTy ca_tuple (by rfl) T.tuple bt_tuple (pa_cons (pv 7) pa_nil)) pa_nil))) pa_nil))))))))))
 (pss_one (ps_ret (pe_tup (pa_cons (pv 2) (pa_cons (pe_callTy ca_tuple (by rfl) T.tuple bt_tuple (pa_cons (pv 3) pa_nil)) pa_nil))))))))), ?_⟩
    show EvS K _ [some _, none, none, none, none, none, none, none, none, none] _
    try dsimp only [cxOf_K, compCx_K]
    obtain ⟨t1, t8⟩ := turnsOf_ok ns
    obtain ⟨c1, c5⟩ := countOf_ok ns
    have hn := absZ_nn (cellZ ns 0)
    walk_at "ss"
    have et : 1 + absZ (cellZ ns 0) % 8 = ((turnsOf ns : Nat) : Int) := by unfold turnsOf; omega
    have ec : 1 + absZ (cellZ ns 0) / 8 % 5 = ((countOf ns : Nat) : Int) := by unfold countOf; omega
    rw [et]
    refine es_seq (es_forR (ds := rngD 0 (countOf ns)) (fun i => [some (.scr ns), some (.fz (.int (absZ (cellZ ns 0)))), some (.fz (.int (turnsOf ns : Int))), some (.ol (((List.range i).map (lineOf ns (turnsOf ns))).map eLn)), none, none, none, none, none, none]) ?ei ⟨rfl, rfl, rfl, rfl, trivial⟩ ?st ?fin)
    case ei => walk_at "eir"
    case st =>
      intro i d hd
      obtain ⟨hi, rfl⟩ := rngD_get hd
      refine ⟨_, by walk_at "g", ?_⟩
      dsimp only [List.set]
      rw [Int.zero_add]
      have nn := number_nn ns (1 + (i : Int))
      walk_at "ss"
      -- above: what holds behind the test
      refine es_mid (fun ρ' => ∃ (ab : Option Nat) (nm : Int), 0 ≤ nm ∧ lineOf ns (turnsOf ns) i = ⟨ab, (bnd nm (turnsOf ns)).1⟩ ∧
        ρ' = [some (.scr ns), some (.fz (.int (absZ (cellZ ns 0)))), some (.fz (.int (turnsOf ns : Int))), some (.ol (((List.range i).map (lineOf ns (turnsOf ns))).map eLn)), some (.fz (.int (i : Int))), some (.fz (.int nm)), some (.fz (upD ab)), none, none, none]) ?h ?z
      case h =>
        walk_at "if"
        ·
          intro c
          have c : (0 : Int) < (i : Int) := of_decide_eq_true c
          walk_at "ss"
          refine ⟨some (number ns (1 + (i : Int)) % (i : Int)).toNat, number ns (1 + (i : Int)) / (i : Int), Int.ediv_nonneg nn (by omega), ?_, ?_⟩
          · unfold lineOf
            rw [if_neg (by omega)]
          · have : (((number ns (1 + (i : Int)) % (i : Int)).toNat : Nat) : Int) = number ns (1 + (i : Int)) % (i : Int) := Int.toNat_of_nonneg (Int.emod_nonneg _ (by omega))
            simp only [upD, this]
        ·
          intro c
          have c : ¬ (0 : Int) < (i : Int) := of_decide_eq_false c
          refine es_next ⟨none, number ns (1 + (i : Int)), nn, ?_, rfl⟩
          unfold lineOf
          rw [if_pos (by omega)]
      case z =>
        rintro ρ' ⟨ab, nm, hnm, eln, rfl⟩
        walk_at "ss"
        refine es_seq (es_forR (ds := rngD 0 (turnsOf ns)) (fun j => [some (.scr ns), some (.fz (.int (absZ (cellZ ns 0)))), some (.fz (.int (turnsOf ns : Int))), some (.ol (((List.range i).map (lineOf ns (turnsOf ns))).map eLn)), some (.fz (.int (i : Int))), some (.fz (.int (bnd nm j).2)), some (.fz (upD ab)), some (.ol ((bnd nm j).1.map PyData.int)), none, none]) ?ei2 ⟨rfl, rfl, rfl, rfl, rfl, rfl, rfl, rfl, trivial⟩ ?st2 ?fin2)
        case ei2 => walk_at "eir"
        case st2 =>
          intro j d hd
          obtain ⟨hj, rfl⟩ := rngD_get hd
          obtain ⟨b1, b2, b3⟩ := bnd_ok hnm j
          refine ⟨_, by walk_at "g", ?_⟩
          dsimp only [List.set]
          walk_at "ss"
          exact ⟨rfl, rfl, rfl, rfl, rfl, rfl, rfl, by simp [bnd], trivial⟩
        case fin2 =>
          intro ρ' hf
          refine es_fgt hf ?_
          obtain ⟨b1, b2, b3⟩ := bnd_ok hnm (turnsOf ns)
          walk_at "ss"
          refine ⟨rfl, rfl, rfl, ?_, trivial⟩
          rw [List.range_succ, List.map_append, List.map_append, rngD_len]
          simp only [List.map_cons, List.map_nil, eln]
          rfl
    case fin =>
      intro ρ' hf
      refine es_fgt hf ?_
      walk_at "ret"
      rw [rngD_len]
      rfl
end
section
variable {P : Program} {w : World} {K : PySem.W.Frag} {mg : Str → Option Value} {base : Heap}
inductive R_guests : List OT → OT → Prop
  | mk {ns : List Int} {y : Yd} (hs : ScrOk ns) (ok : y.Ok) : R_guests [.scr ns, .fz (eYd y)] (.ol ((guestsOf ns y).map eGs))
theorem sc__law_guests : FnScope ["_law_script", "_law_yard_here", "_law_guests_here", "_law_k", "_law_number_here", "_law_line", "_law_first", "_law_last", "_law_want", "_law_most"] ["_law_script", "_law_yard_here"] (defScope s__law_guests) := ⟨rfl, rfl, rfl, by decide +kernel, rfl, by decide +kernel, by decide +kernel⟩
theorem ok_guests (T : Bl mg) (D : Df K mg "_law_guests" s__law_guests ["_law_script", "_law_yard_here"]) (c__law_cell_at : Cal P w K mg base "_law_cell_at" ["_law_script", "_law_k"] 1 (spO (K := K) R_cell)) (c__law_number : Cal P w K mg base "_law_number" ["_law_script", "_law_k"] 2 (spO (K := K) R_number))
    (c__law_amount : Cal P w K mg base "_law_amount" ["_law_number_here"] 1 (spO (K := K) R_amount)) : Cal P w K mg base "_law_guests" ["_law_script", "_law_yard_here"] 3 (spO (K := K) R_guests) := by
  refine D.ev sc__law_guests (fun ts r h => by cases h; rfl) (fun f cdv A outer s H E ts r hr h => ?_)
  cases h with
  | @mk ns y hs ok =>
    refine ⟨_, (pss_cons (ps_set (i := 2) sc__law_guests.nd rfl (Or.inl rfl) (pe_lst pa_nil))
 (pss_cons (ps_for PassesOwn.never rfl (pi_range1 rfl T.range (pa_cons (pe_op op_mod (pe_op op_fdivB (pe_callB ca_abs (by rfl) T.abs bt_abs (pa_cons (pe_cal c__law_cell_at hr (pa_cons (pv 0) (pa_cons pe_int pa_nil)) (hj := by first | decide | omega)) pa_nil)) pe_int) pe_int) pa_nil)) (pg_name (i := 3) sc__law_guests.nd rfl (Or.inl rfl)) (pss_cons (ps_set (i := 4) sc__law_guests.nd rfl (Or.inl rfl) (pe_cal c__law_number hr (pa_cons (pv 0) (pa_cons (pe_op op_add pe_int (pv 3)) pa_nil)) (hj := by first | decide | omega)))
 (pss_cons (ps_set (i := 5) sc__law_guests.nd rfl (Or.inl rfl) (pe_op op_mod (pv 4) (pe_callB ca_len (by rfl) T.len bt_len (pa_cons (pe_ix ix_seq (pv 1) pe_int (fun _ _ => rfl)) pa_nil))))
 (pss_cons (ps_set (i := 4) sc__law_guests.nd rfl (Or.inl rfl) (pe_op op_fdivB (pv 4) (pe_callB ca_len (by rfl) T.len bt_len (pa_cons (pe_ix ix_seq (pv 1) pe_int (fun _ _ => rfl)) pa_nil))))
 (pss_cons (ps_set (i := 6) sc__law_guests.nd rfl (Or.inl rfl) (pe_op op_mod (pv 4) (pe_ix ix_seq (pv 1) pe_int (fun _ _ => rfl))))
 (pss_cons (ps_set (i := 4) sc__law_guests.nd rfl (Or.inl rfl) (pe_op op_fdivB (pv 4) (pe_ix ix_seq (pv 1) pe_int (fun _ _ => rfl))))
 (pss_cons (ps_set (i := 7) sc__law_guests.nd rfl (Or.inl rfl) (pe_op op_add (pv 6) (pe_op op_mod (pv 4) (pe_op op_sub (pe_ix ix_seq (pv 1) pe_int (fun _ _ => rfl)) (pv 6)))))
 (pss_cons (ps_set (i := 4) sc__law_guests.nd rfl (Or.inl rfl) (pe_op op_fdivB (pv 4) (pe_op op_sub (pe_ix ix_seq (pv 1) pe_int (fun _ _ => rfl)) (pv 6))))
 (pss_cons (ps_asg (pe_cal c__law_amount hr (pa_cons (pv 4) pa_nil) (hj := by first | decide | omega)) (pg_tup (n := 2) rfl (pgs_cons (pg_name (i := 8) sc__law_guests.nd rfl (Or.inl rfl)) (pgs_cons (pg_name (i := 4) sc__law_guests.nd rfl (Or.inl rfl)) pgs_nil))))
 (pss_cons (ps_asg (pe_cal c__law_amount hr (pa_cons (pv 4) pa_nil) (hj := by first | decide | omega)) (pg_tup (n := 2) rfl (pgs_cons (pg_name (i := 9) sc__law_guests.nd rfl (Or.inl rfl)) (pgs_cons (pg_name (i := 4) sc__law_guests.nd rfl (Or.inl rfl)) pgs_nil))))
 (pss_one (ps_expr (pe_bm PySem.F.plainAttrs_list PySem.F.slot_list_append PySem.F.type_list_append mt_append (pv 2) (pa_cons (pe_tup (pa_cons (pv 5) (pa_cons (pv 6) (pa_cons (pv 7) (pa_cons (pe_callB (ca_max rfl) (by rfl) T.max bt_max (pa_cons pe_int (pa_cons (pv 8) pa_nil))) (pa_cons (pe_callB (ca_max rfl) (by rfl) T.max bt_max (pa_cons pe_int (pa_cons (pv 9) pa_nil))) pa_nil)))))) pa_nil))))))))))))))
 (pss_one (ps_ret (pv 2))))), ?_⟩
    show EvS K _ [some _, some _, none, none, none, none, none, none, none, none] _
    try dsimp only [cxOf_K, compCx_K]
    have l1 := ok.l1
    have l5 := ok.l5
    have t1 := ok.t1
    have t8 := ok.t8
    have hn := absZ_nn (cellZ ns 0)
    have gc : guestCount ns ≤ 8 := by unfold guestCount; omega
    have eg : guestCount ns = (absZ (cellZ ns 0) / 40 % 9).toNat := rfl
    walk_at "ss"
    refine es_seq (es_forR (ds := rngD 0 (guestCount ns)) (fun i => [some (.scr ns), some (.fz (eYd y)), some (.ol (((List.range i).map (guestOf ns y)).map eGs)), none, none, none, none, none, none, none]) ?ei ⟨rfl, rfl, rfl, trivial⟩ ?st ?fin)
    case ei => walk_at "eir"
    case st =>
      intro i d hd
      obtain ⟨hi, rfl⟩ := rngD_get hd
      refine ⟨_, by walk_at "g", ?_⟩
      dsimp only [List.set]
      rw [Int.zero_add]
      obtain ⟨f0, f1⟩ := gf_ok ok ns i
      obtain ⟨e0, e1⟩ := gl_ok ok ns i
      obtain ⟨n0, n1, n2, n3⟩ := gn_nn ok ns i
      obtain ⟨a1, a2, a3⟩ := amount_ok n3
      obtain ⟨b1, b2, b3⟩ := amount_ok a3
      have lp : (0 : Int) < (((y.ls.map eLn).length : Nat) : Int) := by rw [List.length_map]; omega
      have lp2 : (((y.ls.map eLn).length : Nat) : Int) ≤ 5 := by rw [List.length_map]; omega
      have tp : (0 : Int) < (y.T : Int) := by omega
      have fp : (0 : Int) < (y.T : Int) - gf ns y i := by omega
      walk_at "s1"
      walk_at "s1"
      walk_at "s1"
      rw [List.length_map]
      change EvS K _ [_, _, _, _, some (.fz (.int (gn1 ns y i))), some (.fz (.int (gn0 ns i % (y.ls.length : Int)))), _, _, _, _] _
      walk_at "s1"
      walk_at "s1"
      change EvS K _ [_, _, _, _, some (.fz (.int (gn2 ns y i))), _, some (.fz (.int (gf ns y i))), _, _, _] _
      walk_at "s1"
      walk_at "s1"
      change EvS K _ [_, _, _, _, some (.fz (.int (gn3 ns y i))), _, _, some (.fz (.int (gl ns y i))), _, _] _
      walk_at "ss"
      refine ⟨rfl, rfl, ?_, trivial⟩
      rw [List.range_succ, List.map_append, List.map_append]
      simp only [List.map_cons, List.map_nil]
      have c1 := Int.emod_nonneg (gn0 ns i) (show (y.ls.length : Int) ≠ 0 by omega)
      have hg : eGs (guestOf ns y i) = .tuple [.int (gn0 ns i % (y.ls.length : Int)), .int (gf ns y i), .int (gl ns y i), .int (max1 (amount (gn3 ns y i)).1), .int (max1 (amount (amount (gn3 ns y i)).2).1)] := by
        unfold eGs guestOf
        dsimp only
        rw [Int.toNat_of_nonneg c1, Int.toNat_of_nonneg f0, Int.toNat_of_nonneg (by omega)]
      have m1 : ∀ i : Int, max 1 i = max1 i := fun i => by unfold max1; split <;> omega
      rw [hg, ← m1, ← m1]
    case fin =>
      intro ρ' hf
      refine es_fgt hf ?_
      walk_at "ret"
      rw [rngD_len]
      rfl
end
section
variable {P : Program} {w : World} {K : PySem.W.Frag} {mg : Str → Option Value} {base : Heap}
/-! ### texts -/
def glue (sep a : Str) (xs : List Str) : Str := xs.foldl (fun t x => t ++ sep ++ x) a
theorem glue_cons (sep a x : Str) (xs : List Str) : glue sep a (x :: xs) = glue sep (a ++ sep ++ x) xs := rfl
theorem glue_snoc (sep a x : Str) (xs : List Str) : glue sep a (xs ++ [x]) = glue sep a xs ++ sep ++ x := by
  unfold glue
  rw [List.foldl_append]
  rfl
theorem glue_shift (sep p : Str) : ∀ (xs : List Str) (a : Str), glue sep (p ++ a) xs = p ++ glue sep a xs
  | [], _ => rfl
  | x :: xs, a => by
    rw [glue_cons, glue_cons, ← glue_shift sep p xs]
    simp only [Str.append_assoc]
theorem join_glue (sep : Str) : ∀ (xs : List Str) (a : Str), Str.join sep (a :: xs) = glue sep a xs
  | [], _ => rfl
  | x :: xs, a => by
    show a ++ sep ++ Str.join sep (x :: xs) = _
    rw [glue_cons, join_glue sep xs, glue_shift]
theorem glue_len {sep : Str} {B : Nat} : ∀ (xs : List Str) (a : Str), (∀ x ∈ xs, x.length ≤ B) → (glue sep a xs).length ≤ a.length + xs.length * (sep.length + B)
  | [], a, _ => by simp [glue]
  | x :: xs, a, h => by
    have h1 := glue_len (sep := sep) xs (a ++ sep ++ x) fun z hz => h z (List.mem_cons_of_mem _ hz)
    have h2 := h x List.mem_cons_self
    rw [glue_cons]
    rw [Str.length_append, Str.length_append] at h1
    rw [List.length_cons, Nat.succ_mul]
    omega
theorem sum_len {B : Nat} : ∀ (xs : List Str), (∀ x ∈ xs, x.length ≤ B) → (xs.map (·.length)).sum ≤ xs.length * B
  | [], _ => by simp
  | x :: xs, h => by
    have h1 := sum_len xs fun z hz => h z (List.mem_cons_of_mem _ hz)
    have h2 := h x List.mem_cons_self
    rw [List.map_cons, List.sum_cons, List.length_cons, Nat.succ_mul]
    omega
theorem join_ok {B n : Nat} {xs : List Str} {sep : Str} (h : ∀ x ∈ xs, x.length ≤ B) (hs : sep.length ≤ 1) (hn : xs.length ≤ n) (hB : n * (B + 1) ≤ 16777216) : (xs.map (·.length)).sum + xs.length * sep.length ≤ 16777216 := by
  have h1 := sum_len xs h
  have h2 : xs.length * sep.length ≤ xs.length * 1 := Nat.mul_le_mul_left _ hs
  have h3 : xs.length * (B + 1) ≤ n * (B + 1) := Nat.mul_le_mul_right _ hn
  rw [Nat.mul_add] at h3
  omega
def nS (i : Int) : Str := Str.ofString (toString i)
def sD : PyData → Str
  | .int i => nS i
  | .str x => x
  | _ => Str.empty
inductive SOk : PyData → Prop
  | int {i : Int} (h0 : 0 ≤ i) (h1 : i < 10 ^ 300) : SOk (.int i)
  | str {x : Str} (h : x.length ≤ 10) : SOk (.str x)
theorem log300 {i : Int} (h0 : 0 ≤ i) (h1 : i < 10 ^ 300) : i.natAbs.log2 < 1920 := by
  by_cases e : i.natAbs = 0
  · rw [e]
    decide
  · rw [Nat.log2_lt e]
    have h2 : (i.natAbs : Int) < ((2 ^ 1920 : Nat) : Int) := by
      have : (i.natAbs : Int) = i := Int.natAbs_of_nonneg h0
      rw [this]
      exact Int.lt_trans h1 (by decide +kernel)
    exact Int.ofNat_lt.mp h2
theorem nS_len {i : Int} (h0 : 0 ≤ i) (h1 : i < 10 ^ 300) : (nS i).length ≤ 300 := PyProof.Rows.toString_length_le h0 (by decide) h1
theorem sD_len {d : PyData} (h : SOk d) : (sD d).length ≤ 300 := by
  cases h with
  | int h0 h1 => exact nS_len h0 h1
  | str h => exact Nat.le_trans h (by decide)
def rowS (w : Str) (ds : List PyData) : Str := glue " " w (ds.map sD)
theorem rowS_len {w : Str} {ds : List PyData} (hw : w.length ≤ 10) (hn : ds.length ≤ 10) (h : ∀ d ∈ ds, SOk d) : (rowS w ds).length ≤ 3100 := by
  have h1 := glue_len (sep := " ") (B := 300) (ds.map sD) w fun x hx => by
    obtain ⟨d, hd, rfl⟩ := List.mem_map.mp hx
    exact sD_len (h d hd)
  have h2 : (ds.map sD).length * (Str.length " " + 300) ≤ 10 * 301 := by
    rw [List.length_map]
    exact Nat.mul_le_mul hn (by decide)
  unfold rowS
  omega
def upT : Option Nat → PyData
  | none => .str "-"
  | some a => .int (a : Int)
def lnD (l : Ln) : List PyData := upT l.up :: l.bs.map PyData.int
def lineS (l : Ln) : Str := rowS "line" (lnD l)
def gsD (g : Gs) : List PyData := [.int (g.line : Int), .int (g.first : Int), .int (g.last : Int), .int g.want, .int g.most]
def guestS (g : Gs) : Str := rowS "guest" (gsD g)
structure LnT (l : Ln) : Prop where
  up : ∀ a, l.up = some a → a ≤ 8
  ln : l.bs.length ≤ 8
  bs : ∀ b ∈ l.bs, 0 ≤ b ∧ b < 10 ^ 300
structure GsT (g : Gs) : Prop where
  line : g.line ≤ 8
  first : g.first ≤ 8
  last : g.last ≤ 8
  w0 : 0 ≤ g.want
  w : g.want < 10 ^ 300
  m0 : 0 ≤ g.most
  m : g.most < 10 ^ 300
theorem small300 {a : Nat} (h : a ≤ 8) : (a : Int) < 10 ^ 300 := Int.lt_of_le_of_lt (show (a : Int) ≤ 8 by omega) (by decide +kernel)
theorem LnT.ok {l : Ln} (h : LnT l) : ∀ d ∈ lnD l, SOk d := fun d hd => by
  rcases List.mem_cons.mp hd with rfl | hd
  · cases e : l.up with
    | none => exact .str (by decide)
    | some a => exact .int (by omega) (small300 (h.up a e))
  · obtain ⟨b, hb, rfl⟩ := List.mem_map.mp hd
    exact .int (h.bs b hb).1 (h.bs b hb).2
theorem GsT.ok {g : Gs} (h : GsT g) : ∀ d ∈ gsD g, SOk d := fun d hd => by
  simp only [gsD, List.mem_cons, List.not_mem_nil, or_false] at hd
  rcases hd with rfl | rfl | rfl | rfl | rfl
  · exact .int (by omega) (small300 h.line)
  · exact .int (by omega) (small300 h.first)
  · exact .int (by omega) (small300 h.last)
  · exact .int h.w0 h.w
  · exact .int h.m0 h.m
theorem lnD_len {l : Ln} (h : LnT l) : (lnD l).length ≤ 9 := by
  have := h.ln
  simp [lnD]
  omega
theorem lineS_len {l : Ln} (h : LnT l) : (lineS l).length ≤ 3100 := rowS_len (by decide) (Nat.le_trans (lnD_len h) (by decide)) h.ok
theorem guestS_len {g : Gs} (h : GsT g) : (guestS g).length ≤ 3100 := rowS_len (by decide) (by simp [gsD]) h.ok
structure YdT (y : Yd) : Prop where
  t : y.T ≤ 8
  n : y.ls.length ≤ 5
  ls : ∀ l ∈ y.ls, LnT l
def yardS (y : Yd) : Str := rowS "yard" [.int (y.T : Int)]
theorem yardS_len {y : Yd} (h : YdT y) : (yardS y).length ≤ 3100 := rowS_len (by decide) (by simp) fun d hd => by
  rcases List.mem_cons.mp hd with rfl | hd
  · exact .int (by omega) (small300 h.t)
  · cases hd
def writtenS (y : Yd) (gs : List Gs) : Str := glue "\n" (yardS y) (y.ls.map lineS ++ gs.map guestS)
theorem dec_vstr {x y : Str} : decide (V.str x = V.str y) = decide (x = y) := by
  by_cases h : x = y
  · simp [h]
  · simp [h]
theorem ev_eqS {ρ : PEnv} {ta tb : TE} {x y : Str} (ha : EvE K ta ρ (.str x)) (hb : EvE K tb ρ (.str y)) : EvE K (tOp rEq ta tb) ρ (.bool (decide (x = y))) := by
  rw [← dec_vstr]
  exact ev_eqF ha hb rfl rfl fun H Q q => ⟨rfl, q⟩
theorem ev_neS {ρ : PEnv} {ta tb : TE} {x y : Str} (ha : EvE K ta ρ (.str x)) (hb : EvE K tb ρ (.str y)) : EvE K (tOp rNe ta tb) ρ (.bool (!decide (x = y))) := by
  rw [← dec_vstr]
  exact ev_neF ha hb rfl rfl fun H Q q => ⟨rfl, q⟩
end
section
variable {P : Program} {w : World} {K : PySem.W.Frag} {mg : Str → Option Value} {base : Heap}
inductive R_rowof : List OT → OT → Prop
  | lst {wd : Str} {ds : List PyData} (hw : wd.length ≤ 10) (hn : ds.length ≤ 10) (h : ∀ d ∈ ds, SOk d) : R_rowof [.fz (.str wd), .fz (.list ds)] (.fz (.str (rowS wd ds)))
  | tup {wd : Str} {ds : List PyData} (hw : wd.length ≤ 10) (hn : ds.length ≤ 10) (h : ∀ d ∈ ds, SOk d) : R_rowof [.fz (.str wd), .fz (.tuple ds)] (.fz (.str (rowS wd ds)))
theorem sc_row_of : FnScope ["word", "numbers"] ["word", "numbers"] (defScope s_row_of) := ⟨rfl, rfl, rfl, by decide +kernel, rfl, by decide +kernel, by decide +kernel⟩
theorem row_fit {wd : Str} {ds : List PyData} (hw : wd.length ≤ 10) (hn : ds.length ≤ 10) (h : ∀ d ∈ ds, SOk d) : ((wd :: ds.map sD).map (·.length)).sum + (wd :: ds.map sD).length * Str.length " " ≤ 16777216 :=
  join_ok (B := 300) (n := 11) (fun x hx => by
    rcases List.mem_cons.mp hx with rfl | hx
    · exact Nat.le_trans hw (by decide)
    · obtain ⟨d, hd, rfl⟩ := List.mem_map.mp hx
      exact sD_len (h d hd)) (by decide) (by simp; omega) (by decide)
theorem ev_strD {ρ : PEnv} {ta : TE} {d : PyData} (h : EvE K ta ρ d) (hd : SOk d) : EvE K (tCB rStrOf (tCons ta tNil)) ρ (.str (sD d)) := by
  cases hd with
  | int h0 h1 => exact ev_strI h (log300 h0 h1)
  | str _ => exact ev_strS h
theorem ok_rowof (T : Bl mg) (D : Df K mg "row_of" s_row_of ["word", "numbers"]) : Cal P w K mg base "row_of" ["word", "numbers"] 1 (spO (K := K) R_rowof) := by
  refine D.ev sc_row_of (fun ts r h => by cases h <;> rfl) (fun f cdv A outer s H E ts r hr h => ?_)
  cases h with
  | @lst wd ds hw hn hd =>
    refine ⟨_, (pss_one (ps_ret (pe_bm PySem.F.plainAttrs_str PySem.F.slot_str_join PySem.F.type_str_join mt_join pe_str (pa_cons (pe_op op_cat (pe_lst (pa_cons (pv 0) pa_nil)) (pe_lc (NX := ["word", "numbers"]) (sc := defScope s_row_of) (N := ["number"]) (f := [none]) rfl (by decide +kernel) rfl rfl (pi_seq (pv 1)) (fun _ => (pg_name (i := 0) (show (["number"] : List Str).Nodup by decide +kernel) rfl (Or.inl rfl))) (fun _ => tg_name) (fun _ => pcs_nil) (fun _ => (pe_callTy ca_str (by rfl) T.str bt_str (pa_cons (pv 0) pa_nil))))) pa_nil)))), ?_⟩
    show EvS K _ [some _, some _] _
    try dsimp only [cxOf_K, compCx_K]
    refine es_retE (ev_join (ys := wd :: ds.map sD) ev_str (EvE.cast (EvO.fz (eo_cat (as := [.str wd]) (EvO.fz (eo_lst (ea_fzs (ev_var rfl) ea_nil0) (Nat.le_of_ble_eq_true rfl))) (EvO.fz (eo_lc (xs := ds) (enc := id) (h := fun d => .str (sD d)) ?ei (by omega) ?el)) (by simp; omega))) ?cs) (row_fit hw hn hd)) ?_
    case ei => exact EvI.cast (ei_seqL (ev_var rfl)) (List.map_id ds).symm
    case el =>
      intro d hm c
      refine ⟨_, g_name, ?_⟩
      exact ev_strD (ev_var rfl) (hd d hm)
    case cs =>
      rw [List.map_cons, List.map_map]
      rfl
    show _ = _
    rw [join_glue]
    rfl
  | @tup wd ds hw hn hd =>
    refine ⟨_, (pss_one (ps_ret (pe_bm PySem.F.plainAttrs_str PySem.F.slot_str_join PySem.F.type_str_join mt_join pe_str (pa_cons (pe_op op_cat (pe_lst (pa_cons (pv 0) pa_nil)) (pe_lc (NX := ["word", "numbers"]) (sc := defScope s_row_of) (N := ["number"]) (f := [none]) rfl (by decide +kernel) rfl rfl (pi_seq (pv 1)) (fun _ => (pg_name (i := 0) (show (["number"] : List Str).Nodup by decide +kernel) rfl (Or.inl rfl))) (fun _ => tg_name) (fun _ => pcs_nil) (fun _ => (pe_callTy ca_str (by rfl) T.str bt_str (pa_cons (pv 0) pa_nil))))) pa_nil)))), ?_⟩
    show EvS K _ [some _, some _] _
    try dsimp only [cxOf_K, compCx_K]
    refine es_retE (ev_join (ys := wd :: ds.map sD) ev_str (EvE.cast (EvO.fz (eo_cat (as := [.str wd]) (EvO.fz (eo_lst (ea_fzs (ev_var rfl) ea_nil0) (Nat.le_of_ble_eq_true rfl))) (EvO.fz (eo_lc (xs := ds) (enc := id) (h := fun d => .str (sD d)) ?ei (by omega) ?el)) (by simp; omega))) ?cs) (row_fit hw hn hd)) ?_
    case ei => exact EvI.cast (ei_seqT (ev_var rfl)) (List.map_id ds).symm
    case el =>
      intro d hm c
      refine ⟨_, g_name, ?_⟩
      exact ev_strD (ev_var rfl) (hd d hm)
    case cs =>
      rw [List.map_cons, List.map_map]
      rfl
    show _ = _
    rw [join_glue]
    rfl
inductive R_linerow : List OT → OT → Prop
  | mk {l : Ln} (h : LnT l) : R_linerow [.fz (eLn l)] (.fz (.str (lineS l)))
theorem sc_line_row : FnScope ["line", "above"] ["line"] (defScope s_line_row) := ⟨rfl, rfl, rfl, by decide +kernel, rfl, by decide +kernel, by decide +kernel⟩
theorem ok_linerow (T : Bl mg) (D : Df K mg "line_row" s_line_row ["line"]) (c_row_of : Cal P w K mg base "row_of" ["word", "numbers"] 1 (spO (K := K) R_rowof)) : Cal P w K mg base "line_row" ["line"] 2 (spO (K := K) R_linerow) := by
  refine D.ev sc_line_row (fun ts r h => by cases h; rfl) (fun f cdv A outer s H E ts r hr h => ?_)
  cases h with
  | @mk l hl =>
    refine ⟨_, (pss_cons (ps_set (i := 1) sc_line_row.nd rfl (Or.inl rfl) (pe_ifExp (pt_cmp (pc_isN (pe_ix ix_seq (pv 0) pe_int (fun _ _ => rfl)))) pe_str (pe_ix ix_seq (pv 0) pe_int (fun _ _ => rfl))))
 (pss_one (ps_ret (pe_cal c_row_of hr (pa_cons pe_str (pa_cons (pe_op op_catT (pe_tup (pa_cons (pv 1) pa_nil)) (pe_ix ix_seq (pv 0) pe_int (fun _ _ => rfl))) pa_nil)) (hj := by first | decide | omega))))), ?_⟩
    show EvS K _ [some _, none] _
    try dsimp only [cxOf_K, compCx_K]
    refine es_seq (es_setE (d := upT l.up) (ev_ite (b := l.up.isNone) ?c ?a ?b) ?_)
    case c =>
      cases e : l.up with
      | none => apply EvT.cast; walk_at "et"; rw [e]; rfl
      | some a => apply EvT.cast; walk_at "et"; rw [e]; rfl
    case a =>
      intro e
      cases e2 : l.up with
      | none => exact ev_str
      | some a => rw [e2] at e; cases e
    case b =>
      intro e
      cases e2 : l.up with
      | none => rw [e2] at e; cases e
      | some a => apply EvE.cast; walk_at "ev"; rw [e2]; rfl
    dsimp only [List.set]
    have n9 := hl.ln
    refine es_retE (ev_call (ts := [.fz (.str "line"), .fz (.tuple (lnD l))]) (ea_cons ev_str (ea_cons (ev_catT (as := [upT l.up]) (ev_tup (ea_fzs (ev_var rfl) ea_nil0) (Nat.le_of_ble_eq_true rfl)) (by walk_at "evd") (List.cons_ne_nil _ _) (by simp; omega)) ea_nil)) (.tup (by decide) (Nat.le_trans (lnD_len hl) (by decide)) hl.ok)) rfl
inductive R_written : List OT → OT → Prop
  | mk {y : Yd} {gs : List Gs} (hy : YdT y) (hg : ∀ g ∈ gs, GsT g) (hn : gs.length ≤ 8) : R_written [.fz (eYd y), .fz (.list (gs.map eGs))] (.fz (.str (writtenS y gs)))
theorem sc_written : FnScope ["yard", "guests", "rows"] ["yard", "guests"] (defScope s_written) := ⟨rfl, rfl, rfl, by decide +kernel, rfl, by decide +kernel, by decide +kernel⟩
theorem ok_written (T : Bl mg) (D : Df K mg "written" s_written ["yard", "guests"]) (c_row_of : Cal P w K mg base "row_of" ["word", "numbers"] 1 (spO (K := K) R_rowof)) (c_line_row : Cal P w K mg base "line_row" ["line"] 2 (spO (K := K) R_linerow)) : Cal P w K mg base "written" ["yard", "guests"] 3 (spO (K := K) R_written) := by
  refine D.ev sc_written (fun ts r h => by cases h; rfl) (fun f cdv A outer s H E ts r hr h => ?_)
  cases h with
  | @mk y gs hy hg hn =>
    refine ⟨_, (pss_cons (ps_set (i := 2) sc_written.nd rfl (Or.inl rfl) (pe_lst (pa_cons (pe_cal c_row_of hr (pa_cons pe_str (pa_cons (pe_lst (pa_cons (pe_ix ix_seq (pv 0) pe_int (fun _ _ => rfl)) pa_nil)) pa_nil)) (hj := by first | decide | omega)) pa_nil)))
 (pss_cons (ps_expr (pe_bm PySem.F.plainAttrs_list PySem.F.slot_list_extend PySem.F.type_list_extend mt_extend (pv 2) (pa_cons (pe_lc (NX := ["yard", "guests", "rows"]) (sc := defScope s_written) (N := ["line"]) (f := [none]) rfl (by decide +kernel) rfl rfl (pi_tup (pe_ix ix_seq (pv 0) pe_int (fun _ _ => rfl))) (fun _ => (pg_name (i := 0) (show (["line"] : List Str).Nodup by decide +kernel) rfl (Or.inl rfl))) (fun _ => tg_name) (fun _ => pcs_nil) (fun _ => (pe_cal c_line_row hr (pa_cons (pv 0) pa_nil) (hj := by first | decide | omega)))) pa_nil)))
 (pss_cons (ps_expr (pe_bm PySem.F.plainAttrs_list PySem.F.slot_list_extend PySem.F.type_list_extend mt_extend (pv 2) (pa_cons (pe_lc (NX := ["yard", "guests", "rows"]) (sc := defScope s_written) (N := ["guest"]) (f := [none]) rfl (by decide +kernel) rfl rfl (pi_list (pv 1)) (fun _ => (pg_name (i := 0) (show (["guest"] : List Str).Nodup by decide +kernel) rfl (Or.inl rfl))) (fun _ => tg_name) (fun _ => pcs_nil) (fun _ => (pe_cal c_row_of hr (pa_cons pe_str (pa_cons (pv 0) pa_nil)) (hj := by first | decide | omega)))) pa_nil)))
 (pss_one (ps_ret (pe_bm PySem.F.plainAttrs_str PySem.F.slot_str_join PySem.F.type_str_join mt_join pe_str (pa_cons (pv 2) pa_nil))))))), ?_⟩
    show EvS K _ [some _, some _, none] _
    try dsimp only [cxOf_K, compCx_K]
    have n5 := hy.n
    refine es_seq (es_set (r := .ol [.str (yardS y)]) (eo_lst (ea_fzs (ev_call (ts := [.fz (.str "yard"), .fz (.list [.int (y.T : Int)])]) (ea_cons ev_str (ea_cons (EvO.fz (eo_lst (ea_fzs (by walk_at "ev") ea_nil0) (Nat.le_of_ble_eq_true rfl))) ea_nil)) (.lst (by decide) (by simp) ?sk)) ea_nil0) (Nat.le_of_ble_eq_true rfl)) ?_)
    case sk =>
      intro d hd
      rcases List.mem_cons.mp hd with rfl | hd
      · exact .int (by omega) (small300 hy.t)
      · cases hd
    dsimp only [List.set]
    refine es_seq (es_extend (es := y.ls.map fun l => .str (lineS l)) rfl (EvO.fz (eo_lc (xs := y.ls) (enc := eLn) (h := fun l => .str (lineS l)) ?ei (by omega) ?el)) (by simp; omega) ?_)
    case ei => walk_at "ei"
    case el =>
      intro l hm c
      refine ⟨_, g_name, ?_⟩
      exact ev_call (ea_cons (ev_var rfl) ea_nil) (R_linerow.mk (hy.ls l hm))
    dsimp only [List.set]
    refine es_seq (es_extend (es := gs.map fun g => .str (guestS g)) rfl (EvO.fz (eo_lc (xs := gs) (enc := eGs) (h := fun g => .str (guestS g)) ?ei2 (by omega) ?el2)) (by simp; omega) ?_)
    case ei2 => walk_at "ei"
    case el2 =>
      intro g hm c
      refine ⟨_, g_name, ?_⟩
      exact ev_call (ts := [.fz (.str "guest"), .fz (.tuple (gsD g))]) (ea_cons ev_str (ea_cons (ev_var rfl) ea_nil)) (R_rowof.tup (by decide) (by simp [gsD]) (hg g hm).ok)
    dsimp only [List.set]
    refine es_fz 2 rfl ?_
    dsimp only [List.set]
    refine es_retE (ev_join (ys := yardS y :: (y.ls.map lineS ++ gs.map guestS)) ev_str (EvE.cast (ev_var rfl) ?cs) ?ln) ?_
    case cs =>
      rw [List.map_cons, List.map_append, List.map_map, List.map_map]
      rfl
    case ln =>
      refine join_ok (B := 3100) (n := 14) (fun x hx => ?_) (by decide) (by simp; omega) (by decide)
      rcases List.mem_cons.mp hx with rfl | hx
      · exact yardS_len hy
      · rcases List.mem_append.mp hx with hx | hx
        · obtain ⟨l, hl, rfl⟩ := List.mem_map.mp hx
          exact lineS_len (hy.ls l hl)
        · obtain ⟨g, hl, rfl⟩ := List.mem_map.mp hx
          exact guestS_len (hg g hl)
    show _ = _
    rw [join_glue]
    rfl
end
section
variable {P : Program} {w : World} {K : PySem.W.Frag} {mg : Str → Option Value} {base : Heap}
theorem line_glue (t : Str) (l : Ln) : glue " " (t ++ "\nline " ++ sD (upT l.up)) (l.bs.map nS) = t ++ "\n" ++ lineS l := by
  have e : lineS l = glue " " ("line" ++ " " ++ sD (upT l.up)) (l.bs.map nS) := by
    unfold lineS rowS lnD
    rw [List.map_cons, glue_cons, List.map_map]
    rfl
  rw [e, ← glue_shift]
  have e2 : (Str.ofString "\nline ") = Str.ofString "\n" ++ (Str.ofString "line" ++ Str.ofString " ") := by decide +kernel
  rw [e2]
  simp only [Str.append_assoc]
theorem guest_glue (t : Str) (g : Gs) : glue " " (t ++ "\nguest") ((gsD g).map sD) = t ++ "\n" ++ guestS g := by
  unfold guestS rowS
  rw [← glue_shift]
  have e2 : (Str.ofString "\nguest") = Str.ofString "\n" ++ Str.ofString "guest" := by decide +kernel
  rw [e2]
  simp only [Str.append_assoc]
theorem yard_glue (y : Yd) : Str.ofString "yard " ++ nS (y.T : Int) = yardS y := by
  have e2 : Str.ofString "yard " = Str.ofString "yard" ++ Str.ofString " " := by decide +kernel
  rw [e2]
  rfl
theorem rows_len {y : Yd} {rs : List Str} (h : YdT y) (hr : ∀ r ∈ rs, r.length ≤ 3100) (hn : rs.length ≤ 13) : (glue "\n" (yardS y) rs).length ≤ 43500 := by
  have h1 := glue_len (sep := "\n") (B := 3100) rs (yardS y) hr
  have h2 := yardS_len h
  have h3 : rs.length * (Str.length "\n" + 3100) ≤ 13 * 3101 := Nat.mul_le_mul hn (by decide)
  omega
theorem part_len {t : Str} {xs : List Str} (ht : t.length ≤ 44000) (hx : ∀ x ∈ xs, x.length ≤ 300) (hn : xs.length ≤ 8) : (glue " " t xs).length ≤ 47000 := by
  have h1 := glue_len (sep := " ") (B := 300) xs t hx
  have h3 : xs.length * (Str.length " " + 300) ≤ 8 * 301 := Nat.mul_le_mul hn (by decide)
  omega
theorem add_fit {x z : Str} (h1 : x.length ≤ 50000) (h2 : z.length ≤ 5000) : x.length + z.length ≤ sizeLine := by
  rw [sizeLine_eq]
  omega
theorem take_sub {α : Type} {l : List α} {i : Nat} {p : α → Prop} (h : ∀ x ∈ l, p x) : ∀ x ∈ l.take i, p x := fun x hx => h x (List.mem_of_mem_take hx)
theorem map_sub {α β : Type} {l : List α} {f : α → β} {p : β → Prop} (h : ∀ x ∈ l, p (f x)) : ∀ x ∈ l.map f, p x := fun x hx => by
  obtain ⟨z, hz, rfl⟩ := List.mem_map.mp hx
  exact h z hz
theorem app_sub {α : Type} {l m : List α} {p : α → Prop} (h : ∀ x ∈ l, p x) (h2 : ∀ x ∈ m, p x) : ∀ x ∈ l ++ m, p x := fun x hx => by
  rcases List.mem_append.mp hx with hx | hx
  · exact h x hx
  · exact h2 x hx
inductive R_ltext : List OT → OT → Prop
  | mk {y : Yd} {gs : List Gs} (hy : YdT y) (hg : ∀ g ∈ gs, GsT g) (hn : gs.length ≤ 8) : R_ltext [.fz (eYd y), .fz (.list (gs.map eGs))] (.fz (.str (writtenS y gs)))
theorem sc__law_text : FnScope ["_law_yard_here", "_law_guests_here", "_law_text_here", "_law_above", "_law_bounds", "_law_bound", "_law_guest", "_law_number_here"] ["_law_yard_here", "_law_guests_here"] (defScope s__law_text) := ⟨rfl, rfl, rfl, by decide +kernel, rfl, by decide +kernel, by decide +kernel⟩
theorem ok_ltext (T : Bl mg) (D : Df K mg "_law_text" s__law_text ["_law_yard_here", "_law_guests_here"]) : Cal P w K mg base "_law_text" ["_law_yard_here", "_law_guests_here"] 1 (spO (K := K) R_ltext) := by
  refine D.ev sc__law_text (fun ts r h => by cases h; rfl) (fun f cdv A outer s H E ts r hr h => ?_)
  cases h with
  | @mk y gs hy hg hn =>
    refine ⟨_, (pss_cons (ps_set (i := 2) sc__law_text.nd rfl (Or.inl rfl) (pe_op op_addS pe_str (pe_callTy ca_str (by rfl) T.str bt_str (pa_cons (pe_ix ix_seq (pv 0) pe_int (fun _ _ => rfl)) pa_nil))))
 (pss_cons (ps_for PassesOwn.never rfl (pi_tup (pe_ix ix_seq (pv 0) pe_int (fun _ _ => rfl))) (pg_tup (n := 2) rfl (pgs_cons (pg_name (i := 3) sc__law_text.nd rfl (Or.inl rfl)) (pgs_cons (pg_name (i := 4) sc__law_text.nd rfl (Or.inl rfl)) pgs_nil))) (pss_cons (ps_set (i := 2) sc__law_text.nd rfl (Or.inl rfl) (pe_op op_addS (pe_op op_addS (pv 2) pe_str) (pe_ix ix_seq (pe_lst (pa_cons (pe_callTy ca_str (by rfl) T.str bt_str (pa_cons (pv 3) pa_nil)) (pa_cons pe_str pa_nil))) (pe_callTy ca_int (by rfl) T.int bt_int (pa_cons (pe_cmp (pc_isN (pv 3))) pa_nil)) (fun _ _ => rfl))))
 (pss_one (ps_for PassesOwn.never rfl (pi_tup (pv 4)) (pg_name (i := 5) sc__law_text.nd rfl (Or.inl rfl)) (pss_one (ps_set (i := 2) sc__law_text.nd rfl (Or.inl rfl) (pe_op op_addS (pe_op op_addS (pv 2) pe_str) (pe_callTy ca_str (by rfl) T.str bt_str (pa_cons (pv 5) pa_nil)))))))))
 (pss_cons (ps_for PassesOwn.never rfl (pi_list (pv 1)) (pg_name (i := 6) sc__law_text.nd rfl (Or.inl rfl)) (pss_cons (ps_set (i := 2) sc__law_text.nd rfl (Or.inl rfl) (pe_op op_addS (pv 2) pe_str))
 (pss_one (ps_for PassesOwn.never rfl (pi_tup (pv 6)) (pg_name (i := 7) sc__law_text.nd rfl (Or.inl rfl)) (pss_one (ps_set (i := 2) sc__law_text.nd rfl (Or.inl rfl) (pe_op op_addS (pe_op op_addS (pv 2) pe_str) (pe_callTy ca_str (by rfl) T.str bt_str (pa_cons (pv 7) pa_nil)))))))))
 (pss_one (ps_ret (pv 2)))))), ?_⟩
    show EvS K _ [some _, some _, none, none, none, none, none, none] _
    try dsimp only [cxOf_K, compCx_K]
    have n5 := hy.n
    refine es_seq (es_setE (d := .str (yardS y)) (EvE.cast (ev_addS ev_str (ev_strI (i := (y.T : Int)) (by walk_at "ev") (log300 (by omega) (small300 hy.t))) (add_fit (Nat.le_of_ble_eq_true rfl) (Nat.le_trans (nS_len (by omega) (small300 hy.t)) (by decide)))) (congrArg PyData.str (yard_glue y))) ?_)
    dsimp only [List.set]
    refine es_seq (es_forR (ds := y.ls.map eLn) (fun i => [some (.fz (eYd y)), some (.fz (.list (gs.map eGs))), some (.fz (.str (glue "\n" (yardS y) ((y.ls.take i).map lineS)))), none, none, none, none, none]) ?ei ⟨rfl, rfl, rfl, trivial⟩ ?st ?fin)
    case ei => walk_at "ei"
    case st =>
      intro i d hd
      have hi : i < y.ls.length := by
        have := (List.getElem?_eq_some_iff.mp hd).1
        simpa using this
      obtain rfl : d = eLn y.ls[i] := by simpa [hi] using hd.symm
      have hm := List.getElem_mem hi
      have tk : y.ls.take (i + 1) = y.ls.take i ++ [y.ls[i]] := by rw [List.take_succ]; simp [hi]
      have hl := hy.ls _ hm
      have hT : (glue "\n" (yardS y) ((y.ls.take i).map lineS)).length ≤ 43500 := rows_len hy (map_sub (take_sub fun l hl => lineS_len (hy.ls l hl))) (by simp; omega)
      rw [tk, List.map_append, List.map_cons, List.map_nil, glue_snoc, ← line_glue]
      generalize glue "\n" (yardS y) ((y.ls.take i).map lineS) = t at hT
      generalize y.ls[i] = l at hl
      have hu : (sD (upT l.up)).length ≤ 300 := sD_len (hl.ok _ List.mem_cons_self)
      refine ⟨_, by walk_at "g", ?_⟩
      dsimp only [List.set]
      refine es_seq (es_setE (d := .str (t ++ "\nline " ++ sD (upT l.up))) (ev_addS (ev_addS (ev_var rfl) ev_str (add_fit (by omega) (by decide))) ?up (add_fit (by rw [Str.length_append]; have : Str.length "\nline " = 6 := rfl; omega) (by omega))) ?_)
      case up =>
        cases e : l.up with
        | none => exact ev_ixL (EvO.fz (eo_lst (ea_fzs (ev_strN (ev_var rfl)) (ea_fzs ev_str ea_nil0)) (Nat.le_of_ble_eq_true rfl))) (ev_intB (ev_isN (ev_var rfl))) rfl
        | some a => exact ev_ixL (EvO.fz (eo_lst (ea_fzs (ev_strI (i := (a : Int)) (ev_var rfl) (log300 (by omega) (small300 (hl.up a e)))) (ea_fzs ev_str ea_nil0)) (Nat.le_of_ble_eq_true rfl))) (ev_intB (ev_isN (ev_var rfl))) rfl
      dsimp only [List.set]
      have hT2 : (t ++ "\nline " ++ sD (upT l.up)).length ≤ 44000 := by
        rw [Str.length_append, Str.length_append]
        have : Str.length "\nline " = 6 := rfl
        omega
      generalize t ++ "\nline " ++ sD (upT l.up) = t2 at hT2
      refine es_forR (ds := l.bs.map PyData.int) (fun j => [some (.fz (eYd y)), some (.fz (.list (gs.map eGs))), some (.fz (.str (glue " " t2 ((l.bs.take j).map nS)))), none, none, none, none, none]) ?ei2 ⟨rfl, rfl, rfl, trivial⟩ ?st2 ?fin2
      case ei2 => walk_at "ei"
      case st2 =>
        intro j d hd
        have hj : j < l.bs.length := by
          have := (List.getElem?_eq_some_iff.mp hd).1
          simpa using this
        obtain rfl : d = .int l.bs[j] := by simpa [hj] using hd.symm
        have tk : l.bs.take (j + 1) = l.bs.take j ++ [l.bs[j]] := by rw [List.take_succ]; simp [hj]
        have hb := hl.bs _ (List.getElem_mem hj)
        have hn8 := hl.ln
        have hT3 : (glue " " t2 ((l.bs.take j).map nS)).length ≤ 47000 := part_len hT2 (map_sub (take_sub fun b hb => nS_len (hl.bs b hb).1 (hl.bs b hb).2)) (by simp; omega)
        rw [tk, List.map_append, List.map_cons, List.map_nil, glue_snoc]
        generalize glue " " t2 ((l.bs.take j).map nS) = t3 at hT3
        generalize l.bs[j] = b at hb
        refine ⟨_, by walk_at "g", ?_⟩
        dsimp only [List.set]
        refine es_setE (d := .str (t3 ++ " " ++ nS b)) (ev_addS (ev_addS (ev_var rfl) ev_str (add_fit (by omega) (by decide))) (ev_strI (ev_var rfl) (log300 hb.1 hb.2)) (add_fit (by rw [Str.length_append]; have : Str.length " " = 1 := rfl; omega) (Nat.le_trans (nS_len hb.1 hb.2) (by decide)))) ?_
        dsimp only [List.set]
        exact ⟨rfl, rfl, rfl, trivial⟩
      case fin2 =>
        intro ρ' hf
        refine hf.trans ?_
        rw [List.length_map, List.take_length]
        exact ⟨rfl, rfl, rfl, trivial⟩
    case fin =>
      intro ρ' hf
      refine es_fgt hf ?_
      rw [List.length_map, List.take_length]
      refine es_seq (es_forR (ds := gs.map eGs) (fun i => [some (.fz (eYd y)), some (.fz (.list (gs.map eGs))), some (.fz (.str (glue "\n" (yardS y) (y.ls.map lineS ++ (gs.take i).map guestS)))), none, none, none, none, none]) ?ei3 ⟨rfl, rfl, by simp, trivial⟩ ?st3 ?fin3)
      case ei3 => walk_at "ei"
      case st3 =>
        intro i d hd
        have hi : i < gs.length := by
          have := (List.getElem?_eq_some_iff.mp hd).1
          simpa using this
        obtain rfl : d = eGs gs[i] := by simpa [hi] using hd.symm
        have hm := List.getElem_mem hi
        have tk : gs.take (i + 1) = gs.take i ++ [gs[i]] := by rw [List.take_succ]; simp [hi]
        have hl := hg _ hm
        have hT : (glue "\n" (yardS y) (y.ls.map lineS ++ (gs.take i).map guestS)).length ≤ 43500 := rows_len hy (app_sub (map_sub fun l hl => lineS_len (hy.ls l hl)) (map_sub (take_sub fun l hl => guestS_len (hg l hl)))) (by simp; omega)
        rw [tk, List.map_append, List.map_cons, List.map_nil, ← List.append_assoc, glue_snoc, ← guest_glue]
        generalize glue "\n" (yardS y) (y.ls.map lineS ++ (gs.take i).map guestS) = t at hT
        generalize gs[i] = g at hl
        refine ⟨_, by walk_at "g", ?_⟩
        dsimp only [List.set]
        refine es_seq (es_setE (d := .str (t ++ "\nguest")) (ev_addS (ev_var rfl) ev_str (add_fit (by omega) (by decide))) ?_)
        dsimp only [List.set]
        have hT2 : (t ++ "\nguest").length ≤ 44000 := by
          rw [Str.length_append]
          have : Str.length "\nguest" = 6 := rfl
          omega
        generalize t ++ "\nguest" = t2 at hT2
        refine es_forR (ds := gsD g) (fun j => [some (.fz (eYd y)), some (.fz (.list (gs.map eGs))), some (.fz (.str (glue " " t2 (((gsD g).take j).map sD)))), none, none, none, none, none]) ?ei4 ⟨rfl, rfl, rfl, trivial⟩ ?st4 ?fin4
        case ei4 => exact ei_tup (ev_var rfl)
        case st4 =>
          intro j d hd
          have hj : j < (gsD g).length := (List.getElem?_eq_some_iff.mp hd).1
          have tk : (gsD g).take (j + 1) = (gsD g).take j ++ [d] := by rw [List.take_succ, hd]; rfl
          have ho := hl.ok d (List.mem_of_getElem? hd)
          have hT3 : (glue " " t2 (((gsD g).take j).map sD)).length ≤ 47000 := part_len hT2 (map_sub (take_sub fun d hd => sD_len (hl.ok d hd))) (by simp [gsD]; omega)
          rw [tk, List.map_append, List.map_cons, List.map_nil, glue_snoc]
          generalize glue " " t2 (((gsD g).take j).map sD) = t3 at hT3
          refine ⟨_, by walk_at "g", ?_⟩
          dsimp only [List.set]
          refine es_setE (d := .str (t3 ++ " " ++ sD d)) (ev_addS (ev_addS (ev_var rfl) ev_str (add_fit (by omega) (by decide))) (ev_strD (ev_var rfl) ho) (add_fit (by rw [Str.length_append]; have : Str.length " " = 1 := rfl; omega) (Nat.le_trans (sD_len ho) (by decide)))) ?_
          dsimp only [List.set]
          exact ⟨rfl, rfl, rfl, trivial⟩
        case fin4 =>
          intro ρ' hf
          refine hf.trans ?_
          rw [List.take_length]
          exact ⟨rfl, rfl, rfl, trivial⟩
      case fin3 =>
        intro ρ' hf
        refine es_fgt hf ?_
        rw [List.length_map, List.take_length]
        walk_at "ret"
        rfl
end
section
variable {P : Program} {w : World} {K : PySem.W.Frag} {mg : Str → Option Value} {base : Heap}
theorem yt_ok {y : Yd} (ok : y.Ok) : YdT y := by
  refine ⟨ok.t8, ok.l5, fun l hl => ?_⟩
  obtain ⟨i, hi, rfl⟩ := List.getElem_of_mem hl
  have l5 := ok.l5
  refine ⟨fun a e => ?_, by rw [ok.bl _ hl]; exact ok.t8, fun b hb => ok.bb _ hl b hb⟩
  have e1 : upAt y i = some a := by
    unfold upAt
    rw [List.getElem?_eq_getElem hi]
    exact e
  by_cases h0 : i = 0
  · subst h0
    rw [ok.up0] at e1
    cases e1
  · obtain ⟨b, h1, h2⟩ := ok.ups i (by omega) hi
    rw [h1] at e1
    cases e1
    omega
theorem gt_ok {y : Yd} {g : Gs} (ok : y.Ok) (h : g.Ok y) : GsT g := by
  have := ok.t8
  have := ok.l5
  have := h.ln
  have := h.fl
  have := h.lt
  have := h.w1
  have := h.m1
  exact ⟨by omega, by omega, by omega, by omega, h.w2, by omega, h.m2⟩
def yd1 : Yd := ⟨1, [⟨none, [0]⟩]⟩
theorem yd1_ok : YdT yd1 := ⟨by decide, by decide, fun l hl => by
  have e : l = ⟨none, [0]⟩ := by simpa [yd1] using hl
  subst e
  exact ⟨fun a e => (nomatch e), by decide, fun b hb => by
    have e : b = 0 := by simpa using hb
    subst e
    exact ⟨by decide, by decide +kernel⟩⟩⟩
theorem yd1_text : writtenS yd1 [] = Str.ofString "yard 1\nline - 0" := by decide +kernel
theorem sc_law : FnScope ["_law_script", "_law_yard_here", "_law_guests_here", "_law_handed", "_law_due", "_law_found"] ["_law_script"] (defScope s_law) := ⟨rfl, rfl, rfl, by decide +kernel, rfl, by decide +kernel, by decide +kernel⟩
theorem ok_law {f : Addr} {fd : FuncData} (T : Bl mg) (F : Fun K "law" "law" s_law f fd) (c__law_yard : Cal P w K mg base "_law_yard" ["_law_script"] 3 (spO (K := K) R_yard)) (c__law_guests : Cal P w K mg base "_law_guests" ["_law_script", "_law_yard_here"] 3 (spO (K := K) R_guests))
    (c__law_text : Cal P w K mg base "_law_text" ["_law_yard_here", "_law_guests_here"] 1 (spO (K := K) R_ltext)) (c_written : Cal P w K mg base "written" ["yard", "guests"] 3 (spO (K := K) R_written)) :
    FnOk P w K mg base CX0 4 f fd ["_law_script"] (spLaw K) := by
  refine F.evLaw sc_law (fun cdv A outer s H E ns hr hl hb => ?_)
  have hs : ScrOk ns := ⟨hl, hb⟩
  have hu := hr.units
  refine ⟨_, (pss_cons (ps_set (i := 1) sc_law.nd rfl (Or.inl rfl) (pe_cal c__law_yard hr (pa_cons (pv 0) pa_nil) (hj := by first | decide | omega)))
 (pss_cons (ps_set (i := 2) sc_law.nd rfl (Or.inl rfl) (pe_cal c__law_guests hr (pa_cons (pv 0) (pa_cons (pv 1) pa_nil)) (hj := by first | decide | omega)))
 (pss_cons (ps_set (i := 3) sc_law.nd rfl (Or.inl rfl) (pe_callTy ca_list (by rfl) T.list bt_list (pa_cons (pv 2) pa_nil)))
 (pss_cons (ps_set (i := 4) sc_law.nd rfl (Or.inl rfl) (pe_cal c__law_text hr (pa_cons (pv 1) (pa_cons (pv 2) pa_nil)) (hj := by first | decide | omega)))
 (pss_cons (ps_set (i := 5) sc_law.nd rfl (Or.inl rfl) (pe_cal c_written hr (pa_cons (pv 1) (pa_cons (pv 3) pa_nil)) (hj := by first | decide | omega)))
 (pss_cons (ps_if (PW.pt (pw_or (pt_not (pt_val (pe_callB ca_isi (by rfl) T.isi bt_isi (pa_cons (pv 5) (pa_cons (pe_bltn (v := .ty "str") rfl T.str bt_str rfl) pa_nil))))) (pw_or (pt_cmpR op_ne (pv 5) (pv 4) (nomark _)) (pw_or1 (pt_cmpR (op_neD hu) (pv 3) (pv 2) (nomark _)))))) (pss_one (ps_ret pe_bl)) pss_nil)
 (pss_cons (ps_if (pt_cmpR op_ne (pe_cal c_written hr (pa_cons (pe_tup (pa_cons pe_int (pa_cons (pe_tup (pa_cons (pe_tup (pa_cons pe_non (pa_cons (pe_tup (pa_cons pe_int pa_nil)) pa_nil))) pa_nil)) pa_nil))) (pa_cons (pe_lst pa_nil) pa_nil)) (hj := by first | decide | omega)) pe_str (nomark _)) (pss_one (ps_ret pe_bl)) pss_nil)
 (pss_one (ps_ret (pe_and (pe_cmpR op_eq (pe_cal c_written hr (pa_cons (pv 1) (pa_cons (pv 3) pa_nil)) (hj := by first | decide | omega)) (pv 4) (nomark _)) (pe_one (pe_cmpR (op_eqD hu) (pv 1) (pe_cal c__law_yard hr (pa_cons (pv 0) pa_nil) (hj := by first | decide | omega)) (nomark _))))))))))))), ?_⟩
  show EvS K _ [some _, none, none, none, none, none] _
  try dsimp only [cxOf_K, compCx_K]
  have ok := yardOf_ok ns
  generalize hy : yardOf ns = y at ok
  have hg := guestsOf_ok ok ns
  have g8 := guestsOf_len ns y
  generalize hgs : guestsOf ns y = gs at hg g8
  have yt := yt_ok ok
  have gt : ∀ g ∈ gs, GsT g := fun g h => gt_ok ok (hg g h)
  walk_at "s1"
  rw [hy]
  walk_at "s1"
  rw [hgs]
  refine es_fz 2 rfl ?_
  dsimp only [List.set]
  walk_at "s1"
  refine es_fz 3 rfl ?_
  dsimp only [List.set]
  refine es_seq (es_setE (ev_call (ea_cons (ev_var rfl) (ea_cons (ev_var rfl) ea_nil)) (R_ltext.mk yt gt g8)) ?_)
  dsimp only [List.set]
  refine es_seq (es_setE (ev_call (ea_cons (ev_var rfl) (ea_cons (ev_var rfl) ea_nil)) (R_written.mk yt gt g8)) ?_)
  dsimp only [List.set]
  refine es_seq (es_if (b := false) (EvT.cast (et_or (b := false) (EvT.cast (et_not (et_B (ev_isi (ev_var rfl) rfl))) rfl) (fun _ => et_or (et_B (ev_neS (ev_var rfl) (ev_var rfl))) (fun _ => et_B (ev_neD (ev_var rfl) (ev_var rfl) (fine_gss _) (fine_gss _))))) ?e1) (fun c => nomatch c) (fun _ => es_next ?_))
  case e1 =>
    rw [eqv_same (fine_gss _), decide_eq_true rfl]
    rfl
  refine es_seq (es_if (b := false) (EvT.cast (et_B (ev_neS (ev_call (ts := [.fz (eYd yd1), .fz (.list (([] : List Gs).map eGs))]) (ea_cons (by apply EvE.cast; walk_at "ev"; rfl) (ea_cons (EvO.fz (eo_lst ea_nil0 (Nat.le_of_ble_eq_true rfl))) ea_nil)) (R_written.mk yd1_ok (fun g hg => (nomatch hg)) (Nat.zero_le _))) ev_str)) ?e2) (fun c => nomatch c) (fun _ => es_next ?_))
  case e2 =>
    rw [yd1_text, decide_eq_true rfl]
    rfl
  refine es_retE (EvE.cast (ev_and (ev_eqS (ev_call (ea_cons (ev_var rfl) (ea_cons (ev_var rfl) ea_nil)) (R_written.mk yt gt g8)) (ev_var rfl)) (fun _ => ev_eqD (ev_var rfl) (by walk_at "ev") (fine_yd _) (fine_yd _))) ?_) rfl
  rw [hy, eqv_same (fine_yd _), decide_eq_true rfl]
  rfl
end
theorem all_mk {P : Program} {w : World} {K : PySem.W.Frag} {h : Heap} {mg : Str → Option Value} {fa : Addr} (X : K.In h) (G : h.Ns mainGlobals mg) (hfa : mg "law" = some (.ref fa))
    {f0 f1 f2 f3 f4 f5 f6 f7 f8 f9 : Addr} {od0 an0 od1 an1 od2 an2 od3 an3 od4 an4 od5 an5 od6 an6 od7 an7 od8 an8 od9 an9 : Option Addr} {sl0 sl1 sl2 sl3 sl4 sl5 sl6 sl7 sl8 sl9 : Array (Option Value)} {oc0 kV0 dc0 pm0 cd0 ct0 oc1 kV1 dc1 pm1 cd1 ct1 oc2 kV2 dc2 pm2 cd2 ct2 oc3 kV3 dc3 pm3 cd3 ct3 oc4 kV4 dc4 pm4 cd4 ct4 oc5 kV5 dc5 pm5 cd5 ct5 oc6 kV6 dc6 pm6 cd6 ct6 oc7 kV7 dc7 pm7 cd7 ct7 oc8 kV8 dc8 pm8 cd8 ct8 oc9 kV9 dc9 pm9 cd9 ct9 : Value}
    (a0 : PySem.W.nsIn K mainGlobals "row_of" = some (some (.ref f0))) (l0 : K.lookup f0 = some ⟨oc0, od0, .func (PySem.W.fnOf "row_of" "row_of" (defArgs s_row_of) (defBody s_row_of) (defScope s_row_of) .none kV0 dc0 pm0 an0 cd0 ct0), sl0⟩) (c0 : PySem.W.codeIn K cd0 "row_of" = true) (k0 : PySem.W.keepIn K (.ref f0) = true)
    (a1 : PySem.W.nsIn K mainGlobals "line_row" = some (some (.ref f1))) (l1 : K.lookup f1 = some ⟨oc1, od1, .func (PySem.W.fnOf "line_row" "line_row" (defArgs s_line_row) (defBody s_line_row) (defScope s_line_row) .none kV1 dc1 pm1 an1 cd1 ct1), sl1⟩) (c1 : PySem.W.codeIn K cd1 "line_row" = true) (k1 : PySem.W.keepIn K (.ref f1) = true)
    (a2 : PySem.W.nsIn K mainGlobals "written" = some (some (.ref f2))) (l2 : K.lookup f2 = some ⟨oc2, od2, .func (PySem.W.fnOf "written" "written" (defArgs s_written) (defBody s_written) (defScope s_written) .none kV2 dc2 pm2 an2 cd2 ct2), sl2⟩) (c2 : PySem.W.codeIn K cd2 "written" = true) (k2 : PySem.W.keepIn K (.ref f2) = true)
    (a3 : PySem.W.nsIn K mainGlobals "_law_cell_at" = some (some (.ref f3))) (l3 : K.lookup f3 = some ⟨oc3, od3, .func (PySem.W.fnOf "_law_cell_at" "_law_cell_at" (defArgs s__law_cell_at) (defBody s__law_cell_at) (defScope s__law_cell_at) .none kV3 dc3 pm3 an3 cd3 ct3), sl3⟩) (c3 : PySem.W.codeIn K cd3 "_law_cell_at" = true) (k3 : PySem.W.keepIn K (.ref f3) = true)
    (a4 : PySem.W.nsIn K mainGlobals "_law_number" = some (some (.ref f4))) (l4 : K.lookup f4 = some ⟨oc4, od4, .func (PySem.W.fnOf "_law_number" "_law_number" (defArgs s__law_number) (defBody s__law_number) (defScope s__law_number) .none kV4 dc4 pm4 an4 cd4 ct4), sl4⟩) (c4 : PySem.W.codeIn K cd4 "_law_number" = true) (k4 : PySem.W.keepIn K (.ref f4) = true)
    (a5 : PySem.W.nsIn K mainGlobals "_law_amount" = some (some (.ref f5))) (l5 : K.lookup f5 = some ⟨oc5, od5, .func (PySem.W.fnOf "_law_amount" "_law_amount" (defArgs s__law_amount) (defBody s__law_amount) (defScope s__law_amount) .none kV5 dc5 pm5 an5 cd5 ct5), sl5⟩) (c5 : PySem.W.codeIn K cd5 "_law_amount" = true) (k5 : PySem.W.keepIn K (.ref f5) = true)
    (a6 : PySem.W.nsIn K mainGlobals "_law_yard" = some (some (.ref f6))) (l6 : K.lookup f6 = some ⟨oc6, od6, .func (PySem.W.fnOf "_law_yard" "_law_yard" (defArgs s__law_yard) (defBody s__law_yard) (defScope s__law_yard) .none kV6 dc6 pm6 an6 cd6 ct6), sl6⟩) (c6 : PySem.W.codeIn K cd6 "_law_yard" = true) (k6 : PySem.W.keepIn K (.ref f6) = true)
    (a7 : PySem.W.nsIn K mainGlobals "_law_guests" = some (some (.ref f7))) (l7 : K.lookup f7 = some ⟨oc7, od7, .func (PySem.W.fnOf "_law_guests" "_law_guests" (defArgs s__law_guests) (defBody s__law_guests) (defScope s__law_guests) .none kV7 dc7 pm7 an7 cd7 ct7), sl7⟩) (c7 : PySem.W.codeIn K cd7 "_law_guests" = true) (k7 : PySem.W.keepIn K (.ref f7) = true)
    (a8 : PySem.W.nsIn K mainGlobals "_law_text" = some (some (.ref f8))) (l8 : K.lookup f8 = some ⟨oc8, od8, .func (PySem.W.fnOf "_law_text" "_law_text" (defArgs s__law_text) (defBody s__law_text) (defScope s__law_text) .none kV8 dc8 pm8 an8 cd8 ct8), sl8⟩) (c8 : PySem.W.codeIn K cd8 "_law_text" = true) (k8 : PySem.W.keepIn K (.ref f8) = true)
    (a9 : PySem.W.nsIn K mainGlobals "law" = some (some (.ref f9))) (l9 : K.lookup f9 = some ⟨oc9, od9, .func (PySem.W.fnOf "law" "law" (defArgs s_law) (defBody s_law) (defScope s_law) .none kV9 dc9 pm9 an9 cd9 ct9), sl9⟩) (c9 : PySem.W.codeIn K cd9 "law" = true) (k9 : PySem.W.keepIn K (.ref f9) = true)
    (z0 : PySem.W.nsIn K mainGlobals "abs" = some none)
    (z1 : PySem.W.nsIn K mainGlobals "len" = some none)
    (z2 : PySem.W.nsIn K mainGlobals "max" = some none)
    (z3 : PySem.W.nsIn K mainGlobals "min" = some none)
    (z4 : PySem.W.nsIn K mainGlobals "sum" = some none)
    (z5 : PySem.W.nsIn K mainGlobals "any" = some none)
    (z6 : PySem.W.nsIn K mainGlobals "all" = some none)
    (z7 : PySem.W.nsIn K mainGlobals "isinstance" = some none)
    (z8 : PySem.W.nsIn K mainGlobals "int" = some none)
    (z9 : PySem.W.nsIn K mainGlobals "bool" = some none)
    (z10 : PySem.W.nsIn K mainGlobals "list" = some none)
    (z11 : PySem.W.nsIn K mainGlobals "tuple" = some none)
    (z12 : PySem.W.nsIn K mainGlobals "range" = some none)
    (z13 : PySem.W.nsIn K mainGlobals "zip" = some none)
    (z14 : PySem.W.nsIn K mainGlobals "enumerate" = some none)
    (z15 : PySem.W.nsIn K mainGlobals "str" = some none)
    : ∃ fd : FuncData, (∀ (s : Shared) (v : Value), BindsTo s fd ⟨[v], []⟩ [("_law_script", v)]) ∧ ∀ base : Heap, K.In base → base.Ns mainGlobals mg → FnOk P w K mg base CX0 4 fa fd ["_law_script"] (spLaw K) := by
  have e := hfa.symm.trans (PySem.W.mg_of X G a9)
  cases e
  have T : Bl mg := ⟨PySem.W.mg_none_of X G z0, PySem.W.mg_none_of X G z1, PySem.W.mg_none_of X G z2, PySem.W.mg_none_of X G z3, PySem.W.mg_none_of X G z4, PySem.W.mg_none_of X G z5, PySem.W.mg_none_of X G z6, PySem.W.mg_none_of X G z7, PySem.W.mg_none_of X G z8, PySem.W.mg_none_of X G z9, PySem.W.mg_none_of X G z10, PySem.W.mg_none_of X G z11, PySem.W.mg_none_of X G z12, PySem.W.mg_none_of X G z13, PySem.W.mg_none_of X G z14, PySem.W.mg_none_of X G z15⟩
  have F_row_of := fun_mk (st := s_row_of) l0 c0 k0
  have D_row_of : Df K mg "row_of" s_row_of ["word", "numbers"] := ⟨_, _, F_row_of, PySem.W.mg_of X G a0, F_row_of.binds (ps := ["word", "numbers"]) fun _ _ _ _ _ _ us hl => match us, hl with | [_, _], _ => rfl⟩
  have F_line_row := fun_mk (st := s_line_row) l1 c1 k1
  have D_line_row : Df K mg "line_row" s_line_row ["line"] := ⟨_, _, F_line_row, PySem.W.mg_of X G a1, F_line_row.binds (ps := ["line"]) fun _ _ _ _ _ _ us hl => match us, hl with | [_], _ => rfl⟩
  have F_written := fun_mk (st := s_written) l2 c2 k2
  have D_written : Df K mg "written" s_written ["yard", "guests"] := ⟨_, _, F_written, PySem.W.mg_of X G a2, F_written.binds (ps := ["yard", "guests"]) fun _ _ _ _ _ _ us hl => match us, hl with | [_, _], _ => rfl⟩
  have F__law_cell_at := fun_mk (st := s__law_cell_at) l3 c3 k3
  have D__law_cell_at : Df K mg "_law_cell_at" s__law_cell_at ["_law_script", "_law_k"] := ⟨_, _, F__law_cell_at, PySem.W.mg_of X G a3, F__law_cell_at.binds (ps := ["_law_script", "_law_k"]) fun _ _ _ _ _ _ us hl => match us, hl with | [_, _], _ => rfl⟩
  have F__law_number := fun_mk (st := s__law_number) l4 c4 k4
  have D__law_number : Df K mg "_law_number" s__law_number ["_law_script", "_law_k"] := ⟨_, _, F__law_number, PySem.W.mg_of X G a4, F__law_number.binds (ps := ["_law_script", "_law_k"]) fun _ _ _ _ _ _ us hl => match us, hl with | [_, _], _ => rfl⟩
  have F__law_amount := fun_mk (st := s__law_amount) l5 c5 k5
  have D__law_amount : Df K mg "_law_amount" s__law_amount ["_law_number_here"] := ⟨_, _, F__law_amount, PySem.W.mg_of X G a5, F__law_amount.binds (ps := ["_law_number_here"]) fun _ _ _ _ _ _ us hl => match us, hl with | [_], _ => rfl⟩
  have F__law_yard := fun_mk (st := s__law_yard) l6 c6 k6
  have D__law_yard : Df K mg "_law_yard" s__law_yard ["_law_script"] := ⟨_, _, F__law_yard, PySem.W.mg_of X G a6, F__law_yard.binds (ps := ["_law_script"]) fun _ _ _ _ _ _ us hl => match us, hl with | [_], _ => rfl⟩
  have F__law_guests := fun_mk (st := s__law_guests) l7 c7 k7
  have D__law_guests : Df K mg "_law_guests" s__law_guests ["_law_script", "_law_yard_here"] := ⟨_, _, F__law_guests, PySem.W.mg_of X G a7, F__law_guests.binds (ps := ["_law_script", "_law_yard_here"]) fun _ _ _ _ _ _ us hl => match us, hl with | [_, _], _ => rfl⟩
  have F__law_text := fun_mk (st := s__law_text) l8 c8 k8
  have D__law_text : Df K mg "_law_text" s__law_text ["_law_yard_here", "_law_guests_here"] := ⟨_, _, F__law_text, PySem.W.mg_of X G a8, F__law_text.binds (ps := ["_law_yard_here", "_law_guests_here"]) fun _ _ _ _ _ _ us hl => match us, hl with | [_, _], _ => rfl⟩
  have F_law := fun_mk (st := s_law) l9 c9 k9
  have D_law : Df K mg "law" s_law ["_law_script"] := ⟨_, _, F_law, PySem.W.mg_of X G a9, F_law.binds (ps := ["_law_script"]) fun _ _ _ _ _ _ us hl => match us, hl with | [_], _ => rfl⟩
  refine ⟨PySem.W.fnOf "law" "law" (defArgs s_law) (defBody s_law) (defScope s_law) .none kV9 dc9 pm9 an9 cd9 ct9, fun s v => .of_eq rfl, fun base _ _ => ?_⟩
  have c__law_cell_at := ok_cell (P := P) (w := w) (base := base) T D__law_cell_at 
  have c__law_number := ok_number (P := P) (w := w) (base := base) T D__law_number (c__law_cell_at := c__law_cell_at)
  have c__law_amount := ok_amount (P := P) (w := w) (base := base) T D__law_amount 
  have c__law_yard := ok_yard (P := P) (w := w) (base := base) T D__law_yard (c__law_cell_at := c__law_cell_at) (c__law_number := c__law_number) (c__law_amount := c__law_amount)
  have c__law_guests := ok_guests (P := P) (w := w) (base := base) T D__law_guests (c__law_cell_at := c__law_cell_at) (c__law_number := c__law_number) (c__law_amount := c__law_amount)
  have c__law_text := ok_ltext (P := P) (w := w) (base := base) T D__law_text 
  have c_row_of := ok_rowof (P := P) (w := w) (base := base) T D_row_of 
  have c_line_row := ok_linerow (P := P) (w := w) (base := base) T D_line_row (c_row_of := c_row_of)
  have c_written := ok_written (P := P) (w := w) (base := base) T D_written (c_row_of := c_row_of) (c_line_row := c_line_row)
  exact ok_law T F_law (c__law_yard := c__law_yard) (c__law_guests := c__law_guests) (c__law_text := c__law_text) (c_written := c_written)
end My
open PySem PySem.W PyProof.Rows
set_option maxRecDepth 100000 in
set_option maxHeartbeats 0 in
theorem PySem.Challenge.cw_chargeyard_k70_yards_written_holds : PySem.Challenge.rw_chargeyard_k70_yards_written.Holds := by
  w_on; o_law; k_head; (case hw => w_witness2)
  k_fill
  refine L2.walk_law (l := PySem.Challenge.rw_chargeyard_k70_yards_written) (k := 4) (x := "_law_script") rfl rfl ⟨rfl, by decide, by decide⟩ (fun w h Y => PySem.W.kIn_of Y) ?F
  case F =>
    intro w mg fa h KX G hmg
    refine' My.all_mk KX G hmg ?a0 ?l0 ?c0 ?k0 ?a1 ?l1 ?c1 ?k1 ?a2 ?l2 ?c2 ?k2 ?a3 ?l3 ?c3 ?k3 ?a4 ?l4 ?c4 ?k4 ?a5 ?l5 ?c5 ?k5 ?a6 ?l6 ?c6 ?k6 ?a7 ?l7 ?c7 ?k7 ?a8 ?l8 ?c8 ?k8 ?a9 ?l9 ?c9 ?k9 ?z0 ?z1 ?z2 ?z3 ?z4 ?z5 ?z6 ?z7 ?z8 ?z9 ?z10 ?z11 ?z12 ?z13 ?z14 ?z15
    (case a0 => k_is)
    (case l0 => k_is)
    (case c0 => k_is)
    (case k0 => k_is)
    (case a1 => k_is)
    (case l1 => k_is)
    (case c1 => k_is)
    (case k1 => k_is)
    (case a2 => k_is)
    (case l2 => k_is)
    (case c2 => k_is)
    (case k2 => k_is)
    (case a3 => k_is)
    (case l3 => k_is)
    (case c3 => k_is)
    (case k3 => k_is)
    (case a4 => k_is)
    (case l4 => k_is)
    (case c4 => k_is)
    (case k4 => k_is)
    (case a5 => k_is)
    (case l5 => k_is)
    (case c5 => k_is)
    (case k5 => k_is)
    (case a6 => k_is)
    (case l6 => k_is)
    (case c6 => k_is)
    (case k6 => k_is)
    (case a7 => k_is)
    (case l7 => k_is)
    (case c7 => k_is)
    (case k7 => k_is)
    (case a8 => k_is)
    (case l8 => k_is)
    (case c8 => k_is)
    (case k8 => k_is)
    (case a9 => k_is)
    (case l9 => k_is)
    (case c9 => k_is)
    (case k9 => k_is)
    (case z0 => k_is)
    (case z1 => k_is)
    (case z2 => k_is)
    (case z3 => k_is)
    (case z4 => k_is)
    (case z5 => k_is)
    (case z6 => k_is)
    (case z7 => k_is)
    (case z8 => k_is)
    (case z9 => k_is)
    (case z10 => k_is)
    (case z11 => k_is)
    (case z12 => k_is)
    (case z13 => k_is)
    (case z14 => k_is)
    (case z15 => k_is)
end
